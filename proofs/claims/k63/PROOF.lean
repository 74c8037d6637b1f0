import PyProof.Rows.All
import PyProof.EqAt
import PyProof.EqKinds
import PyProof.TupleCall
import PyProof.NeKinds
import PyProof.StrWalks
import PyProof.Rows.SetFrom
import PyProof.WalksMore
import KE.KIntText
import PyProof.EnumMake
import PyProof.WalkInts
import PyProof.ReprRoads
import PyProof.ReprLen
import KE.KRevIter
import KE.KRevSl
import PyProof.StrCalls
import PyProof.Rows.StrFit
import KE.KDictOf
import PyProof.AttrMissHeap
import PyProof.DictItems
import KE.KDictLaws
import KE.KDictList
import KE.KSortTup
import PyProof.StrLawsTight
import Wide.Line
import OpenK.KOwn
import KE.KFromBytes
import KE.KItem
import KE.KIsAll
import PySem.Challenge.RW_stationrow_k63_whole_beats_of_others
abbrev a_:=@PySem.wpAny_bind
abbrev b_:=@List.length_append
abbrev d_:=@List.length_map
abbrev e_:=@PySem.Heap.get?_push_of_some
abbrev g_:=@List.getElem?_eq_getElem
abbrev h_:=@PySem.wpAny_pure
abbrev i_:=@List.mem_singleton
abbrev j_:=@List.length_cons
abbrev k_:=@List.mem_map
abbrev l_:=@List.size_toArray
abbrev m_:=@Nat.le_refl
abbrev n_:=@List.length_range
abbrev o_:=@Bool.false_ne_true
abbrev p_:=@List.mem_cons
abbrev q_:=@decide_eq_true_iff
abbrev t_:=@List.mem_cons_self
abbrev u_:=@List.map_append
abbrev v_:=@List.mem_cons_of_mem
abbrev x_:=@PySem.Heap.get?_push_size
abbrev y_:=@Bool.false_eq_true
abbrev z_:=@List.getElem?_map
abbrev A_:=@List.map_cons
abbrev B_:=@PySem.Heap.lt_size
abbrev C_:=@decide_eq_false
abbrev D_:=@List.mem_append
abbrev E_:=@List.getD_eq_getElem?_getD
abbrev F_:=@List.mem_filter
abbrev G_:=@List.length_singleton
abbrev H_:=@PySem.PassesOwn.never
abbrev I_:=@List.mem_range
abbrev J_:=@PySem.F.plainAttrs_list
abbrev K_:=@Array.getElem?_eq_getElem
abbrev L_:=@List.getElem?_eq_none
abbrev M_:=@PySem.F.slot_list_append
abbrev N_:=@PySem.F.type_list_append
abbrev O_:=@decide_eq_true
abbrev P_:=@Nat.lt_of_lt_of_le
abbrev Q_:=@congrArg
abbrev R_:=@List.getElem?_append_right
abbrev S_:=@List.append_nil
abbrev T_:=@List.mem_append_right
abbrev U6:=@Option.some.inj
abbrev U7:=@if_false
abbrev U8:=@Nat.le_trans
abbrev U9:=@Nat.ne_of_lt
abbrev U_:=@List.all_eq_true
abbrev Va:=@PyProof.Rows.callWith_type1
abbrev Vb:=@PySem.wpAny_newObj_type
abbrev Vc:=@Nat.lt_irrefl
abbrev Vd:=@PyProof.Rows.slot_tuple_getitem
abbrev Ve:=@List.mem_append_left
abbrev Vf:=@Bool.and_eq_true
abbrev Vg:=@List.map_map
abbrev Vh:=@List.getElem_mem
abbrev Vi:=@Bool.eq_iff_iff
abbrev Vj:=@List.getElem?_append_left
abbrev Vk:=@List.length_filter_le
abbrev Vl:=@Array.length_toList
abbrev Vm:=@PySem.wpAny_Call_Name_kw
abbrev Vn:=@List.length_reverse
abbrev Vo:=@PySem.Heap.get?_update_other
abbrev Vp:=@Array.getD_eq_getD_getElem?
abbrev Vq:=@List.append_assoc
abbrev Vr:=@PySem.Calls.spliced_cons
abbrev Vs:=@PySem.Heap.get?_update_self
abbrev Vt:=@PySem.builtinLookup_eq_fast
abbrev Vu:=@List.nodup_cons
abbrev Vv:=@List.length_take
abbrev Vw:=@PySem.wpAny_call_entry
abbrev Vx:=@Nat.zero_le
abbrev Vy:=@Array.getElem?_toList
abbrev Vz:=@List.getElem?_range
abbrev VB:=@PySem.Heap.get?_update_ne
abbrev VD:=@PySem.Calls.spliced_nil
abbrev VF:=@of_decide_eq_true
abbrev VG:=@List.getElem?_eq_some_iff
abbrev VH:=@List.pairwise_iff_getElem
abbrev VJ:=@List.map_nil
abbrev VL:=@Int.emod_lt_of_pos
abbrev VM:=@Int.emod_nonneg
abbrev VN:=@PySem.wpAny_holding
abbrev VP:=@List.not_mem_nil
abbrev VR:=@List.map_congr_left
abbrev V0:=@PySem.wpAny_mono
abbrev V1:=@List.filter_congr
abbrev V2:=@PySem.wpAny_callSpecial?_slot
abbrev V3:=@List.mem_of_getElem?
abbrev V4:=@Bool.not_true
abbrev V5:=@Nat.le_of_lt
abbrev V6:=@List.length_drop
abbrev V7:=@List.lookup_cons
abbrev V8:=@List.mem_flatten
abbrev V9:=@beq_eq_false_iff_ne
abbrev V_:=@List.getElem_of_mem
abbrev Wa:=@Int.toNat_natCast
abbrev Wb:=@List.eq_nil_of_length_eq_zero
abbrev Wc:=@Bool.not_false
abbrev Wd:=@List.length_nil
abbrev We:=@PySem.typeLookup_type
abbrev Wf:=@PySem.F.called_set
abbrev Wg:=@List.getElem?_cons_zero
abbrev Wh:=@List.sum_cons
abbrev Wi:=@List.flatten_cons
abbrev Wj:=@Nat.lt_succ_of_lt
abbrev Wl:=@decide_false
abbrev Wm:=@PySem.isSubtype_type
abbrev Wn:=@PySem.wpAny_setField
abbrev Wo:=@List.replicate_succ
abbrev Wq:=@PySem.wpAny_field
abbrev Wr:=@PySem.wpAny_specialOf
abbrev Ws:=@List.drop_eq_getElem_cons
abbrev Wu:=@List.any_eq_true
abbrev Wv:=@decide_eq_decide
abbrev Ww:=@PySem.Heap.size_push
abbrev Wx:=@PySem.wpAny_of_eq
abbrev Wz:=@PySem.codeAny_builtin
abbrev WD:=@PyProof.Rows.KeyOrd.kle_refl
abbrev WF:=@List.cons.injEq
abbrev WK:=@List.map_eq_nil_iff
abbrev WL:=@PyProof.Rows.F.plain_set_update_loop
abbrev WM:=@List.take_of_length_le
abbrev WN:=@Array.getElem?_eq_none
abbrev WP:=@decide_true
abbrev WQ:=@Int.natCast_nonneg
abbrev WR:=@PySem.Obj.data_mapFields
abbrev WT:=@List.filter_append
abbrev WW:=@List.getElem?_toArray
abbrev WX:=@List.take_append_drop
abbrev WY:=@PySem.wpAny_passesOwn
abbrev W0:=@PySem.wpAny_truthy_bool
abbrev W4:=@PySem.codeAny_mono
abbrev W5:=@List.ext_getElem?
abbrev W6:=@PySem.Around.under_plainId
abbrev W7:=@List.Sublist.refl
abbrev W8:=@Nat.pow_le_pow_right
abbrev W9:=@beq_iff_eq
abbrev W_:=@PySem.plainId_quiet
abbrev Xa:=@List.Pairwise.imp_of_mem
abbrev Xb:=@List.eraseIdx_eq_take_drop_succ
abbrev Xc:=@Int.toNat_of_nonneg
abbrev Xd:=@Nat.lt_succ_self
abbrev Xe:=@List.getElem?_replicate
abbrev Xf:=@List.cons_append
abbrev Xg:=@PySem.wpAny_getItem_str_slice
abbrev Xh:=@PySem.wpAny_isInstance
abbrev Xi:=@decide_eq_false_iff_not
abbrev Xj:=@List.getElem?_cons_succ
abbrev Xk:=@List.length_eq_zero_iff
abbrev Xl:=@Int.mul_le_mul_of_nonneg_right
abbrev Xm:=@List.map_reverse
abbrev Xn:=@List.take_append_of_le_length
abbrev Xo:=@List.getElem?_set_self
abbrev Xp:=@PySem.wpAny_typeOf
abbrev Xq:=@PySem.Calls.callWith_builtin
abbrev Xr:=@List.drop_of_length_le
abbrev Xu:=@List.find?_cons
abbrev Xv:=@Option.map_some
abbrev Xw:=@List.dropLast_concat_getLast
abbrev Xx:=@PySem.Paired.length
abbrev Xy:=@List.length_replicate
abbrev Xz:=@List.pairwise_map
abbrev XC:=@PySem.wpAny_setState_of
abbrev XD:=@List.nodup_append
abbrev XF:=@PyProof.Rows.KeyOrd.kle_of_klt
abbrev XH:=@List.getElem?_set_ne
abbrev XJ:=@Nat.not_lt
abbrev XM:=@Array.getElem_toList
abbrev XN:=@List.length_eraseIdx_of_lt
abbrev XQ:=@List.nodup_nil
abbrev XR:=@List.Perm.refl
abbrev XS:=@List.getElem?_of_mem
abbrev XX:=@Nat.lt_trans
abbrev X3:=@PySem.wpAny_askSetting
abbrev X4:=@List.filter_cons
abbrev X5:=@Int.le_trans
abbrev X6:=@List.flatten_append
abbrev X7:=@PySem.F.args_tuple_add_2
abbrev X8:=@List.any_cons
abbrev X_:=@Bool.and_true
abbrev Yb:=@PySem.wpAny_attempt
abbrev Yc:=@or_false
abbrev Yd:=@PySem.wpAny_updateSeq
abbrev Ye:=@Nat.not_lt_zero
abbrev Yg:=@List.filter_map
abbrev Yh:=@PySem.tupleKind_room_in1
abbrev Yi:=@Nat.le_of_eq
abbrev Yj:=@List.reverse_cons
abbrev Yk:=@PySem.wpAny_pyIter_slot
abbrev Yl:=@Nat.lt_or_ge
abbrev Ym:=@Int.pow_succ
abbrev Yn:=@List.foldl_append
abbrev Yo:=@PySem.call_meets
abbrev Yp:=@PySem.signature?_of
abbrev Yq:=@Bool.true_and
open PySem.W (Frag InstAt LeftO callWith_K cellsFrom_some codeIn emptyDict findIn fnOf handedIn hasDictIn instObj isFn kHook keepIn lookIn makesIn methodObj mg_of nsIn plainGet plainGet_of plainOver recOk takerIn typeIn xlAt)
noncomputable section
open PySem PySem.Spec PyProof.Rows
set_option Elab.async false
set_option linter.all false
set_option maxRecDepth 100000
namespace L2
def b7 (s:Stmt):Arguments:=match s with
 |.FunctionDef _ a _ _ _ _ _ _ _ _=>a
 |_=>{ posonlyargs:=[],args:=[],vararg:=none,kwonlyargs:=[],kw_defaults:=[],kwarg:=none,defaults:=[]}
def bL (s:Stmt):List Stmt:=match s with
 |.FunctionDef _ _ b _ _ _ _ _ _ _=>b
 |_=>[]
def au (s:Stmt):Scope:=match s with
 |.FunctionDef _ _ _ _ _ _ sc _ _ _=>sc
 |_=>{ kind:=.function,names:=[],isGenerator:=false,isCoroutine:=false}
end L2
namespace M
open L2
def dealt (ns:List Str) (f:Str->Nat) (m:Nat):List (List Str):=(List.range m).map fun k=>ns.filter fun n=>decide (f n=k)
def top (i:Nat):Stmt:=PySem.Challenge.pw_stationrow_k63_whole_beats_of_others.main.body.getD i (.Pass ⟨0,0,0,0⟩)
def HQ:Stmt->List Stmt
 |.ClassDef _ _ _ body _ _ _ _ _ _ _=>body
 |_=>[]
def topm (i j:Nat):Stmt:=(HQ (top i)).getD j (.Pass ⟨0,0,0,0⟩)
def qv:Program:={ PySem.Challenge.pw_stationrow_k63_whole_beats_of_others with main:={ PySem.Challenge.pw_stationrow_k63_whole_beats_of_others.main with body:=([0,2,3,4,5,6,7,8,9,11,13,15,17,18,20,21,22,23,24,26,27,29,30,32,33,34,36,37,38,39,40,41,42,43,44,45,46,47,48,49,50,51]:List Nat).map top}}
def en (P:Params) (n:Str) (t:Nat) (v:Value):DictEntry:=⟨PyData.keyHash P n,.str n t,v⟩
def cO (n:Str) (c:Nat) (b:Bool) (a j l k:Nat):Obj:=⟨.type "code",none,.fields #[.str n a,.str n (a+1),.str "/claim/cut.py" (a+2),.int l 0,.int k 0,.int 0 0,.int 0 0,.int 3 0,.ref (c - (bif b then 5 else 3)),.bool true,.int 181 0,.ref (c - (bif b then 4 else 2)),.none,bif b then .ref (c - 3) else .none,bif b then .ref (c - 2) else .none,.ref (c - 1),.int j 0,.int l 0,.str "/claim/cut.py" (j+1)],#[]⟩
def fO (i:Nat) (n m:Str) (t c:Nat):Obj:=⟨.type "function",none,.func (fnOf n n (b7 (top i)) (bL (top i)) (au (top i)) .none .none .none (.str m t) none (.ref c) .none),#[]⟩
abbrev mlw:Str := "law_stationrow_k63_whole_beats_of_others"
def fx (i:Nat) (n m:Str) (t c:Nat) (b:Bool) (a j l k:Nat):(Params->DictEntry) × Frag:=(fun P=>en P n (j+2) (.ref (c+1)),[(c,cO n c b a j l k),(c+1,fO i n m t c)])
def TB:List ((Params->DictEntry) × Frag):=[fx 0 "_wall" "__main__" 164 20 true 187 191 1 1,
 fx 2 "links_of" "stationrow.chains" 194 27 true 196 204 5 1,
 fx 3 "reached" "stationrow.chains" 194 34 true 207 216 12 2,
 fx 4 "led_to" "stationrow.chains" 194 41 true 219 224 22 2,
 fx 5 "led_from" "stationrow.chains" 194 46 false 227 230 24 2,
 fx 6 "in_both" "stationrow.chains" 194 51 false 233 236 26 3,
 fx 7 "in_first_alone" "stationrow.chains" 194 56 false 239 242 28 3,
 fx 8 "group_of" "stationrow.chains" 194 63 true 245 250 30 2,
 fx 9 "ahead_of" "stationrow.chains" 194 70 true 253 258 32 2,
 fx 11 "may_be_done" "stationrow.checks" 261 77 true 263 268 35 2,
 fx 13 "turned_about" "stationrow.works" 271 82 false 273 276 38 1,
 fx 15 "names_of" "stationrow.texts" 279 87 false 281 284 43 1,
 fx 17 "number_of" "stationrow.sets" 287 94 true 289 297 46 2,
 fx 18 "tasks_of" "stationrow.sets" 287 101 true 300 308 54 2,
 fx 20 "apart_from" "stationrow.fillings" 311 106 false 313 316 63 2,
 fx 21 "rules_of" "stationrow.fillings" 311 113 true 319 331 65 1,
 fx 22 "has_all" "stationrow.fillings" 311 120 true 334 339 74 2,
 fx 23 "is_filling_number" "stationrow.fillings" 311 127 true 342 357 76 5,
 fx 24 "greatest_numbers" "stationrow.fillings" 311 132 false 360 363 88 1,
 fx 26 "parts_of" "stationrow.walks" 366 137 false 368 371 95 1,
 (fun P=>en P "Walk" 435 (.ref 179),[]),
 fx 29 "ways_behind" "stationrow.dealt" 436 189 true 438 448 127 3,
 fx 30 "dealing_to" "stationrow.dealt" 436 196 true 451 460 133 3,
 fx 32 "loads_rising" "stationrow.beats" 463 201 false 465 468 142 1,
 fx 33 "least_beat" "stationrow.beats" 463 208 true 471 480 147 2,
 fx 34 "beats_of" "stationrow.beats" 463 213 false 483 486 160 1,
 fx 36 "_law_numbers" mlw 489 220 true 491 500 163 1,
 fx 37 "_law_draw" mlw 489 227 true 503 508 178 2,
 fx 38 "_law_great" mlw 489 234 true 511 518 182 2,
 fx 39 "_law_free_name" mlw 489 241 true 521 533 187 3,
 fx 40 "_law_names" mlw 489 246 false 536 539 199 2,
 fx 41 "_law_turn" mlw 489 253 true 542 549 210 2,
 fx 42 "_law_lengths" mlw 489 258 false 552 555 216 2,
 fx 43 "_law_chained" mlw 489 263 false 558 561 222 2,
 fx 44 "_law_pairs" mlw 489 268 false 564 567 229 4,
 fx 45 "_law_some_kinds" mlw 489 273 false 570 573 245 3,
 fx 46 "_law_kinds" mlw 489 278 false 576 579 251 4,
 fx 47 "_law_works" mlw 489 283 false 582 585 266 3,
 fx 48 "_law_otherwise" mlw 489 288 false 588 591 284 2,
 fx 49 "_law_fewer" mlw 489 295 true 594 604 299 2,
 fx 50 "_law_longer" mlw 489 300 false 607 610 306 2,
 fx 51 "law" mlw 489 305 false 613 616 308 1]
def wcO (C N t u:Nat):Obj:=⟨.type "type",none,.cls { name:="Walk",bases:=[.type "object"],mro:=[.ref C,.type "object"],ns:=N,qualname:="Walk"},#[none,none,some (.str "Walk" t),some (.str "Walk" u),some (.builtin "object.__new__"),some (.bool true)]⟩
def nsO (P:Params) (es:List (Str × Nat × Value)) (k:Nat):Obj:=⟨.type "dict",none,.dict (es.map fun e=>en P e.1 e.2.1 e.2.2).toArray k,#[]⟩
def cQ (n q:Str) (c:Nat) (b:Bool) (a j l k:Nat):Obj:=⟨.type "code",none,.fields #[.str n a,.str q (a+1),.str "/claim/cut.py" (a+2),.int l 0,.int k 0,.int 0 0,.int 0 0,.int 3 0,.ref (c - (bif b then 5 else 3)),.bool true,.int 181 0,.ref (c - (bif b then 4 else 2)),.none,bif b then .ref (c - 3) else .none,bif b then .ref (c - 2) else .none,.ref (c - 1),.int j 0,.int l 0,.str "/claim/cut.py" (j+1)],#[]⟩
def fQ (st:Stmt) (n q m:Str) (t c:Nat):Obj:=⟨.type "function",none,.func (fnOf n q (b7 st) (bL st) (au st) .none .none .none (.str m t) none (.ref c) .none),#[]⟩
def KC (P:Params):Frag:=[(151,cQ "__init__" "Walk.__init__" 151 true 386 392 105 3),
 (152,fQ (topm 27 0) "__init__" "Walk.__init__" "stationrow.walks" 366 151),
 (156,cQ "fillings_at" "Walk.fillings_at" 156 false 395 398 111 3),
 (157,fQ (topm 27 1) "fillings_at" "Walk.fillings_at" "stationrow.walks" 366 156),
 (163,cQ "greatest_at" "Walk.greatest_at" 163 true 401 407 118 3),
 (164,fQ (topm 27 2) "greatest_at" "Walk.greatest_at" "stationrow.walks" 366 163),
 (175,cQ "dealing_of" "Walk.dealing_of" 175 false 418 421 124 2),
 (176,fQ (topm 27 4) "dealing_of" "Walk.dealing_of" "stationrow.walks" 366 175),
 (178,nsO P [("__module__",381,.str "stationrow.walks" 366),("__firstlineno__",385,.int 103 384),("__init__",394,.ref 152),("fillings_at",400,.ref 157),("greatest_at",409,.ref 164),("load_at",417,.ref 171),("dealing_of",423,.ref 176),("__static_attributes__",428,.ref 177),("__dict__",430,.ref 180),("__weakref__",432,.ref 181),("__doc__",433,.none)] 4),
 (179,wcO 179 178 374 382)]
def KK (P:Params):Frag:=(3,⟨.type "dict",none,.dict ([en P "__name__" 165 (.str mlw 489),
 en P "__doc__" 166 .none,
 en P "__package__" 167 .none,
 en P "__loader__" 168 (.builtin "__main__.__loader__#opaque"),
 en P "__spec__" 169 .none,
 en P "__annotations__" 170 (.ref 6),
 en P "__builtins__" 171 (.ref 4),
 en P "__file__" 173 (.str "/claim/cut.py" 172),
 en P "__cached__" 174 .none]++TB.map fun r=>r.1 P).toArray 51,#[]⟩)::(TB.map fun r=>r.2).flatten++KC P
def HK:PySem.W.Hook:=kHook KK [3,20,21,27,28,34,35,41,42,46,47,51,52,56,57,63,64,70,71,77,78,82,83,87,88,94,95,101,102,106,107,113,114,120,121,127,128,132,133,137,138,189,190,196,197,201,202,208,209,213,214,220,221,227,228,234,235,241,242,246,247,253,254,258,259,263,264,268,269,273,274,278,279,283,284,288,289,295,296,300,301,305,306,151,152,156,157,163,164,175,176,178,179] (fun _=>by kernel_rfl)
theorem left:LeftO (PySem.W.OpenLaw.row PySem.Challenge.rw_stationrow_k63_whole_beats_of_others).prog qv [] (fun s=>xlAt qv [] s&&recOk (PySem.W.RowW.records (PySem.W.OpenLaw.row PySem.Challenge.rw_stationrow_k63_whole_beats_of_others).toRowW) s) (PySem.W.Hook.obs HK) (PySem.W.Hook.val HK) 3424:=by
 intro w;kernel_rfl
end M
namespace L2
abbrev Key:=Sum Int Str
def m6:Key->Value->Bool
 |.inl k,v=>Value.isInt k v
 |.inr x,v=>Value.isStrOf x v
def Tz (w:World):Key->Int
 |.inl k=>hashInt k
 |.inr x=>hashStr w x
theorem bN:∀{k:Key}{v:Value},m6 k v=true->(∃i t,k=Sum.inl i/\v=Value.int i t)\/(∃x t,k=Sum.inr x/\v=Value.str x t)
 |.inl i,v,h=>by
  obtain⟨t,e⟩:=Value.isInt_shape (k:=i) (v:=v) h
  exact .inl ⟨i,t,rfl,e⟩
 |.inr x,v,h=>by
  obtain⟨t,e⟩:=Value.isStrOf_shape (x:=x) (v:=v) h
  exact .inr ⟨x,t,rfl,e⟩
theorem wX (i:Int) (t:Tok):m6 (.inl i) (.int i t)=true:=by simp [m6,Value.isInt]
theorem wY (x:Str) (t:Tok):m6 (.inr x) (.str x t)=true:=by simp [m6,Value.isStrOf]
theorem JW (a b:Int):decide ((Sum.inl a:Key)=Sum.inl b)=(a==b):=by
 by_cases e:a=b
 ·subst e;simp
 have h:¬(Sum.inl a:Key)=Sum.inl b:=fun q=>e (Sum.inl.inj q);rw[C_ h];exact (V9.mpr e).symm
theorem JX (a b:Str):decide ((Sum.inr a:Key)=Sum.inr b)=decide (a=b):=by
 by_cases e:a=b
 ·subst e;simp
 have h:¬(Sum.inr a:Key)=Sum.inr b:=fun q=>e (Sum.inr.inj q);rw[C_ h,C_ e]
theorem JZ (a:Int) (b:Str):decide ((Sum.inl a:Key)=Sum.inr b)=false:=C_ (fun q=>nomatch q)
theorem J0 (a:Str) (b:Int):decide ((Sum.inr a:Key)=Sum.inl b)=false:=C_ (fun q=>nomatch q)
def bH (prog:Program) (w:World):PySem.KeyKind prog w Key where
 is:=m6
 hash:=Tz w
 inj:=fun v a b ha hb=>by
  rcases bN ha with ⟨i,t,rfl,rfl⟩ | ⟨x,t,rfl,rfl⟩
  ·
   rcases bN hb with ⟨j,u,rfl,e⟩ | ⟨y,u,rfl,e⟩
   ·
    injection e with e1 _;rw[e1]
   ·
    exact nomatch e
  ·
   rcases bN hb with ⟨j,u,rfl,e⟩ | ⟨y,u,rfl,e⟩
   ·
    exact nomatch e
   ·
    injection e with e1 _;rw[e1]
 byValue:=fun k v h=>by
  rcases bN h with ⟨i,t,rfl,rfl⟩ | ⟨x,t,rfl,rfl⟩ <;> rfl
 pyHash:=fun hv h=>by
  rcases bN hv with ⟨i,t,rfl,rfl⟩ | ⟨x,t,rfl,rfl⟩
  ·
   exact wpAny_pyHash_int h
  ·
   exact wpAny_pyHash_str h
 eqBool:=fun hu hv h=>by
  rcases bN hu with ⟨i,t,rfl,rfl⟩ | ⟨x,t,rfl,rfl⟩
  ·
   rcases bN hv with ⟨j,u,rfl,rfl⟩ | ⟨y,u,rfl,rfl⟩
   ·
    rw[JW] at h;exact wpAny_eqBool_int h
   ·
    rw[JZ] at h;exact SeqAt.EqAt.int_str i t y u _ _ _ _ h
  ·
   rcases bN hv with ⟨j,u,rfl,rfl⟩ | ⟨y,u,rfl,rfl⟩
   ·
    rw[J0] at h;exact SeqAt.EqAt.str_int x t j u _ _ _ _ h
   ·
    rw[JX] at h;exact wpAny_eqBool_str h
 «strs»:=fun k x t v h=>by
  rcases bN h with ⟨i,u,rfl,e⟩ | ⟨y,u,rfl,e⟩
  ·
   exact nomatch e
  ·
   injection e with e1 _
   subst e1
   cases v <;> rfl
theorem qp (prog:Program) (w:World) (i:Int) (t:Tok):(bH prog w).is (.inl i) (.int i t)=true:=wX i t
theorem qt (prog:Program) (w:World) (x:Str) (t:Tok):(bH prog w).is (.inr x) (.str x t)=true:=wY x t
inductive V where
 |non | bl (b:Bool) | int (i:Int) | str (x:Str) | byt (b:Array UInt8) | flt (b:UInt64) | ref (a:Addr) | ty (n:String)
 deriving DecidableEq
def RelV:V->Value->Prop
 |.non,u=>u=Value.none
 |.bl b,u=>u=Value.bool b
 |.int i,u=>∃t,u=Value.int i t
 |.str x,u=>∃t,u=Value.str x t
 |.byt b,u=>∃t,u=Value.bytes b t
 |.flt b,u=>∃t,u=Value.float b t
 |.ref a,u=>u=Value.ref a
 |.ty n,u=>u=Value.type n
abbrev Vals:List V->List Value->Prop:=Paired RelV
theorem Vals.length {xs:List V}{us:List Value}(r:Vals xs us):xs.length=us.length:=Xx r
theorem Vals.get:∀{xs:List V}{us:List Value}{i:Nat}{x:V},Vals xs us->xs[i]?=some x->∃u,us[i]?=some u/\RelV x u
 |_,_,_,_,.nil,e=>by simp at e
 |_,_,0,_,.cons r _,e=>by simp at e;subst e;exact⟨_,rfl,r⟩
 |_,_,i+1,x,.cons _ t,e=>by
  obtain⟨u,h1,h2⟩:=Vals.get (i:=i) (x:=x) t (by simpa using e)
  exact⟨u,by simpa using h1,h2⟩
theorem Vals.set {x:V}{u:Value}(r:RelV x u):∀{xs:List V}{us:List Value}(i:Nat),Vals xs us->Vals (xs.set i x) (us.set i u)
 |_,_,_,.nil=>.nil
 |_,_,0,.cons _ t=>.cons r t
 |_,_,i+1,.cons q t=>.cons q (Vals.set r i t)
theorem Vals.append:∀{xs ys:List V}{us ws:List Value},Vals xs us->Vals ys ws->Vals (xs++ys) (us++ws)
 |_,_,_,_,.nil,s=>s
 |_,_,_,_,.cons r t,s=>.cons r (Vals.append t s)
theorem Vals.take:∀{xs:List V}{us:List Value}(n:Nat),Vals xs us->Vals (xs.take n) (us.take n)
 |_,_,0,_=>.nil
 |_,_,_+1,.nil=>.nil
 |_,_,n+1,.cons r t=>.cons r (Vals.take n t)
theorem Vals.drop:∀{xs:List V}{us:List Value}(n:Nat),Vals xs us->Vals (xs.drop n) (us.drop n)
 |_,_,0,r=>r
 |_,_,_+1,.nil=>.nil
 |_,_,n+1,.cons _ t=>Vals.drop n t
def RelO:Option V->Option Value->Prop
 |some v,some u=>RelV v u
 |none,none=>True
 |_,_=>False
def KV {κ:Type}:List (κ × V)->List (κ × Value)->Prop:=Paired fun (p:κ × V) (q:κ × Value)=>p.1=q.1/\RelV p.2 q.2
def kV:Key->V
 |.inl i=>.int i
 |.inr x=>.str x
inductive HO where
 |lst (xs:List V)
 |tup (xs:List V)
 |dK (kvs:List (Key × V)) | dT (kvs:List (List Key × V))
 |set (S:Int->Bool) (n:Nat)
 |ins (C dx:Addr) (fs:List (Str × V))
 |own (x:Addr)
 |xd (fs:List (Str × V))
 |met (f x:Addr)
 |rng (lo hi:Int)
 |frz (o:Obj) (u:HO)
 |tbl (ps:Array Value)
 |ext (φ:Heap->Prop)
abbrev Hp:=Addr->Option HO
def upd (H:Hp) (a:Addr) (o:HO):Hp:=fun b=>if b=a then some o else H b
theorem bU {H:Hp}{a:Addr}{o:HO}:upd H a o a=some o:=by unfold upd;rw[if_pos rfl]
theorem aP {H:Hp}{a b:Addr}{o:HO}(h:b≠a):upd H a o b=H b:=by unfold upd;rw[if_neg h]
theorem O1 {H:Hp}{a b:Addr}{o u:HO}(h:H a=some o) (h':H b=some u) (d:o≠u):a≠b:=by
 intro e;subst e;rw[h] at h';exact d (U6 h')
theorem cg {H:Hp}{a b:Addr}{o:HO}(h:H a=some o) (h':H b=none):a≠b:=by
 intro e;subst e;rw[h] at h';cases h'
def Tup0 (h:Heap) (a:Addr) (items:Array Value):Prop:=∃o,h.get? a=some o/\o.cls=.type "tuple"/\∃n,o.data=.seq items n/\o.dict=none
theorem Tup0.is {h:Heap}{a:Addr}{items:Array Value}(x:Tup0 h a items):IsTup h a items:=by
 obtain⟨o,ho,hc,n,hd,_⟩:=x;exact⟨o,ho,hc,n,hd⟩
theorem Tup0.new (h:Heap) (items:Array Value):Tup0 (h.push { cls:=.type "tuple",data:=.seq items}) h.objs.size items:=⟨_,x_ _ rfl,rfl,_,rfl,rfl⟩
section
variable (P:Program) (w:World)
def ObjOk (H:Hp) (h:Heap) (a:Addr):HO->Prop
 |.lst xs=>xs.length<=sizeLine/\∃(its:List Value) (n:Nat),Vals xs its/\h.get? a=some { cls:=.type "list",data:=.seq its.toArray n}
 |.tup xs=>xs.length<=sizeLine/\∃its:List Value,Vals xs its/\Tup0 h a its.toArray
 |.dK kvs=>kvs.length<=sizeLine/\(a==sysModules)=false/\∃vs,KV kvs vs/\h.DictOf (bH P w) a vs
 |.dT kvs=>kvs.length<=sizeLine/\(a==sysModules)=false/\∃xs:List (List Key × Addr × Value),
   Paired (fun (p:List Key × V) (q:List Key × Addr × Value)=>p.1=q.1/\H q.2.1=some (.tup (p.1.map kV))/\RelV p.2 q.2.2) kvs xs /\
   ∃o es ep,h.get? a=some o/\o.ExactDict/\o.data=.dict es ep/\es.toList=xs.map (entryOfKey (tupleKind (bH P w)))/\(xs.map (·.1)).Nodup
 |.set S n=>h.SetOf (intKind P w) a S n
 |.ins C dx fs=>H dx=some (.own a)/\fs.length<=1000/\dx≠a/\h.get? a=some (instObj C dx) /\
   ∃mA,h.Ns1 dx mA/\(∀f,RelO (fs.lookup f) (mA f))/\PySem.Within mA (fs.map (·.1))
 |.own _=>∃o,h.get? a=some o
 |.xd fs=>∃mA,h.Ns1 a mA/\∀f,RelO (fs.lookup f) (mA f)
 |.rng lo hi=>∃t u v,h.get? a=some { cls:=.type "range",data:=.fields #[.int lo t,.int hi u,.int 1 v]}
 |.frz o u=>h.get? a=some o/\ObjOk H h a u
 |.tbl ps=>h.get? a=some { cls:=.none,data:=.fields ps}
 |.met f x=>h.get? a=some (methodObj (.ref f) (.ref x))
 |.ext φ=>φ h/\(∃o,h.get? a=some o)/\∀h1 h2:Heap,φ h1->(∀o,h1.get? a=some o->h2.get? a=some o)->φ h2
def HOk (H:Hp) (h:Heap):Prop:=∀a o,H a=some o->ObjOk P w H h a o
end
section
variable {P:Program}{w:World}{H H':Hp}{h h':Heap}{a:Addr}{o:HO}
theorem ObjOk.lt (x:ObjOk P w H h a o):a<h.objs.size:=by
 cases o with
 |lst xs=>obtain⟨_,_,_,_,e⟩:=x;exact B_ e
 |tup xs=>obtain⟨_,_,_,p⟩:=x;exact p.is.lt
 |dK kvs=>obtain⟨_,_,_,_,o,_,_,e,_⟩:=x;exact B_ e
 |dT kvs=>obtain⟨_,_,_,_,o,_,_,e,_⟩:=x;exact B_ e
 |set S n=>obtain⟨o,_,_,_,e,_⟩:=x;exact B_ e
 |ins C dx fs=>obtain⟨_,_,_,e,_⟩:=x;exact B_ e
 |own y=>obtain⟨_,e⟩:=x;exact B_ e
 |xd fs=>obtain⟨_,⟨_,_,_,e,_⟩,_⟩:=x;exact B_ e
 |rng lo hi=>obtain⟨_,_,_,e⟩:=x;exact B_ e
 |frz ob u=>obtain⟨e,_⟩:=x;exact B_ e
 |tbl ps=>exact B_ (show h.get? a=some _ from x)
 |met f y=>exact B_ (show h.get? a=some _ from x)
 |ext φ=>obtain⟨_,⟨_,e⟩,_⟩:=x;exact B_ e
theorem Paired.mapP {α β:Type}{F G:α->β->Prop}:∀{l₁:List α}{l₂:List β},Paired F l₁ l₂->(∀a b,F a b->G a b)->Paired G l₁ l₂
 |_,_,.nil,_=>.nil
 |_,_,.cons r t,f=>.cons (f _ _ r) (Paired.mapP t f)
theorem ObjOk.stay (x:ObjOk P w H h a o) (k:∀b u,(b=a\/H b=some (.own a))->h.get? b=some u->h'.get? b=some u)
  (ho:∀b,H b=some (.own a)->H' b=some (.own a)) (ht:∀b xs,H b=some (.tup xs)->H' b=some (.tup xs)):ObjOk P w H' h' a o:=by
 induction o with
 |lst xs=>obtain⟨z,its,n,r,e⟩:=x;exact⟨z,its,n,r,k _ _ (.inl rfl) e⟩
 |tup xs=>obtain⟨z,its,r,ob,e,c⟩:=x;exact⟨z,its,r,ob,k _ _ (.inl rfl) e,c⟩
 |dK kvs=>obtain⟨z,y,vs,r,ob,es,ep,e,c⟩:=x;exact⟨z,y,vs,r,ob,es,ep,k _ _ (.inl rfl) e,c⟩
 |dT kvs=>obtain⟨z,y,xs,r,ob,es,ep,e,c⟩:=x;exact⟨z,y,xs,Paired.mapP r fun p q z=>⟨z.1,ht _ _ z.2.1,z.2.2⟩,ob,es,ep,k _ _ (.inl rfl) e,c⟩
 |set S n=>obtain⟨ob,es,ep,t,e,c⟩:=x;exact⟨ob,es,ep,t,k _ _ (.inl rfl) e,c⟩
 |ins C dx fs=>obtain⟨d,z,ne,e,mA,⟨od,es,ep,e2,c⟩,r⟩:=x;exact⟨ho _ d,z,ne,k _ _ (.inl rfl) e,mA,⟨od,es,ep,k _ _ (.inr d) e2,c⟩,r⟩
 |own y=>obtain⟨ob,e⟩:=x;exact⟨ob,k _ _ (.inl rfl) e⟩
 |xd fs=>obtain⟨mA,⟨od,es,ep,e,c⟩,r⟩:=x;exact⟨mA,⟨od,es,ep,k _ _ (.inl rfl) e,c⟩,r⟩
 |rng lo hi=>obtain⟨t,u,v,e⟩:=x;exact⟨t,u,v,k _ _ (.inl rfl) e⟩
 |frz ob u ih=>obtain⟨e,q⟩:=x;exact⟨k _ _ (.inl rfl) e,ih q⟩
 |tbl ps =>
  have e:h.get? a=some { cls:=.none,data:=.fields ps}:=x
  show h'.get? a=some { cls:=.none,data:=.fields ps}
  exact k a _ (.inl rfl) e
 |met f y =>
  have e:h.get? a=some (methodObj (.ref f) (.ref y)):=x
  show h'.get? a=some (methodObj (.ref f) (.ref y))
  exact k a _ (.inl rfl) e
 |ext φ=>obtain⟨p,⟨o,e⟩,st⟩:=x;exact⟨st _ _ p fun o q=>k _ _ (.inl rfl) q,⟨o,k _ _ (.inl rfl) e⟩,st⟩
theorem HOk.lt (x:HOk P w H h) (e:H a=some o):a<h.objs.size:=(x a o e).lt
theorem HOk.fresh (x:HOk P w H h) (e:h.objs.size<=a):H a=none:=by
 cases q:H a with
 |none=>rfl
 |some u=>exact absurd (P_ (x.lt q) e) (Vc _)
theorem HOk.kept (x:HOk P w H h) (k:∀b u,h.get? b=some u->h'.get? b=some u):HOk P w H h':=fun a o e =>
 (x a o e).stay (fun b u _ q=>k b u q) (fun _ q=>q) fun _ _ q=>q
theorem HOk.laid (x:HOk P w H h) (k:∀b u,h.get? b=some u->h'.get? b=some u) (hp:h.objs.size<=a) (new:ObjOk P w (upd H a o) h' a o):HOk P w (upd H a o) h':=fun b u e=>by
 have hn:=x.fresh hp;by_cases hb:b=a
 ·subst hb;rw[bU] at e;cases e;exact new
 rw[aP hb] at e;exact (x b u e).stay (fun c v _ q=>k c v q) (fun c q=>by rw[aP (cg q hn)];exact q) fun c xs q=>by rw[aP (cg q hn)];exact q
end
def Rd (H:Hp) (a:Addr) (u:HO):Prop:=H a=some u\/∃o,H a=some (.frz o u)
theorem Rd.ok {P:Program}{w:World}{H:Hp}{h:Heap}{a:Addr}{u:HO}(r:Rd H a u) (x:HOk P w H h):ObjOk P w H h a u:=by
 rcases r with r | ⟨o,r⟩
 ·exact x a u r
 obtain⟨_,q⟩:=x a _ r;exact q
def Mut:Option HO->Prop
 |some (.lst _)=>True
 |some (.dK _)=>True
 |some (.dT _)=>True
 |some (.set _ _)=>True
 |some (.ins _ _ _)=>True
 |some (.ext _)=>True
 |_=>False
section
variable {P:Program}{w:World}{H:Hp}{h h':Heap}{x e:Addr}{o':HO}
theorem HOk.write (ok:HOk P w H h) (mu:Mut (H x)) (he:e=x\/H e=some (.own x)) (k:∀b u,b≠e->h.get? b=some u->h'.get? b=some u) (heo:∃u,h'.get? e=some u)
  (new:ObjOk P w (upd H x o') h' x o'):HOk P w (upd H x o') h':=fun b u q=>by
 have nown:∀c y,H c=some (.own y)->c≠x:=fun c y r z=>by subst z;rw[r] at mu;exact mu
 have ntup:∀c xs,H c=some (.tup xs)->c≠x:=fun c xs r z=>by subst z;rw[r] at mu;exact mu
 by_cases hb:b=x
 ·subst hb;rw[bU] at q;cases q;exact new
 rw[aP hb] at q;by_cases hbe:b=e
 ·have q':H b=some (.own x):=by
   rcases he with z | z
   ·exact absurd (hbe.trans z) hb
   rw[hbe];exact z
  rw[q] at q';cases q';obtain⟨v,hv⟩:=heo;exact⟨v,by rw[hbe];exact hv⟩
 refine (ok b u q).stay (fun c v hc r=>k c v ?_ r) (fun c r=>by rw[aP (nown c b r)];exact r) fun c xs r=>by rw[aP (ntup c xs r)];exact r
 rcases hc with rfl | hc
 ·exact hbe
 rintro rfl;rcases he with z | z
 ·exact nown c b hc z
 rw[hc] at z;cases z;exact hb rfl
end
structure Un (fs ex:List Addr) (H H':Hp) (h h':Heap):Prop where
 keep:∀b o,h.get? b=some o->H b=none->b∉fs->b∉ex->h'.get? b=some o
 slot:∀b o,h.get? b=some o->H b=none->b∈fs->b∉ex->∃sl,h'.get? b=some { o with slots:=sl}
 free:∀b o,h.get? b=some o->H b=none->b∉ex->H' b=none
 there:∀b o,h.get? b=some o->b∉ex->∃o',h'.get? b=some o'
 tups:∀b xs,H b=some (.tup xs)->H' b=some (.tup xs)
 frzs:∀b o u,H b=some (.frz o u)->H' b=some (.frz o u)
 tbls:∀b ps,H b=some (.tbl ps)->∃more,H' b=some (.tbl (ps++more))
section
variable {fs fs' ex ex':List Addr}{H H1 H2:Hp}{h h1 h2 h':Heap}{a x e:Addr}{o:HO}
theorem Un.any (u:Un fs ex H H1 h h1) {b:Addr}{ob:Obj}(q:h.get? b=some ob) (n:H b=none) (hx:b∉ex):∃sl,h1.get? b=some { ob with slots:=sl}:=by
 by_cases hb:b∈fs
 ·exact u.slot b ob q n hb hx
 exact⟨ob.slots,u.keep b ob q n hb hx⟩
theorem Un.kept (k:∀b u,h.get? b=some u->h'.get? b=some u):Un fs ex H H h h' :=
 ⟨fun b ob q _ _ _=>k b ob q,fun b ob q _ _ _=>⟨ob.slots,k b ob q⟩,fun _ _ _ n _=>n,fun b ob q _=>⟨ob,k b ob q⟩,fun _ _ q=>q,fun _ _ _ q=>q,fun _ ps q=>⟨#[],by rw[q];simp⟩⟩
theorem Un.refl:Un fs ex H H h h:=Un.kept fun _ _ q=>q
theorem Un.laid (k:∀b u,h.get? b=some u->h'.get? b=some u) (hp:h.objs.size<=a) (hn:H a=none):Un fs ex H (upd H a o) h h' where
 keep:=fun b u q _ _ _=>k b u q
 slot:=fun b u q _ _ _=>⟨u.slots,k b u q⟩
 free:=fun b u q n _=>by rw[aP (U9 (P_ (B_ q) hp))];exact n
 there:=fun b u q _=>⟨u,k b u q⟩
 tups:=fun b xs q=>by rw[aP (cg q hn)];exact q
 frzs:=fun b u xs q=>by rw[aP (cg q hn)];exact q
 tbls:=fun b ps q=>⟨#[],by rw[aP (cg q hn),q];simp⟩
theorem Un.write (mu:Mut (H x)) (he:e=x\/H e=some (.own x)) (k:∀b u,b≠e->h.get? b=some u->h'.get? b=some u) (heo:∃u,h'.get? e=some u):Un fs ex H (upd H x o) h h':=by
 have hx:∀b,H b=none->b≠x:=fun b n z=>by subst z;rw[n] at mu;exact mu
 have hb:∀b,H b=none->b≠e:=fun b n z=>by
  subst z;rcases he with r | r
  ·exact hx b n r
  rw[n] at r;cases r
 have hm:∀b u,H b=some u->¬Mut (some u)->b≠x:=fun b u q nm z=>by subst z;rw[q] at mu;exact nm mu
 refine⟨fun b u q n _ _=>k b u (hb b n) q,fun b u q n _ _=>⟨u.slots,k b u (hb b n) q⟩,fun b u q n _=>by rw[aP (hx b n)];exact n,fun b u q _=>?_,
  fun b xs q=>by rw[aP (hm b _ q fun z=>z)];exact q,fun b u xs q=>by rw[aP (hm b _ q fun z=>z)];exact q,fun b ps q=>⟨#[],by rw[aP (hm b _ q fun z=>z),q];simp⟩⟩
 by_cases hbe:b=e
 ·subst hbe;exact heo
 exact⟨u,k b u hbe q⟩
end
def trk (h:Heap) (H:Hp):List Addr:=(List.range h.objs.size).filter fun a=>(H a).isSome
def oU (h:Heap) (H:Hp):Heap:=PySem.W.hideAll h (trk h H)
theorem wZ (h:Heap) (H:Hp):(oU h H).objs.size=h.objs.size:=PySem.W.hideAll_size _ _
theorem yO {h:Heap}{H:Hp}{b:Addr}{o:Obj}(e:h.get? b=some o) (n:H b=none):(oU h H).get? b=some o :=
 PySem.W.hideAll_get _ e fun hm=>by
  have q:(H b).isSome=true:=(F_.mp hm).2;rw[n] at q;simp at q
theorem DN {h:Heap}{H:Hp}{b:Addr}{o:Obj}(e:(oU h H).get? b=some o):h.get? b=some o/\H b=none:=by
 have e':h.get? b=some o:=PySem.W.of_hideAll (trk h H) e;refine⟨e',?_⟩;cases q:H b with
 |none=>rfl
 |some x =>
  have hm:b∈trk h H:=F_.mpr ⟨I_.mpr (B_ e'),by simp [q]⟩
  have z:(oU h H).get? b=none:=PySem.W.hideAll_none (trk h H) hm
  rw[z] at e;cases e
def DP (g h : Heap) (L : Addr) : List (Addr × Obj):=(List.range h.objs.size).filterMap fun a => if a = L \/ (g.get? a).isSome = true then none else (h.get? a).map fun o => (a,o)
def rest (g h:Heap) (L d:Addr):List (Addr × Obj):=(DP g h L).filter fun p=>decide (p.1≠d)
structure Mod (K:Frag) (mg:Str->Option Value) (base:Heap):Prop where
 kin:K.In base
 glob:base.Ns mainGlobals mg
 blt:∃mb,base.Ns builtinsNs mb/\∀x:Str,x≠"__name__"->mb x=bootBuiltins x
 nolimit:base.NoLimit
structure Cx where
 prog:Program
 w:World
 K:Frag
 mg:Str->Option Value
 base:Heap
 A:Around
 N:List Str
 s₀:Shared
 H₀:Hp
 env:Env
 outer:List Env
 stack:List Env
 ex:List Addr
 fn:Str->Bool
 calm:Bool
 pn:List (Addr × Obj)
 xe:Value->Shared->Prop
def frs (l : List Env) : List Addr:=l.filterMap (·.frame)
abbrev Cx.fs (X:Cx):List Addr:=frs X.outer
def Vis (sc:Scope) (x:Str):Prop:=sc.names.lookup x=some .local\/sc.names.lookup x=some .cell\/sc.names.lookup x=some .free
def Loc (sc:Scope) (x:Str):Prop:=sc.names.lookup x=some .local\/sc.names.lookup x=some .cell
def Look (env:Env) (h:Heap) (m:Str->Option Value) (x:Str) (u:Value):Prop :=
 (env.kindOf x=some .local/\m x=some u)\/((env.kindOf x=some .cell\/env.kindOf x=some .free)/\∃c,env.cells.lookup x=some c/\h.IsCell c (some u))
structure Cx.Ok (X:Cx):Prop where
 mod:Mod X.K X.mg X.base
 kind:X.env.scope.kind=.function
 glob:X.env.globals=mainGlobals
 blt:X.env.builtins=builtinsNs
 above:X.s₀.heap.objs.size<=X.env.locals
 inj:∀x y c,X.env.cells.lookup x=some c->X.env.cells.lookup y=some c->x=y
 has:∀x,(X.env.kindOf x=some .cell\/X.env.kindOf x=some .free)->∃c,X.env.cells.lookup x=some c
 cab:∀x c,X.fn x=true->X.env.cells.lookup x=some c->X.s₀.heap.objs.size<=c
 hd:X.calm=true->X.A.handled=none
 frames:X.A.frames=some X.stack
 stk:X.stack=X.outer\/(X.stack=X.env::X.outer/\X.env.frame=some X.env.locals)
 exf:∀b∈X.ex,b≠X.env.locals/\∀x c,X.env.cells.lookup x=some c->c≠b
 bs:∀b o,X.base.get? b=some o->X.s₀.heap.get? b=some o/\X.H₀ b=none
 bsz:X.base.objs.size<=X.s₀.heap.objs.size
 noex:∀b o,X.base.get? b=some o->b∉X.ex
 exfs:∀b∈X.ex,b∉X.fs
 funs:X.s₀.heap.FunFrames X.base X.outer
 frf:∀b∈X.fs,X.H₀ b=none
structure Inv (X:Cx) (pins:List (Addr × Obj)) (Z:List (Option V)) (H:Hp) (s:Shared):Prop where
 ok:X.Ok
 os:s.os=X.s₀.os
 bare:AllBare s.gens
 base:Un X.fs X.ex X.H₀ H X.s₀.heap s.heap
 loc:∃m,s.heap.Ns X.env.locals m/\∀(i:Nat) (x:Str) (v:V),X.N[i]?=some x->Z[i]?=some (some v)->Vis X.env.scope x->∃u,RelV v u/\Look X.env s.heap m x u
 cell:∀x c,X.env.cells.lookup x=some c->∃v,s.heap.IsCell c v
 free:H X.env.locals=none
 freeC:∀x c,X.env.cells.lookup x=some c->H c=none
 pin:∀p∈X.pn++pins,s.heap.get? p.1=some p.2/\H p.1=none/\p.1≠X.env.locals/\p.1∉X.fs/\∀v,p.2.data≠.cell v
 hok:HOk X.prog X.w H s.heap
 len:Z.length=X.N.length
section
variable {X:Cx}{pins:List (Addr × Obj)}{Z:List (Option V)}{H H':Hp}{s:Shared}{h':Heap}
theorem Cx.Ok.nofr (ok:X.Ok) {b:Addr}{o:Obj}(e:X.base.get? b=some o):b∉X.fs:=fun hb=>by
 have:=(ok.funs.mem hb).1;rw[e] at this;cases this
theorem Inv.bs (I:Inv X pins Z H s):∀b o,X.base.get? b=some o->s.heap.get? b=some o/\H b=none:=fun b o e =>
 ⟨I.base.keep b o (I.ok.bs b o e).1 (I.ok.bs b o e).2 (I.ok.nofr e) (I.ok.noex b o e),I.base.free b o (I.ok.bs b o e).1 (I.ok.bs b o e).2 (I.ok.noex b o e)⟩
theorem Inv.bk (I:Inv X pins Z H s):∀b o,X.base.get? b=some o->s.heap.get? b=some o:=fun b o e=>(I.bs b o e).1
theorem Inv.mod (I:Inv X pins Z H s):Mod X.K X.mg X.base:=I.ok.mod
theorem Inv.kIn (I:Inv X pins Z H s):X.K.In s.heap:=I.ok.mod.kin.keeps I.bk
theorem Inv.lt (I:Inv X pins Z H s):X.env.locals<s.heap.objs.size:=let ⟨_,hn,_⟩:=I.loc;hn.lt
theorem Inv.sz (I:Inv X pins Z H s):X.s₀.heap.objs.size<=s.heap.objs.size:=U8 I.ok.above (V5 I.lt)
theorem Inv.nofs (I:Inv X pins Z H s) {a:Addr}(h:s.heap.objs.size<=a):a∉X.fs:=fun hb=>by
 obtain⟨_,o,ho,_⟩:=I.ok.funs.mem hb;exact absurd (P_ (B_ ho) (U8 I.sz h)) (Vc _)
theorem Inv.cne (I:Inv X pins Z H s):∀x c,X.env.cells.lookup x=some c->c≠X.env.locals:=fun x c e z=>by
 obtain⟨v,o,ho,hd⟩:=I.cell x c e;obtain⟨m,⟨o',es,ep,ho',hd',_⟩,_⟩:=I.loc;rw[z,ho'] at ho;cases ho;rw[hd'] at hd;cases hd
theorem Inv.funs (I:Inv X pins Z H s):s.heap.FunFrames X.base X.outer:=by
 have all:∀(l:List Env),(∀b∈frs l,b∈X.fs)->X.s₀.heap.FunFrames X.base l->s.heap.FunFrames X.base l:=by
  intro l;induction l with
  |nil=>intro _ _;trivial
  |cons env r ih =>
  intro hs hl;obtain ⟨hk,⟨L,o,hf,hn,ho,hd⟩,hr⟩:=hl;have hL : L ∈ X.fs:=hs L (by unfold frs; rw [List.filterMap_cons,hf]; exact t_);obtain ⟨sl,e⟩:=I.base.slot L o ho (I.ok.frf L hL) hL fun z => I.ok.exfs L z hL;exact ⟨hk,⟨L,_,hf,hn,e,hd⟩,ih (fun b hb => hs b (by unfold frs; rw [List.filterMap_cons,hf]; exact v_ _ hb)) hr⟩
 exact all X.outer (fun _ hb=>hb) I.ok.funs
theorem Inv.stack (I:Inv X pins Z H s):s.heap.FunFrames X.base X.stack:=by
 rcases I.ok.stk with e | ⟨e,hf⟩
 ·rw[e];exact I.funs
 rw[e];obtain⟨m,hn,_⟩:=I.loc;refine .cons (by rw[I.ok.kind];decide) hf hn ?_ I.funs;exact Heap.get?_none_of_le (U8 I.ok.bsz I.ok.above)
theorem Inv.stkSub (I:Inv X pins Z H s):∀b∈frs X.stack,b∈X.env.locals::X.fs:=fun b hb=>by
 rcases I.ok.stk with e | ⟨e,hf⟩
 ·rw[e] at hb;exact v_ _ hb
 rw [e] at hb;unfold frs at hb;rw [List.filterMap_cons,hf] at hb;exact hb
theorem Inv.stkFree (I:Inv X pins Z H s):∀b∈frs X.stack,H b=none:=fun b hb=>by
 rcases p_.mp (I.stkSub b hb) with e | hb
 ·rw[e];exact I.free
 obtain⟨_,o,ho,_⟩:=I.ok.funs.mem hb;exact I.base.free b o ho (I.ok.frf b hb) fun z=>I.ok.exfs b z hb
theorem Inv.step {g':Array GenState}{t':Nat}{d':Drawn}{ch:List Addr}(I:Inv X pins Z H s)
  (hch:∀b∈ch,(b∈X.ex\/X.s₀.heap.objs.size<=b)/\b≠X.env.locals/\(∀x c,X.env.cells.lookup x=some c->c≠b)/\∀p∈X.pn++pins,p.1≠b)
  (keep:∀b o,b≠X.env.locals->b∉X.fs->b∉ch->s.heap.get? b=some o->H b=none->h'.get? b=some o)
  (slot:∀b o,b≠X.env.locals->b∈X.fs->b∉ch->s.heap.get? b=some o->H b=none->∃sl,h'.get? b=some { o with slots:=sl}) (free:∀b o,b∉ch->s.heap.get? b=some o->H b=none->H' b=none)
  (there:∀b o,b∉ch->s.heap.get? b=some o->∃o',h'.get? b=some o')
  (tups:∀b xs,H b=some (.tup xs)->H' b=some (.tup xs)) (frzs:∀b o u,H b=some (.frz o u)->H' b=some (.frz o u)) (tbls:∀b ps,H b=some (.tbl ps)->∃more,H' b=some (.tbl (ps++more)))
  (ns:∀m,s.heap.Ns X.env.locals m->h'.Ns X.env.locals m) (hok:HOk X.prog X.w H' h') (hg:AllBare g') :
  Inv X pins Z H' { s with heap:=h',gens:=g',drawn:=d',toks:=t'}:=by
 have neL:∀b o,X.s₀.heap.get? b=some o->b≠X.env.locals:=fun b o e=>U9 (P_ (B_ e) I.ok.above);have neC:∀b o,X.s₀.heap.get? b=some o->b∉X.ex->b∉ch:=fun b o e hx hb=>by
  rcases (hch b hb).1 with z | z
  ·exact hx z
  exact absurd (P_ (B_ e) z) (Vc _)
 have cellK:∀x c,X.env.cells.lookup x=some c->∀v,s.heap.IsCell c v->h'.IsCell c v:=fun x c e v ⟨o,ho,hd⟩=>by
  have nch:c∉ch:=fun z=>(hch c z).2.2.1 x c e rfl;by_cases hc:c∈X.fs
  ·obtain⟨sl,q⟩:=slot c o (I.cne x c e) hc nch ho (I.freeC x c e);exact⟨_,q,hd⟩
  exact⟨o,keep c o (I.cne x c e) hc nch ho (I.freeC x c e),hd⟩
 refine⟨I.ok,I.os,hg,⟨fun b o e n hb hx=>?_,fun b o e n hb hx=>?_,fun b o e n hx=>?_,fun b o e hx=>?_,fun b xs e=>tups b xs (I.base.tups b xs e),fun b o xs e=>frzs b o xs (I.base.frzs b o xs e),fun b ps e=>?_⟩,?_,fun x c e=>?_,?_,fun x c e=>?_,fun p hp=>?_,hok,I.len⟩
 ·exact keep b o (neL b o e) hb (neC b o e hx) (I.base.keep b o e n hb hx) (I.base.free b o e n hx)
 ·obtain⟨sl,e1⟩:=I.base.slot b o e n hb hx;obtain⟨sl',e2⟩:=slot b _ (neL b o e) hb (neC b o e hx) e1 (I.base.free b o e n hx);exact⟨sl',e2⟩
 ·obtain⟨o',e1⟩:=I.base.there b o e hx;exact free b o' (neC b o e hx) e1 (I.base.free b o e n hx)
 ·obtain⟨o',e1⟩:=I.base.there b o e hx;exact there b o' (neC b o e hx) e1
 ·obtain⟨m1,e1⟩:=I.base.tbls b ps e;obtain⟨m2,e2⟩:=tbls b _ e1;exact⟨m1++m2,by rw[e2,Array.append_assoc]⟩
 ·obtain⟨m,hn,hl⟩:=I.loc;refine⟨m,ns m hn,fun i x v e1 e2 e3=>?_⟩;obtain⟨u,r,l⟩:=hl i x v e1 e2 e3;refine⟨u,r,?_⟩;rcases l with l | ⟨k,c,e,z⟩
  ·exact .inl l
  exact .inr ⟨k,c,e,cellK x c e _ z⟩
 ·obtain⟨v,z⟩:=I.cell x c e;exact⟨v,cellK x c e v z⟩
 ·obtain⟨m,⟨o,_,_,ho,_⟩,_⟩:=I.loc;exact free _ o (fun z=>(hch _ z).2.1 rfl) ho I.free
 ·obtain⟨v,o,ho,hd⟩:=I.cell x c e;exact free c o (fun z=>(hch c z).2.2.1 x c e rfl) ho (I.freeC x c e)
 obtain⟨e,n,ne,nf,d⟩:=I.pin p hp;have nch:p.1∉ch:=fun z=>(hch p.1 z).2.2.2 p hp rfl;exact⟨keep p.1 p.2 ne nf nch e n,free p.1 p.2 nch e n,ne,nf,d⟩
theorem Inv.un {t':Nat}(I:Inv X pins Z H s) (u:Un X.fs [] H H' s.heap h') (hok:HOk X.prog X.w H' h'):Inv X pins Z H' { s with heap:=h',toks:=t'}:=by
 obtain⟨m,⟨o,es,ep,ho,r⟩,_⟩:=id I.loc;obtain⟨sl,hL⟩:=u.any ho I.free (by simp);exact I.step (g':=s.gens) (d':=s.drawn) (ch:=[]) (fun _ z=>nomatch z) (fun b o _ hb _ e n=>u.keep b o e n hb (by simp)) (fun b o _ hb _ e n=>u.slot b o e n hb (by simp)) (fun b o _ e n=>u.free b o e n (by simp)) (fun b o _ e=>u.there b o e (by simp)) u.tups u.frzs u.tbls (fun m' hm=>by
  obtain⟨o',es',ep',ho',r'⟩:=hm
  rw[ho] at ho';cases ho'
  exact⟨_,es',ep',hL,r'⟩) hok I.bare
theorem Inv.call {g':Array GenState}{t':Nat}{d':Drawn}{ch:List Addr}(I:Inv X pins Z H s) (u:Un (frs X.stack) ch H H' s.heap h') (hok:HOk X.prog X.w H' h') (hg:AllBare g')
  (hch:∀b∈ch,(b∈X.ex\/X.s₀.heap.objs.size<=b)/\b≠X.env.locals/\(∀x c,X.env.cells.lookup x=some c->c≠b)/\∀p∈X.pn++pins,p.1≠b) :
  Inv X pins Z H' { s with heap:=h',gens:=g',drawn:=d',toks:=t'}:=by
 obtain⟨m,⟨o,es,ep,ho,r⟩,_⟩:=id I.loc;obtain⟨sl,hL⟩:=u.any ho I.free fun z=>(hch _ z).2.1 rfl;exact I.step (ch:=ch) hch (fun b o hL hb hc e n=>u.keep b o e n (fun z=>(p_.mp (I.stkSub b z)).elim hL hb) hc) (fun b o _ _ hc e n=>u.any e n hc) (fun b o hc e n=>u.free b o e n hc) (fun b o hc e=>u.there b o e hc) u.tups u.frzs u.tbls (fun m' hm=>by
  obtain⟨o',es',ep',ho',r'⟩:=hm
  rw[ho] at ho';cases ho'
  exact⟨_,es',ep',hL,r'⟩) hok hg
theorem Inv.turned {t':Nat}{it:Addr}(I:Inv X pins Z H s) (k:∀b o,b≠it->s.heap.get? b=some o->h'.get? b=some o) (hn:H it=none) (hL:it≠X.env.locals)
  (h1:it∈X.ex\/X.s₀.heap.objs.size<=it) (h2:∀x c,X.env.cells.lookup x=some c->c≠it) (h3:∀p∈X.pn++pins,p.1≠it):Inv X pins Z H { s with heap:=h',toks:=t'}:=by
 have nit:∀b u,H b=some u->b≠it:=fun b u e z=>by rw[z,hn] at e;cases e
 refine I.step (g':=s.gens) (d':=s.drawn) (ch:=[it]) (fun b hb=>?_) (fun b o _ _ hc e _=>k b o (fun z=>hc (by simp [z])) e) (fun b o _ _ hc e _=>⟨o.slots,k b o (fun z=>hc (by simp [z])) e⟩) (fun _ _ _ _ n=>n)
  (fun b o hc e=>⟨o,k b o (fun z=>hc (by simp [z])) e⟩) (fun _ _ e=>e) (fun _ _ _ e=>e) (fun b ps e=>⟨#[],by rw[e];simp⟩) (fun m hm=>?_) (fun b u e=>?_) I.bare
 ·have e:b=it:=by simpa using hb
  subst e;exact⟨h1,hL,h2,h3⟩
 ·obtain⟨o,es,ep,ho,r⟩:=hm;exact⟨o,es,ep,k _ o (Ne.symm hL) ho,r⟩
 refine (I.hok b u e).stay (fun c v hc q=>k c v ?_ q) (fun _ q=>q) fun _ _ q=>q;rcases hc with z | z
 ·rw[z];exact nit b u e
 exact nit c _ z
theorem Inv.tok (I:Inv X pins Z H s) (t:Nat):Inv X pins Z H { s with toks:=t}:=I.un (h':=s.heap) (t':=t) Un.refl I.hok
theorem Inv.kept {t':Nat}(I:Inv X pins Z H s) (k:∀b u,s.heap.get? b=some u->h'.get? b=some u):Inv X pins Z H { s with heap:=h',toks:=t'}:=I.un (Un.kept k) (I.hok.kept k)
theorem Inv.laid {a:Addr}{o:HO}{t':Nat}(I:Inv X pins Z H s) (k:∀b u,s.heap.get? b=some u->h'.get? b=some u) (hp:s.heap.objs.size<=a) (new:ObjOk X.prog X.w (upd H a o) h' a o) :
  Inv X pins Z (upd H a o) { s with heap:=h',toks:=t'}:=I.un (Un.laid k hp (I.hok.fresh hp)) (I.hok.laid k hp new)
theorem Inv.write {x e:Addr}{o:HO}{t':Nat}(I:Inv X pins Z H s) (mu:Mut (H x)) (he:e=x\/H e=some (.own x)) (k:∀b u,b≠e->s.heap.get? b=some u->h'.get? b=some u) (heo:∃u,h'.get? e=some u)
  (new:ObjOk X.prog X.w (upd H x o) h' x o):Inv X pins Z (upd H x o) { s with heap:=h',toks:=t'}:=I.un (Un.write mu he k heo) (I.hok.write mu he k heo new)
theorem Inv.pins_of {pins':List (Addr × Obj)}(I:Inv X pins Z H s) (h:∀p∈pins',s.heap.get? p.1=some p.2/\H p.1=none/\p.1≠X.env.locals/\p.1∉X.fs/\∀v,p.2.data≠.cell v):Inv X pins' Z H s :=
 ⟨I.ok,I.os,I.bare,I.base,I.loc,I.cell,I.free,I.freeC,fun p hp=>(D_.mp hp).elim (fun z=>I.pin p (Ve _ z)) (h p),I.hok,I.len⟩
theorem qu {N:List Str}(hN:N.Nodup) {i j:Nat}{x:Str}(a:N[i]?=some x) (b:N[j]?=some x):i=j:=by
 obtain⟨h1,e1⟩:=VG.mp a;obtain⟨h2,e2⟩:=VG.mp b;exact (List.getElem_inj hN).mp (e1.trans e2.symm)
theorem m7 {M:Model}{A:Around}{E:Value->Shared->Prop}{i:Nat}{x:Str}{v:V}{u:Value}{Q:Unit->Shared->Prop}(I:Inv X pins Z H s) (hN:X.N.Nodup) (hi:X.N[i]?=some x) (hx:Loc X.env.scope x) (r:RelV v u)
  (h:∀s',Inv X pins (Z.set i (some v)) H s'->(∃a,Heap.SameBut a s.heap s'.heap/\(a=X.env.locals\/X.env.cells.lookup x=some a))->Q () s') (hf:X.fn x=true\/X.env.scope.names.lookup x=some .local:=by first | exact .inl rfl | exact .inr rfl | assumption):wpAny M A (storeName X.env x u) Q E s:=by
 obtain⟨m,hn,hl⟩:=id I.loc;have hcls:(X.env.scope.kind==.class||(X.env.scope.kind==.module&&X.env.locals != X.env.globals))=false:=by rw[I.ok.kind];rfl
 have hiZ:i<Z.length:=by rw[I.len];exact (VG.mp hi).1
 have cne:=I.cne;have tracked:∀{a:Addr} {h':Heap},(∃o,s.heap.get? a=some o/\H a=none)->Heap.SameBut a s.heap h'->HOk X.prog X.w H h':=fun {a h'} ha hs b ob e=>by
  obtain⟨_,_,hfree⟩:=ha;refine (I.hok b ob e).stay (fun c w' hc q=>(hs.2 c ?_).trans q) (fun _ q=>q) fun _ _ q=>q;rintro rfl;rcases hc with rfl | hc
  ·rw[hfree] at e;cases e
  rw[hfree] at hc;cases hc
 rcases hx with hk | hk
 ·refine wpAny_storeName_local hk hn (fun h' hn' hs=>?_) hcls;obtain⟨oL,_,_,hoL,_⟩:=id hn;refine h _ ⟨I.ok,I.os,I.bare,⟨fun b o e n hb hx=>?_,fun b o e n hb hx=>?_,I.base.free,fun b o e hx=>?_,I.base.tups,I.base.frzs,I.base.tbls⟩,⟨_,hn',fun j y v' e1 e2 e3=>?_⟩,fun y c e=>?_,I.free,I.freeC,fun p hp=>?_,tracked ⟨oL,hoL,I.free⟩ hs,by simpa using I.len⟩ ⟨_,hs,.inl rfl⟩
  ·exact (hs.2 b (U9 (P_ (B_ e) I.ok.above))).trans (I.base.keep b o e n hb hx)
  ·obtain⟨sl,e1⟩:=I.base.slot b o e n hb hx;exact⟨sl,(hs.2 b (U9 (P_ (B_ e) I.ok.above))).trans e1⟩
  ·obtain⟨o',e1⟩:=I.base.there b o e hx;exact⟨o',(hs.2 b (U9 (P_ (B_ e) I.ok.above))).trans e1⟩
  ·by_cases hj:j=i
   ·subst hj;rw[hi] at e1;cases e1;rw[Xo hiZ] at e2;cases e2;exact⟨u,r,.inl ⟨hk,by simp⟩⟩
   rw[XH (Ne.symm hj)] at e2;obtain⟨u',r',q⟩:=hl j y v' e1 e2 e3;refine⟨u',r',?_⟩;rcases q with ⟨k,e⟩ | ⟨k,c,e,z⟩
   ·refine .inl ⟨k,?_⟩;have:y≠x:=fun e=>hj (qu hN e1 (e▸hi));simp [this,e]
   exact .inr ⟨k,c,e,z.sameBut hs (cne y c e)⟩
  ·obtain⟨w',z⟩:=I.cell y c e;exact⟨w',z.sameBut hs (cne y c e)⟩
  obtain⟨e,n,ne,nf,d⟩:=I.pin p hp;exact⟨(hs.2 p.1 ne).trans e,n,ne,nf,d⟩
 have hfn:X.fn x=true:=by
  rcases hf with z | z
  ·exact z
  rw[z] at hk;cases hk
 obtain⟨c,hc⟩:=I.ok.has x (.inl hk);obtain⟨w',z⟩:=I.cell x c hc;refine wpAny_storeName_cell I.ok.kind hk hc z (fun h' hc' hs=>?_);obtain⟨oc,hoc,hocd⟩:=id z;refine h { s with heap:=h'} ⟨I.ok,I.os,I.bare,⟨fun b o e n hb hx=>?_,fun b o e n hb hx=>?_,I.base.free,fun b o e hx=>?_,I.base.tups,I.base.frzs,I.base.tbls⟩,⟨m,hn.sameBut hs (Ne.symm (cne x c hc)),fun j y v' e1 e2 e3=>?_⟩,fun y c' e=>?_,I.free,I.freeC,fun p hp=>?_,tracked ⟨oc,hoc,I.freeC x c hc⟩ hs,by simpa using I.len⟩ ⟨c,hs,.inr hc⟩
 ·exact (hs.2 b (U9 (P_ (B_ e) (I.ok.cab x c hfn hc)))).trans (I.base.keep b o e n hb hx)
 ·obtain⟨sl,e1⟩:=I.base.slot b o e n hb hx;exact⟨sl,(hs.2 b (U9 (P_ (B_ e) (I.ok.cab x c hfn hc)))).trans e1⟩
 ·obtain⟨o',e1⟩:=I.base.there b o e hx;exact⟨o',(hs.2 b (U9 (P_ (B_ e) (I.ok.cab x c hfn hc)))).trans e1⟩
 ·by_cases hj:j=i
  ·subst hj;rw[hi] at e1;cases e1;rw[Xo hiZ] at e2;cases e2;exact⟨u,r,.inr ⟨.inl hk,c,hc,hc'⟩⟩
  rw[XH (Ne.symm hj)] at e2;obtain⟨u',r',q⟩:=hl j y v' e1 e2 e3;refine⟨u',r',?_⟩;rcases q with q | ⟨k,c',e,z'⟩
  ·exact .inl q
  refine .inr ⟨k,c',e,z'.sameBut hs ?_⟩;rintro rfl;exact hj (qu hN e1 (I.ok.inj _ _ _ e hc▸hi))
 ·by_cases hcc:c'=c
  ·subst hcc;exact⟨_,hc'⟩
  obtain⟨w2,z2⟩:=I.cell y c' e;exact⟨w2,z2.sameBut hs hcc⟩
 obtain⟨e,n,ne,nf,d⟩:=I.pin p hp;refine⟨(hs.2 p.1 ?_).trans e,n,ne,nf,d⟩;intro q;rw[q,hoc] at e;have q':oc=p.2:=U6 e;exact d w' (by rw[<- q'];exact hocd)
theorem qw {M:Model}{A:Around}{E:Value->Shared->Prop}{i:Nat}{x:Str}{v:V}{u:Value}{Q:Unit->Shared->Prop}(I:Inv X pins Z H s) (hN:X.N.Nodup) (hi:X.N[i]?=some x) (hx:Loc X.env.scope x) (r:RelV v u)
  (h:∀s',Inv X pins (Z.set i (some v)) H s'->Q () s') (hf:X.fn x=true\/X.env.scope.names.lookup x=some .local:=by first | exact .inl rfl | exact .inr rfl | assumption):wpAny M A (storeName X.env x u) Q E s :=
 m7 I hN hi hx r (fun s' I' _=>h s' I') hf
theorem Inv.call' {s':Shared}{ch:List Addr}(I:Inv X pins Z H s) (ho:s'.os=s.os) (u:Un (frs X.stack) ch H H' s.heap s'.heap) (hok:HOk X.prog X.w H' s'.heap) (hg:AllBare s'.gens)
  (hch:∀b∈ch,(b∈X.ex\/X.s₀.heap.objs.size<=b)/\b≠X.env.locals/\(∀x c,X.env.cells.lookup x=some c->c≠b)/\∀p∈X.pn++pins,p.1≠b):Inv X pins Z H' s':=by
 obtain⟨h',g',d',t',o'⟩:=s';have e:o'=s.os:=ho;subst e;exact I.call (g':=g') (t':=t') (d':=d') u hok hg hch
end
abbrev XK:=Value->Option Addr->Hp->Prop
abbrev St:=List (Option V)
abbrev VK:=V->Hp->Prop
abbrev TE:=St->Hp->VK->Prop
abbrev TT:=St->Hp->(Bool->Hp->Prop)->Prop
abbrev TA:=St->Hp->(List V->Hp->Prop)->Prop
structure Ends where
 nx:St->Hp->Prop
 rt:VK
 bk:St->Hp->Prop:=fun _ _=>False
 ct:St->Hp->Prop:=fun _ _=>False
abbrev TS:=Ends->St->Hp->Prop
def EP (X:Cx) (pins:List (Addr × Obj)) (Z:St) (Q:VK) (u:Value) (s':Shared):Prop:=∃v H',Inv X pins Z H' s'/\RelV v u/\Q v H'
def TP (X:Cx) (pins:List (Addr × Obj)) (Z:St) (Q:Bool->Hp->Prop) (b:Bool) (s':Shared):Prop:=∃H',Inv X pins Z H' s'/\Q b H'
def AP (X:Cx) (pins:List (Addr × Obj)) (Z:St) (Q:List V->Hp->Prop) (us:List Value) (s':Shared):Prop:=∃vs H',Inv X pins Z H' s'/\Vals vs us/\Q vs H'
def SP (X:Cx) (pins:List (Addr × Obj)) (D:Ends) (f:Flow) (s':Shared):Prop :=
 match f with
 |.next=>∃Z' H',Inv X pins Z' H' s'/\D.nx Z' H'
 |.brk=>∃Z' H',Inv X pins Z' H' s'/\D.bk Z' H'
 |.cont=>∃Z' H',Inv X pins Z' H' s'/\D.ct Z' H'
 |.ret u=>∃v Z' H',Inv X pins Z' H' s'/\RelV v u/\D.rt v H'
def PE (X:Cx) (e:Expr) (t:TE):Prop :=
 ∀(pins:List (Addr × Obj)) (s:Shared) (Z:St) (H:Hp) (Q:VK),Inv X pins Z H s->t Z H Q->wpAny (model X.prog X.w) X.A (eval e X.env) (EP X pins Z Q) X.xe s
def PT (X:Cx) (e:Expr) (t:TT):Prop :=
 ∀(pins:List (Addr × Obj)) (s:Shared) (Z:St) (H:Hp) (Q:Bool->Hp->Prop),Inv X pins Z H s->t Z H Q->wpAny (model X.prog X.w) X.A (isTrue e X.env (eval e X.env)) (TP X pins Z Q) X.xe s
def PW (X:Cx) (e:Expr) (t:TT):Prop :=
 ∀(whole:Sem Value) (pins:List (Addr × Obj)) (s:Shared) (Z:St) (H:Hp) (Q:Bool->Hp->Prop),Inv X pins Z H s->t Z H Q->wpAny (model X.prog X.w) X.A (isTrue e X.env whole) (TP X pins Z Q) X.xe s
theorem PW.pt {X:Cx}{e:Expr}{t:TT}(h:PW X e t):PT X e t:=h _
def PA (X:Cx) (es:List Expr) (t:TA):Prop :=
 ∀(pos:Pos) (pins:List (Addr × Obj)) (s:Shared) (Z:St) (H:Hp) (Q:List V->Hp->Prop),Inv X pins Z H s->t Z H Q->wpAny (model X.prog X.w) X.A (spliced (backTo pos (starEach es X.env))) (AP X pins Z Q) X.xe s
def PS (X:Cx) (st:Stmt) (t:TS):Prop :=
 ∀(pins:List (Addr × Obj)) (s:Shared) (Z:St) (H:Hp) (D:Ends),Inv X pins Z H s->t D Z H->wpAny (model X.prog X.w) X.A (exec st X.env) (SP X pins D) X.xe s
def PSs (X:Cx) (st:List Stmt) (t:TS):Prop :=
 ∀(pins:List (Addr × Obj)) (s:Shared) (Z:St) (H:Hp) (D:Ends),Inv X pins Z H s->t D Z H->wpAny (model X.prog X.w) X.A (execs st X.env) (SP X pins D) X.xe s
theorem thn {α:Type}{t:Sem α}{Q Q':α->Shared->Prop}{M:Model}{A:Around}{E:Value->Shared->Prop}{s:Shared}(h:wpAny M A t Q E s) (hQ:∀a s,Q a s->Q' a s):wpAny M A t Q' E s:=V0 h hQ fun _ _ x=>x
section
variable {X:Cx}
def O2 (i:Nat):TE:=fun Z H Q=>∃v,Z[i]?=some (some v)/\Q v H
def tC (v:V):TE:=fun _ H Q=>Q v H
theorem J1 {i:Nat}{x:Str}{pos:Pos}(hN:X.N[i]?=some x) (hv:Vis X.env.scope x) (hd:(x==("__debug__":Str))=false:=by decide) (hcd:(x==("__classdict__":Str))=false:=by decide):PE X (.Name x pos) (O2 i):=by
 intro pins s Z H Q I h;obtain⟨v,e,h⟩:=h;obtain⟨m,hn,hl⟩:=I.loc;obtain⟨u,r,l⟩:=hl i x v hN e hv;have fin:EP X pins Z Q u s:=⟨v,H,I,r,h⟩;rcases l with ⟨hk,hm⟩ | ⟨hk,c,hc,hcell⟩
 ·exact wpAny_Name (wpAny_loadName_local I.ok.kind hk hn hm fin) hd
 rcases hk with hk | hk
 ·exact wpAny_Name (wpAny_loadName_cell I.ok.kind hk hc hcell fin) hd
 exact wpAny_Name (wpAny_loadName_free I.ok.kind hk hc hcell fin hcd) hd
theorem J2 {i j pos}:PE X (.Constant (.int i) j pos) (tC (.int i)):=fun _ _ _ H _ I h=>wpAny_Constant_int ⟨.int i,H,I.tok _,⟨_,rfl⟩,h⟩
theorem O4 {b j pos}:PE X (.Constant (.bool b) j pos) (tC (.bl b)):=fun _ _ _ H _ I h=>Constant_bool ⟨.bl b,H,I,rfl,h⟩
theorem J3 {j pos}:PE X (.Constant .none j pos) (tC .non):=fun _ _ _ H _ I h=>Constant_none ⟨.non,H,I,rfl,h⟩
theorem J4 {x j pos}:PE X (.Constant (.str x) j pos) (tC (.str x)):=fun _ _ _ H _ I h=>Calls.Constant_str ⟨.str x,H,I.tok _,⟨_,rfl⟩,h⟩
def Gl (X:Cx) (x:Str):Prop:=X.env.kindOf x=some .globalImplicit
theorem uT {E:Value->Shared->Prop}{pins:List (Addr × Obj)}{s:Shared}{Z:St}{H:Hp}{x:Str}{u:Value}{pos:Pos}{Q:Value->Shared->Prop}(I:Inv X pins Z H s) (hg:Gl X x) (hm:X.mg x=some u) (h:Q u s)
  (hd:(x==("__debug__":Str))=false:=by decide):wpAny (model X.prog X.w) X.A (eval (.Name x pos) X.env) Q E s :=
 Calls.Name_function_global I.ok.kind hg (Calls.loadGlobal_global (by rw[I.ok.glob];exact I.mod.glob.keeps I.bk) hm h) hd
theorem dq {E:Value->Shared->Prop}{pins:List (Addr × Obj)}{s:Shared}{Z:St}{H:Hp}{x:Str}{u:Value}{pos:Pos}{Q:Value->Shared->Prop}(I:Inv X pins Z H s) (hg:Gl X x) (hm:X.mg x=none) (hv:bootBuiltins x=some u) (h:Q u s)
  (hn:x≠"__name__":=by decide) (hd:(x==("__debug__":Str))=false:=by decide):wpAny (model X.prog X.w) X.A (eval (.Name x pos) X.env) Q E s:=by
 obtain⟨mb,h1,h2⟩:=I.mod.blt;exact Calls.Name_function_global I.ok.kind hg (Calls.loadGlobal_builtin (by rw[I.ok.glob];exact I.mod.glob.keeps I.bk) hm (by rw[I.ok.blt];exact h1.keeps I.bk) ((h2 x hn).trans hv) h) hd
variable {a b:Expr}{ta tb:TE}{pos:Pos}
def PC (X:Cx) (op:CmpOp) (a b:Expr) (t:TE):Prop :=
 ∀(pins:List (Addr × Obj)) (s:Shared) (Z:St) (H:Hp) (Q:VK),Inv X pins Z H s->t Z H Q ->
  wpAny (model X.prog X.w) X.A (eval a X.env) (fun v s₁=>wpAny (model X.prog X.w) X.A (eval b X.env) (fun u s₂=>wpAny (model X.prog X.w) X.A (compareOp op v u) (EP X pins Z Q) X.xe s₂) X.xe s₁) X.xe s
theorem yP (b:Expr) {op:CmpOp}(h:op≠.In) (h2:op≠.NotIn):behindInMarks op b=false:=by
 have e1:(op==CmpOp.In)=false:=by cases op <;> first | rfl | exact absurd rfl h
 have e2:(op==CmpOp.NotIn)=false:=by cases op <;> first | rfl | exact absurd rfl h2
 cases b <;> simp [behindInMarks,e1,e2]
def tB (t:TE):TT:=fun Z H Q=>t Z H fun x H1=>∃c,x=.bl c/\Q c H1
theorem sX {op:CmpOp}{t:TE}(h:PC X op a b t) (h1:behindInMarks op b=false:=by first | exact yP _ (by decide) (by decide) | rfl):PT X (.Compare a [op] [b] pos) (tB t):=by
 intro pins s Z H Q I hw;refine wpAny_isTrue_Compare1 (thn (h pins s Z H _ I hw) fun v s1 h1=>thn h1 fun u s2 h2=>thn h2 fun c s3 ⟨x,H1,I1,r1,q1⟩=>?_) h1;obtain⟨d,rfl,q⟩:=q1;cases r1;exact W0 ⟨H1,I1,q⟩
theorem J5 {e:Expr}{t:TE}(h:PE X e t) (he:∀whole,isTrue e X.env whole=(do let v <- whole;standAt e.pos;holding [v] (truthy v)):=by intro _;rfl):PT X e (tB t):=by
 intro pins s Z H Q I hw;refine isTrue_plain (thn (h pins s Z H _ I hw) fun v s1 ⟨x,H1,I1,r1,q1⟩=>?_) (he _);obtain⟨d,rfl,q⟩:=q1;cases r1;exact W0 ⟨H1,I1,q⟩
variable {tA tB':TT}{rest:List Expr}
def TF (t u:TT):TT:=fun Z H Q=>t Z H fun c H1=>if c=true then u Z H1 Q else Q false H1
def tOr (t u:TT):TT:=fun Z H Q=>t Z H fun c H1=>if c=true then Q true H1 else u Z H1 Q
def TJ (t:TT):TT:=fun Z H Q=>t Z H fun c H1=>Q (!c) H1
theorem DQ (ha:PT X a tA):PW X (.BoolOp .And [a] pos) tA:=by
 intro wh pins s Z H Q I h;refine isTrue_and (thn (ha pins s Z H Q I h) fun c s1 e=>?_);cases c with
 |true=>exact isTrue_and_nil e
 |false=>exact e
theorem J6 (ha:PT X a tA):PW X (.BoolOp .Or [a] pos) tA:=by
 intro wh pins s Z H Q I h;refine isTrue_or (thn (ha pins s Z H Q I h) fun c s1 e=>?_);cases c with
 |false=>exact isTrue_or_nil e
 |true=>exact e
theorem J7 (ha:PT X a tA) (hb:PW X (.BoolOp .And (b::rest) pos) tB'):PW X (.BoolOp .And (a::b::rest) pos) (TF tA tB'):=by
 intro wh pins s Z H Q I h;refine isTrue_and (thn (ha pins s Z H _ I h) fun c s1 ⟨H1,I1,q1⟩=>?_);cases c with
 |true=>exact hb wh pins s1 Z H1 Q I1 q1
 |false=>exact⟨H1,I1,q1⟩
theorem O5 (ha:PT X a tA) (hb:PW X (.BoolOp .Or (b::rest) pos) tB'):PW X (.BoolOp .Or (a::b::rest) pos) (tOr tA tB'):=by
 intro wh pins s Z H Q I h;refine isTrue_or (thn (ha pins s Z H _ I h) fun c s1 ⟨H1,I1,q1⟩=>?_);cases c with
 |true=>exact⟨H1,I1,q1⟩
 |false=>exact hb wh pins s1 Z H1 Q I1 q1
theorem J8 (ha:PT X a tA):PT X (.UnaryOp .Not a pos) (TJ tA):=by
 intro pins s Z H Q I h;exact isTrue_not (ha pins s Z H (fun c H1=>Q (!c) H1) I h)
def O6 (ta tb:TE):TE:=fun Z H Q=>ta Z H fun x H1=>∃c,x=.bl c/\if c=true then tb Z H1 Q else Q (.bl false) H1
def TQ (ta tb:TE):TE:=fun Z H Q=>ta Z H fun x H1=>∃c,x=.bl c/\if c=true then Q (.bl true) H1 else tb Z H1 Q
theorem J9 {op}{t:TE}(h:PE X a t):PE X (.BoolOp op [a] pos) t:=fun pins s Z H Q I hw=>BoolOp_one (h pins s Z H Q I hw)
theorem Ka (ha:PE X a ta) (hb:PE X (.BoolOp .And (b::rest) pos) tb):PE X (.BoolOp .And (a::b::rest) pos) (O6 ta tb):=by
 intro pins s Z H Q I h;refine BoolOp_and (thn (ha pins s Z H _ I h) fun v s1 ⟨x,H1,I1,r1,q1⟩=>?_);obtain⟨c,rfl,q1⟩:=q1;cases r1;refine W0 ?_;cases c with
 |true=>exact hb pins s1 Z H1 Q I1 q1
 |false=>exact⟨.bl false,H1,I1,rfl,q1⟩
theorem O7 (ha:PE X a ta) (hb:PE X (.BoolOp .Or (b::rest) pos) tb):PE X (.BoolOp .Or (a::b::rest) pos) (TQ ta tb):=by
 intro pins s Z H Q I h;refine BoolOp_or (thn (ha pins s Z H _ I h) fun v s1 ⟨x,H1,I1,r1,q1⟩=>?_);obtain⟨c,rfl,q1⟩:=q1;cases r1;refine W0 ?_;cases c with
 |false=>exact hb pins s1 Z H1 Q I1 q1
 |true=>exact⟨.bl true,H1,I1,rfl,q1⟩
end
def SqL (K:Frag) (H:Hp) (a:Addr) (xs:List V):Prop :=
 Rd H a (.lst xs) \/
  ∃(o:Obj) (its:Array Value) (n:Nat),K.lookup a=some o/\o.cls=.type "list"/\o.dict=none/\o.data=.seq its n/\its.size<=sizeLine/\Vals xs its.toList
def SqT (K:Frag) (H:Hp) (a:Addr) (xs:List V):Prop :=
 Rd H a (.tup xs) \/
  ∃(o:Obj) (its:Array Value) (n:Nat),K.lookup a=some o/\o.cls=.type "tuple"/\o.dict=none/\o.data=.seq its n/\its.size<=sizeLine/\Vals xs its.toList
def TV:Value->Option V
 |.none=>some .non
 |.bool b=>some (.bl b)
 |.int i _=>some (.int i)
 |.str x _=>some (.str x)
 |.bytes b _=>some (.byt b)
 |.float b _=>some (.flt b)
 |.ref a=>some (.ref a)
 |.type n=>some (.ty n)
 |_=>none
theorem RelV.abs {x:V}{u:Value}(r:RelV x u):TV u=some x:=by
 cases x with
 |non=>cases r;rfl
 |bl _=>cases r;rfl
 |int _=>obtain⟨t,rfl⟩:=r;rfl
 |str _=>obtain⟨t,rfl⟩:=r;rfl
 |byt _=>obtain⟨t,rfl⟩:=r;rfl
 |flt _=>obtain⟨t,rfl⟩:=r;rfl
 |ref _=>cases r;rfl
 |ty _=>cases r;rfl
theorem RelV.inj {x y:V}{u:Value}(r:RelV x u) (q:RelV y u):x=y:=U6 (r.abs.symm.trans q.abs)
theorem Vals.inj {xs ys:List V}{us:List Value}(h:Vals xs us) (h':Vals ys us):xs=ys:=by
 induction h generalizing ys with
 |nil=>cases h';rfl
 |cons r t ih =>
 cases h' with
 |cons r' t'=>rw[r.inj r',ih t']
section
variable {X:Cx}{pins:List (Addr × Obj)}{Z:St}{H:Hp}{s:Shared}{a:Addr}{xs ys:List V}
theorem SqL.of {K:Frag}(h:H a=some (.lst xs)):SqL K H a xs:=.inl (.inl h)
theorem SqT.of {K:Frag}(h:H a=some (.tup xs)):SqT K H a xs:=.inl (.inl h)
theorem Inv.list (I:Inv X pins Z H s) (h:SqL X.K H a xs):∃its:List Value,Vals xs its/\PlainL s.heap a its.toArray/\xs.length<=sizeLine:=by
 rcases h with h | ⟨o,its,n,hk,hc,hd,hs,hz,r⟩
 ·obtain⟨z,its,n,r,e⟩:=h.ok I.hok;exact⟨its,r,⟨_,n,e,rfl,rfl,rfl⟩,z⟩
 refine⟨its.toList,r,⟨o,n,I.kIn a o hk,hc,hd,by simpa using hs⟩,?_⟩;have e:=r.length;simp only[Vl] at e;omega
theorem Inv.tuple (I:Inv X pins Z H s) (h:SqT X.K H a xs):∃its:List Value,Vals xs its/\IsTup s.heap a its.toArray/\xs.length<=sizeLine:=by
 rcases h with h | ⟨o,its,n,hk,hc,_,hs,hz,r⟩
 ·obtain⟨z,its,r,p⟩:=h.ok I.hok;exact⟨its,r,p.is,z⟩
 refine⟨its.toList,r,⟨o,I.kIn a o hk,hc,n,by simpa using hs⟩,?_⟩;have e:=r.length;simp only[Vl] at e;omega
theorem Inv.list_inj (I:Inv X pins Z H s) (h:SqL X.K H a xs) (h':SqL X.K H a ys):xs=ys:=by
 obtain⟨its,r,⟨o,n,e,_,_,d⟩,_⟩:=I.list h;obtain⟨its',r',⟨o',n',e',_,_,d'⟩,_⟩:=I.list h';rw[e] at e';cases e';rw[d] at d';injection d' with d1 _;have:its=its':=by simpa using Q_ Array.toList d1
 subst this;exact r.inj r'
theorem Inv.tuple_inj (I:Inv X pins Z H s) (h:SqT X.K H a xs) (h':SqT X.K H a ys):xs=ys:=by
 obtain⟨its,r,⟨o,e,_,n,d⟩,_⟩:=I.tuple h;obtain⟨its',r',⟨o',e',_,n',d'⟩,_⟩:=I.tuple h';rw[e] at e';cases e';rw[d] at d';injection d' with d1 _;have:its=its':=by simpa using Q_ Array.toList d1
 subst this;exact r.inj r'
end
abbrev Cx.wish (X:Cx) (E:Value->Shared->Prop):Cx:={ X with xe:=E}
abbrev Cx.nox (X:Cx):Cx:=X.wish fun _ _=>False
theorem Cx.Ok.wish {X:Cx}(ok:X.Ok) (E:Value->Shared->Prop):(X.wish E).Ok :=
 ⟨ok.mod,ok.kind,ok.glob,ok.blt,ok.above,ok.inj,ok.has,ok.cab,ok.hd,ok.frames,ok.stk,ok.exf,ok.bs,ok.bsz,ok.noex,ok.exfs,ok.funs,ok.frf⟩
theorem Cx.Ok.unwish {X:Cx}{E:Value->Shared->Prop}(ok:(X.wish E).Ok):X.Ok :=
 ⟨ok.mod,ok.kind,ok.glob,ok.blt,ok.above,ok.inj,ok.has,ok.cab,ok.hd,ok.frames,ok.stk,ok.exf,ok.bs,ok.bsz,ok.noex,ok.exfs,ok.funs,ok.frf⟩
section
variable {X:Cx}{pins:List (Addr × Obj)}{Z:St}{H:Hp}{s:Shared}{E:Value->Shared->Prop}
theorem Inv.wish (I:Inv X pins Z H s) (E:Value->Shared->Prop):Inv (X.wish E) pins Z H s:=⟨I.ok.wish E,I.os,I.bare,I.base,I.loc,I.cell,I.free,I.freeC,I.pin,I.hok,I.len⟩
theorem Inv.unwish (I:Inv (X.wish E) pins Z H s):Inv X pins Z H s:=⟨I.ok.unwish,I.os,I.bare,I.base,I.loc,I.cell,I.free,I.freeC,I.pin,I.hok,I.len⟩
theorem SP.unwish {D:Ends}{f:Flow}{s':Shared}(h:SP (X.wish E) pins D f s'):SP X pins D f s':=by
 cases f with
 |next=>obtain⟨Z',H',I,q⟩:=h;exact⟨Z',H',I.unwish,q⟩
 |brk=>obtain⟨Z',H',I,q⟩:=h;exact⟨Z',H',I.unwish,q⟩
 |cont=>obtain⟨Z',H',I,q⟩:=h;exact⟨Z',H',I.unwish,q⟩
 |ret u=>obtain⟨v,Z',H',I,r,q⟩:=h;exact⟨v,Z',H',I.unwish,r,q⟩
theorem PSs.nox {st:List Stmt}{t:TS}(h:PSs X.nox st t):PSs X st t:=fun pins s Z H D I hw =>
 V0 (h pins s Z H D (I.wish _) hw) (fun _ _ q=>q.unwish) fun _ _ z=>False.elim z
variable {st:Stmt}{rest:List Stmt}{t u:TS}{e:Expr}{te:TE}{pos:Pos}
def O8:TS:=fun D Z H=>D.nx Z H
def TX (t u:TS):TS:=fun D Z H=>t { D with nx:=u D} Z H
theorem DR:PSs X [] O8:=fun _ _ Z H _ I h=>wpAny_execs_nil ⟨Z,H,I,h⟩
theorem yQ (h1:PS X st t) (h2:PSs X rest u):PSs X (st::rest) (TX t u):=by
 intro pins s Z H D I h;refine wpAny_execs_cons (thn (h1 pins s Z H { D with nx:=u D} I h) fun f s1 q=>?_);cases f with
 |next=>obtain⟨Z',H',I',q⟩:=q;exact h2 pins s1 Z' H' D I' q
 |ret v=>exact q
 |brk=>exact q
 |cont=>exact q
theorem DW (h1:PS X st t):PSs X [st] t:=by
 intro pins s Z H D I h;refine wpAny_execs_cons (thn (h1 pins s Z H D I h) fun f s1 q=>?_);cases f with
 |next=>exact wpAny_execs_nil q
 |ret v=>exact q
 |brk=>exact q
 |cont=>exact q
theorem Inv.quiet {pins:List (Addr × Obj)}{Z:St}{H:Hp}{s:Shared}(I:Inv X pins Z H s):interactive X.env=false:=by simp [interactive,I.ok.kind]
def O9 (te:TE):TS:=fun D Z H=>te Z H fun _ H1=>D.nx Z H1
theorem DX (he:PE X e te) (hs:swapsWith e none pos.line X.env=pure false:=by rfl):PS X (.Expr e pos) (O9 te):=by
 intro pins s Z H D I h;exact wpAny_Expr_any (thn (he pins s Z H _ I h) fun v s1 ⟨x,H1,I1,r1,q1⟩=>⟨Z,H1,I1,q1⟩) I.quiet hs
def TY (te:TE):TS:=fun D Z H=>te Z H D.rt
theorem Kc (he:PE X e te):PS X (.Return (some e) pos) (TY te):=by
 intro pins s Z H D I h;exact wpAny_Return_some (thn (he pins s Z H _ I h) fun v s1 ⟨x,H1,I1,r1,q1⟩=>⟨x,Z,H1,I1,r1,q1⟩)
def T3 (c:TT) (t u:TS):TS:=fun D Z H=>c Z H fun b H1=>if b=true then t D Z H1 else u D Z H1
theorem Pa {c:Expr}{a b:List Stmt}{tc:TT}(hc:PT X c tc) (ha:PSs X a t) (hb:PSs X b u):PS X (.If c a b pos) (T3 tc t u):=by
 intro pins s Z H D I h;refine wpAny_If (thn (hc pins s Z H _ I h) fun d s1 ⟨H1,I1,q1⟩=>?_);cases d with
 |true=>exact ha pins s1 Z H1 D I1 q1
 |false=>exact hb pins s1 Z H1 D I1 q1
end
abbrev TG:=V->St->Hp->(St->Hp->Prop)->Prop
abbrev TGs:=List V->St->Hp->(St->Hp->Prop)->Prop
def PG (X:Cx) (target:Expr) (t:TG):Prop :=
 ∀(pins:List (Addr × Obj)) (s:Shared) (Z:St) (H:Hp) (v:V) (u:Value) (Q:St->Hp->Prop),Inv X pins Z H s->RelV v u->t v Z H Q ->
  wpAny (model X.prog X.w) X.A (assign target X.env u) (fun _ s'=>∃Z' H',Inv X pins Z' H' s'/\Q Z' H') X.xe s
def PGs (X:Cx) (ts:List Expr) (t:TGs):Prop :=
 ∀(pins:List (Addr × Obj)) (s:Shared) (Z:St) (H:Hp) (vs:List V) (us:List Value) (Q:St->Hp->Prop),Inv X pins Z H s->Vals vs us->t vs Z H Q ->
  wpAny (model X.prog X.w) X.A (assignInOrder ((assignEach ts X.env).map (·.2)) us) (fun _ s'=>∃Z' H',Inv X pins Z' H' s'/\Q Z' H') X.xe s
abbrev yR:=V->V->V->Hp->(Hp->Prop)->Prop
def PSet (X:Cx) (t:yR):Prop :=
 ∀(pins:List (Addr × Obj)) (s:Shared) (Z:St) (H:Hp) (o i v:V) (ov iv u:Value) (Q:Hp->Prop),Inv X pins Z H s->RelV o ov->RelV i iv->RelV v u->t o i v H Q ->
  wpAny (model X.prog X.w) X.A (setItem ov iv u) (fun _ s'=>∃H',Inv X pins Z H' s'/\Q H') X.xe s
section
variable {X:Cx}{pos:Pos}
def HW (i:Nat):TG:=fun v Z H Q=>Q (Z.set i (some v)) H
theorem DY {i:Nat}{x:Str}(hN:X.N.Nodup) (hi:X.N[i]?=some x) (hx:Loc X.env.scope x) (hf:X.fn x=true\/X.env.scope.names.lookup x=some .local:=by first | exact .inl rfl | exact .inr rfl | assumption):PG X (.Name x pos) (HW i):=by
 intro pins s Z H v u Q I r h;exact wpAny_assign_Name (qw I hN hi hx r (fun s' I'=>⟨_,H,I',h⟩) hf)
def T4:TGs:=fun vs Z H Q=>vs=[]/\Q Z H
def Pb (t:TG) (u:TGs):TGs:=fun vs Z H Q=>∃v r,vs=v::r/\t v Z H fun Z' H'=>u r Z' H' Q
theorem Ea:PGs X [] T4:=by
 intro pins s Z H vs us Q I r h;obtain⟨e,h⟩:=h;subst e;cases r;exact assignInOrder_nil ⟨Z,H,I,h⟩
theorem yS {e:Expr}{es:List Expr}{t:TG}{u:TGs}(h1:PG X e t) (h2:PGs X es u)
  (hs:(assignEach (e::es) X.env).map (·.2)=assign e X.env::(assignEach es X.env).map (·.2):=by rfl):PGs X (e::es) (Pb t u):=by
 intro pins s Z H vs us Q I r h;obtain⟨v,vr,e1,h⟩:=h;subst e1;cases r with
 |cons r rr =>
 rw[hs];refine assignInOrder_cons (thn (h1 pins s Z H _ _ _ I r h) fun _ s1 ⟨Z1,H1,I1,q1⟩=>?_);exact h2 pins s1 Z1 H1 _ _ Q I1 rr q1
def T5 (K:Frag) (n:Nat) (t:TGs):TG:=fun v Z H Q=>∃a xs,v=.ref a/\SqT K H a xs/\xs.length=n/\t xs Z H Q
theorem Kd {es:List Expr}{k:Nat}{t:TGs}{n:Nat}(hc:X.calm=true) (h:PGs X es t)
  (hn:(assignEach es X.env).length=n:=by rfl) (hst:(assignEach es X.env).findIdx? (·.1)=none:=by rfl):PG X (.Tuple es k pos) (T5 X.K n t):=by
 intro pins s Z H v u Q I r hw;obtain⟨a,xs,e1,hq,hl,hw⟩:=hw;subst e1;cases r;obtain⟨its,rv,ht,hz⟩:=I.tuple hq;refine assign_Tuple_tuple (I.ok.hd hc) ht (by simp [hn,<- hl,rv.length]) hst fun h' hx=>?_;have I1:Inv X pins Z H { s with heap:=h'}:=I.kept (t':=s.toks) fun b o e=>hx b o (U9 (B_ e)) e;exact h pins _ Z H xs _ Q I1 (by simpa using rv) hw
def T6 (to ti:TE) (t:yR):TG:=fun v Z H Q=>to Z H fun o H1=>ti Z H1 fun i H2=>t o i v H2 fun H3=>Q Z H3
theorem Ke {o i:Expr}{to ti:TE}{t:yR}(ho:PE X o to) (hi:PE X i ti) (hs:PSet X t)
  (ha:∀v,assign (.Subscript o i pos) X.env v=(do
   let ov <- holding [v] (eval o X.env)
   let iv <- holding [v,ov] (eval i X.env)
   standAt pos
   holding [v,ov,iv] (setItem ov iv v)
   release [v,ov,iv] []):=by intro _;rfl):PG X (.Subscript o i pos) (T6 to ti t):=by
 intro pins s Z H v u Q I r h;rw[ha];refine a_ (VN (thn (ho pins s Z H _ I h) fun ov s1 ⟨x,H1,I1,r1,q1⟩=>?_));refine a_ (VN (thn (hi pins s1 Z H1 _ I1 q1) fun iv s2 ⟨y,H2,I2,r2,q2⟩=>?_));refine a_ (wpAny_standAt (a_ (VN (thn (hs pins s2 Z H2 x y v ov iv u _ I2 r1 r2 r q2) fun _ s3 ⟨H3,I3,q3⟩=>?_))));exact wpAny_release ⟨Z,H3,I3,q3⟩
def Pg (te:TE) (g:TG):TS:=fun D Z H=>te Z H fun x H1=>g x Z H1 D.nx
theorem Kf {tg e:Expr}{te:TE}{g:TG}(he:PE X e te) (hg:PG X tg g) (hs:swapsWithSole [tg] e pos.line X.env=pure false:=by rfl) (hw:swappedStores [tg] e X.env=pure none:=by rfl)
  (h1:(assignEach [tg] X.env).map (·.2)=[assign tg X.env]:=by rfl):PS X (.Assign [tg] e pos) (Pg te g):=by
 intro pins s Z H D I h;refine wpAny_Assign_stores (thn (he pins s Z H _ I h) fun v s1 ⟨x,H1,I1,r1,q1⟩=>?_) hs hw;rw[h1];exact thn (hg pins s1 Z H1 x v _ I1 r1 q1) fun _ s2 q=>q
theorem Kg {i:Nat}{x:Str}{e:Expr}{te:TE}{pos':Pos}(hN:X.N.Nodup) (hi:X.N[i]?=some x) (hx:Loc X.env.scope x) (he:PE X e te) (hs:swapsWith e (some (.Name x pos')) pos.line X.env=pure false:=by rfl) (hf:X.fn x=true\/X.env.scope.names.lookup x=some .local:=by first | exact .inl rfl | exact .inr rfl | assumption) :
  PS X (.Assign [.Name x pos'] e pos) (Pg te (HW i)):=by
 intro pins s Z H D I h;refine wpAny_Assign_Name (thn (he pins s Z H _ I h) fun v s1 ⟨y,H1,I1,r1,q1⟩=>?_) hs;exact qw I1 hN hi hx r1 (fun s2 I2=>⟨_,H1,I2,q1⟩) hf
def Kh (c:TT) (tb:TS):TS:=fun D Z H=>∃W:Nat->St->Hp->Prop,(∃m,W m Z H)/\∀m Z H,W m Z H ->
 c Z H fun b H1=>if b=true then ∃N:St->Hp->Prop,(∀Z' H',N Z' H'->∃m',m'<m/\W m' Z' H')/\tb { D with nx:=N,ct:=N,bk:=D.nx} Z H1 else D.nx Z H1
theorem yU {c:Expr}{body:List Stmt}{tc:TT}{tb:TS}(hp:PassesOwn (model X.prog X.w) X.A X.env X.xe) (hc:PT X c tc) (hb:PSs X body tb):PS X (.While c body [] pos) (Kh tc tb):=by
 intro pins s Z H D I h;obtain⟨W,⟨m0,w0⟩,turn⟩:=h;refine wpAny_While (codeAny_whileLoop (fun n s'=>∃Z' H',Inv X pins Z' H' s'/\W n Z' H') ?_ m0 ⟨Z,H,I,w0⟩);rintro n s1 ⟨Z1,H1,I1,w1⟩;refine WY hp (thn (hc pins s1 Z1 H1 _ I1 (turn n Z1 H1 w1)) fun b s2 ⟨H2,I2,q2⟩=>?_);cases b with
 |true =>
  obtain⟨N,hN,q2⟩:=q2;rw[if_pos rfl];refine WY hp (thn (hb pins s2 Z1 H2 _ I2 q2) fun f s3 q3=>?_);cases f with
  |next=>obtain⟨Z3,H3,I3,n3⟩:=q3;obtain⟨m',hm,w3⟩:=hN Z3 H3 n3;exact⟨m',hm,Z3,H3,I3,w3⟩
  |cont=>obtain⟨Z3,H3,I3,n3⟩:=q3;obtain⟨m',hm,w3⟩:=hN Z3 H3 n3;exact⟨m',hm,Z3,H3,I3,w3⟩
  |brk=>exact q3
  |ret v=>exact q3
 |false =>
 rw[if_neg o_];exact wpAny_execs_nil ⟨Z1,H2,I2,q2⟩
end
structure It where
 go:Nat->Hp->Prop
 yld:Nat->Hp->V->Hp->Prop
 stop:Nat->Hp->Prop
def mG (X:Cx) (pins:List (Addr × Obj)) (H:Hp) (b:Addr):Prop :=
 H b=none/\b≠X.env.locals/\b∉X.fs/\(b∈X.ex\/X.s₀.heap.objs.size<=b)/\(∀x c,X.env.cells.lookup x=some c->c≠b)/\∀p∈X.pn++pins,p.1≠b
theorem Inv.fpOk {X:Cx}{pins:List (Addr × Obj)}{Z:St}{H H':Hp}{s:Shared}{b:Addr}(I:Inv X pins Z H s) (hb:s.heap.objs.size<=b) (hn:H' b=none):mG X pins H' b:=by
 refine⟨hn,Nat.ne_of_gt (P_ I.lt hb),I.nofs hb,.inr (U8 I.sz hb),fun x c e z=>?_,fun p hp z=>?_⟩
 ·obtain⟨v,q⟩:=I.cell x c e;exact absurd (P_ q.lt (by rw[z];exact hb)) (Vc _)
 exact absurd (P_ (B_ (I.pin p hp).1) (by rw[z];exact hb)) (Vc _)
structure Turn (P:Program) (w:World) (K:Frag) (tg:Expr) (J:It) (fp:List Addr) (it:Addr) (tn:Nat->Heap->Prop):Prop where
 mem:it∈fp
 obj:∀i h,tn i h->∀b∈fp,∃o,h.get? b=some o/\∀v,o.data≠.cell v
 keep:∀i h h',tn i h->(∀b∈fp,∀o,h.get? b=some o->h'.get? b=some o)->tn i h'
 item:∀(X:Cx),X.prog=P->X.w=w->X.K=K->X.calm=true->∀(i:Nat) (pins:List (Addr × Obj)) (s:Shared) (Z:St) (H:Hp) (E:Value->Shared->Prop),Inv X pins Z H s->(∀b∈fp,mG X pins H b)->tn i s.heap->J.go i H ->
  wpAny (model P w) X.A (pyNext (.ref it)) (fun r s1=>∃u,r=some u /\
   wpAny (model P w) X.A (letOwnedTupleGo tg (.ref it) u) (fun _ s2=>∃x H',Inv X pins Z H' s2/\RelV x u/\J.yld i H x H'/\tn (i+1) s2.heap/\∀b∈fp,H' b=none) E s1) E s
 done:∀(X:Cx),X.prog=P->X.w=w->X.K=K->X.calm=true->∀(i:Nat) (pins:List (Addr × Obj)) (s:Shared) (Z:St) (H:Hp) (E:Value->Shared->Prop),Inv X pins Z H s->(∀b∈fp,mG X pins H b)->tn i s.heap->J.stop i H ->
  wpAny (model P w) X.A (pyNext (.ref it)) (fun r s1=>r=none/\Inv X pins Z H s1) E s
 self:∀(A:Around) (i:Nat) (s:Shared) (Q:Value->Shared->Prop) (E:Value->Shared->Prop),tn i s.heap->Q (.ref it) s->wpAny (model P w) A (pyIter (.ref it)) Q E s
abbrev TI:=St->Hp->(It->Hp->Prop)->Prop
def PIE (X:Cx) (pins:List (Addr × Obj)) (Z:St) (tg:Expr) (R:It->Hp->Prop) (itv:Value) (s2:Shared):Prop :=
 ∃(it:Addr) (fp:List Addr) (tn:Nat->Heap->Prop) (J:It) (H':Hp),itv=.ref it/\Inv X pins Z H' s2/\Turn X.prog X.w X.K tg J fp it tn/\tn 0 s2.heap/\(∀b∈fp,mG X pins H' b)/\R J H'
def PI (X:Cx) (tg iter:Expr) (wi:TI):Prop :=
 ∀(pins:List (Addr × Obj)) (s:Shared) (Z:St) (H:Hp) (R:It->Hp->Prop),Inv X pins Z H s->wi Z H R ->
  wpAny (model X.prog X.w) X.A (eval iter X.env) (fun v s1=>wpAny (model X.prog X.w) X.A (pyIter v) (PIE X pins Z tg R) X.xe s1) X.xe s
theorem uU {M:Model}{A:Around}{E:Value->Shared->Prop}{s:Shared}{tg:Expr}{it:Addr}{u:Value}{o:Obj}{n:String}{vs:Array Value}{Q:Unit->Shared->Prop}(ho:s.heap.get? it=some o) (hc:o.cls=.type n) (hd:o.data=.fields vs)
  (hn:["enumerate","zip","dict_itemiterator","dict_reverseitemiterator","odict_iterator","itertools.zip_longest","itertools.pairwise"].contains n=false) (hQ:Q () s):wpAny M A (letOwnedTupleGo tg (.ref it) u) Q E s:=by
 unfold letOwnedTupleGo;cases tg <;> first
  |exact h_ hQ
  | (cases u <;> first
    |exact h_ hQ
    | (refine a_ (wpAny_load ho ?_)
       rw[hc,hd]
       show wpAny M A (if (["enumerate","zip","dict_itemiterator","dict_reverseitemiterator","odict_iterator","itertools.zip_longest","itertools.pairwise"].contains n&&vs[0]?==some (rawInt _))=true then _ else _) Q E s
       rw[if_neg (by intro h;rw[hn,Bool.false_and] at h;cases h)]
       exact h_ hQ))
def Itl (K:Frag) (a:Addr):It :=
 ⟨fun i H=>∃xs x,SqL K H a xs/\xs[i]?=some x,fun i H x H'=>H'=H/\∀xs,SqL K H a xs->xs[i]?=some x,fun i H=>∃xs,SqL K H a xs/\xs.length<=i⟩
def Itt (K:Frag) (a:Addr):It :=
 ⟨fun i H=>∃xs x,SqT K H a xs/\xs[i]?=some x,fun i H x H'=>H'=H/\∀xs,SqT K H a xs->xs[i]?=some x,fun i H=>∃xs,SqT K H a xs/\xs.length<=i⟩
def Itr (lo:Int) (n:Nat):It:=⟨fun i _=>i<n,fun i H x H'=>H'=H/\x=.int (lo+i),fun i _=>n<=i⟩
theorem xf {P:Program}{w:World}{K:Frag}{tg:Expr}(a it:Addr):Turn P w K tg (Itl K a) [it] it (fun i h=>h.IsListIter it a i) where
 mem:=by simp
 obj:=fun i h st b hb=>by
  have e:b=it:=by simpa using hb
  subst e
  obtain⟨o,e,c,d⟩:=st
  exact⟨o,e,fun v z=>by rw[d] at z;cases z⟩
 keep:=fun i h h' st k=>st.at fun o e=>k it (by simp) o e
 item:=by
  intro X hP hw hK hc i pins s Z H E I hf st hg
  subst hP hw hK
  obtain⟨xs,x,hq,hx⟩:=hg
  obtain⟨its,rv,p,hz⟩:=I.list hq
  obtain⟨u,hu,ru⟩:=rv.get hx
  obtain⟨f0,f1,f2,f3,f4,f5⟩:=hf it (by simp)
  refine wpAny_pyNext_list_item st p.isList (x:=u) (by simpa using hu) fun h' st' sb=>?_
  have I1:Inv X pins Z H { s with heap:=h'}:=I.turned (t':=s.toks) (fun b o hb e=>(sb.2 b hb).trans e) f0 f1 f3 f4 f5
  obtain⟨o,e,c,d⟩:=id st'
  exact⟨u,rfl,uU (s:={ s with heap:=h'}) e c d (by decide) ⟨x,H,I1,ru,⟨rfl,fun ys hy=>by rw[I.list_inj hy hq];exact hx⟩,st',fun b hb=>(hf b hb).1⟩⟩
 done:=by
  intro X hP hw hK hc i pins s Z H E I hf st hg
  subst hP hw hK
  obtain⟨xs,hq,hx⟩:=hg
  obtain⟨its,rv,p,hz⟩:=I.list hq
  obtain⟨f0,f1,f2,f3,f4,f5⟩:=hf it (by simp)
  have hl:=rv.length
  exact wpAny_pyNext_list_end (I.ok.hd hc) st p.isList (by simp;omega) fun h' eb=>⟨rfl,I.turned (t':=s.toks) (fun b o hb e=>eb b o hb e) f0 f1 f3 f4 f5⟩
 self:=fun _ _ _ _ _ st h=>wpAny_pyIter_listiter st h
theorem sY {P:Program}{w:World}{K:Frag}{tg:Expr}(a it:Addr):Turn P w K tg (Itt K a) [it] it (fun i h=>h.IsTupleIter it a i) where
 mem:=by simp
 obj:=fun i h st b hb=>by
  have e:b=it:=by simpa using hb
  subst e
  obtain⟨o,e,c,d⟩:=st
  exact⟨o,e,fun v z=>by rw[d] at z;cases z⟩
 keep:=fun i h h' st k=>st.at fun o e=>k it (by simp) o e
 item:=by
  intro X hP hw hK hc i pins s Z H E I hf st hg
  subst hP hw hK
  obtain⟨xs,x,hq,hx⟩:=hg
  obtain⟨its,rv,p,hz⟩:=I.tuple hq
  obtain⟨u,hu,ru⟩:=rv.get hx
  obtain⟨f0,f1,f2,f3,f4,f5⟩:=hf it (by simp)
  refine wpAny_pyNext_tuple_item st (show s.heap.IsTuple a its.toArray from p) (x:=u) (by simpa using hu) fun h' st' sb=>?_
  have I1:Inv X pins Z H { s with heap:=h'}:=I.turned (t':=s.toks) (fun b o hb e=>(sb.2 b hb).trans e) f0 f1 f3 f4 f5
  obtain⟨o,e,c,d⟩:=id st'
  exact⟨u,rfl,uU (s:={ s with heap:=h'}) e c d (by decide) ⟨x,H,I1,ru,⟨rfl,fun ys hy=>by rw[I.tuple_inj hy hq];exact hx⟩,st',fun b hb=>(hf b hb).1⟩⟩
 done:=by
  intro X hP hw hK hc i pins s Z H E I hf st hg
  subst hP hw hK
  obtain⟨xs,hq,hx⟩:=hg
  obtain⟨its,rv,p,hz⟩:=I.tuple hq
  obtain⟨f0,f1,f2,f3,f4,f5⟩:=hf it (by simp)
  have hl:=rv.length
  exact wpAny_pyNext_tuple_end (I.ok.hd hc) st (show s.heap.IsTuple a its.toArray from p) (by simp;omega) fun h' eb=>⟨rfl,I.turned (t':=s.toks) (fun b o hb e=>eb b o hb e) f0 f1 f3 f4 f5⟩
 self:=fun _ _ _ _ _ st h=>wpAny_pyIter_tupleiter st h
theorem sZ {P:Program}{w:World}{K:Frag}{tg:Expr}(it:Addr) (lo:Int) (n:Nat):Turn P w K tg (Itr lo n) [it] it (fun i h=>IsRangeIter h it (lo+(i:Nat)*1) ((n:Int) - (i:Nat)) 1) where
 mem:=by simp
 obj:=fun i h st b hb=>by
  have e:b=it:=by simpa using hb
  subst e
  exact⟨_,st,fun v z=>by
   have z':Data.fields _=Data.cell v:=z
   cases z'⟩
 keep:=fun i h h' st k=>k it (by simp) _ st
 item:=by
  intro X hP hw hK hc i pins s Z H E I hf st hg
  subst hP hw hK
  obtain⟨f0,f1,f2,f3,f4,f5⟩:=hf it (by simp)
  have W:=Walks.range (prog:=X.prog) (w:=X.w) (I.ok.hd hc) it lo 1 n
  refine W.item i s _ _ hg st fun v h' tk hv st' kk=>?_
  obtain⟨t,rfl⟩:=hv
  have I1:Inv X pins Z H { s with heap:=h',toks:=tk}:=I.turned (fun b o hb e=>kk b o (by simpa using hb) e) f0 f1 f3 f4 f5
  refine⟨_,rfl,uU (s:={ s with heap:=h',toks:=tk}) (n:="range_iterator") st' rfl rfl (by decide) ⟨.int (lo+i),H,I1,⟨t,?_⟩,⟨rfl,rfl⟩,st',fun b hb=>(hf b hb).1⟩⟩
  rw[Int.mul_one]
 done:=by
  intro X hP hw hK hc i pins s Z H E I hf st hg
  subst hP hw hK
  obtain⟨f0,f1,f2,f3,f4,f5⟩:=hf it (by simp)
  exact wpAny_pyNext_range_end (I.ok.hd hc) st (by have:n<=i:=hg;omega) fun h' eb=>⟨rfl,I.turned (t':=s.toks) (fun b o hb e=>eb b o hb e) f0 f1 f3 f4 f5⟩
 self:=fun _ _ _ _ _ st h=>wpAny_pyIter_rangeiter st h
section
variable {X:Cx}{tg:Expr}
def Ph (K:Frag) (tl:TE):TI:=fun Z H R=>tl Z H fun x H1=>∃a,x=.ref a/\(∃xs,SqL K H1 a xs)/\R (Itl K a) H1
def T7 (K:Frag) (tl:TE):TI:=fun Z H R=>tl Z H fun x H1=>∃a,x=.ref a/\(∃xs,SqT K H1 a xs)/\R (Itt K a) H1
theorem Eb {l:Expr}{tl:TE}(hl:PE X l tl):PI X tg l (Ph X.K tl):=by
 intro pins s Z H R I h;refine thn (hl pins s Z H _ I h) fun v s1 ⟨x,H1,I1,r1,q1⟩=>?_;obtain⟨a,e,⟨xs,hq⟩,q⟩:=q1;subst e;cases r1;obtain⟨its,rv,p,hz⟩:=I1.list hq;refine wpAny_pyIter_list p.isList ?_;refine⟨s1.heap.objs.size,[s1.heap.objs.size],_,_,H1,rfl,I1.kept (t':=s1.toks) fun b o e=>e_ _ e,xf a _,⟨_,x_ _ rfl,rfl,rfl⟩,fun b hb=>?_,q⟩;have e:b=s1.heap.objs.size:=by simpa using hb
 subst e;exact I1.fpOk (m_ _) (I1.hok.fresh (m_ _))
theorem Kl {l:Expr}{tl:TE}(hl:PE X l tl):PI X tg l (T7 X.K tl):=by
 intro pins s Z H R I h;refine thn (hl pins s Z H _ I h) fun v s1 ⟨x,H1,I1,r1,q1⟩=>?_;obtain⟨a,e,⟨xs,hq⟩,q⟩:=q1;subst e;cases r1;obtain⟨its,rv,p,hz⟩:=I1.tuple hq;refine wpAny_pyIter_tuple (show s1.heap.IsTuple a its.toArray from p) ?_;refine⟨s1.heap.objs.size,[s1.heap.objs.size],_,_,H1,rfl,I1.kept (t':=s1.toks) fun b o e=>e_ _ e,sY a _,⟨_,x_ _ rfl,rfl,rfl⟩,fun b hb=>?_,q⟩;have e:b=s1.heap.objs.size:=by simpa using hb
 subst e;exact I1.fpOk (m_ _) (I1.hok.fresh (m_ _))
theorem qx {pins:List (Addr × Obj)}{Z:St}{H:Hp}{s:Shared}{R:It->Hp->Prop}{E:Value->Shared->Prop}{lo hi:Int}{t u v:Tok}{tk:Nat}(I:Inv X pins Z H s) (h1 : -(2^62)<=lo) (h2:lo<2^62) (h3 : -(2^62)<=hi) (h4:hi<2^62)
  (q:R (Itr lo (hi - lo).toNat) H):wpAny (model X.prog X.w) X.A (pyIter (.ref s.heap.objs.size)) (PIE X pins Z tg R) E { s with heap:=s.heap.push { cls:=.type "range",data:=.fields #[.int lo t,.int hi u,.int 1 v]},toks:=tk}:=by
 refine wpAny_pyIter_range (IsRange.new ..) (small_one h1 h2 h3 h4) ?_;have I1:Inv X pins Z H { s with heap:=s.heap.push { cls:=.type "range",data:=.fields #[.int lo t,.int hi u,.int 1 v]},toks:=tk}:=I.kept fun b o e=>e_ _ e;refine⟨(s.heap.push { cls:=.type "range",data:=.fields #[.int lo t,.int hi u,.int 1 v]}).objs.size,[(s.heap.push { cls:=.type "range",data:=.fields #[.int lo t,.int hi u,.int 1 v]}).objs.size],_,_,H,rfl,
  I1.kept (t':=tk) fun b o e=>e_ _ e,sZ _ lo (hi - lo).toNat,?_,fun b hb=>?_,q⟩
 ·have e1:lo+((0:Nat):Int)*1=lo:=by simp
  have e2:(((hi - lo).toNat:Nat):Int) - ((0:Nat):Int)=Builtin.Range.rangeSize lo hi 1:=by rw[rangeSize_one];split <;> omega
  show IsRangeIter _ _ (lo+((0:Nat):Int)*1) ((((hi - lo).toNat:Nat):Int) - ((0:Nat):Int)) 1;rw[e1,e2];exact x_ _ rfl
 have e:b=(s.heap.push { cls:=.type "range",data:=.fields #[.int lo t,.int hi u,.int 1 v]}).objs.size:=by simpa using hb
 subst e;exact I1.fpOk (m_ _) (I1.hok.fresh (m_ _))
def Pj (ta:TA):TI:=fun Z H R=>ta Z H fun vs H1=>∃j:Int,vs=[.int j] /\ -(2^62)<=j/\j<2^62/\R (Itr 0 j.toNat) H1
def Pk (ta:TA):TI:=fun Z H R=>ta Z H fun vs H1=>∃i j:Int,vs=[.int i,.int j]/\(-(2^62)<=i/\i<2^62 /\ -(2^62)<=j/\j<2^62)/\R (Itr i (j - i).toNat) H1
theorem xg {a:Expr}{ta:TA}{p pos:Pos}(hg:Gl X "range") (hm:X.mg "range"=none) (ha:PA X [a] ta) (hs:starEach [a] X.env=[(false,eval a X.env)]:=by rfl):PI X tg (.Call (.Name "range" p) [a] [] pos) (Pj ta):=by
 intro pins s Z H R I h;refine Call_ (dq I hg hm boot_range (Va (thn (ha pos pins s Z H _ I h) fun us s1 ⟨vs,H1,I1,r1,q1⟩=>?_) hs rfl));obtain⟨j,e,q1,q2,q⟩:=q1;subst e;cases r1 with
 |cons r rr =>
 cases rr;obtain⟨t,rfl⟩:=r;exact call_range_1 (qx I1 (by omega) (by omega) q1 q2 (by simpa using q))
theorem xj {a b:Expr}{ta:TA}{p pos:Pos}(hg:Gl X "range") (hm:X.mg "range"=none) (ha:PA X [a,b] ta) (hs:starEach [a,b] X.env=[(false,eval a X.env),(false,eval b X.env)]:=by rfl) (hs2:starEach [b] X.env=[(false,eval b X.env)]:=by rfl) :
  PI X tg (.Call (.Name "range" p) [a,b] [] pos) (Pk ta):=by
 intro pins s Z H R I h;refine Call_ (dq I hg hm boot_range (Va (thn (ha pos pins s Z H _ I h) fun us s1 ⟨vs,H1,I1,r1,q1⟩=>?_) (by rw[hs,hs2]) (by rw[hs2];rfl)));obtain⟨i,j,e,⟨q1,q2,q3,q4⟩,q⟩:=q1;subst e;cases r1 with
 |cons r rr =>
 cases rr with
 |cons r' rr =>
 cases rr;obtain⟨t,rfl⟩:=r;obtain⟨t',rfl⟩:=r';exact call_range_2 (qx I1 q1 q2 q3 q4 q)
def T8 (wi:TI) (g:TG) (tb:TS):TS:=fun D Z H=>wi Z H fun J H1=>∃W:Nat->Nat->St->Hp->Prop,(∃m,W 0 m Z H1)/\∀i m Z H,W i m Z H ->
 (J.stop i H/\D.nx Z H)\/(J.go i H/\∃N:St->Hp->Prop,(∀Z' H',N Z' H'->∃m',m'<m/\W (i+1) m' Z' H')/\∀x H',J.yld i H x H'->g x Z H' fun Z2 H2=>tb { D with nx:=N,ct:=N,bk:=D.nx} Z2 H2)
def kj (fp : List Addr) (h : Heap) : List (Addr × Obj):=fp.filterMap fun b => (h.get? b).map fun o => (b,o)
theorem fK {fp : List Addr} {h : Heap} {b : Addr} {o : Obj} (hb : b ∈ fp) (e : h.get? b = some o) : (b,o) ∈ kj fp h:=List.mem_filterMap.mpr ⟨b,hb,by rw [e]; rfl⟩
theorem xm {fp:List Addr}{h:Heap}{p:Addr × Obj}(hp:p∈kj fp h):p.1∈fp/\h.get? p.1=some p.2:=by
 obtain ⟨b,hb,e⟩:=List.mem_filterMap.mp hp;cases q : h.get? b with
 |none=>rw[q] at e;cases e
 |some o =>
 rw[q] at e;have e':(b,o)=p:=U6 e;subst e';exact⟨hb,q⟩
theorem Inv.pinned {pins:List (Addr × Obj)}{Z:St}{H:Hp}{s:Shared}{fp:List Addr}(I:Inv X pins Z H s) (hf:∀b∈fp,mG X pins H b) (ho:∀b∈fp,∃o,s.heap.get? b=some o/\∀v,o.data≠.cell v):Inv X (pins++kj fp s.heap) Z H s :=
 I.pins_of fun p hp=>(D_.mp hp).elim (fun z=>I.pin p (T_ _ z)) fun z=>by
  obtain⟨hb,e⟩:=xm z;obtain⟨f0,f1,f2,_⟩:=hf p.1 hb;obtain⟨o,e',d⟩:=ho p.1 hb;rw[e] at e';cases e';exact⟨e,f0,f1,f2,d⟩
theorem Inv.unpinned {pins pl:List (Addr × Obj)}{Z:St}{H:Hp}{s:Shared}(I:Inv X (pins++pl) Z H s):Inv X pins Z H s:=I.pins_of fun p hp=>I.pin p (T_ _ (Ve _ hp))
theorem Km {iter:Expr}{body:List Stmt}{wi:TI}{g:TG}{tb:TS}{pos:Pos}(hp:PassesOwn (model X.prog X.w) X.A X.env X.xe) (hc:X.calm=true) (hi:PI X tg iter wi) (hg:PG X tg g) (hb:PSs X body tb)
  (hs:∀x,foldedSetIterable iter X.env x=pure x:=by intro _;rfl):PS X (.For tg iter body [] pos) (T8 wi g tb):=by
 intro pins s Z H D I h;refine wpAny_For (thn (hi pins s Z H _ I h) fun v s1 h1=>thn h1 fun itv s2 h2=>?_) hs;obtain⟨it,fp,tn,J,H2,e,I2,T,st2,f2,W,⟨m0,w0⟩,turn⟩:=h2;subst e
 have stat:∀{H':Hp},(∀b∈fp,H' b=none)->∀b∈fp,mG X pins H' b:=fun hn b hb=>⟨hn b hb,(f2 b hb).2⟩;refine codeAny_forLoop_any (fun n s'=>∃i Z' H',Inv X pins Z' H' s'/\tn i s'.heap/\(∀b∈fp,H' b=none)/\W i n Z' H') ?_ m0 ⟨0,Z,H2,I2,st2,fun b hb=>(f2 b hb).1,w0⟩;rintro n s3 ⟨i,Z3,H3,I3,st3,fr3,w3⟩;rcases turn i n Z3 H3 w3 with ⟨stop,qn⟩ | ⟨go,N,hN,step⟩
 ·refine WY hp (thn (T.done X rfl rfl rfl hc i pins s3 Z3 H3 X.xe I3 (stat fr3) st3 stop) fun r s4 ⟨hr,I4⟩=>?_);subst hr;exact wpAny_execs_nil ⟨Z3,H3,I4,qn⟩
 refine WY hp (thn (T.item X rfl rfl rfl hc i pins s3 Z3 H3 X.xe I3 (stat fr3) st3 go) fun r s4 ⟨u,hr,h4⟩=>?_);subst hr;refine WY hp (thn h4 fun _ s5 ⟨x,H5,I5,r5,y5,st5,fr5⟩=>?_);have I5':=I5.pinned (stat fr5) (T.obj _ _ st5);refine WY hp (thn (hg _ s5 Z3 H5 x u _ I5' r5 (step x H5 y5)) fun _ s6 ⟨Z6,H6,I6,q6⟩=>?_);refine WY hp (thn (hb _ s6 Z6 H6 _ I6 q6) fun f s7 q7=>?_);have again:∀{Z7:St} {H7:Hp},Inv X (pins++kj fp s5.heap) Z7 H7 s7->N Z7 H7->∃m,m<n/\∃i Z' H',Inv X pins Z' H' s7/\tn i s7.heap/\(∀b∈fp,H' b=none)/\W i m Z' H':=fun {Z7 H7} I7 n7=>by obtain⟨m',hm,w7⟩:=hN Z7 H7 n7;refine⟨m',hm,i+1,Z7,H7,I7.unpinned,T.keep _ _ _ st5 fun b hb o e=>(I7.pin (b,o) (T_ _ (T_ _ (fK hb e)))).1,fun b hb=>?_,w7⟩;obtain⟨o,e,d⟩:=T.obj _ _ st5 b hb;exact (I7.pin (b,o) (T_ _ (T_ _ (fK hb e)))).2.1
 cases f with
 |next=>obtain⟨Z7,H7,I7,n7⟩:=q7;exact again I7 n7
 |cont=>obtain⟨Z7,H7,I7,n7⟩:=q7;exact again I7 n7
 |brk=>obtain⟨Z7,H7,I7,q7⟩:=q7;exact⟨Z7,H7,I7.unpinned,q7⟩
 |ret v=>obtain⟨x7,Z7,H7,I7,r7,q7⟩:=q7;exact⟨x7,Z7,H7,I7.unpinned,r7,q7⟩
end
abbrev R2:=V->V->Hp->VK->Prop
def OpR (X:Cx) (f:Value->Value->Sem Value) (r:R2):Prop :=
 ∀(pins:List (Addr × Obj)) (s:Shared) (Z:St) (H:Hp) (x y:V) (v u:Value) (Q:VK),Inv X pins Z H s->RelV x v->RelV y u->r x y H Q ->
  wpAny (model X.prog X.w) X.A (f v u) (EP X pins Z Q) X.xe s
def UnR (X:Cx) (f:Value->Sem Value) (r:V->Hp->VK->Prop):Prop :=
 ∀(pins:List (Addr × Obj)) (s:Shared) (Z:St) (H:Hp) (x:V) (v:Value) (Q:VK),Inv X pins Z H s->RelV x v->r x H Q ->
  wpAny (model X.prog X.w) X.A (f v) (EP X pins Z Q) X.xe s
def CallR (X:Cx) (f:Value) (r:List V->Hp->VK->Prop):Prop :=
 ∀(pins:List (Addr × Obj)) (s:Shared) (Z:St) (H:Hp) (xs:List V) (us:List Value) (Q:VK),Inv X pins Z H s->Vals xs us->r xs H Q ->
  wpAny (model X.prog X.w) X.A (call f us) (EP X pins Z Q) X.xe s
def tOp (r:R2) (ta tb:TE):TE:=fun Z H Q=>ta Z H fun x H1=>tb Z H1 fun y H2=>r x y H2 Q
def tUn (r:V->Hp->VK->Prop) (ta:TE):TE:=fun Z H Q=>ta Z H fun x H1=>r x H1 Q
def rI (C:Int->Int->Prop) (g:Int->Int->V):R2:=fun x y H Q=>∃i j,x=.int i/\y=.int j/\C i j/\Q (g i j) H
def rI0 (g:Int->Int->V):R2:=fun x y H Q=>∃i j,x=.int i/\y=.int j/\Q (g i j) H
def rU (g:Int->V):V->Hp->VK->Prop:=fun x H Q=>∃i,x=.int i/\Q (g i) H
section
variable {X:Cx}{a b c:Expr}{ta tb tc:TE}{pos:Pos}
theorem Ko (ha:PE X a ta) (hb:PE X b tb) {pins:List (Addr × Obj)}{s:Shared}{Z:St}{H:Hp}{R:V->V->Hp->Prop}(I:Inv X pins Z H s)
  (h:ta Z H fun x H1=>tb Z H1 fun y H2=>R x y H2) {Q:Value->Shared->Prop} {f:Value->Value->Sem Value}
  (hf:∀v u s2 x y H2,Inv X pins Z H2 s2->RelV x v->RelV y u->R x y H2->wpAny (model X.prog X.w) X.A (f v u) Q X.xe s2) :
  wpAny (model X.prog X.w) X.A (eval a X.env) (fun v s₁=>wpAny (model X.prog X.w) X.A (eval b X.env) (fun u s₂=>wpAny (model X.prog X.w) X.A (f v u) Q X.xe s₂) X.xe s₁) X.xe s:=by
 refine thn (ha pins s Z H _ I h) fun v s1 ⟨x,H1,I1,r1,q1⟩=>?_;refine thn (hb pins s1 Z H1 _ I1 q1) fun u s2 ⟨y,H2,I2,r2,q2⟩=>?_;exact hf v u s2 x y H2 I2 r1 r2 q2
theorem Pn {op:Operator}{r:R2}(ho:OpR X (binaryOp op) r) (ha:PE X a ta) (hb:PE X b tb):PE X (.BinOp a op b pos) (tOp r ta tb):=by
 intro pins s Z H Q I h;exact wpAny_BinOp (Ko ha hb I h fun v u s2 x y H2 I2 rx ry q=>ho pins s2 Z H2 x y v u Q I2 rx ry q)
theorem Pq {op:UnaryOp}{r:V->Hp->VK->Prop}(ho:UnR X (unaryOp op) r) (ha:PE X a ta):PE X (.UnaryOp op a pos) (tUn r ta):=by
 intro pins s Z H Q I h;exact UnaryOp_ (thn (ha pins s Z H _ I h) fun v s1 ⟨x,H1,I1,r1,q1⟩=>ho pins s1 Z H1 x v Q I1 r1 q1)
theorem opI {f:Value->Value->Sem Value}{C:Int->Int->Prop}{g:Int->Int->Int}
  (rule:∀(i j:Int) (t u:Tok) (s:Shared) (Q:Value->Shared->Prop) (E:Value->Shared->Prop),C i j->Q (.int (g i j) s.toks) { s with toks:=s.toks+1}->wpAny (model X.prog X.w) X.A (f (.int i t) (.int j u)) Q E s) :
  OpR X f (rI C fun i j=>.int (g i j)):=by
 intro pins s Z H x y v u Q I rx ry h;obtain⟨i,j,rfl,rfl,hc,q⟩:=h;obtain⟨t,rfl⟩:=rx;obtain⟨t',rfl⟩:=ry;exact rule i j t t' s _ _ hc ⟨.int (g i j),H,I.tok _,⟨_,rfl⟩,q⟩
theorem Ec {f:Value->Value->Sem Value}{g:Int->Int->Int}
  (rule:∀(i j:Int) (t u:Tok) (s:Shared) (Q:Value->Shared->Prop) (E:Value->Shared->Prop),Q (.int (g i j) s.toks) { s with toks:=s.toks+1}->wpAny (model X.prog X.w) X.A (f (.int i t) (.int j u)) Q E s) :
  OpR X f (rI0 fun i j=>.int (g i j)):=by
 intro pins s Z H x y v u Q I rx ry h;obtain⟨i,j,rfl,rfl,q⟩:=h;obtain⟨t,rfl⟩:=rx;obtain⟨t',rfl⟩:=ry;exact rule i j t t' s _ _ ⟨.int (g i j),H,I.tok _,⟨_,rfl⟩,q⟩
theorem Ed {f:Value->Value->Sem Value}{g:Int->Int->Bool}
  (rule:∀(i j:Int) (t u:Tok) (s:Shared) (Q:Value->Shared->Prop) (E:Value->Shared->Prop),Q (.bool (g i j)) s->wpAny (model X.prog X.w) X.A (f (.int i t) (.int j u)) Q E s) :
  OpR X f (rI0 fun i j=>.bl (g i j)):=by
 intro pins s Z H x y v u Q I rx ry h;obtain⟨i,j,rfl,rfl,q⟩:=h;obtain⟨t,rfl⟩:=rx;obtain⟨t',rfl⟩:=ry;exact rule i j t t' s _ _ ⟨.bl (g i j),H,I,rfl,q⟩
def Pr (i j:Int):Prop:=0<=j/\j<=1000000/\i.natAbs<2^64
def CMul (i j:Int):Prop:=(-(2^64)<i/\i<2^64)\/(-(2^64)<j/\j<2^64)
theorem CMul.ok {i j:Int}(h:CMul i j):IntMulOk i j:=by
 rcases h with ⟨h1,h2⟩ | ⟨h1,h2⟩
 ·exact .of_left (intBits_le_64 h1 h2)
 exact .of_right (intBits_le_64 h1 h2)
theorem op_add:OpR X (binaryOp .Add) (rI0 fun i j=>.int (i+j)):=Ec fun _ _ _ _ _ _ _ q=>add_int q
theorem Kp:OpR X (binaryOp .Sub) (rI0 fun i j=>.int (i - j)):=Ec fun _ _ _ _ _ _ _ q=>sub_int q
theorem Kq:OpR X (binaryOp .Mult) (rI CMul fun i j=>.int (i*j)):=opI fun _ _ _ _ _ _ _ hc q=>mul_int q hc.ok
theorem Kr:OpR X (binaryOp .Mod) (rI (fun _ j=>0<j) fun i j=>.int (i%j)):=opI fun i j _ _ _ _ _ hc q=>by
 have h1:(0:Int)<j:=hc;exact mod_int' (by omega) (by rw[Int.fmod_eq_emod_of_nonneg i (by omega)];exact q)
theorem Ks:OpR X (binaryOp .Pow) (rI Pr fun i j=>.int (i^j.toNat)):=opI fun _ _ _ _ _ _ _ hc q=>pow_int_small hc.1 hc.2.1 hc.2.2 q
theorem Ku:OpR X (binaryOp .BitAnd) (rI0 fun i j=>.int (Builtin.bitAnd i j)):=Ec fun _ _ _ _ _ _ _ q=>and_int q
theorem Pu:OpR X (binaryOp .BitOr) (rI0 fun i j=>.int (Builtin.bitOr i j)):=Ec fun _ _ _ _ _ _ _ q=>or_int q
theorem unI {f:Value->Sem Value}{g:Int->Int}
  (rule:∀(i:Int) (t:Tok) (s:Shared) (Q:Value->Shared->Prop) (E:Value->Shared->Prop),Q (.int (g i) s.toks) { s with toks:=s.toks+1}->wpAny (model X.prog X.w) X.A (f (.int i t)) Q E s) :
  UnR X f (rU fun i=>.int (g i)):=by
 intro pins s Z H x v Q I rx h;obtain⟨i,rfl,q⟩:=h;obtain⟨t,rfl⟩:=rx;exact rule i t s _ _ ⟨.int (g i),H,I.tok _,⟨_,rfl⟩,q⟩
theorem Kv:UnR X (unaryOp .USub) (rU fun i=>.int (-i)):=unI fun _ _ _ _ _ q=>neg_int q
end
def iB:V->V->Bool
 |.non,.non=>true | .non,.int _=>true | .int _,.non=>true | .non,.bl _=>true | .bl _,.non=>true | .non,.str _=>true | .str _,.non=>true
 |.int _,.int _=>true | .bl _,.bl _=>true | .str _,.str _=>true | .byt _,.byt _=>true
 |.int _,.str _=>true | .str _,.int _=>true | .bl _,.str _=>true | .str _,.bl _=>true
 |_,_=>false
def rEq:R2:=fun x y H Q=>iB x y=true/\Q (.bl (decide (x=y))) H
def rNe:R2:=fun x y H Q=>iB x y=true/\Q (.bl (!decide (x=y))) H
theorem uV {i j:Int}:decide (V.int i=V.int j)=(i==j):=by
 rw[Vi];simp
theorem yV {i j:Bool}:decide (V.bl i=V.bl j)=(i==j):=by
 rw[Vi];simp
theorem uW {i j:Str}:decide (V.str i=V.str j)=(i==j):=by
 rw[Vi];simp
theorem uX {i j:Array UInt8}:decide (V.byt i=V.byt j)=(i.toList==j.toList):=by
 rw[Vi];cases i;cases j;simp
section
variable {X:Cx}{a b c:Expr}{ta tb tc:TE}{pos:Pos}
theorem aZ {pins:List (Addr × Obj)}{Z:St}{H:Hp}{s:Shared}{Q:VK}{k k':Bool}(I:Inv X pins Z H s) (q:Q (.bl k) H) (e:k=k'):EP X pins Z Q (.bool k') s:=by
 subst e;exact⟨.bl k,H,I,rfl,q⟩
theorem Px:OpR X (compareOp .Eq) rEq:=by
 intro pins s Z H x y v u Q I rx ry h;obtain⟨hs,q⟩:=h;cases x with
 |non =>
  cases rx;cases y with
  |non=>cases ry;exact PySem.EqNone.eq_none_none (aZ I q (by simp))
  |bl j=>cases ry;exact PySem.EqNone.eq_none_bool (aZ I q (by simp))
  |int j=>obtain⟨t',rfl⟩:=ry;exact PySem.EqNone.eq_none_int (aZ I q (by simp))
  |str j=>obtain⟨t',rfl⟩:=ry;exact PySem.EqNone.eq_none_str (aZ I q (by simp))
  |_=>exact absurd (show false=true from hs) o_
 |bl i =>
  cases rx;cases y with
  |non=>cases ry;exact PySem.EqNone.eq_bool_none (aZ I q (by simp))
  |bl j=>cases ry;exact eq_bool (aZ I q yV)
  |str j=>obtain⟨t',rfl⟩:=ry;exact PySem.EqMixed.eq_bool_str (aZ I q (by simp))
  |_=>exact absurd (show false=true from hs) o_
 |int i =>
  obtain⟨t,rfl⟩:=rx;cases y with
  |non=>cases ry;exact PySem.EqNone.eq_int_none (aZ I q (by simp))
  |int j=>obtain⟨t',rfl⟩:=ry;exact eq_int (aZ I q uV)
  |str j=>obtain⟨t',rfl⟩:=ry;exact PySem.EqMixed.eq_int_str (aZ I q (by simp))
  |_=>exact absurd (show false=true from hs) o_
 |str i =>
  obtain⟨t,rfl⟩:=rx;cases y with
  |non=>cases ry;exact PySem.EqNone.eq_str_none (aZ I q (by simp))
  |bl j=>cases ry;exact PySem.EqMixed.eq_str_bool (aZ I q (by simp))
  |int j=>obtain⟨t',rfl⟩:=ry;exact PySem.EqMixed.eq_str_int (aZ I q (by simp))
  |str j=>obtain⟨t',rfl⟩:=ry;exact eq_str (aZ I q uW)
  |_=>exact absurd (show false=true from hs) o_
 |byt i =>
  obtain⟨t,rfl⟩:=rx;cases y with
  |byt j=>obtain⟨t',rfl⟩:=ry;exact PySem.W.eq_bytes (aZ I q uX)
  |_=>exact absurd (show false=true from hs) o_
 |_=>cases y <;> exact absurd (show false=true from hs) o_
theorem Py:OpR X (compareOp .NotEq) rNe:=by
 intro pins s Z H x y v u Q I rx ry h;obtain⟨hs,q⟩:=h;cases x with
 |non =>
  cases rx;cases y with
  |non=>cases ry;exact PySem.EqNone.ne_none_none (aZ I q (by simp))
  |bl j=>cases ry;exact PySem.EqNone.ne_none_bool (aZ I q (by simp))
  |int j=>obtain⟨t',rfl⟩:=ry;exact PySem.EqNone.ne_none_int (aZ I q (by simp))
  |str j=>obtain⟨t',rfl⟩:=ry;exact PySem.EqNone.ne_none_str (aZ I q (by simp))
  |_=>exact absurd (show false=true from hs) o_
 |bl i =>
  cases rx;cases y with
  |non=>cases ry;exact PySem.EqNone.ne_bool_none (aZ I q (by simp))
  |bl j=>cases ry;exact ne_bool (aZ I q (Q_ not yV))
  |str j=>obtain⟨t',rfl⟩:=ry;exact PySem.EqMixed.ne_bool_str (aZ I q (by simp))
  |_=>exact absurd (show false=true from hs) o_
 |int i =>
  obtain⟨t,rfl⟩:=rx;cases y with
  |non=>cases ry;exact PySem.EqNone.ne_int_none (aZ I q (by simp))
  |int j=>obtain⟨t',rfl⟩:=ry;exact ne_int (aZ I q (Q_ not uV))
  |str j=>obtain⟨t',rfl⟩:=ry;exact PySem.EqMixed.ne_int_str (aZ I q (by simp))
  |_=>exact absurd (show false=true from hs) o_
 |str i =>
  obtain⟨t,rfl⟩:=rx;cases y with
  |non=>cases ry;exact PySem.EqNone.ne_str_none (aZ I q (by simp))
  |bl j=>cases ry;exact PySem.EqMixed.ne_str_bool (aZ I q (by simp))
  |int j=>obtain⟨t',rfl⟩:=ry;exact PySem.EqMixed.ne_str_int (aZ I q (by simp))
  |str j=>obtain⟨t',rfl⟩:=ry;exact ne_str (aZ I q (Q_ not uW))
  |_=>exact absurd (show false=true from hs) o_
 |byt i =>
  obtain⟨t,rfl⟩:=rx;cases y with
  |byt j=>obtain⟨t',rfl⟩:=ry;exact PySem.W.ne_bytes (aZ I q (Q_ not uX))
  |_=>exact absurd (show false=true from hs) o_
 |_=>cases y <;> exact absurd (show false=true from hs) o_
theorem Pz:OpR X (compareOp .Lt) (rI0 fun i j=>.bl (decide (i<j))):=Ed fun _ _ _ _ _ _ _ q=>lt_int q
theorem PB:OpR X (compareOp .LtE) (rI0 fun i j=>.bl (decide (i<=j))):=Ed fun _ _ _ _ _ _ _ q=>le_int q
theorem PJ:OpR X (compareOp .Gt) (rI0 fun i j=>.bl (decide (j<i))):=Ed fun _ _ _ _ _ _ _ q=>gt_int q
theorem PK:OpR X (compareOp .GtE) (rI0 fun i j=>.bl (decide (j<=i))):=Ed fun _ _ _ _ _ _ _ q=>ge_int q
theorem xn:OpR X (compareOp .In) (fun x y H Q=>∃i j,x=.str i/\y=.str j/\Q (.bl (!(Builtin.Str.occurrences j i 0 j.length 1).isEmpty)) H):=by
 intro pins s Z H x y v u Q I rx ry h;obtain⟨i,j,rfl,rfl,q⟩:=h;obtain⟨t,rfl⟩:=rx;obtain⟨t',rfl⟩:=ry;exact in_str (aZ I q rfl)
theorem Kz:OpR X (compareOp .Is) (fun x y H Q=>y=.non/\Q (.bl (decide (x=.non))) H):=by
 intro pins s Z H x y v u Q I rx ry h;obtain⟨rfl,q⟩:=h;cases ry;refine is_none_gen (aZ I q ?_);cases x <;> first
  | (cases rx;rfl)
  | (obtain⟨t,rfl⟩:=rx;rfl)
theorem Ef:OpR X (compareOp .IsNot) (fun x y H Q=>y=.non/\Q (.bl (!decide (x=.non))) H):=by
 intro pins s Z H x y v u Q I rx ry h;obtain⟨rfl,q⟩:=h;cases ry;refine isnot_none_gen (aZ I q ?_);cases x <;> first
  | (cases rx;rfl)
  | (obtain⟨t,rfl⟩:=rx;rfl)
theorem oV:OpR X (compareOp .NotIn) (fun x y H Q=>∃i j,x=.str i/\y=.str j/\Q (.bl (!(!(Builtin.Str.occurrences j i 0 j.length 1).isEmpty))) H):=by
 intro pins s Z H x y v u Q I rx ry h;obtain⟨i,j,rfl,rfl,q⟩:=h;obtain⟨t,rfl⟩:=rx;obtain⟨t',rfl⟩:=ry;exact notIn_str (aZ I q rfl)
theorem OpR.or {f:Value->Value->Sem Value}{r r':R2}(h:OpR X f r) (h':OpR X f r'):OpR X f (fun x y H Q=>r x y H Q\/r' x y H Q):=by
 intro pins s Z H x y v u Q I rx ry q;rcases q with q | q
 ·exact h pins s Z H x y v u Q I rx ry q
 exact h' pins s Z H x y v u Q I rx ry q
theorem yW (b:Expr) {op:CmpOp}(h:op≠.In:=by decide) (h2:op≠.NotIn:=by decide):behindInMarks op b=false:=by
 have e1:(op==CmpOp.In)=false:=by cases op <;> first | rfl | exact absurd rfl h
 have e2:(op==CmpOp.NotIn)=false:=by cases op <;> first | rfl | exact absurd rfl h2
 cases b <;> simp [behindInMarks,e1,e2]
theorem Eg {op:CmpOp}{r:R2}(ho:OpR X (compareOp op) r) (ha:PE X a ta) (hb:PE X b tb) (hm:behindInMarks op b=false):PE X (.Compare a [op] [b] pos) (tOp r ta tb):=by
 intro pins s Z H Q I h;exact wpAny_Compare1 (Ko ha hb I h fun v u s2 x y H2 I2 rx ry q=>ho pins s2 Z H2 x y v u Q I2 rx ry q) hm
def PL (t:TE):TT:=fun Z H Q=>t Z H fun x H'=>∃k,x=.bl k/\Q k H'
theorem Eh {op:CmpOp}{r:R2}(ho:OpR X (compareOp op) r) (ha:PE X a ta) (hb:PE X b tb) (hm:behindInMarks op b=false):PT X (.Compare a [op] [b] pos) (PL (tOp r ta tb)):=by
 intro pins s Z H Q I h;refine wpAny_isTrue_Compare1 (thn (ha pins s Z H _ I h) fun v s1 ⟨x,H1,I1,r1,q1⟩=>thn (hb pins s1 Z H1 _ I1 q1) fun u s2 ⟨y,H2,I2,r2,q2⟩ =>
  thn (ho pins s2 Z H2 x y v u _ I2 r1 r2 q2) fun c s3 ⟨z,H3,I3,r3,k,e,q3⟩=>?_) hm
 subst e;cases r3;exact W0 ⟨H3,I3,q3⟩
theorem dO:(sizeLine:Nat)<2^63:=by rw[sizeLine_eq];decide
theorem op_add_str:OpR X (binaryOp .Add) (fun x y H Q=>∃i j,x=.str i/\y=.str j/\i.length+j.length<=sizeLine/\Q (.str (i++j)) H):=by
 intro pins s Z H x y v u Q I rx ry h;obtain⟨i,j,rfl,rfl,hz,q⟩:=h;obtain⟨t,rfl⟩:=rx;obtain⟨t',rfl⟩:=ry;exact add_str (fun t' tk=>⟨.str (i++j),H,I.tok _,⟨_,rfl⟩,q⟩) hz
theorem vals1 {x:V}{us:List Value}(r:Vals [x] us):∃u,us=[u]/\RelV x u:=by
 cases r with
 |cons r1 r2=>cases r2;exact⟨_,rfl,r1⟩
theorem vals2 {x y:V}{us:List Value}(r:Vals [x,y] us):∃u w',us=[u,w']/\RelV x u/\RelV y w':=by
 cases r with
 |cons r1 r2 =>
 cases r2 with
 |cons r3 r4=>cases r4;exact⟨_,_,rfl,r1,r3⟩
theorem xq:CallR X (.type "int") (fun xs H Q=>(∃i,xs=[.int i]/\Q (.int i) H)\/∃k,xs=[.bl k]/\Q (.int (if k then 1 else 0)) H):=by
 intro pins s Z H xs us Q I r h;rcases h with ⟨i,rfl,q⟩ | ⟨k,rfl,q⟩
 ·obtain⟨u,rfl,t,rfl⟩:=vals1 r;exact call_int_int ⟨.int i,H,I,⟨_,rfl⟩,q⟩
 obtain⟨u,rfl,r1⟩:=vals1 r;cases r1;exact call_int_bool ⟨.int (if k then 1 else 0),H,I.tok _,⟨_,rfl⟩,q⟩
end
structure ObjM (h:Heap) (x dx C:Addr) (mA:Str->Option Value):Prop where
 obj:h.get? x=some (instObj C dx)
 ns:h.Ns1 dx mA
 ne:dx≠x
theorem xu {h:Heap}{dx:Addr}{mA:Str->Option Value}(n:h.Ns1 dx mA):∃od,h.get? dx=some od/\∀name,lookIn name od=some (mA name):=by
 obtain⟨o,es,ep,ho,hd,hk,_,hm⟩:=n;refine⟨o,ho,fun name=>?_⟩;have e:=hm name;unfold nsFind findBy at e;rw[<- Array.find?_toList] at e;unfold lookIn;rw[hd];dsimp only;split
 ·rename_i y q;rw[q] at e;exact Q_ some e
 rename_i q;rw[q] at e;have a:es.toList.any (·.refKey)=false:=by rw[List.any_eq_false];intro y hy;obtain⟨z,t,hkey⟩:=hk y (Array.mem_toList_iff.mp hy);simp [DictEntry.refKey,hkey]
 have a':¬es.toList.any (·.refKey)=true:=by rw[a];exact o_
 rw[if_neg a'];exact Q_ some e
theorem ObjM.look {h:Heap}{x dx C:Addr}{mA:Str->Option Value}(I:ObjM h x dx C mA):∃od,InstAt h x (instObj C dx) C (some od)/\∀name,lookIn name od=some (mA name) :=
 let ⟨od,ho,hl⟩:=xu I.ns
 ⟨od,⟨I.obj,rfl,rfl,ho⟩,hl⟩
section
variable {prog:Program}{w:World}{A:Around}{E:Value->Shared->Prop}{s:Shared}{K:Frag}{x dx C f:Addr}{mA:Str->Option Value}{name:Str}{v:Value}
theorem Ei {expr:Bool}{Q:Value->Shared->Prop}(X:K.In s.heap) (I:ObjM s.heap x dx C mA) (hg:plainGet K C name=true) (hh:hasDictIn K C=true)
  (ha:findIn K (.ref C) name=some none) (hv:mA name=some v) (hv':handedIn v=true) (h:Q v { s with toks:=s.toks+1}) :
  wpAny (model prog w) A (getAttr (.ref x) name expr) Q E s:=by
 obtain⟨od,J,hl⟩:=I.look;exact PySem.W.get_value X J (plainGet_of hg).1 (PySem.W.findObj_own hh ha rfl (by rw[hl,hv])) hv' h
theorem yX {pl:Sem Bool}{Q:Value × List Value->Shared->Prop}(X:K.In s.heap) (I:ObjM s.heap x dx C mA) (hg:plainGet K C name=true)
  (hf:findIn K (.ref C) name=some (some (.ref f))) (ht:isFn K (.ref f)=true) (hv:mA name=none) (h:Q (.ref f,[.ref x]) s) :
  wpAny (model prog w) A (getMethod (.ref x) name pl) Q E s:=by
 obtain⟨od,J,hl⟩:=I.look;exact PySem.W.method_fn X J (plainGet_of hg).1 (plainGet_of hg).2 hf (W9.mp ht) (by show (lookIn name od).map (·.isSome)=some false;rw[hl,hv];rfl) h
theorem Ej {ns:List Str}{Q:Unit->Shared->Prop}(X:K.In s.heap) (I:ObjM s.heap x dx C mA)
  (hs:findIn K (.ref C) "__setattr__"=some (some (.builtin "object.__setattr__"))) (hp:plainOver K C=true) (ht:takerIn K C name=some none) (hh:hasDictIn K C=true)
  (hw:PySem.Within mA ns) (hsz:ns.length<=sizeLine)
  (h:∀h',ObjM h' x dx C (fun y=>if y=name then some v else mA y)->Heap.SameBut dx s.heap h'->Q () { s with heap:=h',toks:=s.toks+2}) :
  wpAny (model prog w) A (setAttr (.ref x) name v) Q E s:=by
 obtain⟨od,J,hl⟩:=I.look;refine PySem.W.set_plain X J hs (PySem.W.osa_open (s:={ s with toks:=s.toks+1}) (r:=none) X J hp ht fun b=>?_);obtain⟨cd,hc,hd'⟩:=PySem.W.any_some hh;have hx:s.heap.get? x=some ⟨.ref C,some dx,.plain,#[]⟩:=I.obj;refine a_ (h_ (a_ (a_ (wpAny_loadPart hx (a_ (PySem.W.Looks.here (s:={ s with toks:=s.toks+1}) (PySem.W.looks_clsIn X hc) ?_))))));rw[hd'];refine h_ (a:=some dx) (a_ (h_ (a_ ?_)));refine wpAny_nsSet1 (s:={ s with toks:=s.toks+1}) I.ns fun h' hn2 hs2=>?_;obtain⟨oD,esD,epD,hoD,hdD,hcD⟩:=hn2.count (PySem.Within.cons name v hw);refine a_ (wpAny_lookBehind hoD (by rw[hdD];exact pastItsLine_dict (U8 hcD (by rw[j_];omega))) ?_);exact h_ (h _ ⟨(hs2.2 _ (Ne.symm I.ne)).trans I.obj,hn2,I.ne⟩ hs2)
theorem yZ {R:Result->Shared->Prop}{vs:List Value}{kw:List (Str × Value)}(X:K.In s.heap) (hm:makesIn K C=true)
  (hi:findIn K (.ref C) "__init__"=some (some (.ref f))) (hf:typeIn K (.ref f)=some (.type "function"))
  (h:codeAny (model prog w) (A.under (.builtin "type.__call__" ⟨.ref C::vs,kw⟩)) (.call (.ref f) ⟨.ref (s.heap.objs.size+1)::vs,kw⟩) (PySem.W.InitBack (s.heap.objs.size+1) R)
   { s with heap:=(s.heap.push emptyDict).push (instObj C s.heap.objs.size)}) :
  codeAny (model prog w) A (.call (.ref C) ⟨vs,kw⟩) R s:=by
 obtain⟨hh,g,d,t,os⟩:=s;exact PySem.W.make_core (PySem.W.makes_of X hm) (PySem.W.looks_findIn X hi) (fun self=>PySem.W.bind_fn X self hf) (.inl rfl) h
end
def fL (f:Str) (v:V):List (Str × V)->List (Str × V)
 |[]=>[(f,v)]
 | (g,x)::r=>if g=f then (g,v)::r else (g,x)::fL f v r
theorem jC (f g:Str) (v:V):∀fs:List (Str × V),(fL f v fs).lookup g=if g=f then some v else fs.lookup g
 |[]=>by
  show List.lookup g [(f,v)]=_
  by_cases h:g=f
  ·
   have hb:(g==f)=true:=W9.mpr h
   simp only[List.lookup,hb,if_pos h]
  ·
   have hb:(g==f)=false:=V9.mpr h
   simp only[List.lookup,hb,if_neg h]
 | (k,x)::r=>by
  have ih:=jC f g v r
  rw[show fL f v ((k,x)::r)=(if k=f then (k,v)::r else (k,x)::fL f v r) from rfl]
  by_cases hk:k=f
  ·
   rw[if_pos hk]
   by_cases h:g=k
   ·
    have hb:(g==k)=true:=W9.mpr h
    simp only[List.lookup,hb,if_pos (h.trans hk)]
   ·
    have hb:(g==k)=false:=V9.mpr h
    simp only[List.lookup,hb,if_neg (fun e:g=f=>h (e.trans hk.symm))]
  ·
   rw[if_neg hk]
   by_cases h:g=k
   ·
    have hb:(g==k)=true:=W9.mpr h
    simp only[List.lookup,hb,if_neg (fun e:g=f=>hk (h.symm.trans e))]
   ·
    have hb:(g==k)=false:=V9.mpr h
    simp only[List.lookup,hb]
    exact ih
theorem jq (f:Str) (v:V):∀fs:List (Str × V),f∈(fL f v fs).map (·.1)/\∀g,g∈fs.map (·.1)->g∈(fL f v fs).map (·.1)
 |[]=>⟨by simp [fL],fun g h=>by simp at h⟩
 | (k,x)::r=>by
  obtain⟨i1,i2⟩:=jq f v r
  rw[show fL f v ((k,x)::r)=(if k=f then (k,v)::r else (k,x)::fL f v r) from rfl]
  by_cases hk:k=f
  ·
   rw[if_pos hk]
   subst hk
   exact⟨by simp,fun g h=>by simpa using h⟩
  ·
   rw[if_neg hk]
   refine⟨?_,fun g h=>?_⟩
   ·
    rw[A_]
    exact v_ _ i1
   ·
    rw[A_] at h ⊢
    rcases p_.mp h with e | e
    ·
     exact p_.mpr (.inl e)
    ·
     exact v_ _ (i2 g e)
theorem jD (f:Str) (v:V):∀fs:List (Str × V),(fL f v fs).length<=fs.length+1
 |[]=>by simp [fL]
 | (k,x)::r=>by
  have ih:=jD f v r
  rw[show fL f v ((k,x)::r)=(if k=f then (k,v)::r else (k,x)::fL f v r) from rfl]
  by_cases hk:k=f
  ·
   rw[if_pos hk,j_,j_];omega
  ·
   rw[if_neg hk,j_,j_];omega
theorem RelO.some_of {v:V}{o:Option Value}(r:RelO (some v) o):∃u,o=some u/\RelV v u:=by
 cases o with
 |none=>exact (show False from r).elim
 |some u=>exact⟨u,rfl,r⟩
theorem RelO.none_of {o:Option Value}(r:RelO none o):o=none:=by
 cases o with
 |none=>rfl
 |some u=>exact (show False from r).elim
theorem xx {v:V}{u:Value}(r:RelV v u):handedIn u=true:=by
 cases v with
 |non=>cases (show u=Value.none from r);rfl
 |bl b=>cases (show u=Value.bool b from r);rfl
 |int i=>obtain⟨t,e⟩:=(show ∃t,u=Value.int i t from r);cases e;rfl
 |str x=>obtain⟨t,e⟩:=(show ∃t,u=Value.str x t from r);cases e;rfl
 |byt b=>obtain⟨t,e⟩:=(show ∃t,u=Value.bytes b t from r);cases e;rfl
 |flt b=>obtain⟨t,e⟩:=(show ∃t,u=Value.float b t from r);cases e;rfl
 |ref a=>cases (show u=Value.ref a from r);rfl
 |ty n=>cases (show u=Value.type n from r);rfl
section
variable {P:Program}{w:World}{H H':Hp}{h h':Heap}{a C dx:Addr}{fs fs':List (Str × V)}
theorem oW (hok:HOk P w H h) (e:H a=some (.ins C dx fs)):∃mA,ObjM h a dx C mA/\(∀f,RelO (fs.lookup f) (mA f))/\PySem.Within mA (fs.map (·.1))/\fs.length<=1000/\H dx=some (.own a):=by
 obtain⟨d,z,ne,ob,mA,n,r,q⟩:=(show ObjOk P w H h a (.ins C dx fs) from hok a _ e);exact⟨mA,⟨ob,n,ne⟩,r,q,z,d⟩
end
structure Cls (K:Frag) (C:Addr):Prop where
 pg:plainGet K C Str.empty=true
 hd:hasDictIn K C=true
 po:plainOver K C=true
 sa:findIn K (.ref C) "__setattr__"=some (some (.builtin "object.__setattr__"))
theorem Cls.get {K:Frag}{C:Addr}(c:Cls K C) (f:Str):plainGet K C f=true:=c.pg
def NoAttr (K:Frag) (C:Addr) (f:Str):Prop:=findIn K (.ref C) f=some none
theorem NoAttr.taker {K:Frag}{C:Addr}{f:Str}(n:NoAttr K C f):takerIn K C f=some none:=by
 unfold takerIn;rw[show findIn K (.ref C) f=some none from n];rfl
structure Meth (K:Frag) (C:Addr) (m:Str) (f:Addr):Prop where
 at_:findIn K (.ref C) m=some (some (.ref f))
 fn:isFn K (.ref f)=true
 kp:keepIn K (.ref f)=true
section
variable {X:Cx}{pins:List (Addr × Obj)}{Z:St}{H:Hp}{s:Shared}{a C dx:Addr}{fs:List (Str × V)}{f:Str}{v:V}{A:Around}{E:Value->Shared->Prop}
theorem tu {b:Bool}{Q:Value->Shared->Prop}(I:Inv X pins Z H s) (e:H a=some (.ins C dx fs)) (c:Cls X.K C) (n:NoAttr X.K C f) (l:fs.lookup f=some v)
  (h:∀u s',Inv X pins Z H s'->RelV v u->Q u s'):wpAny (model X.prog X.w) A (getAttr (.ref a) f b) Q E s:=by
 obtain⟨mA,O,r,_,_,_⟩:=oW I.hok e;obtain⟨u,hu,ru⟩:=RelO.some_of (v:=v) (o:=mA f) (by rw[<- l];exact r f);exact Ei I.kIn O (c.get f) c.hd n hu (xx ru) (h u _ (I.tok _) ru)
theorem tD {m:Str}{g:Addr}{pl:Sem Bool}{Q:Value × List Value->Shared->Prop}(I:Inv X pins Z H s) (e:H a=some (.ins C dx fs)) (c:Cls X.K C) (k:Meth X.K C m g) (l:fs.lookup m=none)
  (h:Q (.ref g,[.ref a]) s):wpAny (model X.prog X.w) A (getMethod (.ref a) m pl) Q E s:=by
 obtain⟨mA,O,r,_,_,_⟩:=oW I.hok e;have hn:mA m=none:=RelO.none_of (by rw[<- l];exact r m);exact yX I.kIn O (c.get m) k.at_ k.fn hn h
theorem tE {y:V}{u:Value}{Q:Unit->Shared->Prop}(I:Inv X pins Z H s) (e:H a=some (.ins C dx fs)) (c:Cls X.K C) (n:NoAttr X.K C f) (hl:fs.length<1000) (ry:RelV y u)
  (h:∀s',Inv X pins Z (upd H a (.ins C dx (fL f y fs))) s'->Q () s'):wpAny (model X.prog X.w) A (setAttr (.ref a) f u) Q E s:=by
 obtain⟨mA,O,r,wi,_,ho⟩:=oW I.hok e;have hz:(fs.map (·.1)).length<=sizeLine:=by rw[d_,sizeLine_eq];omega
 refine Ej I.kIn O c.sa c.po n.taker c.hd wi hz fun h' O' sb=>h _ ?_;have hd:∃o,h'.get? dx=some o:=let ⟨o,_,_,e',_⟩:=O'.ns;⟨o,e'⟩;refine I.write (x:=a) (e:=dx) (by rw[e];exact True.intro) (.inr ho) (fun b q hb z=>(sb.2 b hb).trans z) hd ?_;refine⟨by rw[aP O.ne];exact ho,?_,O.ne,O'.obj,_,O'.ns,fun g=>?_,fun g hg=>?_⟩
 ·have:=jD f y fs;omega
 ·show RelO ((fL f y fs).lookup g) (if g=f then some u else mA g);rw[jC];by_cases q:g=f
  ·rw[if_pos q,if_pos q];exact ry
  rw[if_neg q,if_neg q];exact r g
 by_cases q:g=f
 ·rw[q];exact (jq f y fs).1
 refine (jq f y fs).2 g (wi g fun z=>hg ?_);show (if g=f then some u else mA g)=none;rw[if_neg q];exact z
theorem Inv.made (I:Inv X pins Z H s):Inv X pins Z (upd (upd H s.heap.objs.size (.own (s.heap.objs.size+1))) (s.heap.objs.size+1) (.ins C s.heap.objs.size []))
  { s with heap:=(s.heap.push emptyDict).push (instObj C s.heap.objs.size)}:=by
 have e1:(s.heap.push emptyDict).get? s.heap.objs.size=some emptyDict:=x_ s.heap rfl;have e2:((s.heap.push emptyDict).push (instObj C s.heap.objs.size)).get? (s.heap.objs.size+1)=some (instObj C s.heap.objs.size):=by
  have:=x_ (s.heap.push emptyDict) (o:=instObj C s.heap.objs.size) rfl
  rwa [Ww] at this
 have e3:(s.heap.push emptyDict).Ns s.heap.objs.size (fun _=>none):=⟨emptyDict,#[],_,e1,rfl,(fun e he=>absurd he (by simp)),fun _=>rfl⟩;have I1:=I.laid (a:=s.heap.objs.size) (o:=.own (s.heap.objs.size+1)) (h':=s.heap.push emptyDict) (t':=s.toks) (fun b u q=>e_ _ q) (m_ _) ⟨_,e1⟩;refine I1.laid (a:=s.heap.objs.size+1) (o:=.ins C s.heap.objs.size []) (t':=s.toks) (fun b u q=>e_ _ q) (Yi (Ww _ _)) ?_;have ne:s.heap.objs.size≠s.heap.objs.size+1:=U9 (Xd _);refine⟨by rw[aP ne,bU],Vx _,ne,e2,fun _=>none,(Heap.Ns1.of_empty e3).at fun o q=>e_ _ q,fun _=>True.intro,fun y hy=>absurd rfl hy⟩
theorem Ek {prog:Program}{w:World}{env:Env}{e:Expr}{f:Str}{pos:Pos}{s:Shared}{Q:Value->Shared->Prop}(hb:attributeBase e f env (eval e env)=eval e env)
  (h:wpAny (model prog w) A (eval e env) (fun o s₁=>wpAny (model prog w) A (getAttr o f true) Q E s₁) E s):wpAny (model prog w) A (eval (.Attribute e f pos) env) Q E s :=
 Attribute_any_ h (by rw[arm_eval_Attribute,hb])
end
def T9 (K:Frag) (ta:TE) (f:Str):TE:=fun Z H Q=>ta Z H fun x H1=>∃a C dx fs v,x=.ref a/\H1 a=some (.ins C dx fs)/\Cls K C/\NoAttr K C f/\fs.lookup f=some v/\Q v H1
def Ua (K:Frag) (ta tv:TE) (f:Str):TS:=fun D Z H=>tv Z H fun y H1=>ta Z H1 fun x H2=>∃a C dx fs,x=.ref a/\H2 a=some (.ins C dx fs)/\Cls K C/\NoAttr K C f/\fs.length<1000 /\
 D.nx Z (upd H2 a (.ins C dx (fL f y fs)))
section
variable {X:Cx}{o e value:Expr}{f:Str}{pos pos' tpos:Pos}{ta tv:TE}
theorem KD (he:PE X e ta) (hb:attributeBase e f X.env (eval e X.env)=eval e X.env):PE X (.Attribute e f pos) (T9 X.K ta f):=by
 intro pins s Z H Q I h;refine Ek hb (thn (he pins s Z H _ I h) fun u s1 ⟨x,H1,I1,rx,a,C,dx,fs,v,ex,ea,c,n,l,q⟩=>?_);subst ex;obtain rfl:u=Value.ref a:=rx;exact tu I1 ea c n l fun u' s2 I2 ru=>⟨v,H1,I2,ru,q⟩
theorem KH (ha:PE X o ta) (hv:PE X value tv) (hs:swapsWith value (some (.Attribute o f pos')) pos.line X.env=pure false):PS X (.Assign [.Attribute o f pos'] value pos) (Ua X.K ta tv f):=by
 intro pins s Z H D I h;refine plainObj_wpAny_Assign_Attribute (thn (hv pins s Z H _ I h) fun u s1 ⟨y,H1,I1,ry,q⟩=>thn (ha pins s1 Z H1 _ I1 q) fun ov s2 ⟨x,H2,I2,rx,a,C,dx,fs,ex,ea,c,n,l,q2⟩=>?_) hs;subst ex;obtain rfl:ov=Value.ref a:=rx;exact tE I2 ea c n l ry fun s3 I3=>⟨Z,_,I3,q2⟩
variable {pins:List (Addr × Obj)}{Z:St}{H:Hp}{s:Shared}{A:Around}{E Q:Value->Shared->Prop}{c:Value}{b:Bool}
end
structure Room (k:Nat) (A:Around):Prop where
 hd:A.handled=none
 dp:A.depth+3*k+5<recursionLimit
 un:A.units+16*k+200<cLine
 gd:A.guards=some []
theorem Room.mono {j k:Nat}{A:Around}(r:Room k A) (h:j<=k):Room j A:=⟨r.hd,by have:=r.dp;omega,by have:=r.un;omega,r.gd⟩
theorem Room.deeper {k:Nat}{A:Around}(r:Room (k+1) A) (env:Env):Room k (A.deeper env) :=
 ⟨r.hd,by have:=r.dp;show A.depth+1+3*k+5<_;omega,by have:=r.un;show A.units+3+16*k+200<_;omega,r.gd⟩
theorem tG {A:Around}{C:Addr}{us:List Value}{kw:List (Str × Value)}:(A.under (.builtin "type.__call__" ⟨.ref C::us,kw⟩)).depth=A.depth+1:=by
 first | rfl | simp [Around.under,Code.weight,Code.isCreation,Code.isGuard,Code.isCaller,Code.frames,Code.isFrame,guardIds]
theorem tH {A:Around}{C:Addr}{us:List Value}{kw:List (Str × Value)}:(A.under (.builtin "type.__call__" ⟨.ref C::us,kw⟩)).units=A.units+1:=by
 first | rfl | simp [Around.under,Code.cUnits,Code.frames,Code.isFrame]
theorem Room.make {k:Nat}{A:Around}(r:Room (k+1) A) (C:Addr) (us:List Value) (kw:List (Str × Value)):Room k (A.under (.builtin "type.__call__" ⟨.ref C::us,kw⟩)) :=
 ⟨r.hd,by have:=r.dp;rw[tG];omega,by have:=r.un;rw[tH];omega,by first | exact r.gd | (simp [Around.under,Code.guards,Code.isGuard,guardIds,pushGuards,r.gd])⟩
theorem Room.depth {k:Nat}{A:Around}(r:Room k A):A.depth<recursionLimit:=by have:=r.dp;omega
def Ub:TA:=fun _ H Q=>Q [] H
def PN (ta:TE) (tr:TA):TA:=fun Z H Q=>ta Z H fun x H1=>tr Z H1 fun xs H2=>Q (x::xs) H2
section
variable {X:Cx}{e:Expr}{es:List Expr}{te:TE}{t:TA}{pos:Pos}
theorem KJ:PA X [] Ub:=fun _ _ _ _ H Q I h=>VD ⟨[],H,I,.nil,h⟩
theorem El (ha:PE X e te) (hr:PA X es t) (hs:starEach (e::es) X.env=(false,eval e X.env)::starEach es X.env:=by rfl):PA X (e::es) (PN te t):=by
 intro pos pins s Z H Q I h;rw[hs];show wpAny _ _ (spliced ((false,eval e X.env)::backTo pos (starEach es X.env))) _ _ s;refine Vr (thn (ha pins s Z H _ I h) fun u s1 ⟨x,H1,I1,r1,q1⟩=>?_);exact thn (hr pos pins s1 Z H1 _ I1 q1) fun us s2 ⟨xs,H2,I2,r2,q2⟩=>⟨x::xs,H2,I2,.cons r1 r2,q2⟩
def Uc (t:TA):TE:=fun Z H Q=>t Z H fun xs H1=>xs.length<=sizeLine/\∀p,H1 p=none->Q (.ref p) (upd H1 p (.tup xs))
def Ud (t:TA):TE:=fun Z H Q=>t Z H fun xs H1=>xs.length<=sizeLine/\∀p,H1 p=none->Q (.ref p) (upd H1 p (.lst xs))
theorem KN {x1}(h:PA X es t):PE X (.Tuple es x1 pos) (Uc t):=by
 intro pins s Z H Q I hq;refine wpAny_Tuple_spliced (thn (h pos pins s Z H _ I hq) fun us s1 ⟨xs,H1,I1,r,z,q⟩=>⟨by rw[<- r.length];exact z,?_⟩);have hf:H1 s1.heap.objs.size=none:=I1.hok.fresh (m_ _);refine⟨.ref s1.heap.objs.size,upd H1 s1.heap.objs.size (.tup xs),I1.laid (t':=s1.toks) (fun b u e=>e_ _ e) (m_ _) ?_,rfl,q _ hf⟩;exact⟨z,us,r,⟨_,x_ _ rfl,rfl,_,rfl,rfl⟩⟩
theorem KQ (h:PA X es t):PE X (.List es pos) (Ud t):=by
 intro pins s Z H Q I hq;refine wpAny_List_spliced (thn (h pos pins s Z H _ I hq) fun us s1 ⟨xs,H1,I1,r,z,q⟩=>⟨by rw[<- r.length];exact z,?_⟩);have hf:H1 s1.heap.objs.size=none:=I1.hok.fresh (m_ _);refine⟨.ref s1.heap.objs.size,upd H1 s1.heap.objs.size (.lst xs),I1.laid (t':=s1.toks) (fun b u e=>e_ _ e) (m_ _) ?_,rfl,q _ hf⟩;exact⟨z,us,0,r,x_ _ rfl⟩
end
abbrev Sp:=List V->Hp->VK->XK->Prop
abbrev CXT:=List Env->Hp->Shared->XK->Value->Shared->Prop
structure Env0 (P:Program) (w:World) (K:Frag) (mg:Str->Option Value) (base:Heap) (A:Around) (outer:List Env) (s:Shared) (H:Hp):Prop where
 frames:A.frames=some outer
 mod:Mod K mg base
 bs:∀b o,base.get? b=some o->s.heap.get? b=some o/\H b=none
 bsz:base.objs.size<=s.heap.objs.size
 funs:s.heap.FunFrames base outer
 frf:∀b∈frs outer,H b=none
 hok:HOk P w H s.heap
 bare:AllBare s.gens
def CE (outer:List Env) (P:Program) (w:World) (H:Hp) (s:Shared) (Q:VK) (u:Value) (s':Shared):Prop :=
 ∃v H',s'.os=s.os/\AllBare s'.gens/\Un (frs outer) [] H H' s.heap s'.heap/\HOk P w H' s'.heap/\RelV v u/\Q v H'
def CR (CX:CXT) (outer:List Env) (P:Program) (w:World) (H:Hp) (s:Shared) (Q:VK) (E:XK) (r:Result) (s':Shared):Prop :=
 match r with
 |.ok (.ret u)=>CE outer P w H s Q u s'
 |.ok _=>False
 |.error e=>CX outer H s E e s'
structure FnOk (P:Program) (w:World) (K:Frag) (mg:Str->Option Value) (base:Heap) (CX:CXT) (k:Nat) (f:Addr) (fd:FuncData) (ps:List Str) (sp:Sp):Prop where
 len:∀vs H Q E,sp vs H Q E->vs.length=ps.length
 run:∀(A:Around) (outer:List Env) (s:Shared) (H:Hp) (args:Args) (us:List Value) (vs:List V) (Q:VK) (E:XK),Room k A->Env0 P w K mg base A outer s H->BindsTo s fd args (ps.zip us)->Vals vs us->sp vs H Q E ->
  codeAny (model P w) A (.call (.ref f) args) (CR CX outer P w H s Q E) s
theorem FnOk.imp {P:Program}{w:World}{K:Frag}{mg:Str->Option Value}{base:Heap}{CX:CXT}{k:Nat}{f:Addr}{fd:FuncData}{ps:List Str}{sp sp':Sp}(F:FnOk P w K mg base CX k f fd ps sp)
  (h:∀vs H Q E,sp' vs H Q E->sp vs H Q E):FnOk P w K mg base CX k f fd ps sp' :=
 ⟨fun vs H Q E q=>F.len vs H Q E (h _ _ _ _ q),fun A outer s H args us vs Q E hr he hb hv hs=>F.run A outer s H args us vs Q E hr he hb hv (h _ _ _ _ hs)⟩
theorem Env0.make {P:Program}{w:World}{K:Frag}{mg:Str->Option Value}{base:Heap}{A:Around}{outer:List Env}{s:Shared}{H:Hp}(e:Env0 P w K mg base A outer s H) (C:Addr) (us:List Value) (kw:List (Str × Value)) :
  Env0 P w K mg base (A.under (.builtin "type.__call__" ⟨.ref C::us,kw⟩)) outer s H:=⟨by first | exact e.frames | (simpa [Around.under,Code.envs,Code.isFrame,pushEnvs] using e.frames),e.mod,e.bs,e.bsz,e.funs,e.frf,e.hok,e.bare⟩
section
variable {X:Cx}{pins:List (Addr × Obj)}{Z:St}{H:Hp}{s s':Shared}
theorem Inv.env0 (I:Inv X pins Z H s):Env0 X.prog X.w X.K X.mg X.base X.A X.stack s H :=
 ⟨I.ok.frames,I.ok.mod,I.bs,U8 I.ok.bsz I.sz,I.stack,I.stkFree,I.hok,I.bare⟩
theorem Inv.after {Q:VK}{u:Value}(I:Inv X pins Z H s) (h:CE X.stack X.prog X.w H s Q u s'):EP X pins Z Q u s':=by
 obtain⟨v,H',os,bare,un,hok,r,q⟩:=h;obtain⟨hh,g,d,t,os'⟩:=s';obtain rfl:os'=s.os:=os;exact⟨v,H',I.call (h':=hh) (g':=g) (d':=d) (t':=t) (ch:=[]) un hok bare (fun b z=>absurd z (by simp)),r,q⟩
end
def PP (sp:Sp) (dvs:List V) (E:XK) (t:TA):TE:=fun Z H Q=>t Z H fun vs H1=>sp (vs++dvs) H1 Q E
def PQ (C:Addr) (m:Str) (sp:Sp) (dvs:List V) (E:XK) (ta:TE) (t:TA):TE:=fun Z H Q=>ta Z H fun x H1=>∃a dx fs,x=.ref a/\H1 a=some (.ins C dx fs)/\fs.lookup m=none /\
 t Z H1 fun vs H2=>sp (x::(vs++dvs)) H2 Q E
def PX (C:Addr) (sp:Sp) (dvs:List V) (E:XK) (t:TA):TE:=fun Z H Q=>t Z H fun vs H1=>∀x dx,H1 x=none->H1 dx=none->dx≠x ->
 sp (.ref x::(vs++dvs)) (upd (upd H1 dx (.own x)) x (.ins C dx [])) (fun v H2=>v=.non/\Q (.ref x) H2) E
def Binds (K:Frag) (fd:FuncData) (ps:List Str) (ds:List Value):Prop :=
 ∀(s:Shared) (us:List Value),K.In s.heap->(us++ds).length=ps.length->BindsTo s fd ⟨us,[]⟩ (ps.zip (us++ds))
theorem Binds.all {K:Frag}{fd:FuncData}{ps:List Str}(h:∀us:List Value,us.length=ps.length->bindArgs fd ⟨us,[]⟩=pure (ps.zip us)):Binds K fd ps []:=fun s us _ hl=>by
 rw[S_] at hl ⊢;exact .of_eq (h us hl)
def jr (CX:CXT) (X:Cx) (E:XK):Prop:=∀(pins:List (Addr × Obj)) (Z:St) (H:Hp) (s:Shared) (e:Value) (s':Shared),Inv X pins Z H s->CX X.stack H s E e s'->X.xe e s'
section
variable {X:Cx}{CX:CXT}{k:Nat}{f C:Addr}{fd:FuncData}{ps:List Str}{sp:Sp}{dvs:List V}{ds:List Value}{E:XK}{x m:Str}{p pos apos:Pos}{e o:Expr}{es:List Expr}{ta:TE}{t:TA}
theorem za {pins:List (Addr × Obj)}{Z:St}{H:Hp}{s:Shared}{Q:VK}{us:List Value}{vs:List V}(F:FnOk X.prog X.w X.K X.mg X.base CX k f fd ps sp) (hr:Room k X.A) (hb:Binds X.K fd ps ds) (hd:Vals dvs ds) (hx:jr CX X E)
  (I:Inv X pins Z H s) (r:Vals vs us) (h:sp (vs++dvs) H Q E):wpAny (model X.prog X.w) X.A (call (.ref f) us) (EP X pins Z Q) X.xe s:=by
 have r2:Vals (vs++dvs) (us++ds):=r.append hd;have hl:(us++ds).length=ps.length:=by rw[<- r2.length];exact F.len _ _ _ _ h
 refine wpAny_call (W4 (F.run X.A X.stack s H ⟨us,[]⟩ (us++ds) (vs++dvs) Q E hr I.env0 (hb s us I.kIn hl) r2 h) fun r s' hq=>?_);cases r with
 |error e=>exact hx pins Z H s e s' I hq
 |ok fl =>
 cases fl with
 |ret u=>exact I.after hq
 |next=>exact False.elim hq
 |brk=>exact False.elim hq
 |cont=>exact False.elim hq
theorem Em (F:FnOk X.prog X.w X.K X.mg X.base CX k f fd ps sp) (hr:Room k X.A) (hg:Gl X x) (hm:X.mg x=some (.ref f)) (hk:keepIn X.K (.ref f)=true) (hb:Binds X.K fd ps ds) (hd:Vals dvs ds) (hx:jr CX X E)
  (ha:PA X (e::es) t) (hdb:(x==("__debug__":Str))=false:=by decide) (he:starEach (e::es) X.env=(false,eval e X.env)::starEach es X.env:=by rfl) (hpl:(backTo pos (starEach es X.env)).any (·.1)=false:=by rfl) :
  PE X (.Call (.Name x p) (e::es) [] pos) (PP sp dvs E t):=by
 intro pins s Z H Q I h;refine Vm (uT I hg hm ?_ hdb);refine callWith_K (h₀:=X.base) I.ok.mod.kin hk (thn (ha pos pins s Z H _ I h) fun us s1 ⟨vs,H1,I1,r,q⟩=>⟨I1.kIn,?_⟩) he hpl;exact za F hr hb hd hx I1 r q
theorem En {pl:Sem Bool}(he:PE X o ta) (c:Cls X.K C) (hm:Meth X.K C m f) (F:FnOk X.prog X.w X.K X.mg X.base CX k f fd ps sp) (hr:Room k X.A) (hb:Binds X.K fd ps ds) (hd:Vals dvs ds) (hx:jr CX X E) (ha:PA X (e::es) t)
  (hst:starEach (e::es) X.env=(false,eval e X.env)::starEach es X.env:=by rfl) (hpl:(backTo pos (starEach es X.env)).any (·.1)=false:=by rfl)
  (ht:eval (.Call (.Attribute o m apos) (e::es) [] pos) X.env=(do
   let ov <- eval o X.env
   standAt apos.atName
   let (f,first) <- holding [ov] (getMethod ov m pl)
   callWith pos f first (backTo pos (starEach (e::es) X.env)) (backToKw pos (keywordEach [] X.env))):=by rfl) :
  PE X (.Call (.Attribute o m apos) (e::es) [] pos) (PQ C m sp dvs E ta t):=by
 intro pins s Z H Q I h;refine PySem.W.methodCall_KW (pl:=pl) (thn (he pins s Z H _ I h) fun u s1 ⟨x,H1,I1,rx,a,dx,fs,ex,ea,l,q⟩=>?_) ht;subst ex;obtain rfl:u=Value.ref a:=rx;refine tD I1 ea c hm l ?_;refine callWith_K (first:=[.ref a]) (h₀:=X.base) I.ok.mod.kin hm.kp (thn (ha pos pins s1 Z H1 _ I1 q) fun us s2 ⟨vs,H2,I2,r,q2⟩=>⟨I2.kIn,?_⟩) hst hpl;exact za (us:=.ref a::us) (vs:=.ref a::vs) F hr hb hd hx I2 (.cons rfl r) q2
structure Mk (K:Frag) (C f:Addr):Prop where
 makes:makesIn K C=true
 init:findIn K (.ref C) "__init__"=some (some (.ref f))
 fn:isFn K (.ref f)=true
 kp:keepIn K (.ref C)=true
theorem zb {pins:List (Addr × Obj)}{Z:St}{H:Hp}{s:Shared}{Q:VK}{us:List Value}{vs:List V}(M:Mk X.K C f) (F:FnOk X.prog X.w X.K X.mg X.base CX k f fd ps sp) (hr:Room (k+1) X.A) (hb:Binds X.K fd ps ds) (hd:Vals dvs ds)
  (hx:jr CX X E) (I:Inv X pins Z H s) (r:Vals vs us)
  (h:∀x dx,H x=none->H dx=none->dx≠x->sp (.ref x::(vs++dvs)) (upd (upd H dx (.own x)) x (.ins C dx [])) (fun v H2=>v=.non/\Q (.ref x) H2) E) :
  wpAny (model X.prog X.w) X.A (call (.ref C) us) (EP X pins Z Q) X.xe s:=by
 have hq:=h (s.heap.objs.size+1) s.heap.objs.size (I.hok.fresh (Nat.le_succ _)) (I.hok.fresh (m_ _)) (U9 (Xd _));have I2:=Inv.made (C:=C) I;have r2:Vals (V.ref (s.heap.objs.size+1)::(vs++dvs)) (Value.ref (s.heap.objs.size+1)::(us++ds)):=.cons rfl (r.append hd);have hl:(Value.ref (s.heap.objs.size+1)::us++ds).length=ps.length:=by have e:=r2.length;rw[F.len _ _ _ _ hq] at e;exact e.symm
 refine wpAny_call (yZ (f:=f) I.kIn M.makes M.init (W9.mp M.fn) (W4 (F.run _ X.stack _ _ ⟨Value.ref (s.heap.objs.size+1)::us,[]⟩ (Value.ref (s.heap.objs.size+1)::(us++ds)) _ _ E (hr.make C us [])
  (I2.env0.make C us []) (hb _ (Value.ref (s.heap.objs.size+1)::us) I2.kIn hl) r2 hq) fun r s' hq'=>?_))
 cases r with
 |error e=>exact hx pins Z _ _ e s' I2 hq'
 |ok fl =>
 cases fl with
 |ret u=>obtain⟨v,H',I3,rv,ev,q3⟩:=I2.after hq';subst ev;exact⟨rv,⟨V.ref (s.heap.objs.size+1),H',I3,rfl,q3⟩⟩
 |next=>exact False.elim hq'
 |brk=>exact False.elim hq'
 |cont=>exact False.elim hq'
theorem Eo (M:Mk X.K C f) (F:FnOk X.prog X.w X.K X.mg X.base CX k f fd ps sp) (hr:Room (k+1) X.A) (hg:Gl X x) (hm:X.mg x=some (.ref C)) (hb:Binds X.K fd ps ds) (hd:Vals dvs ds) (hx:jr CX X E)
  (ha:PA X (e::es) t) (hdb:(x==("__debug__":Str))=false:=by decide) (he:starEach (e::es) X.env=(false,eval e X.env)::starEach es X.env:=by rfl) (hpl:(backTo pos (starEach es X.env)).any (·.1)=false:=by rfl) :
  PE X (.Call (.Name x p) (e::es) [] pos) (PX C sp dvs E t):=by
 intro pins s Z H Q I h;refine Vm (uT I hg hm ?_ hdb);refine callWith_K (h₀:=X.base) I.ok.mod.kin M.kp (thn (ha pos pins s Z H _ I h) fun us s1 ⟨vs,H1,I1,r,q⟩=>⟨I1.kIn,?_⟩) he hpl;exact zb M F hr hb hd hx I1 r q
variable {ks:List Str}{kpos:Pos}{kws:List Keyword}{te:TE}{tk:TA}{nm:Option Str}{g:List Value->List Value->List Value}{gV:List V->List V->List V}
end
structure FnScope (N P:List Str) (sc:Scope):Prop where
 kind:sc.kind=.function
 co:sc.isCoroutine=false
 gen:sc.isGenerator=false
 nd:N.Nodup
 pre:N.take P.length=P
 par:∀x∈P,sc.names.lookup x=some .local\/sc.names.lookup x=some .cell
 nofree:∀y∈sc.names,y.2≠.free
theorem m9 {kindOf:Str->Option NameKind}{x:Str}:∀{binds:List (Str × Value)}{m:Str->Option Value},(∀v,(x,v)∉binds)->bindL kindOf binds m x=m x
 |[],_,_=>rfl
 | (n,v)::r,m,h=>by
  unfold bindL
  rw[m9 fun w hw=>h w (v_ _ hw)]
  split
  ·
   have:x≠n:=by rintro rfl;exact h v t_
   simp [this]
  ·
   rfl
theorem ni {kindOf:Str->Option NameKind}{x:Str}:∀{binds:List (Str × Value)}{m:Str->Option Value},(∀v,(x,v)∉binds)->bindC kindOf binds m x=m x
 |[],_,_=>rfl
 | (n,v)::r,m,h=>by
  unfold bindC
  rw[ni fun w hw=>h w (v_ _ hw)]
  split
  ·
   rfl
  ·
   have:x≠n:=by rintro rfl;exact h v t_
   simp [this]
theorem nj {kindOf:Str->Option NameKind}{x:Str}{v:Value}:∀{P:List Str}{vs:List Value}{i:Nat}{m:Str->Option Value},P.Nodup->P[i]?=some x->vs[i]?=some v->kindOf x=some .local ->
  bindL kindOf (P.zip vs) m x=some v
 |[],_,_,_,_,h,_,_=>by simp at h
 |_::_,[],_,_,_,_,h,_=>by simp at h
 |p::P,w::vs,0,m,nd,h1,h2,hk=>by
  simp at h1 h2;subst h1;subst h2
  show bindL kindOf ((p,w)::P.zip vs) m p=_
  unfold bindL
  rw[m9 fun v hv=>(Vu.mp nd).1 (List.of_mem_zip hv).1,if_pos hk]
  simp
 |p::P,w::vs,i+1,m,nd,h1,h2,hk=>by
  show bindL kindOf ((p,w)::P.zip vs) m x=_
  unfold bindL
  exact nj (i:=i) (Vu.mp nd).2 (by simpa using h1) (by simpa using h2) hk
theorem nq {kindOf:Str->Option NameKind}{x:Str}{v:Value}:∀{P:List Str}{vs:List Value}{i:Nat}{m:Str->Option Value},P.Nodup->P[i]?=some x->vs[i]?=some v->kindOf x≠some .local ->
  bindC kindOf (P.zip vs) m x=some v
 |[],_,_,_,_,h,_,_=>by simp at h
 |_::_,[],_,_,_,_,h,_=>by simp at h
 |p::P,w::vs,0,m,nd,h1,h2,hk=>by
  simp at h1 h2;subst h1;subst h2
  show bindC kindOf ((p,w)::P.zip vs) m p=_
  unfold bindC
  rw[ni fun v hv=>(Vu.mp nd).1 (List.of_mem_zip hv).1,if_neg hk]
  simp
 |p::P,w::vs,i+1,m,nd,h1,h2,hk=>by
  show bindC kindOf ((p,w)::P.zip vs) m x=_
  unfold bindC
  exact nq (i:=i) (Vu.mp nd).2 (by simpa using h1) (by simpa using h2) hk
def start (N:List Str) (vs:List V):St:=vs.map some++List.replicate (N.length - vs.length) none
def tK (CX:CXT) (P:Program) (w:World) (K:Frag) (mg:Str->Option Value) (base:Heap) (N:List Str) (qual:Str) (scope:Scope) (f:Addr) (cd:Value) (A:Around) (outer:List Env) (s:Shared) (H:Hp) (E:XK):Cx where
 prog:=P
 w:=w
 K:=K
 mg:=mg
 base:=base
 A:=A.deeper (envOfC qual scope s.heap.objs.size f cd)
 N:=N
 s₀:=s
 H₀:=H
 env:=envOfC qual scope s.heap.objs.size f cd
 outer:=outer
 stack:=envOfC qual scope s.heap.objs.size f cd::outer
 ex:=[]
 calm:=true
 fn:=fun _=>true
 pn:=[]
 xe:=fun e s'=>wpAny (model P w) (A.deeper (envOfC qual scope s.heap.objs.size f cd)) (leaving (envOfC qual scope s.heap.objs.size f cd) e) (fun _ s''=>CX outer H s E e s'') (fun e' s''=>CX outer H s E e' s'') s'
theorem iR {sc:Scope}{n:Nat}{x:Str}(h:sc.names.lookup x=some .cell):∃c,(cellsFrom n sc.names []).lookup x=some c:=by
 have q:=cellsFrom_some sc.names n [] (.inl h);exact Option.isSome_iff_exists.mp q
theorem xF {CX:CXT}{P:Program}{w:World}{K:Frag}{mg:Str->Option Value}{base:Heap}{N ps:List Str}{qual:Str}{scope:Scope}{f:Addr}{cd:Value}{A:Around}{outer:List Env}{s s1:Shared}{H:Hp}{E:XK}{us:List Value}{vs:List V}
  (S:FnScope N ps scope) (hd:A.handled=none) (e0:Env0 P w K mg base A outer s H) (hl:vs.length=ps.length) (r:Vals vs us)
  (x:InCallC s s.heap.objs.size (bindL (envOfC qual scope s.heap.objs.size f cd).kindOf (ps.zip us) fun _=>none) (cellsFrom (s.heap.objs.size+1) scope.names []) (bindC (envOfC qual scope s.heap.objs.size f cd).kindOf (ps.zip us) fun _=>none) s1) :
  Inv (tK CX P w K mg base N qual scope f cd A outer s H E) [] (start N vs) H s1:=by
 have hpl:ps.length<=N.length:=by have:=Q_ List.length S.pre;rw[Vv] at this;omega
 obtain⟨h1,tk,rfl,hk⟩:=x.done;have noA:∀b:Addr,b∉(tK CX P w K mg base N qual scope f cd A outer s H E).ex:=fun b z=>absurd (show b∈([]:List Addr) from z) (by simp);refine⟨⟨e0.mod,S.kind,rfl,rfl,m_ _,fun y z c h1 h2=>?_,fun y hy=>?_,fun y c _ h=>?_,fun _=>hd,Around.frames_deeper e0.frames,.inr ⟨rfl,rfl⟩,fun b z=>absurd z (noA b),e0.bs,e0.bsz,fun b _ _=>noA b,fun b z=>absurd z (noA b),e0.funs,e0.frf⟩,
  rfl,e0.bare,Un.kept hk,⟨_,x.toInCall.ns,fun i y v h1 h2 h3=>?_⟩,fun y c h=>⟨_,x.cell y c h⟩,e0.hok.fresh (m_ _),fun y c h=>?_,fun p hp=>absurd (show p∈([]:List (Addr × Obj)) from hp) (by simp),e0.hok.kept hk,?_⟩
 ·exact name_of_addr x.apart (mem_of_lookup h1) (mem_of_lookup h2)
 ·have hy:scope.names.lookup y=some .cell\/scope.names.lookup y=some .free:=hy;rcases hy with hy | hy
  ·exact iR hy
  exact absurd rfl (S.nofree _ (mem_of_lookup hy))
 ·exact V5 (x.above y c (mem_of_lookup h))
 ·have hi:i<vs.length:=by
   unfold start at h2;by_cases hi:i<vs.length
   ·exact hi
   rw[R_ (by simpa using hi)] at h2;rw[Xe] at h2;split at h2 <;> cases h2
  have ha:vs[i]?=some v:=by
   unfold start at h2;rw[Vj (by simpa using hi),z_] at h2;cases e:vs[i]? with
   |none=>rw[e] at h2;cases h2
   |some a=>rw[e] at h2;cases h2;rfl
  obtain⟨u,hu,rv⟩:=r.get ha;have hp:ps[i]?=some y:=by rw[<- S.pre,List.getElem?_take_of_lt (by omega)];exact h1
  have ndP:ps.Nodup:=by rw[<- S.pre];exact S.nd.sublist (List.take_sublist _ _)
  refine⟨u,rv,?_⟩;rcases S.par y (V3 hp) with k | k
  ·exact .inl ⟨k,nj ndP hp hu k⟩
  obtain⟨c,e⟩:=iR (n:=s.heap.objs.size+1) k;refine .inr ⟨.inl k,c,e,?_⟩;have q:=x.cell y c e;rw[nq ndP hp hu (by show scope.names.lookup y≠_;rw[k];decide)] at q;exact q
 ·exact e0.hok.fresh (V5 (x.above y c (mem_of_lookup h)))
 unfold start;show _=N.length;rw[b_,d_,Xy];omega
theorem P0 {CX:CXT}{P:Program}{w:World}{K:Frag}{mg:Str->Option Value}{base:Heap}{k:Nat}{f:Addr}{name qual:Str}{params:Arguments}{body:List Stmt}{scope:Scope}{dV kV doc pm cdv ct oc:Value}{an od:Option Addr}
  {osl:Array (Option Value)} {N ps:List Str} {sp:Sp} (lk:K.lookup f=some ⟨oc,od,.func (fnOf name qual params body scope dV kV doc pm an cdv ct),osl⟩) (hcd:codeIn K cdv qual=true) (S:FnScope N ps scope)
  (len:∀vs H Q E,sp vs H Q E->vs.length=ps.length)
  (hbody:∀(A:Around) (outer:List Env) (s:Shared) (H:Hp) (vs:List V) (Q:VK) (E:XK),Room k (A.deeper (envOfC qual scope s.heap.objs.size f cdv))->sp vs H Q E ->
   ∃t,PSs (tK CX P w K mg base N qual scope f cdv A outer s H E) body t/\t { nx:=fun _ H'=>Q .non H',rt:=Q} (start N vs) H) :
  FnOk P w K mg base CX (k+1) f (fnOf name qual params body scope dV kV doc pm an cdv ct) ps sp:=by
 refine⟨len,fun A outer s H args us vs Q E hr e0 hb r hsp=>?_⟩;have hl:=len _ _ _ _ hsp;have KX:K.In s.heap:=e0.mod.kin.keeps fun b o e=>(e0.bs b o e).1;have lim:s.heap.NoLimit:=e0.mod.nolimit.keeps fun b o e=>(e0.bs b o e).1;have hkind:∀y∈ps.zip us,scope.names.lookup y.1=some .local\/(scope.names.lookup y.1=some .cell/\((cellsFrom (s.heap.objs.size+1) scope.names []).lookup y.1).isSome=true):=fun ⟨n,v⟩ hy=>by
  rcases S.par n (List.of_mem_zip hy).1 with q | q
  ·exact .inl q
  exact .inr ⟨q,cellsFrom_some _ _ _ (.inl q)⟩
 refine codeAny_call_function hr.depth (KX _ _ lk) rfl S.co S.gen rfl (PySem.W.codeRec_of KX hcd) (hb _ _ _ _ ?_);refine wpAny_newFunctionEnv_cells S.kind hkind fun env he s1 x=>?_;subst he;refine⟨lim.keeps x.toInCall.keep,codeAny_func ?_⟩;obtain⟨t,ht,hq⟩:=hbody A outer s H vs Q E (hr.deeper _) hsp;have I:Inv (tK CX P w K mg base N qual scope f cdv A outer s H E) [] (start N vs) H s1:=xF S hr.hd e0 hl r x;refine V0 (ht [] s1 (start N vs) H _ I hq) (fun fl s' hs=>?_) fun e s' hs=>hs;have fin:∀{Z':St} {H':Hp} {v:V} {u:Value},Inv (tK CX P w K mg base N qual scope f cdv A outer s H E) [] Z' H' s'->RelV v u->Q v H'->CE outer P w H s Q u s' :=
  fun {Z' H' v u} J rv q=>⟨v,H',J.os,J.bare,J.base,J.hok,rv,q⟩
 cases fl with
 |ret u=>obtain⟨v,Z',H',J,rv,q⟩:=hs;exact fin J rv q
 |next=>obtain⟨Z',H',J,q⟩:=hs;exact fin (v:=V.non) (u:=Value.none) J rfl q
 |brk=>obtain⟨_,_,_,q⟩:=hs;exact False.elim q
 |cont =>
 obtain⟨_,_,_,q⟩:=hs;exact False.elim q
section
variable {X:Cx}{x:Str}{p pos:Pos}{e:Expr}{es:List Expr}{t:TA}{id T:String}{r:List V->Hp->VK->Prop}
def tCB (r:List V->Hp->VK->Prop) (t:TA):TE:=fun Z H Q=>t Z H fun vs H1=>r vs H1 Q
theorem zc (hc:CallR X (.builtin id) r) (hg:Gl X x) (hm:X.mg x=none) (hv:bootBuiltins x=some (.builtin id)) (ha:PA X (e::es) t) (hn:x≠"__name__":=by decide) (hdb:(x==("__debug__":Str))=false:=by decide)
  (he:starEach (e::es) X.env=(false,eval e X.env)::starEach es X.env:=by rfl) (hpl:(backTo pos (starEach es X.env)).any (·.1)=false:=by rfl):PE X (.Call (.Name x p) (e::es) [] pos) (tCB r t):=by
 intro pins s Z H Q I h;refine Vm (dq I hg hm hv ?_ hn hdb);exact PyProof.Rows.callWith_builtin1 (thn (ha pos pins s Z H _ I h) fun us s1 ⟨vs,H1,I1,r1,q1⟩=>hc pins s1 Z H1 vs us Q I1 r1 q1) he hpl
theorem xG (hc:CallR X (.type T) r) (hg:Gl X x) (hm:X.mg x=none) (hv:bootBuiltins x=some (.type T)) (ha:PA X (e::es) t) (hn:x≠"__name__":=by decide) (hdb:(x==("__debug__":Str))=false:=by decide)
  (he:starEach (e::es) X.env=(false,eval e X.env)::starEach es X.env:=by rfl) (hpl:(backTo pos (starEach es X.env)).any (·.1)=false:=by rfl):PE X (.Call (.Name x p) (e::es) [] pos) (tCB r t):=by
 intro pins s Z H Q I h;refine Vm (dq I hg hm hv ?_ hn hdb);exact Va (thn (ha pos pins s Z H _ I h) fun us s1 ⟨vs,H1,I1,r1,q1⟩=>hc pins s1 Z H1 vs us Q I1 r1 q1) he hpl
end
end L2
namespace HT
open PySem PyProof.Rows
section
open PySem.SeqAt
open PySem.AutoSeq1 (wpAny_loadPart')
open PySem.MeetsSeq PySem.MeetsSeq2 PySem.MeetsSeq3
variable {prog:Program}{w:World}{A:Around}{E:Value->Shared->Prop}{s:Shared}
theorem cat_tup {t b:Addr}{vs ws:List Value}{Q:Value->Shared->Prop}(ht:IsTup s.heap t vs.toArray) (hb:IsTup s.heap b ws.toArray) (hv:vs≠[])
  (h1:ws=[]->Q (.ref t) s) (h2:ws≠[]->Q (.ref s.heap.objs.size) { s with heap:=s.heap.push { cls:=.type "tuple",data:=.seq (vs++ws).toArray}})
  (hsz:vs.length+ws.length<=sizeLine):wpAny (model prog w) A (binaryOp .Add (.ref t) (.ref b)) Q E s:=by
 obtain⟨⟨cls,dd,data,sl⟩,ho,hc,n,hd⟩:=id ht;obtain⟨⟨cls2,dd2,data2,sl2⟩,ho2,hc2,n2,hd2⟩:=id hb;simp only at hc hd hc2 hd2;subst hc hd hc2 hd2;have e:vs.toArray++ws.toArray=(vs++ws).toArray:=by simp
 by_cases hw:ws=[]
 ·exact concat_meets ⟨_,ho,rfl⟩ ⟨_,ho2,rfl⟩ noFill_tuple_add seq_tuple_add PySem.F.slot_tuple_add PySem.F.entry_tuple_add (X7 _ _)
   (tuple_addW1 t b vs.toArray ws.toArray n n2 dd dd2 sl sl2 (by simpa using hv) (by simp [hw])) ⟨ho,ho2,h1 hw⟩
 refine concat_meets ⟨_,ho,rfl⟩ ⟨_,ho2,rfl⟩ noFill_tuple_add seq_tuple_add PySem.F.slot_tuple_add PySem.F.entry_tuple_add (X7 _ _)
  (tuple_addW2 t b vs.toArray ws.toArray n n2 dd dd2 sl sl2 (by simpa using hv) (by simpa using hw) (by rw[l_,l_];exact hsz)) ⟨ho,ho2,?_⟩
 rw[e];exact h2 hw
def sIx (n d:Nat):Option Int->Nat
 |none=>d
 |some v=>if v<0 then (v+(n:Int)).toNat else min v.toNat n
theorem sIx_none (n d:Nat):sIx n d none=d:=rfl
theorem sIx_nat (n d k:Nat):sIx n d (some (k:Int))=min k n:=by
 show (if (k:Int)<0 then ((k:Int)+(n:Int)).toNat else min (k:Int).toNat n)=min k n;rw[if_neg (by omega),Wa]
theorem KR (n d:Nat) (hd:d<=n) (o:Option Int):sIx n d o<=n:=by
 cases o with
 |none=>exact hd
 |some v =>
  show (if v<0 then (v+(n:Int)).toNat else min v.toNat n)<=n
  by_cases hv:v<0
  ·
   rw[if_pos hv];omega
  ·
   rw[if_neg hv];exact Nat.min_le_right _ _
theorem uY (v:Int) (n d:Nat):(if v<0 then max (v+(n:Int)) 0 else min v (n:Int))=((sIx n d (some v):Nat):Int):=by
 show (if v<0 then max (v+(n:Int)) 0 else min v (n:Int))=(((if v<0 then (v+(n:Int)).toNat else min v.toNat n):Nat):Int);by_cases hv:v<0
 ·simp only[if_pos hv];omega
 simp only[if_neg hv];omega
theorem tL (lo hi:Option Int) (n:Nat):Builtin.Slice.sliceAdjust lo hi 1 (n:Int)=(((sIx n 0 lo:Nat):Int),((sIx n n hi:Nat):Int)):=by
 have h1:¬((1:Int)<0):=by omega
 unfold Builtin.Slice.sliceAdjust;simp only[h1,U7];refine Prod.ext ?_ ?_
 ·cases lo with
  |none=>rfl
  |some v=>exact uY v n 0
 cases hi with
 |none=>rfl
 |some v=>exact uY v n n
theorem tM (i j:Nat):Builtin.Slice.slicePlaces (i:Int) (j:Int) 1=j - i:=by
 unfold Builtin.Slice.slicePlaces;have h1:(1:Int)>0:=by omega
 simp only[h1,if_true,Int.ediv_one];split <;> omega
theorem iC {v:Value}{o:Option Int}{Q:Option Int->Shared->Prop}(p:IsPart v o) (h:Q o s):wpAny (model prog w) A (Builtin.Slice.slicePartIndex v) Q E s:=by
 cases p with
 |none=>exact slicePart_none h
 |int i t=>exact slicePart_int h
theorem eZ {sl:Addr}{vl vu:Value}{lo hi:Option Int}{n:Nat}{Q:Int × Int × Nat->Shared->Prop}(hs:s.heap.IsSliceOf sl vl vu .none) (pl:IsPart vl lo) (pu:IsPart vu hi)
  (h:Q (((sIx n 0 lo:Nat):Int),1,sIx n n hi - sIx n 0 lo) s):wpAny (model prog w) A (Builtin.Slice.sliceApplied (.ref sl) (pure (n:Int))) Q E s:=by
 obtain⟨os,hos,hcs,hds⟩:=id hs;unfold Builtin.Slice.sliceApplied Builtin.Slice.sliceFields;refine a_ (a_ (Wq hos hds (x:=vl) rfl (a_ (Wq hos hds (x:=vu) rfl (a_ (Wq hos hds (x:=.none) rfl (h_ ?_)))))));refine a_ (slicePart_none ?_);show wpAny _ _ (if ((1:Int)==0)=true then _ else _) _ _ s;rw[if_neg (by decide)];refine a_ (iC pl (a_ (iC pu (a_ (h_ ?_)))));show wpAny _ _ (match Builtin.Slice.sliceAdjust lo hi 1 (n:Int) with | (lo,hi)=>pure (lo,(1:Int),Builtin.Slice.slicePlaces lo hi 1)) _ _ s;rw[tL lo hi n];show wpAny _ _ (pure (((sIx n 0 lo:Nat):Int),(1:Int),Builtin.Slice.slicePlaces ((sIx n 0 lo:Nat):Int) ((sIx n n hi:Nat):Int) 1)) _ _ s;rw[tM];exact h_ h
theorem zf (xs : Array Value) (i k : Nat) : ((List.range k).filterMap fun (m : Nat) => xs[((i : Int) + (m : Int) * 1).toNat]?).toArray = ((xs.toList.drop i).take k).toArray:=by
 have e:(fun (m:Nat)=>xs[((i:Int)+(m:Int)*1).toNat]?)=fun m=>xs[i+m]?:=by
  funext m;have:((i:Int)+(m:Int)*1).toNat=i+m:=by omega
  rw[this]
 rw [e];have:=pick_run xs i k;rw [List.filterMap_map] at this;have e2 : ((fun x => xs[x]?) ∘ fun x => i + x) = fun m => xs[i + m]?:=rfl;rw [e2] at this;rw [this]
theorem getItem_tuple_cut {t sl:Addr}{items:Array Value}{vl vu:Value}{lo hi:Option Int}{Q:Value->Shared->Prop}(ht:IsTup s.heap t items) (hs:s.heap.IsSliceOf sl vl vu .none) (pl:IsPart vl lo) (pu:IsPart vu hi)
  (hw:¬(sIx items.size 0 lo=0/\sIx items.size items.size hi=items.size))
  (h:Q (.ref s.heap.objs.size) { s with heap:=s.heap.push { cls:=.type "tuple",data:=.seq ((items.toList.drop (sIx items.size 0 lo)).take (sIx items.size items.size hi - sIx items.size 0 lo)).toArray}})
  (hsz:items.size<=sizeLine):wpAny (model prog w) A (getItem (.ref t) (.ref sl)) Q E s:=by
 have htake:sizeOk (.seq ((items.toList.drop (sIx items.size 0 lo)).take (sIx items.size items.size hi - sIx items.size 0 lo)).toArray):=by show ((items.toList.drop (sIx items.size 0 lo)).take (sIx items.size items.size hi - sIx items.size 0 lo)).toArray.size<=sizeLine;rw[l_,Vv,V6,Vl];omega
 have hj:sIx items.size items.size hi<=items.size:=KR _ _ (m_ _) hi;obtain⟨os,hos,hcs,hds⟩:=id hs;have hTs:s.TypeIs (.ref sl) "slice":=⟨os,hos,hcs⟩;unfold getItem;try with_reducible refine VN ?_
 first | refine a_ (h_ ?_) | skip
 refine a_ (wpAny_sequenceKey ht.typeIs (by decide) ?_);refine a_ (V2 (name:=Str.ofString "__getitem__") ht.typeIs Vd
  (Vw Vd ht.typeIs entry_tuple_getitem ?_ (args_tuple_getitem _ _)))
 show wpAny _ _ (Builtin.Tuple.tupleItemsOf (.ref t) >>= _) _ _ s;refine a_ (tupleItemsOf_ ht ?_);refine a_ (Xp hTs ?_);rw[if_pos (by decide)];refine a_ (eZ hs pl pu ?_);have hno:¬((((sIx items.size 0 lo:Nat):Int)==0&&(1:Int)==1&&(sIx items.size items.size hi - sIx items.size 0 lo)==items.size)=true):=by intro q;rw[Vf,Vf] at q;have q1:((sIx items.size 0 lo:Nat):Int)=0:=eq_of_beq q.1.1;have q2:sIx items.size items.size hi - sIx items.size 0 lo=items.size:=eq_of_beq q.2;exact hw ⟨by omega,by omega⟩
 show wpAny _ _ (if (((sIx items.size 0 lo:Nat):Int)==0&&(1:Int)==1&&(sIx items.size items.size hi - sIx items.size 0 lo)==items.size)=true then _ else _) _ _ s;rw[if_neg hno,zf];first
  |exact a_ (m:=Builtin.Tuple.tupleExact _) (Vb (h_ ⟨_,rfl,h_ h⟩) htake)
  |exact a_ (m:=Builtin.Tuple.tupleExact _) (Vb (a_ (h_ (h_ ⟨_,rfl,h_ h⟩))) htake)
  |exact a_ (a_ (m:=Builtin.Tuple.tupleExact _) (Vb (h_ (h_ ⟨_,rfl,h_ h⟩)) htake))
  |exact a_ (a_ (m:=Builtin.Tuple.tupleExact _) (Vb (h_ ⟨_,rfl,h_ h⟩) htake))
end
end HT
namespace L2
abbrev TO:=St->Hp->(Option Int->Hp->Prop)->Prop
def PO (X:Cx) (e:Option Expr) (t:TO):Prop :=
 ∀(pins:List (Addr × Obj)) (s:Shared) (Z:St) (H:Hp) (Q:Option Int->Hp->Prop),Inv X pins Z H s->t Z H Q ->
  wpAny (model X.prog X.w) X.A (evalPart e X.env) (fun u s'=>∃o H',Inv X pins Z H' s'/\IsPart u o/\Q o H') X.xe s
def Ep:TO:=fun _ H Q=>Q none H
def Qa (t:TE):TO:=fun Z H Q=>t Z H fun x H1=>∃i,x=.int i/\Q (some i) H1
section
variable {X:Cx}{e:Expr}{te:TE}{lo hi:Option Expr}{tl th:TO}{pos p2:Pos}
theorem Er:PO X none Ep:=by
 intro pins s Z H Q I h;rw[evalPart_none];exact h_ ⟨none,H,I,.none,h⟩
theorem Es (h:PE X e te):PO X (some e) (Qa te):=by
 intro pins s Z H Q I hw;rw[evalPart_some];refine thn (h pins s Z H _ I hw) fun u s1 ⟨x,H1,I1,r1,q1⟩=>?_;obtain⟨i,rfl,q⟩:=q1;obtain⟨t,rfl⟩:=r1;exact⟨some i,H1,I1,.int i t,q⟩
def SlR (X:Cx) (r:V->Option Int->Option Int->Hp->VK->Prop):Prop :=
 ∀(pins:List (Addr × Obj)) (s:Shared) (Z:St) (H:Hp) (x:V) (v vl vu:Value) (lo hi:Option Int) (sl:Addr) (Q:VK),Inv X pins Z H s->RelV x v->s.heap.IsSliceOf sl vl vu .none->IsPart vl lo->IsPart vu hi->r x lo hi H Q ->
  ∃T id,typeLookup (.type T) "__getitem__"=pure (some (.builtin id))/\s.TypeIs v T/\wpAny (model X.prog X.w) X.A (getItem v (.ref sl)) (EP X pins Z Q) X.xe s
theorem SlR.or {r r':V->Option Int->Option Int->Hp->VK->Prop}(h:SlR X r) (h':SlR X r'):SlR X (fun x lo hi H Q=>r x lo hi H Q\/r' x lo hi H Q):=by
 intro pins s Z H x v vl vu lo hi sl Q I rx hs pl pu q;rcases q with q | q
 ·exact h pins s Z H x v vl vu lo hi sl Q I rx hs pl pu q
 exact h' pins s Z H x v vl vu lo hi sl Q I rx hs pl pu q
def tSl (r:V->Option Int->Option Int->Hp->VK->Prop) (te:TE) (tl th:TO):TE:=fun Z H Q=>te Z H fun x H1=>tl Z H1 fun l H2=>th Z H2 fun u H3=>r x l u H3 Q
theorem qy {r:V->Option Int->Option Int->Hp->VK->Prop}(hr:SlR X r) (he:PE X e te) (hl:PO X lo tl) (hu:PO X hi th):PE X (.Subscript e (.Slice lo hi none p2) pos) (tSl r te tl th):=by
 intro pins s Z H Q I h;refine Subscript_ (thn (he pins s Z H _ I h) fun v s1 ⟨x,H1,I1,r1,q1⟩=>?_);refine wpAny_Slice (thn (hl pins s1 Z H1 _ I1 q1) fun vl s2 ⟨l,H2,I2,pl,q2⟩=>thn (hu pins s2 Z H2 _ I2 q2) fun vu s3 ⟨u,H3,I3,pu,q3⟩=>?_);rw[evalPart_none];refine h_ ?_;have I4:Inv X pins Z H3 { s3 with heap:=s3.heap.push { cls:=.type "slice",data:=.fields #[vl,vu,.none]}}:=I3.kept (t':=s3.toks) fun b ob q=>e_ _ q;obtain⟨T,id,hT,ht,hg⟩:=hr pins { s3 with heap:=s3.heap.push { cls:=.type "slice",data:=.fields #[vl,vu,.none]}} Z H3 x v vl vu l u s3.heap.objs.size Q I4 r1 (Heap.IsSliceOf.new ..) pl pu q3;show wpAny (model X.prog X.w) X.A (subscriptTail e (.Slice lo hi none p2) v (.ref s3.heap.objs.size)) (EP X pins Z Q) X.xe { s3 with heap:=s3.heap.push { cls:=.type "slice",data:=.fields #[vl,vu,.none]}};exact tail_any (ops:=[.ref s3.heap.objs.size,v]) ht hT hg (by with_unfolding_all rfl)
def qz (xs:List V) (lo hi:Option Int):List V:=(xs.drop (HT.sIx xs.length 0 lo)).take (HT.sIx xs.length xs.length hi - HT.sIx xs.length 0 lo)
theorem jE (xs:List V) (lo hi:Option Int):(qz xs lo hi).length<=xs.length:=by
 unfold qz;rw[Vv,V6];omega
def Ue (K:Frag):V->Option Int->Option Int->Hp->VK->Prop:=fun x lo hi H Q=>∃a xs,x=.ref a/\SqT K H a xs /\
 ¬(HT.sIx xs.length 0 lo=0/\HT.sIx xs.length xs.length hi=xs.length)/\∀p,H p=none->Q (.ref p) (upd H p (.tup (qz xs lo hi)))
theorem sl_tup:SlR X (Ue X.K):=by
 intro pins s Z H x v vl vu lo hi sl Q I rx hs pl pu h;obtain⟨a,xs,rfl,hx,hw,q⟩:=h;cases rx;obtain⟨its,r,ht,hz⟩:=I.tuple hx;have hlen:its.toArray.size=xs.length:=by rw[l_];exact r.length.symm
 refine⟨"tuple",_,Vd.lookup,ht.typeIs,?_⟩;refine HT.getItem_tuple_cut ht hs pl pu (by rw[hlen];exact hw) ?_ (by rw[hlen];exact hz);rw[hlen];refine⟨.ref s.heap.objs.size,_,I.laid (t':=s.toks) (o:=.tup (qz xs lo hi)) (fun b ob q=>e_ _ q) (m_ _) ?_,rfl,q _ (I.hok.fresh (m_ _))⟩;exact⟨U8 (jE xs lo hi) hz,_,(r.drop (HT.sIx xs.length 0 lo)).take (HT.sIx xs.length xs.length hi - HT.sIx xs.length 0 lo),Tup0.new _ _⟩
def Qd (K:Frag):R2:=fun x y H Q=>∃a b xs ys,x=.ref a/\y=.ref b/\SqT K H a xs/\SqT K H b ys/\xs≠[]/\xs.length+ys.length<=sizeLine /\
 (ys=[]->Q (.ref a) H)/\(ys≠[]->∀p,H p=none->Q (.ref p) (upd H p (.tup (xs++ys))))
theorem Vals.nil_iff {xs:List V}{us:List Value}(r:Vals xs us):us=[]↔xs=[]:=by
 cases r with
 |nil=>simp
 |cons _ _=>simp
theorem op_catT:OpR X (binaryOp .Add) (Qd X.K):=by
 intro pins s Z H x y v u Q I rx ry h;obtain⟨a,b,xs,ys,rfl,rfl,ha,hb,hx,hz,q1,q2⟩:=h;cases rx;cases ry;obtain⟨its,r1,p1,_⟩:=I.tuple ha;obtain⟨its2,r2,p2,_⟩:=I.tuple hb;refine HT.cat_tup p1 p2 (fun z=>hx (r1.nil_iff.mp z)) (fun z=>⟨.ref a,H,I,rfl,q1 (r2.nil_iff.mp z)⟩) (fun z=>?_) (by rw[<- r1.length,<- r2.length];exact hz);refine⟨.ref s.heap.objs.size,_,I.laid (t':=s.toks) (o:=.tup (xs++ys)) (fun b ob q=>e_ _ q) (m_ _) ?_,rfl,q2 (fun w=>z (r2.nil_iff.mpr w)) _ (I.hok.fresh (m_ _))⟩;exact⟨by rw[b_];exact hz,_,r1.append r2,Tup0.new _ _⟩
end
def ixN (n:Nat) (i:Int):Option Nat:=if 0<=i then (if i<n then some i.toNat else none) else if -(n:Int)<=i then some (i+n).toNat else none
def atI {α:Type}(xs:List α) (i:Int):Option α:=(ixN xs.length i).bind fun j=>xs[j]?
theorem oX {n:Nat}{i:Int}{j:Nat}(h:ixN n i=some j):seqIndex? i n=some j/\j<n /\ -(n:Int)<=i/\i<n:=by
 unfold ixN at h;by_cases h0:0<=i
 ·rw[if_pos h0] at h;by_cases h1:i<n
  ·rw[if_pos h1] at h;have e:i.toNat=j:=U6 h;exact⟨by rw[seqIndex_of h0 h1,e],by omega,by omega,h1⟩
  rw[if_neg h1] at h;cases h
 rw[if_neg h0] at h;by_cases h1 : -(n:Int)<=i
 ·rw[if_pos h1] at h;have e:(i+n).toNat=j:=U6 h;exact⟨by rw[seqIndex_neg (by omega) h1,e],by omega,h1,by omega⟩
 rw[if_neg h1] at h;cases h
theorem oY {α:Type}{xs:List α}{i:Int}{v:α}(h:atI xs i=some v):∃j,seqIndex? i xs.length=some j/\xs[j]?=some v/\j<xs.length /\ -(xs.length:Int)<=i/\i<xs.length:=by
 unfold atI at h;cases e:ixN xs.length i with
 |none=>rw[e] at h;cases h
 |some j =>
 rw[e] at h;obtain⟨h1,h2,h3,h4⟩:=oX e;exact⟨j,h1,h,h2,h3,h4⟩
theorem bC {α:Type}{xs:List α}{j:Nat}{v:α}(h:xs[j]?=some v):atI xs (j:Int)=some v:=by
 have hj:j<xs.length:=(VG.mp h).1;have e:ixN xs.length (j:Int)=some j:=by unfold ixN;rw[if_pos (by omega),if_pos (by omega)];simp
 unfold atI;rw[e];exact h
theorem qC {α:Type}(xs:List α) (v:α):atI (xs++[v]) (-1)=some v:=by
 have hl:(xs++[v]).length=xs.length+1:=by simp
 have e:ixN (xs++[v]).length (-1)=some xs.length:=by unfold ixN;rw[hl,if_neg (by decide),if_pos (by omega)];congr 1;omega
 unfold atI;rw[e];show (xs++[v])[xs.length]?=some v;simp
def uZ (b:Expr):Prop:=∀o i,subscripted b false o i=operate [o,i] (getItem o i)
def IxR (X:Cx) (r:R2):Prop :=
 ∀(value slice:Expr) (pins:List (Addr × Obj)) (s:Shared) (Z:St) (H:Hp) (x y:V) (v u:Value) (Q:VK),Inv X pins Z H s->RelV x v->RelV y u->r x y H Q ->
  subscripted slice false v u=operate [v,u] (getItem v u)->wpAny (model X.prog X.w) X.A (subscriptTail value slice v u) (EP X pins Z Q) X.xe s
def MtR (X:Cx) (id:String) (r:V->List V->Hp->VK->Prop):Prop :=
 ∀(pins:List (Addr × Obj)) (s:Shared) (Z:St) (H:Hp) (x:V) (xs:List V) (v:Value) (us:List Value) (Q:VK),Inv X pins Z H s->RelV x v->Vals xs us->r x xs H Q ->
  wpAny (model X.prog X.w) X.A (call (.builtin id) (v::us)) (EP X pins Z Q) X.xe s
section
variable {X:Cx}{a b:Expr}{ta tb:TE}{pos:Pos}
theorem IxR.or {r r':R2}(h:IxR X r) (h':IxR X r'):IxR X (fun x y H Q=>r x y H Q\/r' x y H Q):=by
 intro value slice pins s Z H x y v u Q I rx ry q hs;rcases q with q | q
 ·exact h value slice pins s Z H x y v u Q I rx ry q hs
 exact h' value slice pins s Z H x y v u Q I rx ry q hs
theorem Qe {r:R2}(hr:IxR X r) (ha:PE X a ta) (hb:PE X b tb) (hs:uZ b):PE X (.Subscript a b pos) (tOp r ta tb):=by
 intro pins s Z H Q I h;exact Subscript_ (Ko ha hb I h fun v u s2 x y H2 I2 rx ry q=>hr a b pins s2 Z H2 x y v u Q I2 rx ry q (hs _ _))
def Qf (K:Frag):R2:=fun x y H Q=>∃p xs i v,x=.ref p/\y=.int i/\SqL K H p xs/\atI xs i=some v/\Q v H
def Qg (K:Frag):R2:=fun x y H Q=>∃p xs i v,x=.ref p/\y=.int i/\SqT K H p xs/\atI xs i=some v/\Q v H
def Qh:R2:=fun x y H Q=>∃z i c,x=.str z/\y=.int i/\z.length<=sizeLine/\atI z.cps.toList i=some c/\Q (.str ⟨#[c]⟩) H
theorem ix_list:IxR X (Qf X.K):=by
 intro value slice pins s Z H x y v u Q I rx ry h hs;obtain⟨p,xs,i,z,rfl,rfl,hq,he,q⟩:=h;cases rx;obtain⟨t,rfl⟩:=ry;obtain⟨its,r,pl,hz⟩:=I.list hq;obtain⟨j,h1,h2,h3,h4,h5⟩:=oY he;obtain⟨w,ew,rw'⟩:=r.get h2;have hl:=r.length;have hn:=dO;have fin:EP X pins Z Q w s:=⟨z,H,I,rw',q⟩;by_cases h0:0<=i
 ·have hj:i.toNat=j:=by rw[seqIndex_of h0 h5] at h1;exact U6 h1
  exact item_listR pl.isList h0 (by omega) (by rw[hj];simpa using ew) fin hs
 have hj:(i+(its.toArray.size:Int)).toNat=j:=by rw[seqIndex_neg (by omega) h4] at h1;rw[l_,<- hl];exact U6 h1
 exact subscriptTail_builtinR (x:=w) pl.isList.typeIs slot_list_getitem.lookup
  (wpAny_getItem_list_neg (Q:=fun r s'=>r=w/\EP X pins Z Q r s') pl.isList (by omega) (by rw[l_] <;> omega) (by omega) (by rw[hj];simpa using ew) ⟨rfl,fin⟩) hs
theorem ix_tup:IxR X (Qg X.K):=by
 intro value slice pins s Z H x y v u Q I rx ry h hs;obtain⟨p,xs,i,z,rfl,rfl,hq,he,q⟩:=h;cases rx;obtain⟨t,rfl⟩:=ry;obtain⟨its,r,pl,hz⟩:=I.tuple hq;obtain⟨j,h1,h2,h3,h4,h5⟩:=oY he;obtain⟨w,ew,rw'⟩:=r.get h2;have hl:=r.length;have hn:=dO;have fin:EP X pins Z Q w s:=⟨z,H,I,rw',q⟩;exact subscriptTail_builtinR (x:=w) pl.typeIs slot_tuple_getitem.lookup
  (getItem_tuple (j:=j) (Q:=fun r s'=>r=w/\EP X pins Z Q r s') pl (by omega) (by omega) (by rw[l_,<- hl];exact h1) (by simpa using ew) ⟨rfl,fin⟩) hs
theorem KY:IxR X Qh:=by
 intro value slice pins s Z H x y v u Q I rx ry h hs;obtain⟨z,i,c,rfl,rfl,hz,he,q⟩:=h;obtain⟨t,rfl⟩:=rx;obtain⟨t',rfl⟩:=ry;obtain⟨j,h1,h2,h3,h4,h5⟩:=oY he;have hl:z.cps.toList.length=z.length:=by simp [Str.length]
 rw[hl] at h1 h4 h5;have hn:=dO;exact tail_any (typeIs_str s z t) slot_str_getitem.lookup (getItem_str (c:=c) (by
  have e1:decide (i < -(2^63:Int))=false:=C_ (by omega)
  have e2:decide (i ≥ 2^63)=false:=C_ (by omega)
  rw[e1,e2,Bool.or_false]) (by rw[h1];simpa using h2) ⟨.str ⟨#[c]⟩,H,I.tok _,⟨_,rfl⟩,q⟩) hs
def rIx (K:Frag):R2:=fun x y H Q=>Qf K x y H Q\/Qg K x y H Q\/Qh x y H Q
theorem KZ:IxR X (rIx X.K):=ix_list.or (ix_tup.or KY)
theorem tO (its:List Value) (n j:Nat) (u:Value):Obj.mapSeq (·.setIfInBounds j u) { cls:=.type "list",data:=.seq its.toArray n}={ cls:=.type "list",data:=.seq (its.set j u).toArray n}:=by
 simp [Obj.mapSeq]
theorem Inv.lst {pins:List (Addr × Obj)}{Z:St}{H:Hp}{s:Shared}{p:Addr}{xs:List V}(I:Inv X pins Z H s) (h:H p=some (.lst xs)) :
  ∃(its:List Value) (n:Nat),Vals xs its/\s.heap.get? p=some { cls:=.type "list",data:=.seq its.toArray n}/\xs.length<=sizeLine:=by
 obtain⟨z,its,n,r,e⟩:=I.hok p _ h;exact⟨its,n,r,e,z⟩
theorem Inv.lstUpd {pins:List (Addr × Obj)}{Z:St}{H:Hp}{s:Shared}{p:Addr}{xs ys:List V}{its its':List Value}{n n':Nat}{f:Obj->Obj}(I:Inv X pins Z H s) (h:H p=some (.lst xs))
  (ho:s.heap.get? p=some { cls:=.type "list",data:=.seq its.toArray n}) (hf:f { cls:=.type "list",data:=.seq its.toArray n}={ cls:=.type "list",data:=.seq its'.toArray n'}) (r:Vals ys its') (hz:ys.length<=sizeLine) (t:Nat) :
  Inv X pins Z (upd H p (.lst ys)) { s with heap:=s.heap.update p f,toks:=t}:=by
 have e:(s.heap.update p f).get? p=some { cls:=.type "list",data:=.seq its'.toArray n'}:=by rw[Vs f ho (by rw[hf] <;> rfl),hf]
 refine I.write (x:=p) (e:=p) (by rw[h];trivial) (.inl rfl) (fun b u hb q=>(Vo _ _ (Ne.symm hb)).trans q) ⟨_,e⟩ ?_;exact⟨hz,its',n',r,e⟩
def Qi:V->V->V->Hp->(Hp->Prop)->Prop:=fun o i v H Q=>∃p xs k j,o=.ref p/\i=.int k/\H p=some (.lst xs)/\ixN xs.length k=some j/\Q (upd H p (.lst (xs.set j v)))
theorem set_list:PSet X Qi:=by
 intro pins s Z H o i v ov iv u Q I ro ri rv h;obtain⟨p,xs,k,j,rfl,rfl,hp,hj,q⟩:=h;cases ro;obtain⟨t,rfl⟩:=ri;obtain⟨its,n,r,ho,hz⟩:=I.lst hp;obtain⟨h1,h2,h3,h4⟩:=oX hj;have hl:=r.length;have hn:=dO;have I':Inv X pins Z (upd H p (.lst (xs.set j v))) { s with heap:=s.heap.update p (Obj.mapSeq (·.setIfInBounds j u))} :=
  I.lstUpd hp ho (tO its n j u) (r.set rv j) (by rw[List.length_set];exact hz) s.toks
 by_cases h0:0<=k
 ·have hk:k.toNat=j:=by rw[seqIndex_of h0 h4] at h1;exact U6 h1
  exact PySem.W.ki_setAt ho h0 (by omega) (by rw[l_,<- hl];exact h4) (by rw[hk];exact⟨_,I',q⟩)
 have hk:(k+(its.toArray.size:Int)).toNat=j:=by rw[seqIndex_neg (by omega) h3] at h1;rw[l_,<- hl];exact U6 h1
 exact PySem.W.ki_setBack ho (by omega) (by rw[l_,<- hl];exact h3) (by omega) (by rw[hk];exact⟨_,I',q⟩)
theorem oZ (lo hi:Option Int) (n:Nat):(sliceBounds lo hi none n).1=((HT.sIx n 0 lo:Nat):Int)/\(sliceBounds lo hi none n).2.1=((HT.sIx n n hi:Nat):Int)/\(sliceBounds lo hi none n).2.2=1:=by
 refine⟨?_,?_,rfl⟩
 ·cases lo with
  |none=>simp [sliceBounds,HT.sIx]
  |some i =>
  simp only[sliceBounds,HT.sIx,Option.getD_none,show (1:Int)>0 by decide,if_true];by_cases h:i<0
  ·simp only[h,if_true] <;> omega
  simp only[h,U7] <;> omega
 cases hi with
 |none=>simp [sliceBounds,HT.sIx]
 |some i =>
 simp only[sliceBounds,HT.sIx,Option.getD_none,show (1:Int)>0 by decide,if_true];by_cases h:i<0
 ·simp only[h,if_true] <;> omega
 simp only[h,U7] <;> omega
theorem mH (its:List Value) (lo hi:Option Int):slicePick its.toArray lo hi none=((its.drop (HT.sIx its.length 0 lo)).take (HT.sIx its.length its.length hi - HT.sIx its.length 0 lo)).toArray:=by
 obtain⟨h1,h2,h3⟩:=oZ lo hi its.toArray.size;unfold slicePick;rw[h1,h2,h3];simp only[sliceRange_one,pick_run,l_] <;> rfl
def Ug (K:Frag):V->Option Int->Option Int->Hp->VK->Prop:=fun x lo hi H Q=>∃a xs,x=.ref a/\SqL K H a xs/\∀p,H p=none->Q (.ref p) (upd H p (.lst (qz xs lo hi)))
theorem sl_list:SlR X (Ug X.K):=by
 intro pins s Z H x v vl vu lo hi sl Q I rx hs pl pu h;obtain⟨a,xs,rfl,hx,q⟩:=h;cases rx;obtain⟨its,r,ht,hz⟩:=I.list hx;have hlen:=r.length;refine⟨"list",_,slot_list_getitem.lookup,ht.isList.typeIs,?_⟩;refine wpAny_getItem_list_slice ht.isList hs pl pu .none (by simp) ?_ (by rw[l_] <;> omega);rw[mH,<- hlen];refine⟨.ref s.heap.objs.size,_,I.laid (t':=s.toks) (o:=.lst (qz xs lo hi)) (fun b ob q=>e_ _ q) (m_ _) ?_,rfl,q _ (I.hok.fresh (m_ _))⟩;exact⟨U8 (jE xs lo hi) hz,_,0,(r.drop (HT.sIx xs.length 0 lo)).take (HT.sIx xs.length xs.length hi - HT.sIx xs.length 0 lo),x_ _ rfl⟩
theorem call_len_seq:CallR X (.builtin "len") (fun xs H Q=>∃p ys,xs=[.ref p]/\(SqL X.K H p ys\/SqT X.K H p ys)/\Q (.int ys.length) H):=by
 intro pins s Z H xs us Q I r h;obtain⟨p,ys,rfl,hq,q⟩:=h;obtain⟨u,rfl,rx⟩:=vals1 r;cases rx;have hn:=dO;rcases hq with hq | hq
 ·obtain⟨its,r',pl,hz⟩:=I.list hq;have hlen:=r'.length;exact Calls.call_len_list pl.isList (by simp only[l_] <;> omega) ⟨.int ys.length,H,I.tok _,⟨s.toks+1,by rw[l_,hlen]⟩,q⟩
 obtain⟨its,r',pl,hz⟩:=I.tuple hq;have hlen:=r'.length;exact len_tuple pl (by simp only[l_] <;> omega) ⟨.int ys.length,H,I.tok _,⟨s.toks+1,by rw[l_,hlen]⟩,q⟩
theorem o4:CallR X (.builtin "len") (fun xs H Q=>∃z,xs=[.str z]/\z.length<=sizeLine/\Q (.int z.length) H):=by
 intro pins s Z H xs us Q I r h;obtain⟨z,rfl,hz,q⟩:=h;obtain⟨u,rfl,t,rfl⟩:=vals1 r;have hn:=dO;exact len_str (by omega) ⟨.int z.length,H,I.tok _,⟨_,rfl⟩,q⟩
theorem CallR.or {f:Value}{r r':List V->Hp->VK->Prop}(h:CallR X f r) (h':CallR X f r'):CallR X f (fun xs H Q=>r xs H Q\/r' xs H Q):=by
 intro pins s Z H xs us Q I rs q;rcases q with q | q
 ·exact h pins s Z H xs us Q I rs q
 exact h' pins s Z H xs us Q I rs q
theorem o5:CallR X (.type "list") (fun xs H Q=>∃p ys,xs=[.ref p]/\(SqL X.K H p ys\/SqT X.K H p ys)/\∀l,H l=none->Q (.ref l) (upd H l (.lst ys))):=by
 intro pins s Z H xs us Q I r h;obtain⟨p,ys,rfl,hq,q⟩:=h;obtain⟨u,rfl,rx⟩:=vals1 r;cases rx;have fin:∀(its:List Value),Vals ys its->ys.length<=sizeLine->∀(h':Heap) (c':Nat),(∀b o',s.heap.get? b=some o'->h'.get? b=some o') ->
   h'.get? s.heap.objs.size=some { cls:=.type "list",dict:=none,data:=.seq its.toArray c',slots:=#[]}->EP X pins Z Q (.ref s.heap.objs.size) { s with heap:=h'}:=fun its r' hz h' c' kp e =>
  ⟨.ref s.heap.objs.size,_,I.laid (t':=s.toks) kp (m_ _) (show ObjOk X.prog X.w _ h' _ (.lst ys) from ⟨hz,its,c',r',e⟩),rfl,q _ (I.hok.fresh (m_ _))⟩
 rcases hq with hq | hq
 ·obtain⟨its,r',pl,hz⟩:=I.list hq;have hlen:=r'.length;obtain⟨o,ho,hc,n,hd⟩:=pl.isList;exact call_list_seq p (.inl rfl) ho hc hd (fun h' c' kp e=>fin its r' hz h' c' kp e) (by simp only[l_] <;> omega)
 obtain⟨its,r',pl,hz⟩:=I.tuple hq;have hlen:=r'.length;obtain⟨o,ho,hc,n,hd⟩:=pl;exact call_list_seq p (.inr rfl) ho hc hd (fun h' c' kp e=>fin its r' hz h' c' kp e) (by simp only[l_] <;> omega)
theorem mJ:CallR X (.type "tuple") (fun xs H Q=>∃p ys,xs=[.ref p]/\((SqL X.K H p ys/\∀l,H l=none->Q (.ref l) (upd H l (.tup ys)))\/(SqT X.K H p ys/\Q (.ref p) H))):=by
 intro pins s Z H xs us Q I r h;obtain⟨p,ys,rfl,h⟩:=h;obtain⟨u,rfl,rx⟩:=vals1 r;cases rx;rcases h with ⟨hq,q⟩ | ⟨hq,q⟩
 ·obtain⟨its,r',pl,hz⟩:=I.list hq;have hlen:=r'.length;refine call_tuple_list pl.isList (fun h' kp=>?_) (by simp only[l_] <;> omega);have I1:Inv X pins Z H { s with heap:=h'}:=I.kept (t':=s.toks) kp;have I2:Inv X pins Z (upd H h'.objs.size (.tup ys)) { s with heap:=h'.push { cls:=.type "tuple",data:=.seq its.toArray}} :=
   I1.laid (t':=s.toks) (fun b o e=>e_ _ e) (m_ _) (show ObjOk X.prog X.w _ _ _ (.tup ys) from ⟨hz,its,r',Tup0.new _ _⟩)
  exact⟨.ref h'.objs.size,_,I2,rfl,q _ (I1.hok.fresh (m_ _))⟩
 obtain⟨its,r',pl,hz⟩:=I.tuple hq;exact call_tuple_same pl ⟨.ref p,H,I,rfl,q⟩
def tyV (K:Frag) (T:String) (x:V) (H:Hp):Prop:=match x with
 |.str _=>T="str"
 |.int _=>T="int"
 |.ref p=>(T="list"/\∃xs,SqL K H p xs)\/(T="tuple"/\∃xs,SqT K H p xs) \/
   (T="dict"/\((∃kvs,H p=some (.dK kvs))\/∃kvs,H p=some (.dT kvs)))\/(T="set"/\∃S n,H p=some (.set S n))
 |_=>False
theorem zg {pins:List (Addr × Obj)}{Z:St}{H:Hp}{s:Shared}{T:String}{x:V}{v:Value}(I:Inv X pins Z H s) (r:RelV x v) (ty:tyV X.K T x H) :
  s.TypeIs v T/\∀a,v=.ref a->∃ob,s.heap.get? a=some ob/\ob.dict=none:=by
 cases x with
 |str z=>obtain⟨t,rfl⟩:=r;cases (show T="str" from ty);exact⟨typeIs_str s z t,fun _ e=>nomatch e⟩
 |int i=>obtain⟨t,rfl⟩:=r;cases (show T="int" from ty);exact⟨typeIs_int s i t,fun _ e=>nomatch e⟩
 |ref p =>
  cases r;rcases ty with ⟨rfl,xs,hq⟩ | ⟨rfl,xs,hk⟩ | ⟨rfl,hk⟩ | ⟨rfl,S,n,hk⟩
  ·obtain⟨its,_,pl,_⟩:=I.list hq;refine⟨pl.isList.typeIs,fun a e=>?_⟩;cases e;obtain⟨o,n,e,c,hd,_⟩:=pl;exact⟨o,e,hd⟩
  ·rcases hk with hk | ⟨o,its,n,hk,hc,hd,_⟩
   ·obtain⟨_,its,r,o,ho,hc,n,hd,hn⟩:=hk.ok I.hok;refine⟨⟨o,ho,hc⟩,fun a e=>?_⟩;cases e;exact⟨o,ho,hn⟩
   refine⟨⟨o,I.kIn p o hk,hc⟩,fun a e=>?_⟩;cases e;exact⟨o,I.kIn _ o hk,hd⟩
  ·have z:∃o,s.heap.get? p=some o/\o.ExactDict:=by
    rcases hk with ⟨kvs,hk⟩ | ⟨kvs,hk⟩
    ·obtain⟨_,_,_,_,o,_,_,e,ex,_⟩:=I.hok p _ hk;exact⟨o,e,ex⟩
    obtain⟨_,_,_,_,o,_,_,e,ex,_⟩:=I.hok p _ hk;exact⟨o,e,ex⟩
   obtain⟨o,e,ex⟩:=z;refine⟨⟨o,e,ex.1⟩,fun a e2=>?_⟩;cases e2;exact⟨o,e,ex.2.1⟩
  obtain⟨o,_,_,_,e,ex,_⟩:=I.hok p _ hk;refine⟨⟨o,e,ex.1⟩,fun a e2=>?_⟩;cases e2;exact⟨o,e,ex.2.1⟩
 |_=>exact False.elim ty
def Uh (K:Frag) (T:String) (r:V->List V->Hp->VK->Prop) (to:TE):TE:=fun Z H Q=>to Z H fun x H1=>tyV K T x H1/\r x [] H1 Q
def tBM (K:Frag) (T:String) (r:V->List V->Hp->VK->Prop) (to:TE) (t:TA):TE:=fun Z H Q=>to Z H fun x H1=>tyV K T x H1/\t Z H1 fun xs H2=>r x xs H2 Q
variable {o e:Expr}{es:List Expr}{to:TE}{t:TA}{name:Str}{apos cpos:Pos}{T id:String}{r:V->List V->Hp->VK->Prop}
theorem K1 (pa:PlainAttrs T) (slot:Slot T name id) (hty:typeOf (.builtin id)=pure (.type "method_descriptor")) (hm:MtR X id r) (ho:PE X o to)
  (hbase:attributeBase o name X.env (eval o X.env)=eval o X.env:=by rfl) (hline:(apos.endLine==cpos.line)=true:=by rfl):PE X (.Call (.Attribute o name apos) [] [] cpos) (Uh X.K T r to):=by
 intro pins s Z H Q I h;refine wpAny_Call_method0_late hbase hline (thn (ho pins s Z H _ I h) fun v s1 ⟨x,H1,I1,r1,ty,q1⟩=>?_);obtain⟨h1,h2⟩:=zg I1 r1 ty;exact⟨T,id,pa,slot,hty,h1,h2,Xq rfl (PySem.evalArgs_none (hm pins s1 Z H1 x [] v [] Q I1 r1 .nil q1))⟩
theorem Qj (pa:PlainAttrs T) (slot:Slot T name id) (hty:typeOf (.builtin id)=pure (.type "method_descriptor")) (hm:MtR X id r) (ho:PE X o to) (ha:PA X (e::es) t)
  (hbase:attributeBase o name X.env (eval o X.env)=eval o X.env:=by rfl)
  (hfew:((backTo cpos (starEach (e::es) X.env)).all (fun x=>!x.1)&&(backToKw cpos (keywordEach [] X.env)).all (fun x=>x.1.isSome)
   && decide ((e::es).length+([]:List Keyword).length+(if ([]:List Keyword).isEmpty then 0 else 1)<30))=true:=by rfl)
  (hline:(apos.endLine==cpos.line)=true:=by rfl) (hs:starEach (e::es) X.env=(false,eval e X.env)::starEach es X.env:=by rfl) (hplain:(backTo cpos (starEach es X.env)).any (·.1)=false:=by rfl) :
  PE X (.Call (.Attribute o name apos) (e::es) [] cpos) (tBM X.K T r to t):=by
 intro pins s Z H Q I h;refine wpAny_Call_method_late hbase hfew hline rfl (thn (ho pins s Z H _ I h) fun v s1 ⟨x,H1,I1,r1,ty,q1⟩=>?_);obtain⟨h1,h2⟩:=zg I1 r1 ty;refine⟨T,id,pa,slot,hty,h1,h2,?_⟩;have hA:=ha cpos pins s1 Z H1 _ I1 q1;rw[hs] at hA ⊢;refine Xq (by show (false||(backTo cpos (starEach es X.env)).any (·.1))=false;rw[hplain] <;> rfl) (Calls.evalArgs_plain ?_);exact thn hA fun us s2 ⟨vs,H2,I2,r2,q2⟩=>hm pins s2 Z H2 x vs v us Q I2 r1 r2 q2
/- xs.append(e),list.index on a module's tuple .. are MtR facts of 06m -/
end
def MtM (X:Cx) (id:String) (r:V->List V->Hp->VK->Prop):Prop :=
 ∀(pins:List (Addr × Obj)) (s:Shared) (Z:St) (H:Hp) (x:V) (xs:List V) (v:Value) (us:List Value) (Q:VK),Inv X pins Z H s->RelV x v->Vals xs us->r x xs H Q ->
  wpAny (model X.prog X.w) X.A (call (.builtin id) (v::us)) (EP X pins Z Q) X.xe s
theorem Vals.one {x:V}{us:List Value}(r:Vals [x] us):∃u,us=[u]/\RelV x u:=vals1 r
theorem Vals.zero:∀{us:List Value},Vals [] us->us=[]
 |_,.nil=>rfl
theorem Vals.dropLast {xs:List V}{us:List Value}(h:Vals xs us):Vals xs.dropLast us.dropLast:=by
 induction h with
 |nil=>exact .nil
 |cons r t ih =>
 cases t with
 |nil=>exact .nil
 |cons q t'=>exact .cons r ih
theorem Vals.eraseIdx:∀{xs:List V}{us:List Value}(i:Nat),Vals xs us->Vals (xs.eraseIdx i) (us.eraseIdx i)
 |_,_,_,.nil=>.nil
 |_,_,0,.cons _ t=>t
 |_,_,i+1,.cons r t=>.cons r (Vals.eraseIdx i t)
theorem Vals.reverse {xs:List V}{us:List Value}(h:Vals xs us):Vals xs.reverse us.reverse:=by
 induction h with
 |nil=>exact .nil
 |cons r t ih=>rw[Yj,Yj];exact Vals.append ih (.cons r .nil)
theorem Vals.rep {xs:List V}{us:List Value}(h:Vals xs us):∀k:Nat,Vals (List.replicate k xs).flatten (List.replicate k us).flatten
 |0=>.nil
 |k+1=>by
  rw[Wo,Wo,Wi,Wi]
  exact Vals.append h (Vals.rep h k)
theorem tQ {α:Type}(l:List α):l.eraseIdx (l.length - 1)=l.dropLast:=by
 induction l with
 |nil=>rfl
 |cons a r ih =>
 cases r with
 |nil=>rfl
 |cons b r =>
  have e:(a::b::r).length - 1=((b::r).length - 1)+1:=by
   have h1:(a::b::r).length=r.length+2:=rfl
   have h2:(b::r).length=r.length+1:=rfl
   omega
  rw[e,List.eraseIdx_cons_succ,ih]
  all_goals rfl
theorem nu {α:Type}:∀(l:List α) (i:Nat),(l.eraseIdx i).length<=l.length
 |[],_=>m_ _
 |_::_,0=>Nat.le_succ _
 |_::r,i+1=>Nat.succ_le_succ (nu r i)
theorem foldl_rep (its:List Value):∀(k:Nat) (acc:List Value),
  List.foldl (fun x1 x2=>x1++x2) acc.toArray (List.replicate k its.toArray)=(acc++(List.replicate k its).flatten).toArray
 |0,acc=>by simp
 |k+1,acc=>by
  have e:acc.toArray++its.toArray=(acc++its).toArray:=by simp
  have e2:(acc++its)++(List.replicate k its).flatten=acc++(List.replicate (k+1) its).flatten:=by
   rw[Wo,Wi,Vq]
  rw[<- e2,<- foldl_rep its k (acc++its),<- e,Wo,List.foldl_cons]
section
variable {X:Cx}{pins:List (Addr × Obj)}{Z:St}{H:Hp}{s:Shared}{l b:Addr}{xs ys zs:List V}
theorem Inv.lset {its its':List Value}{n:Nat}{f:Array Value->Array Value}{t':Nat}(I:Inv X pins Z H s) (hH:H l=some (.lst xs))
  (e:s.heap.get? l=some { cls:=.type "list",data:=.seq its.toArray n}) (hf:f its.toArray=its'.toArray) (hv:Vals ys its') (hz:ys.length<=sizeLine) :
  Inv X pins Z (upd H l (.lst ys)) { s with heap:=s.heap.update l (Obj.mapSeq f),toks:=t'}:=by
 have q:=PySem.IsL.update e f;rw[hf] at q;refine I.write (x:=l) (e:=l) (by rw[hH];exact trivial) (.inl rfl) (fun b' u hb hu=>(Vo s.heap (Obj.mapSeq f) (Ne.symm hb)).trans hu) ⟨_,q⟩ ?_;exact⟨hz,its',_,hv,q⟩
theorem Inv.lnew {its:List Value}{t':Nat}(I:Inv X pins Z H s) (hv:Vals ys its) (hz:ys.length<=sizeLine) :
  Inv X pins Z (upd H s.heap.objs.size (.lst ys)) { s with heap:=s.heap.push { cls:=.type "list",data:=.seq its.toArray},toks:=t'} :=
 I.laid (fun _ _ q=>e_ _ q) (m_ _) ⟨hz,its,0,hv,x_ _ rfl⟩
theorem Inv.fresh (I:Inv X pins Z H s):H s.heap.objs.size=none:=I.hok.fresh (m_ _)
theorem Inv.lstM (I:Inv X pins Z H s) (hH:H l=some (.lst xs)):xs.length<=sizeLine/\∃(its:List Value) (n:Nat),Vals xs its/\xs.length=its.length/\s.heap.get? l=some { cls:=.type "list",data:=.seq its.toArray n}:=by
 obtain⟨z,its,n,r,e⟩:=I.hok l _ hH;exact⟨z,its,n,r,r.length,e⟩
theorem zj {n:Nat}(h:n<=sizeLine):Builtin.List.listTooLong n=false:=by
 unfold Builtin.List.listTooLong;exact C_ (by omega)
def Et:V->List V->Hp->VK->Prop:=fun x vs H Q=>∃l xs y,x=.ref l/\vs=[y]/\H l=some (.lst xs)/\xs.length<sizeLine/\Q .non (upd H l (.lst (xs++[y])))
theorem xH:MtM X "list.append" Et:=by
 intro pins s Z H x vs v us Q I rx rv h;obtain⟨l,xs,y,rfl,rfl,hH,hz,q⟩:=h;cases rx;obtain⟨u,rfl,ru⟩:=rv.one;obtain⟨z,its,n,r,hl,e⟩:=I.lstM hH;refine Yo F.slot_list_append ⟨_,e,rfl⟩ F.entry_list_append (F.args_list_append_2 _ _) (list_append l its.toArray n u (by rw[l_];omega)) ⟨e,?_⟩;refine⟨.non,_,I.lset (its':=its++[u]) hH e (by simp) (r.append (.cons ru .nil)) ?_,rfl,q⟩;rw[b_,G_];omega
def Ui:V->List V->Hp->VK->Prop:=fun x vs H Q=>∃l xs y,x=.ref l/\vs=[]/\H l=some (.lst xs)/\xs[xs.length - 1]?=some y/\Q y (upd H l (.lst xs.dropLast))
theorem K3:MtM X "list.pop" Ui:=by
 intro pins s Z H x vs v us Q I rx rv h;obtain⟨l,xs,y,rfl,rfl,hH,hy,q⟩:=h;cases rx;have hus:=rv.zero;subst hus;obtain⟨z,its,n,r,hl,e⟩:=I.lstM hH;obtain⟨u,hu,ru⟩:=r.get hy;have hy':its.toArray[its.toArray.size - 1]?=some u:=by show its.toArray[its.length - 1]?=some u;rw[<- Vy,<- hl];exact hu
 refine Yo F.slot_list_pop ⟨_,e,rfl⟩ F.entry_list_pop (F.args_list_pop_1 _) (MeetsSeq.list_pop_last l its.toArray n u hy' (by rw[l_];omega)) ⟨e,?_⟩;refine⟨y,_,I.lset (its':=its.dropLast) hH e ?_ r.dropLast ?_,ru,q⟩
 ·show its.toArray.eraseIdxIfInBounds (its.toArray.size - 1)=its.dropLast.toArray;rw[l_,List.eraseIdxIfInBounds_toArray,tQ]
 rw[List.length_dropLast];omega
def K4:V->List V->Hp->VK->Prop:=fun x vs H Q=>∃l xs i k y,x=.ref l/\vs=[.int i]/\H l=some (.lst xs) /\ -(2^63)<=i/\i<2^63/\seqIndex? i xs.length=some k/\xs[k]?=some y/\Q y (upd H l (.lst (xs.eraseIdx k)))
theorem zm:MtM X "list.pop" K4:=by
 intro pins s Z H x vs v us Q I rx rv h;obtain⟨l,xs,i,k,y,rfl,rfl,hH,h1,h2,hk,hy,q⟩:=h;cases rx;obtain⟨u,rfl,ru⟩:=rv.one;obtain⟨t,rfl⟩:=ru;obtain⟨z,its,n,r,hl,e⟩:=I.lstM hH;obtain⟨w,hw,rw'⟩:=r.get hy;refine Yo F.slot_list_pop ⟨_,e,rfl⟩ F.entry_list_pop (F.args_list_pop_2 _ _)
  (MeetsSeq.list_pop_at l its.toArray n i t k w (fitsIndex_both h1 h2) (by rw[l_,<- hl];exact hk) (by rw[<- Vy];exact hw) (by rw[l_];omega)) ⟨e,?_⟩
 refine⟨y,_,I.lset (its':=its.eraseIdx k) hH e ?_ (r.eraseIdx k) ?_,rw',q⟩
 ·show its.toArray.eraseIdxIfInBounds k=(its.eraseIdx k).toArray;rw[List.eraseIdxIfInBounds_toArray]
 have:=nu xs k;omega
def Uj:R2:=fun x y H Q=>∃l b xs zs,x=.ref l/\y=.ref b/\H l=some (.lst xs)/\H b=some (.lst zs)/\xs.length+zs.length<=sizeLine/\∀p,H p=none->Q (.ref p) (upd H p (.lst (xs++zs)))
theorem op_cat:OpR X (binaryOp .Add) Uj:=by
 intro pins s Z H x y v u Q I rx ry h;obtain⟨l,b,xs,zs,rfl,rfl,hH,hB,hz,q⟩:=h;cases rx;cases ry;obtain⟨z,its,n,r,hl,e⟩:=I.lstM hH;obtain⟨z2,its2,n2,r2,hl2,e2⟩:=I.lstM hB;refine PySem.P.add_list e e2 ?_ (by rw[l_,l_];omega);have ea:its.toArray++its2.toArray=(its++its2).toArray:=by simp
 rw[ea];exact⟨.ref _,_,I.lnew (t':=s.toks) (r.append r2) (by rw[b_];omega),rfl,q _ I.fresh⟩
def Uk:R2:=fun x y H Q=>∃l k xs,x=.ref l/\y=.int k/\H l=some (.lst xs) /\ -(2^63)<=k/\k<2^63/\xs.length*k.toNat<=sizeLine /\
 ∀p,H p=none->Q (.ref p) (upd H p (.lst (List.replicate k.toNat xs).flatten))
theorem len_rep {α:Type}(xs:List α) (k:Nat):(List.replicate k xs).flatten.length=k*xs.length:=by
 induction k with
 |zero=>simp
 |succ k ih=>rw[Wo,Wi,b_,ih,Nat.succ_mul,Nat.add_comm]
theorem K5:OpR X (binaryOp .Mult) Uk:=by
 intro pins s Z H x y v u Q I rx ry h;obtain⟨l,k,xs,rfl,rfl,hH,h1,h2,hz,q⟩:=h;cases rx;obtain⟨t,rfl⟩:=ry;obtain⟨z,its,n,r,hl,e⟩:=I.lstM hH;have hlen:its.toArray.size*k.toNat<=sizeLine:=by rw[l_,<- hl];exact hz
 have hcap:¬its.toArray.size*k.toNat>(2^63 - 1) / 8:=by
  have:(sizeLine:Nat)<=(2^63 - 1) / 8:=by decide
  omega
 have hfit:¬(!Builtin.List.listFitsIndex k)=true:=by rw[fitsIndex_both h1 h2];exact o_
 have hlong:¬Builtin.List.listTooLong (its.toArray.size*k.toNat)=true:=by rw[zj hlen];exact o_
 have hnew:List.foldl (fun x1 x2=>x1++x2) #[] (List.replicate (if its.toArray.isEmpty=true then 0 else k.toNat) its.toArray)=(List.replicate k.toNat its).flatten.toArray:=by
  have f0:∀m:Nat,List.foldl (fun x1 x2=>x1++x2) #[] (List.replicate m its.toArray)=(List.replicate m its).flatten.toArray:=fun m=>by have:=foldl_rep its m [];rw[List.nil_append] at this;exact this
  rw[f0];cases its with
  |nil=>simp
  |cons a r'=>rw[if_neg (by simp)]
 refine wpAny_binaryOp_repeat_ref (T:="list") (U:="int") (by decide) ⟨_,e,rfl⟩ (fun s'=>typeIs_int s' k t) noFill_list_mul F.fills_int_mul F.slot_int_rmul repeat_list F.slot_int_index.lookup
  (Yo F.slot_int_rmul (typeIs_int s k t) F.entry_int_rmul (F.args_int_rmul_2 _ _) (int___rmul___int_list k t l its.toArray n)
   ⟨e,rfl,⟨_,e,rfl⟩,Yo F.slot_list_mul ⟨_,e,rfl⟩ F.entry_list_mul (F.args_list_mul_2 _ _) (AutoListH.list___mul___list_int_3 l its.toArray n k t hfit hcap hlong) ⟨e,?_⟩⟩)
 rw[hnew];exact⟨.ref _,_,I.lnew (t':=s.toks) (r.rep k.toNat) (by rw[len_rep,Nat.mul_comm];exact hz),rfl,q _ I.fresh⟩
variable {prog:Program}{w:World}{A:Around}{E:Value->Shared->Prop}
set_option maxRecDepth 100000 in
end
section
variable {κ:Type} [DecidableEq κ]
def dR (kvs:List (κ × V)) (k:κ):Option V:=(kvs.find? fun kv=>decide (kv.1=k)).map (·.2)
def putK (kvs:List (κ × V)) (k:κ) (v:V):List (κ × V) :=
 if (kvs.any fun kv=>decide (kv.1=k))=true then kvs.map (fun kv=>if kv.1=k then (kv.1,v) else kv) else kvs++[(k,v)]
theorem dU {p:κ × V}{r:List (κ × V)}{k:κ}(e:p.1=k):dR (p::r) k=some p.2:=by simp [dR,Xu,e]
theorem dW {p:κ × V}{r:List (κ × V)}{k:κ}(e:¬p.1=k):dR (p::r) k=dR r k:=by simp [dR,Xu,e]
theorem qD (k:κ):∀kvs:List (κ × V),(kvs.any fun kv=>decide (kv.1=k))=(dR kvs k).isSome
 |[]=>rfl
 |p::r=>by
  rw[X8]
  by_cases e:p.1=k
  ·
   simp only[dU e,O_ e,Bool.true_or,Option.isSome_some]
  ·
   rw[dW e,C_ e,Bool.false_or];exact qD k r
theorem eN (kvs:List (κ × V)) (k:κ) (v:V):(putK kvs k v).length<=kvs.length+1:=by
 unfold putK;split
 ·rw[d_];omega
 rw[b_,j_,Wd];omega
theorem RelO.isSome_eq {o:Option V}{u:Option Value}(r:RelO o u):o.isSome=u.isSome:=by
 cases o with
 |none=>cases u with
  |none=>rfl
  |some _=>exact (show False from r).elim
 |some _=>cases u with
  |none=>exact (show False from r).elim
  |some _=>rfl
theorem KV.val {kvs:List (κ × V)}{vs:List (κ × Value)}(r:KV kvs vs) (k:κ):RelO (dR kvs k) (valueAt vs k):=by
 unfold KV at r;induction r with
 |nil=>exact True.intro
 |@cons p q ps qs h t ih =>
 obtain⟨h1,h2⟩:=h;by_cases e:p.1=k
 ·have e':q.1=k:=h1.symm.trans e;have b:valueAt (q::qs) k=some q.2:=by simp [valueAt,Xu,e']
  rw[dU e,b];exact h2
 have e':¬q.1=k:=fun z=>e (h1.trans z);have b:valueAt (q::qs) k=valueAt qs k:=by simp [valueAt,Xu,e']
 rw[dW e,b];exact ih
theorem KV.any {kvs:List (κ × V)}{vs:List (κ × Value)}(r:KV kvs vs) (k:κ):(kvs.any fun kv=>decide (kv.1=k))=vs.any fun kv=>decide (kv.1=k):=by
 unfold KV at r;induction r with
 |nil=>rfl
 |cons h t ih=>rw[X8,X8,ih,h.1]
theorem KV.repl {kvs:List (κ × V)}{vs:List (κ × Value)}(r:KV kvs vs) (k:κ) {y:V}{u:Value}(ry:RelV y u) :
  KV (kvs.map fun kv=>if kv.1=k then (kv.1,y) else kv) (vs.map fun kv=>if kv.1=k then (kv.1,u) else kv):=by
 unfold KV at r ⊢;induction r with
 |nil=>exact .nil
 |@cons p q ps qs h t ih =>
 rw[A_,A_];refine .cons ?_ ih;obtain⟨h1,h2⟩:=h;by_cases e:p.1=k
 ·rw[if_pos e,if_pos (h1.symm.trans e)];exact⟨h1,ry⟩
 rw[if_neg e,if_neg (fun z=>e (h1.trans z))];exact⟨h1,h2⟩
theorem KV.put {kvs:List (κ × V)}{vs:List (κ × Value)}(r:KV kvs vs) (k:κ) {y:V}{u:Value}(ry:RelV y u):KV (putK kvs k y) (stored vs k u):=by
 unfold putK stored;rw[r.any k];by_cases e:(vs.any fun kv=>decide (kv.1=k))=true
 ·rw[if_pos e,if_pos e];exact r.repl k ry
 rw[if_neg e,if_neg e];exact Paired.snoc r ⟨rfl,ry⟩
theorem KV.length {kvs:List (κ × V)}{vs:List (κ × Value)}(r:KV kvs vs):kvs.length=vs.length:=Xx r
end
theorem km {P:Program}{w:World}{k:Key}{u:Value}(r:RelV (kV k) u):(bH P w).is k u=true:=by
 cases k with
 |inl i=>obtain⟨t,e⟩:=(show ∃t,u=Value.int i t from r);subst e;exact qp P w i t
 |inr x=>obtain⟨t,e⟩:=(show ∃t,u=Value.str x t from r);subst e;exact qt P w x t
theorem nA {P:Program}{w:World}:∀{ks:List Key}{us:List Value},Vals (ks.map kV) us->ItemsAre (bH P w) ks us
 |[],_,r=>by rw[VJ] at r;cases r;exact .nil
 |k::ks,_,r=>by
  rw[A_] at r
  cases r with
  |cons h t=>exact .cons (km h) (nA t)
abbrev KT (H:Hp):List (List Key × V)->List (List Key × Addr × Value)->Prop:=Paired fun p q=>p.1=q.1/\H q.2.1=some (.tup (p.1.map kV))/\RelV p.2 q.2.2
theorem KT.val {H:Hp}{kvs:List (List Key × V)}{xs:List (List Key × Addr × Value)}(r:KT H kvs xs) (k:List Key):RelO (dR kvs k) ((atKey xs k).map (·.2)):=by
 induction r with
 |nil=>exact True.intro
 |@cons p q ps qs h t ih =>
 obtain⟨h1,_,h2⟩:=h;by_cases e:p.1=k
 ·have e':q.1=k:=h1.symm.trans e;have b:atKey (q::qs) k=some q.2:=by simp [atKey,Xu,e']
  rw[dU e,b];exact h2
 have e':¬q.1=k:=fun z=>e (h1.trans z);have b:atKey (q::qs) k=atKey qs k:=by simp [atKey,Xu,e']
 rw[dW e,b];exact ih
theorem KT.repl {H:Hp}{kvs:List (List Key × V)}{xs:List (List Key × Addr × Value)}(r:KT H kvs xs) (k:List Key) {y:V}{u:Value}(ry:RelV y u) :
  KT H (kvs.map fun kv=>if kv.1=k then (kv.1,y) else kv) (xs.map (putAt k u)):=by
 induction r with
 |nil=>exact .nil
 |@cons p q ps qs h t ih =>
 rw[A_,A_];refine .cons ?_ ih;obtain⟨h1,h2,h3⟩:=h;unfold putAt;by_cases e:p.1=k
 ·rw[if_pos e,if_pos (h1.symm.trans e)];exact⟨h1,h2,ry⟩
 rw[if_neg e,if_neg (fun z=>e (h1.trans z))];exact⟨h1,h2,h3⟩
theorem KT.put {H:Hp}{kvs:List (List Key × V)}{xs:List (List Key × Addr × Value)}(r:KT H kvs xs) (k:List Key) {b:Addr}{y:V}{u:Value}(hb:H b=some (.tup (k.map kV))) (ry:RelV y u) :
  KT H (putK kvs k y) (storedH xs k b u):=by
 have e:(kvs.any fun kv=>decide (kv.1=k))=(atKey xs k).isSome:=by rw[qD,(r.val k).isSome_eq,Option.isSome_map]
 unfold putK storedH;rw[e];by_cases q:(atKey xs k).isSome=true
 ·rw[if_pos q,if_pos q];exact r.repl k ry
 rw[if_neg q,if_neg q];exact Paired.snoc r ⟨rfl,hb,ry⟩
theorem KT.keeps {H H':Hp}{kvs:List (List Key × V)}{xs:List (List Key × Addr × Value)}(r:KT H kvs xs) (ht:∀b ys,H b=some (.tup ys)->H' b=some (.tup ys)):KT H' kvs xs :=
 Paired.mapP r fun _ _ z=>⟨z.1,ht _ _ z.2.1,z.2.2⟩
section
variable {P:Program}{w:World}{H:Hp}{h:Heap}{a:Addr}
theorem HX {u:HO}(ok:HOk P w H h) (e:Rd H a u):ObjOk P w H h a u:=e.ok ok
theorem nF {kvs:List (Key × V)}(ok:HOk P w H h) (e:Rd H a (.dK kvs)):kvs.length<=sizeLine/\(a==sysModules)=false/\∃vs,KV kvs vs/\h.DictOf (bH P w) a vs :=
 show ObjOk P w H h a (.dK kvs) from HX ok e
theorem u5 {kvs:List (Key × V)}(ok:HOk P w H h) (e:H a=some (.dK kvs)):kvs.length<=sizeLine/\(a==sysModules)=false/\∃vs,KV kvs vs/\h.DictOf (bH P w) a vs:=nF ok (.inl e)
theorem kE {ks:List Key}(ok:HOk P w H h) (e:H a=some (.tup (ks.map kV))):(tupleKind (bH P w)).is h ks a:=by
 obtain⟨_,its,r,o,h1,h2,n,h3,_⟩:=(show ObjOk P w H h a (.tup (ks.map kV)) from ok a _ e);exact⟨o,its.toArray,n,h1,h2,h3,by simpa using nA r⟩
theorem nG {kvs:List (List Key × V)}(ok:HOk P w H h) (e:Rd H a (.dT kvs)):kvs.length<=sizeLine/\(a==sysModules)=false /\
  ∃xs,KT H kvs xs/\h.DictOfH (tupleKind (bH P w)) a xs:=by
 obtain⟨z,y,xs,r,o,es,ep,h1,h2,h3,h4,h5⟩:=(show ObjOk P w H h a (.dT kvs) from HX ok e);refine⟨z,y,xs,r,o,es,ep,h1,h2,h3,h4,fun x hx=>?_,h5⟩;have all:∀{l:List (List Key × V)} {m:List (List Key × Addr × Value)},KT H l m->∀x∈m,(tupleKind (bH P w)).is h x.1 x.2.1:=by
  intro l m q;induction q with
  |nil=>intro x hx;exact nomatch hx
  |@cons p q ps qs hq t ih =>
  intro x hx;rcases p_.mp hx with e | hx
  ·subst e;exact kE ok (by rw[<- hq.1];exact hq.2.1)
  exact ih x hx
 exact all r x hx
theorem Qk {kvs:List (List Key × V)}(ok:HOk P w H h) (e:H a=some (.dT kvs)):kvs.length<=sizeLine/\(a==sysModules)=false /\
  ∃xs,KT H kvs xs/\h.DictOfH (tupleKind (bH P w)) a xs:=nG ok (.inl e)
end
def DGet (H:Hp) (a:Addr) (y:V) (r:Option V):Prop :=
 (∃kvs k,Rd H a (.dK kvs)/\y=kV k/\r=dR kvs k)\/∃kvs k b,Rd H a (.dT kvs)/\y=.ref b/\H b=some (.tup (k.map kV))/\r=dR kvs k
def DPut (H:Hp) (a:Addr) (y v:V) (H':Hp):Prop :=
 (∃kvs k,H a=some (.dK kvs)/\y=kV k/\kvs.length<sizeLine/\H'=upd H a (.dK (putK kvs k v))) \/
 ∃kvs k b,H a=some (.dT kvs)/\y=.ref b/\H b=some (.tup (k.map kV))/\kvs.length<sizeLine/\H'=upd H a (.dT (putK kvs k v))
theorem DGet.k {H:Hp}{a:Addr}{kvs:List (Key × V)}{k:Key}(e:H a=some (.dK kvs)):DGet H a (kV k) (dR kvs k):=.inl ⟨kvs,k,.inl e,rfl,rfl⟩
theorem DGet.t {H:Hp}{a b:Addr}{kvs:List (List Key × V)}{k:List Key}(e:H a=some (.dT kvs)) (eb:H b=some (.tup (k.map kV))):DGet H a (.ref b) (dR kvs k):=.inr ⟨kvs,k,b,.inl e,rfl,eb,rfl⟩
theorem DPut.k {H:Hp}{a:Addr}{kvs:List (Key × V)}{k:Key}{v:V}(e:H a=some (.dK kvs)) (hl:kvs.length<sizeLine):DPut H a (kV k) v (upd H a (.dK (putK kvs k v))):=.inl ⟨kvs,k,e,rfl,hl,rfl⟩
theorem DPut.t {H:Hp}{a b:Addr}{kvs:List (List Key × V)}{k:List Key}{v:V}(e:H a=some (.dT kvs)) (eb:H b=some (.tup (k.map kV))) (hl:kvs.length<sizeLine) :
  DPut H a (.ref b) v (upd H a (.dT (putK kvs k v))):=.inr ⟨kvs,k,b,e,rfl,eb,hl,rfl⟩
section
variable {X:Cx}{pins:List (Addr × Obj)}{Z:St}{H:Hp}{s:Shared}{a:Addr}{y v:V}{u r:Value}{o:Option V}{A:Around}{E:Value->Shared->Prop}
theorem Inv.big (I:Inv X pins Z H s):sysModules<s.heap.objs.size:=by
 have h:mainGlobals<s.heap.objs.size:=(I.mod.glob.keeps I.bk).lt;exact XX (by decide) h
theorem xJ {Q:Value->Shared->Prop}(hu:A.units+1<cLine) (I:Inv X pins Z H s) (g:DGet H a y (some v)) (ry:RelV y u) (h:∀w' s',Inv X pins Z H s'->RelV v w'->Q w' s') :
  wpAny (model X.prog X.w) A (getItem (.ref a) u) Q E s:=by
 rcases g with ⟨kvs,k,e,ey,l⟩ | ⟨kvs,k,b,e,ey,eb,l⟩
 ·subst ey;obtain⟨z,hd,vs,rel,dd⟩:=nF I.hok e;obtain⟨w',hw,rw'⟩:=RelO.some_of (v:=v) (o:=valueAt vs k) (by rw[l];exact rel.val k);exact wpAny_getItem_of (km ry) dd.mapOf hw (h w' _ (I.tok _) rw')
 subst ey;cases (show u=Value.ref b from ry);obtain⟨z,hd,xs,rel,dd⟩:=nG I.hok e;obtain⟨w',hw,rw'⟩:=RelO.some_of (v:=v) (o:=(atKey xs k).map (·.2)) (by rw[l];exact rel.val k);obtain⟨p,hp,hp2⟩:=Option.map_eq_some_iff.mp hw;refine wpAny_getItem_heap (Yh hu) (kE I.hok eb) dd hp ?_;rw[hp2];exact h w' _ (I.tok _) rw'
theorem Ul {Q:Value->Shared->Prop}(hu:A.units+1<cLine) (I:Inv X pins Z H s) (g:DGet H a y o) (ry:RelV y u) (h:∀s',Inv X pins Z H s'->Q (.bool o.isSome) s') :
  wpAny (model X.prog X.w) A (compareOp .In u (.ref a)) Q E s:=by
 rcases g with ⟨kvs,k,e,ey,l⟩ | ⟨kvs,k,b,e,ey,eb,l⟩
 ·subst ey;obtain⟨z,hd,vs,rel,dd⟩:=nF I.hok e;refine wpAny_in_of (km ry) hd dd.mapOf ?_;rw[<- (rel.val k).isSome_eq,<- l];exact h _ (I.tok _)
 subst ey;cases (show u=Value.ref b from ry);obtain⟨z,hd,xs,rel,dd⟩:=nG I.hok e;refine wpAny_in_heap (Yh hu) (kE I.hok eb) hd dd ?_;have q:=(rel.val k).isSome_eq;rw[Option.isSome_map] at q;rw[<- q,<- l];exact h _ (I.tok _)
theorem Eu {Q:Value->Shared->Prop}(hu:A.units+1<cLine) (I:Inv X pins Z H s) (g:DGet H a y o) (ry:RelV y u) (h:∀s',Inv X pins Z H s'->Q (.bool (!o.isSome)) s') :
  wpAny (model X.prog X.w) A (compareOp .NotIn u (.ref a)) Q E s:=by
 rcases g with ⟨kvs,k,e,ey,l⟩ | ⟨kvs,k,b,e,ey,eb,l⟩
 ·subst ey;obtain⟨z,hd,vs,rel,dd⟩:=nF I.hok e;refine wpAny_notIn_of (km ry) hd dd.mapOf ?_;rw[<- (rel.val k).isSome_eq,<- l];exact h _ (I.tok _)
 subst ey;cases (show u=Value.ref b from ry);obtain⟨z,hd,xs,rel,dd⟩:=nG I.hok e;refine wpAny_notIn_heap (Yh hu) (kE I.hok eb) hd dd ?_;have q:=(rel.val k).isSome_eq;rw[Option.isSome_map] at q;rw[<- q,<- l];exact h _ (I.tok _)
theorem jW {h':Heap}{t':Nat}{ob:HO}(I:Inv X pins Z H s) (mu:Mut (H a)) (hs:Heap.SameBut a s.heap h') (he:∃q,h'.get? a=some q) (new:ObjOk X.prog X.w (upd H a ob) h' a ob) :
  Inv X pins Z (upd H a ob) { s with heap:=h',toks:=t'} :=
 I.write (x:=a) (e:=a) mu (.inl rfl) (fun b q hb z=>(hs.2 b hb).trans z) he new
theorem tR {P:Program}{w:World}{H':Hp}{h':Heap}{kvs:List (Key × V)}{vs:List (Key × Value)}(z:kvs.length<=sizeLine) (hd:(a==sysModules)=false) (rel:KV kvs vs) (dd:h'.DictOf (bH P w) a vs) :
  ObjOk P w H' h' a (.dK kvs):=⟨z,hd,vs,rel,dd⟩
theorem xK {H':Hp}{Q:Unit->Shared->Prop}(hu:A.units+1<cLine) (I:Inv X pins Z H s) (g:DPut H a y v H') (ry:RelV y u) (rv:RelV v r) (h:∀s',Inv X pins Z H' s'->Q () s') :
  wpAny (model X.prog X.w) A (setItem (.ref a) u r) Q E s:=by
 rcases g with ⟨kvs,k,e,ey,l,eH⟩ | ⟨kvs,k,b,e,ey,eb,l,eH⟩
 ·subst ey eH;obtain⟨z,hd,vs,rel,dd⟩:=u5 I.hok e;have hz:vs.length<=sizeLine:=by rw[<- rel.length];exact z
  have hl:(putK kvs k v).length<=sizeLine:=by have:=eN kvs k v;omega
  refine wpAny_setItem_pairs (hsz:=hz) (km ry) dd fun h' dd' hs=>h _ ?_;have he:∃q,h'.get? a=some q:=let ⟨q,_,_,hq,_⟩:=dd';⟨q,hq⟩;exact jW I (by rw[e];exact True.intro) hs he (tR hl hd (rel.put k rv) dd')
 subst ey eH;cases (show u=Value.ref b from ry);obtain⟨z,hd,xs,rel,dd⟩:=Qk I.hok e;have hz:xs.length<=sizeLine:=by rw[<- Xx rel];exact z
 have hl:(putK kvs k v).length<=sizeLine:=by have:=eN kvs k v;omega
 refine wpAny_setItem_heap (hsz:=hz) (Yh hu) (kE I.hok eb) dd fun h' dd' hs=>h _ ?_;obtain⟨q,es,ep,hq,h2,h3,h4,_,h5⟩:=dd';refine jW I (by rw[e];exact True.intro) hs ⟨q,hq⟩ ⟨hl,hd,_,(rel.put k eb rv).keeps fun c ys ec=>?_,q,es,ep,hq,h2,h3,h4,h5⟩;rw[aP (O1 ec e (fun z=>nomatch z))];exact ec
variable {kvs:List (Key × V)}{k:Key}
end
def Ew (i:Expr):Prop:=∀ov iv,subscripted i false ov iv=operate [ov,iv] (getItem ov iv)
theorem Ex {prog:Program}{w:World}{A:Around}{E:Value->Shared->Prop}{s:Shared}{env:Env}{value slice:Expr}{pos:Pos}{T id:String}{Q:Value->Shared->Prop}
  (hl:typeLookup (.type T) "__getitem__"=pure (some (.builtin id))) (hs:Ew slice)
  (h:wpAny (model prog w) A (eval value env) (fun o s₁=>wpAny (model prog w) A (eval slice env) (fun i s₂=>s₂.TypeIs o T/\wpAny (model prog w) A (getItem o i) Q E s₂) E s₁) E s) :
  wpAny (model prog w) A (eval (.Subscript value slice pos) env) Q E s:=by
 refine Subscript_ (V0 h (fun o s₁ h₁=>V0 h₁ (fun i s₂ h₂=>?_) fun _ _ x=>x) fun _ _ x=>x);obtain⟨hT,h₂⟩:=h₂;unfold subscriptTail;refine a_ ?_;rw[getitemInPython_of_ne hT.not_modules];refine a_ (Wr hT hl ?_);have fin:wpAny (model prog w) A (subscripted slice false o i) (fun r s₃=>wpAny (model prog w) A (letTemporaryGo value o r >>= fun _=>pure r) Q E s₃) E s₂:=by rw[hs o i];exact wpAny_operating (V0 h₂ (fun r s₃ h₃=>a_ (wpAny_letTemporaryGo (h_ h₃))) fun _ _ x=>x)
 first
  |exact h_ (a_ fin)
  |exact a_ (h_ (a_ fin))
  |exact a_ fin
theorem qF {X:Cx}{pins:List (Addr × Obj)}{Z:St}{H:Hp}{s:Shared}{a:Addr}{y:V}{o:Option V}(I:Inv X pins Z H s) (g:DGet H a y o):s.TypeIs (.ref a) "dict":=by
 rcases g with ⟨kvs,k,e,_,_⟩ | ⟨kvs,k,b,e,_,_,_⟩
 ·obtain⟨_,_,vs,_,dd⟩:=nF I.hok e;exact dd.typeIs
 obtain⟨_,_,xs,_,dd⟩:=nG I.hok e;exact dd.typeIs
def Ql (td ty:TE):TE:=fun Z H Q=>td Z H fun x H1=>ty Z H1 fun y H2=>∃a v,x=.ref a/\DGet H2 a y (some v)/\Q v H2
def Um (ty td:TE):TE:=fun Z H Q=>ty Z H fun y H1=>td Z H1 fun x H2=>∃a o,x=.ref a/\DGet H2 a y o/\Q (.bl o.isSome) H2
def Ey (ty td:TE):TE:=fun Z H Q=>ty Z H fun y H1=>td Z H1 fun x H2=>∃a o,x=.ref a/\DGet H2 a y o/\Q (.bl (!o.isSome)) H2
def Qm (td ty tv:TE):TS:=fun D Z H=>tv Z H fun v H1=>td Z H1 fun x H2=>ty Z H2 fun y H3=>∃a H4,x=.ref a/\DPut H3 a y v H4/\D.nx Z H4
section
variable {X:Cx}{o i e value:Expr}{pos pos' tpos:Pos}{td ty tv:TE}
theorem u6 (hu:X.A.units+1<cLine) (ho:PE X o td) (hi:PE X i ty) (hs:Ew i):PE X (.Subscript o i pos) (Ql td ty):=by
 intro pins s Z H Q I h;refine Ex PySem.F.slot_dict_getitem.lookup hs (thn (ho pins s Z H _ I h) fun u s1 ⟨x,H1,I1,rx,q1⟩=>thn (hi pins s1 Z H1 _ I1 q1) fun iv s2 ⟨y,H2,I2,ry,a,v,ex,g,q2⟩=>?_);subst ex;obtain rfl:u=Value.ref a:=rx;exact⟨qF I2 g,xJ hu I2 g ry fun w' s3 I3 rw'=>⟨v,H2,I3,rw',q2⟩⟩
theorem K6 (hu:X.A.units+1<cLine) (hi:PE X i ty) (ho:PE X o td):PC X .In i o (Um ty td):=by
 intro pins s Z H Q I h;refine thn (hi pins s Z H _ I h) fun iv s1 ⟨y,H1,I1,ry,q1⟩=>thn (ho pins s1 Z H1 _ I1 q1) fun u s2 ⟨x,H2,I2,rx,a,ov,ex,g,q2⟩=>?_;subst ex;obtain rfl:u=Value.ref a:=rx;exact Ul hu I2 g ry fun s3 I3=>⟨.bl ov.isSome,H2,I3,rfl,q2⟩
theorem nH (hu:X.A.units+1<cLine) (hi:PE X i ty) (ho:PE X o td):PC X .NotIn i o (Ey ty td):=by
 intro pins s Z H Q I h;refine thn (hi pins s Z H _ I h) fun iv s1 ⟨y,H1,I1,ry,q1⟩=>thn (ho pins s1 Z H1 _ I1 q1) fun u s2 ⟨x,H2,I2,rx,a,ov,ex,g,q2⟩=>?_;subst ex;obtain rfl:u=Value.ref a:=rx;exact Eu hu I2 g ry fun s3 I3=>⟨.bl (!ov.isSome),H2,I3,rfl,q2⟩
theorem Ez (hu:X.A.units+1<cLine) (ho:PE X o td) (hi:PE X i ty) (hv:PE X value tv) (hs:swapsWith value (some (.Subscript o i pos')) pos.line X.env=pure false) :
  PS X (.Assign [.Subscript o i pos'] value pos) (Qm td ty tv):=by
 intro pins s Z H D I h;refine wpAny_Assign_Subscript (thn (hv pins s Z H _ I h) fun r s1 ⟨v,H1,I1,rv,q1⟩=>thn (ho pins s1 Z H1 _ I1 q1) fun u s2 ⟨x,H2,I2,rx,q2⟩=>thn (hi pins s2 Z H2 _ I2 q2) fun iv s3 ⟨y,H3,I3,ry,a,H4,ex,g,q3⟩=>?_) hs;subst ex;obtain rfl:u=Value.ref a:=rx;exact xK hu I3 g ry rv fun s4 I4=>⟨Z,H4,I4,q3⟩
end
theorem qG {P:Program}{w:World}{H:Hp}(h:Heap) (hb:sysModules<h.objs.size):ObjOk P w H (h.push { cls:=.type "dict",data:=.dict #[]}) h.objs.size (.dK []) :=
 ⟨Vx _,V9.mpr (Ne.symm (U9 hb)),[],.nil,Heap.DictOf.new h⟩
def K7:TE:=fun _ H Q=>∀p,H p=none->Q (.ref p) (upd H p (.dK []))
section
variable {X:Cx}{pos:Pos}
theorem qH:PE X (.Dict [] [] pos) K7:=fun pins s Z H Q I h =>
 wpAny_Dict_empty ⟨.ref s.heap.objs.size,_,I.laid (a:=s.heap.objs.size) (o:=.dK []) (t':=s.toks) (fun _ _ q=>e_ _ q) (m_ _) (qG s.heap I.big),rfl,h _ (I.hok.fresh (m_ _))⟩
end
def tU:List (TE × TE)->St->Hp->(List (V × V)->Hp->Prop)->Prop
 |[],_,H,Q=>Q [] H
 | (tk,tv)::r,Z,H,Q=>tk Z H fun x H1=>tv Z H1 fun y H2=>tU r Z H2 fun ps H3=>Q ((x,y)::ps) H3
abbrev VV:List (V × V)->List (Value × Value)->Prop:=Paired fun p q=>RelV p.1 q.1/\RelV p.2 q.2
def PPs (X:Cx) (pos:Pos) (keys:List (Option Expr)) (values:List Expr) (trs:List (TE × TE)):Prop :=
 ∀(pins:List (Addr × Obj)) (s:Shared) (Z:St) (H:Hp) (Q:List (V × V)->Hp->Prop),Inv X pins Z H s->tU trs Z H Q ->
  wpAny (model X.prog X.w) X.A (evalPairs (pairTrees keys values X.env pos)) (fun vs s'=>∃ps H',Inv X pins Z H' s'/\VV ps vs/\Q ps H') X.xe s
theorem u9 {X:Cx}{pos:Pos}:PPs X pos [] [] []:=fun pins s Z H Q I h=>pairTrees_nil_walk ⟨[],H,I,.nil,h⟩
theorem qI {X:Cx}{pos:Pos}{k v:Expr}{ks:List (Option Expr)}{vs:List Expr}{tk tv:TE}{trs:List (TE × TE)}(hk:PE X k tk) (hv:PE X v tv) (hr:PPs X pos ks vs trs) :
  PPs X pos (some k::ks) (v::vs) ((tk,tv)::trs):=fun pins s Z H Q I h =>
 pairTrees_cons_walk (thn (hk pins s Z H _ I h) fun u s1 ⟨x,H1,I1,rx,q1⟩=>thn (hv pins s1 Z H1 _ I1 q1) fun w2 s2 ⟨y,H2,I2,ry,q2⟩ =>
  thn (hr pins s2 Z H2 _ I2 q2) fun ws s3 ⟨ps,H3,I3,rel,q3⟩=>⟨(x,y)::ps,H3,I3,.cons ⟨rx,ry⟩ rel,q3⟩)
def iD (kvs more:List (Key × V)):List (Key × V):=more.foldl (fun acc kv=>putK acc kv.1 kv.2) kvs
theorem KV.merge:∀{more:List (Key × V)}{rs:List (Key × Value)}{kvs:List (Key × V)}{vs:List (Key × Value)},KV more rs->KV kvs vs->KV (iD kvs more) (merged vs rs):=by
 intro more rs kvs vs r;unfold KV at r;induction r generalizing kvs vs with
 |nil=>intro q;exact q
 |@cons p q ps qs h t ih =>
 intro r0;have e:KV (putK kvs p.1 p.2) (stored vs q.1 q.2):=by have:=r0.put p.1 h.2;rw[<- h.1];exact this
 exact ih e
theorem iy:∀(more kvs:List (Key × V)),(iD kvs more).length<=kvs.length+more.length
 |[],kvs=>by show kvs.length<=kvs.length+0;omega
 |p::r,kvs=>by
  have h1:=iy r (putK kvs p.1 p.2)
  have h2:=eN kvs p.1 p.2
  show (iD (putK kvs p.1 p.2) r).length<=_
  rw[j_];omega
theorem kI {P:Program}{w:World}:∀{kvs:List (Key × V)}{ws:List (Value × Value)},VV (kvs.map fun kv=>(kV kv.1,kv.2)) ws->∃rs,Carries (bH P w) ws rs/\KV kvs rs
 |[],_,r=>by rw[VJ] at r;cases r;exact⟨[],True.intro,.nil⟩
 |p::kvs,_,r=>by
  rw[A_] at r
  cases r with
  |@cons a b as bs h t =>
   obtain⟨rs,c,q⟩:=kI (P:=P) (w:=w) t
   obtain⟨b1,b2⟩:=b
   exact⟨(p.1,b2)::rs,⟨km h.1,rfl,c⟩,.cons ⟨rfl,h.2⟩ q⟩
def Qn (trs:List (TE × TE)):TE:=fun Z H Q=>∀p,H p=none->tU trs Z (upd H p (.dK [])) fun ps H2=>H2 p=some (.dK [])/\∃kvs:List (Key × V),ps=kvs.map (fun kv=>(kV kv.1,kv.2))/\kvs.length<=15/\Q (.ref p) (upd H2 p (.dK (iD [] kvs)))
theorem vd {X:Cx}{pos:Pos}{keys:List (Option Expr)}{values:List Expr}{trs:List (TE × TE)}(h:PPs X pos keys values trs) (hall:keys.all (·.isSome)=true) (hl:keys.length=values.length) (h0:keys≠[])
  (h15:keys.length<=15):PE X (.Dict keys values pos) (Qn trs):=by
 intro pins s Z H Q I q;have hn:=I.hok.fresh (m_ s.heap.objs.size);have I1:=I.laid (a:=s.heap.objs.size) (o:=.dK []) (h':=s.heap.push { cls:=.type "dict",data:=.dict #[]}) (t':=s.toks) (fun _ _ q=>e_ _ q) (m_ _) (qG s.heap I.big);refine wpAny_Dict_walk (knd:=bH X.prog X.w) hall hl h0 h15 (thn (h pins _ Z _ _ I1 (q _ hn)) fun ws s2 ⟨ps,H2,I2,rel,e,kvs,ep,lk,q2⟩=>?_);subst ep;obtain⟨rs,c,rk⟩:=kI (P:=X.prog) (w:=X.w) rel;obtain⟨z,hd,vs0,r0,dd⟩:=u5 I2.hok e;cases r0;refine⟨rs,c,dd,fun h' dd' hs=>⟨.ref s.heap.objs.size,_,?_,rfl,q2⟩⟩;have hz:(iD [] kvs).length<=sizeLine:=by have h1:=iy kvs [];rw[Wd] at h1;rw[sizeLine_eq];omega
 have he:∃q,h'.get? s.heap.objs.size=some q:=let ⟨q,_,_,hq,_⟩:=dd';⟨q,hq⟩;exact jW I2 (by rw[e];exact True.intro) hs he (tR hz hd (rk.merge .nil) dd')
structure M2 (X:Cx) (o:Expr) (m:Str) (apos:Pos) (e f:Expr) (cpos:Pos):Prop where
 base:attributeBase o m X.env (eval o X.env)=eval o X.env
 few:((backTo cpos (starEach [e,f] X.env)).all (fun x=>!x.1)&&(backToKw cpos (keywordEach [] X.env)).all (fun x=>x.1.isSome)
  && decide (([e,f]:List Expr).length+([]:List Keyword).length+(if ([]:List Keyword).isEmpty then 0 else 1)<30))=true
 line:(apos.endLine==cpos.line)=true
 trees:backTo cpos (starEach [e,f] X.env)=[(false,eval e X.env),(false,eval f X.env)]
def IsD (H:Hp) (a:Addr):Prop:=(∃kvs,Rd H a (.dK kvs))\/∃kvs,Rd H a (.dT kvs)
theorem zp {X:Cx}{pins:List (Addr × Obj)}{Z:St}{H:Hp}{s:Shared}{a:Addr}(I:Inv X pins Z H s) (d:IsD H a) :
  s.TypeIs (.ref a) "dict"/\(∀b,Value.ref a=.ref b->∃ob,s.heap.get? b=some ob/\ob.dict=none)/\(a==sysModules)=false:=by
 rcases d with ⟨kvs,e⟩ | ⟨kvs,e⟩
 ·obtain⟨_,hd,vs,_,dd⟩:=nF I.hok e;refine⟨dd.typeIs,fun b q=>?_,hd⟩;cases q;obtain⟨ob,_,_,h1,h2,_⟩:=dd;exact⟨ob,h1,h2.2.1⟩
 obtain⟨_,hd,xs,_,dd⟩:=nG I.hok e;refine⟨dd.typeIs,fun b q=>?_,hd⟩;cases q;obtain⟨ob,_,_,h1,h2,_⟩:=dd;exact⟨ob,h1,h2.2.1⟩
section
variable {X:Cx}{pins:List (Addr × Obj)}{Z:St}{H:Hp}{s:Shared}{a:Addr}{y d:V}{u r:Value}{o:Option V}{A:Around}{E:Value->Shared->Prop}
end
section
variable {X:Cx}{o e f:Expr}{apos cpos:Pos}{td ty tx:TE}
variable {pins:List (Addr × Obj)}{Z:St}{H:Hp}{s:Shared}{a:Addr}{kvs:List (Key × V)}{A:Around}{E:Value->Shared->Prop}
variable {y:V}{u:Value}
end
end L2
namespace Att
open PySem PySem.W PySem.Calls PyProof.Rows
theorem jP {P:Params}{h:Heap}:∀(ns:List Int) (vs:List Value),WellAll P h vs (ns.map WData.int)->IntsAre vs ns:=by
 intro ns;induction ns with
 |nil=>intro vs w;rw[VJ] at w;cases w;exact .nil
 |cons n ns ih =>
 intro vs w;rw[A_] at w;cases w with
 |cons a b =>
 cases a;exact .cons _ _ (ih _ b)
theorem xM {l:OpenLaw}{n:Nat}(hn:l.most=some n) {P:Params}{h:Heap}{args:List WData}{vals:List Value}
  (hpre:l.row.toRowW.claim.pre args=true) (hwl:WellAll P h vals args) :
  ∃a vs ns,vals=[Value.ref a]/\args=[WData.list (ns.map WData.int)]/\h.get? a=some { cls:=.type "list",data:=.seq vs.toArray}/\IntsAre vs ns/\ns.length<=n:=by
 have hsh:WShape.hasAll [] args [.list .int]=true:=(pre_splitW hpre).1;have hc:l.pre.holds [] { args:=args}=true:=(pre_splitW hpre).2;obtain⟨d,r,rfl,h1,h2⟩:=hasAllW_cons hsh;obtain rfl:=hasAllW_nil h2;obtain⟨xs,rfl,h3⟩:=hasW_list h1;obtain⟨ns,rfl⟩:=items_int h3;have hlen:ns.length<=n:=by
  unfold OpenLaw.pre at hc;have h4:(WTm.not (.lt (.lit (.int (n:Int))) (.len (.arg 0)))).holds [] { args:=[.list (ns.map .int)]}=true:=by have h4:=(holds_andW hc).1;rw[hn] at h4;exact h4
  have h5:=condW_of h4 (w_not (w_lt w_lit (w_len_list (w_arg rfl))));rw[d_] at h5;refine Nat.le_of_not_lt fun q=>?_;have q':(n:Int)<((ns.length:Nat):Int):=by omega
  first
   | (rw[O_ q'] at h5;exact absurd h5 (by decide))
   | (simp at h5;omega)
 cases hwl with
 |cons w1 w2 =>
 cases w2;cases w1 with
 |list ho hall=>exact⟨_,_,ns,rfl,rfl,ho,jP ns _ hall,hlen⟩
theorem xN (l:OpenLaw) (args:List WData):l.row.toRowW.claim.post args (.bool true) args=true :=
 postW_of (r:=l.row.toRowW) (X:=(true==true))
  (show WShape.has [] (.bool true) .bool=true by first | rfl | decide | simp [WShape.has,WShape.arms,WShape.armsAll])
  (show (WTm.eq .res (.lit (.bool true))).value [] { args:=args,res:=some (.bool true),after:=args}=some (.bool (true==true)) from w_eq_bool (w_res rfl) w_lit) rfl
theorem attach_call {l:OpenLaw}{n:Nat}{q:Program}{loose:List Str}{XP:(Str->Option Value)->Heap->Prop}{YP:World->Heap->Prop}{d:DefRec}
  (hn:l.most=some n) (hdf:d.params.defaults=[])
  (call:∀(w:World) (s₀ s₁:Shared) (mg mb:Str->Option Value) (fa:Addr) (o:Obj) (pm cd doc:Value) (a:Addr) (vs:List Value) (ns:List Int),
   Ground q loose [] XP w s₀ mg mb s₁.heap->YP w s₁.heap ->
   s₁.heap.get? fa=some o->o.data=.func (docDef d.name d.params d.body d.scope pm cd doc)->s₁.heap.CodeRec cd d.name->mg d.name=some (.ref fa) ->
   s₁.heap.get? a=some { cls:=.type "list",data:=.seq vs.toArray}->IntsAre vs ns->ns.length<=n->s₁.gens=#[] ->
   codeAny (model l.prog w) callerA (.call (.ref fa) ⟨[.ref a],[]⟩) (fun r s'=>r=.ok (.ret (.bool true))/\OldK s₁.heap s'.heap/\s'.os=s₁.os/\AllBare s'.gens) s₁) :
  WalkO q loose XP YP l.row.toRowW d [] (fun f vs=>PySem.call f vs):=by
 intro w s₀ s₁ mg mb G Y fa o pm cd doc dV kV ho hd hcd hD hmg hg args vals as hpre hlay hrd hwl hlo;obtain rfl:dV=.none:=Dflts.none hD hdf;obtain rfl:kV=.none:=Dflts.noKw hD;obtain⟨a,vs,ns,rfl,rfl,hobj,hints,hlen⟩:=xM hn hpre hwl;refine enter_call (W4 (call w s₀ s₁ mg mb fa o pm cd doc a vs ns G Y ho (fd_plain hd) hcd hmg hobj hints hlen hg) fun r s' hq=>?_);obtain⟨rfl,h2,h3,h4⟩:=hq;exact⟨.inl ⟨.bool true,.bool true,[],rfl,fun _=>rfl,.bool true,xN l _,fun _=>⟨List.Pairwise.nil,fun _ hm=>(nomatch hm)⟩⟩,h2,h3,h4⟩
section
variable {prog:Program}{w:World}{A:Around}{E:Value->Shared->Prop}{s:Shared}{K:Frag}
def ledger (h : Heap) (L d : Addr) : List (Addr × Obj):=(List.range h.objs.size).filterMap fun a => if a = L \/ a = d then none else (h.get? a).map fun o => (a,o)
end
end Att
namespace L2
theorem nM:∀{vs:List Value}{ns:List Int},IntsAre vs ns->Vals (ns.map V.int) vs
 |_,_,.nil=>.nil
 |_,_,.cons n t h=>.cons ⟨t,rfl⟩ (nM h)
def Only (H:Hp):Prop:=∀b,H b=none\/∃o xs,H b=some (.frz o (.lst xs))
theorem zq {P:Program}{w:World}{K:Frag}{mg mb:Str->Option Value}{CX:CXT}{k:Nat}{fa a:Addr}{fd:FuncData}{x:Str}{sp:Sp}{s₁:Shared}{vs:List Value}{ns:List Int}
  (KX:K.In s₁.heap) (hns:s₁.heap.Ns mainGlobals mg) (hb:s₁.heap.Ns builtinsNs mb) (hbb:∀x:Str,x≠"__name__"->mb x=bootBuiltins x) (hlim:s₁.heap.NoLimit) (hg:s₁.gens=#[])
  (ha:s₁.heap.get? a=some { cls:=.type "list",data:=.seq vs.toArray}) (hi:IntsAre vs ns) (hl:ns.length<=sizeLine) (hr:Room k callerA)
  (F:∀base:Heap,K.In base->base.Ns mainGlobals mg->FnOk P w K mg base CX k fa fd [x] sp) (hbind:∀(s:Shared) (u:Value),BindsTo s fd ⟨[u],[]⟩ [(x,u)])
  (hsp:∀H:Hp,Only H->SqL K H a (ns.map V.int)->sp [.ref a] H (fun v _=>v=.bl true) fun _ _ _=>False)
  (hCX:∀H e s',CX [] H s₁ (fun _ _ _=>False) e s'->False) :
  codeAny (model P w) callerA (.call (.ref fa) ⟨[.ref a],[]⟩) (fun r s'=>r=.ok (.ret (.bool true))/\OldK s₁.heap s'.heap/\s'.os=s₁.os/\AllBare s'.gens) s₁:=by
 have rv:=nM hi;have lenV:=hi.length
 have core:∀H:Hp,Only H->SqL K H a (ns.map V.int)->HOk P w H s₁.heap->(∀b,H b≠none->b=a)->(H a≠none->K.lookup a=none) ->
   codeAny (model P w) callerA (.call (.ref fa) ⟨[.ref a],[]⟩) (fun r s'=>r=.ok (.ret (.bool true))/\OldK s₁.heap s'.heap/\s'.os=s₁.os/\AllBare s'.gens) s₁:=by
  intro H hO hS hok hA hK
  have base_of:∀{b:Addr} {o:Obj},s₁.heap.get? b=some o->H b=none->(oU s₁.heap H).get? b=some o:=fun e n=>yO e n
  have noA:∀{b:Addr} {o:Obj} {es:Array DictEntry} {ep:Nat},s₁.heap.get? b=some o->o.data=.dict es ep->H b=none:=fun {b o es ep} e d=>by
   cases q:H b with
   |none=>rfl
   |some u =>
    have e':b=a:=hA b (by rw[q];simp)
    subst e'
    rw[ha] at e;cases e
    have d':Data.seq vs.toArray _=Data.dict es ep:=d
    cases d'
  have nsK:∀{b:Addr} {m:Str->Option Value},s₁.heap.Ns b m->(oU s₁.heap H).Ns b m:=fun {b m} ⟨o,es,ep,e,d,r⟩=>⟨o,es,ep,base_of e (noA e d),d,r⟩
  have hKb:K.In (oU s₁.heap H):=fun b o e=>base_of (KX b o e) (by
   cases q:H b with
   |none=>rfl
   |some u =>
    have e':b=a:=hA b (by rw[q];simp)
    subst e'
    rw[hK (by rw[q];simp)] at e;cases e)
  have hM:Mod K mg (oU s₁.heap H):=⟨hKb,nsK hns,⟨mb,nsK hb,hbb⟩,let ⟨mc,h1,h2⟩:=hlim;⟨mc,nsK h1,h2⟩⟩
  have e0:Env0 P w K mg (oU s₁.heap H) callerA [] s₁ H:=⟨rfl,hM,fun b o e=>DN e,Yi (wZ _ _),trivial,fun b hb=>absurd (show b∈([]:List Addr) from hb) (by simp),hok,.of_eq hg⟩
  refine W4 ((F _ hKb (nsK hns)).run callerA [] s₁ H ⟨[.ref a],[]⟩ [.ref a] [.ref a] _ _ hr e0 (hbind s₁ (.ref a)) (.cons rfl .nil) (hsp H hO hS)) fun r s' h=>?_
  cases r with
  |error e=>exact (hCX H e s' h).elim
  |ok fl =>
   cases fl with
   |next=>exact False.elim h
   |brk=>exact False.elim h
   |cont=>exact False.elim h
   |ret u =>
    obtain⟨v,H',os,bare,un,hok',r',q⟩:=h
    have q':v=.bl true:=q
    subst q'
    obtain rfl:u=Value.bool true:=r'
    refine⟨rfl,OldK.of_keep fun b o e=>?_,os,bare⟩
    cases q:H b with
    |none=>exact un.keep b o e q (by intro z;exact absurd (show b∈([]:List Addr) from z) (by simp)) (by simp)
    |some u =>
     rcases hO b with z | ⟨ob,xs,z⟩
     ·
      rw[q] at z;cases z
     ·
      have z2:=un.frzs b ob _ z
      obtain⟨e1,_⟩:=hok b _ z
      obtain⟨e2,_⟩:=hok' b _ z2
      rw[e] at e1;cases e1
      exact e2
 cases hk:K.lookup a with
 |some o =>
  have e:=KX a o hk
  rw[ha] at e
  cases e
  refine core (fun _=>none) (fun _=>.inl rfl) (.inr ⟨_,vs.toArray,_,hk,rfl,rfl,rfl,by rw[l_,lenV];exact hl,by simpa using rv⟩) (fun b u z=>by have z':(none:Option HO)=some u:=z;cases z') (fun b z=>absurd rfl z) fun z=>absurd rfl z
 |none =>
 refine core (fun b=>if b=a then some (.frz { cls:=.type "list",data:=.seq vs.toArray} (.lst (ns.map V.int))) else none) (fun b=>?_) (.inl (.inr ⟨{ cls:=.type "list",data:=.seq vs.toArray},if_pos rfl⟩)) (fun b u z=>?_) (fun b z=>?_) fun _=>hk
 ·by_cases hb:b=a
  ·exact .inr ⟨_,_,if_pos hb⟩
  exact .inl (if_neg hb)
 ·by_cases hb:b=a
  ·have z':=(if_pos hb).symm.trans z;cases z';subst hb;exact⟨ha,by rw[d_];exact hl,vs,_,rv,ha⟩
  have z':=(if_neg hb).symm.trans z;cases z'
 by_cases hb:b=a
 ·exact hb
 exact absurd (if_neg hb) z
abbrev KOf {K:Frag}{h:Heap}(_:K.In h):Frag:=K
theorem walk_of {l:PySem.W.OpenLaw}{n k:Nat}{q:Program}{loose:List Str}{XP:(Str->Option Value)->Heap->Prop}{YP:World->Heap->Prop}{d:DefRec}{K:Params->Frag}{CX:World->CXT}{sp:World->Sp}{x:Str}
  (hn:l.most=some n) (hn2:n<=sizeLine) (hdf:d.params.defaults=[]) (hr:Room k callerA)
  (hY:∀(w:World) (h:Heap),YP w h->(K w.params).In h)
  (F:∀(w:World) (mg:Str->Option Value) (fa:Addr) (h:Heap),(K w.params).In h->h.Ns mainGlobals mg->mg d.name=some (.ref fa) ->
   ∃fd:FuncData,(∀(s:Shared) (u:Value),BindsTo s fd ⟨[u],[]⟩ [(x,u)]) /\
    ∀base:Heap,(K w.params).In base->base.Ns mainGlobals mg->FnOk l.prog w (K w.params) mg base (CX w) k fa fd [x] (sp w))
  (hsp:∀(w:World) (H:Hp) (a:Addr) (ns:List Int),ns.length<=n->Only H->SqL (K w.params) H a (ns.map V.int)->sp w [.ref a] H (fun v _=>v=.bl true) fun _ _ _=>False)
  (hCX:∀(w:World) (H:Hp) (s:Shared) (e:Value) (s':Shared),CX w [] H s (fun _ _ _=>False) e s'->False) :
  PySem.W.WalkO q loose XP YP l.row.toRowW d [] (fun f vs=>PySem.call f vs):=by
 refine Att.attach_call hn hdf fun w s₀ s₁ mg mb fa o pm cd doc a vs ns G Y ho hd hcd hmg hobj hints hlen hg=>?_;have KX:=hY w _ Y;obtain⟨fd,hb,hF⟩:=F w mg fa _ KX G.T.g hmg;exact zq KX G.T.g G.T.b G.T.builtins G.T.nolimit hg hobj hints (U8 hlen hn2) hr hF hb (fun H hO hS=>hsp w H a ns hlen hO hS) fun H e s'=>hCX w H s₁ e s'
end L2
/- THE LAST THEOREM (shape;LID,My.* are yours):
  My.Adr: a structure of the addresses that your layer names (classes,functions);My.Txt K t: a structure (Prop) of the equations over K;
  My.txt_mk:{K} {implicit addresses ..} (e1:nsIn K mainGlobals "law"=some (some (.ref f))) (e2:K.lookup f=some ⟨oc,od,.func (fnOf "law" "law" params body scope dV kV doc pm an cdv ct),sl⟩) (e3:codeIn K cdv "law"=true) .. : ∃t,My.Txt K t
set_option maxRecDepth 100000 in
set_option maxHeartbeats 0 in
theorem PySem.Challenge.cw_LID_holds : PySem.Challenge.rw_LID.Holds := by
 w_on;o_law;k_head;(case hw=>w_witness2)
 k_fill
 refine L2.walk_of (l:=PySem.Challenge.rw_LID) (n:=63) (k:=40) (x:="script") (CX:=fun w=>..) (sp:=fun _=>My.sp_law) rfl (by decide) rfl ⟨rfl,by decide,by decide⟩ (fun w h Y=>PySem.W.kIn_of Y) ?F ?S ?C
 case F =>
  intro w mg fa h KX G hmg
  have T:∃t,My.Txt (L2.KOf KX) t:=by
   dsimp only[L2.KOf]                          -- K must stand as «<heap const> w.params» for k_is
   refine' My.txt_mk ?e1 ?e2 ?e3 ..
   (case e1=>PySem.W.k_is)                    -- in the order: a name->its address->its object->its parts
   (case e2=>PySem.W.k_is)
   ..
  obtain⟨t,T⟩:=T
  have e0:=hmg.symm.trans (mg_of KX G T.law)
  cases e0                                       -- fa is the law's own address
  exact⟨_,fun s u=>.of_eq rfl,fun base kb nb=>My.law_fn T kb nb⟩     -- if «.of_eq rfl» comes too early: refine'⟨_,?b,fun base kb nb=>My.law_fn T kb nb⟩;exact fun s u=>.of_eq rfl
 case S=>exact fun w H a ns hl hO hS=>..
 case C=>exact ..
(the tactic k_is has no namespace: write k_is) -/
namespace L2
abbrev CX0:CXT:=fun _ _ _ _ _ _=>False
abbrev E0:XK:=fun _ _ _=>False
theorem zr {X:Cx}:jr CX0 X E0:=fun _ _ _ _ _ _ _ h=>h.elim
structure Fun (K:Frag) (x qual:Str) (st:Stmt) (f:Addr) (fd:FuncData):Prop where
 ex:∃(oc:Value) (od:Option Addr) (kV doc pm:Value) (an:Option Addr) (cdv ct:Value) (osl:Array (Option Value)),
  fd=fnOf x qual (b7 st) (bL st) (au st) .none kV doc pm an cdv ct/\K.lookup f=some ⟨oc,od,.func fd,osl⟩/\codeIn K cdv qual=true
 kp:keepIn K (.ref f)=true
section
variable {P:Program}{w:World}{K:Frag}{mg:Str->Option Value}{base:Heap}
theorem Fun.ok {x qual:Str}{st:Stmt}{f:Addr}{fd:FuncData}{N ps:List Str}{k:Nat}{sp:Sp}(F:Fun K x qual st f fd) (S:FnScope N ps (au st)) (len:∀vs H Q E,sp vs H Q E->vs.length=ps.length)
  (hbody:∀(cdv:Value) (A:Around) (outer:List Env) (s:Shared) (H:Hp) (vs:List V) (Q:VK) (E:XK),Room k (A.deeper (envOfC qual (au st) s.heap.objs.size f cdv))->sp vs H Q E ->
   ∃t,PSs (tK CX0 P w K mg base N qual (au st) f cdv A outer s H E).nox (bL st) t/\t { nx:=fun _ H'=>Q .non H',rt:=Q} (start N vs) H):FnOk P w K mg base CX0 (k+1) f fd ps sp:=by
 obtain⟨oc,od,kV,doc,pm,an,cdv,ct,osl,rfl,lk,hcd⟩:=F.ex;refine P0 lk hcd S len fun A outer s H vs Q E hr hsp=>?_;obtain⟨t,h,q⟩:=hbody cdv A outer s H vs Q E hr hsp;exact⟨t,h.nox,q⟩
theorem Fun.binds {x qual:Str}{st:Stmt}{f:Addr}{fd:FuncData}{ps:List Str}(F:Fun K x qual st f fd)
  (h:∀(kV doc pm:Value) (an:Option Addr) (cdv ct:Value) (us:List Value),us.length=ps.length->bindArgs (fnOf x qual (b7 st) (bL st) (au st) .none kV doc pm an cdv ct) ⟨us,[]⟩=pure (ps.zip us)):Binds K fd ps []:=by
 obtain⟨oc,od,kV,doc,pm,an,cdv,ct,osl,rfl,lk,hcd⟩:=F.ex;exact .all (h kV doc pm an cdv ct)
theorem kJ {x qual:Str}{st:Stmt}{f:Addr}{oc:Value}{od an:Option Addr}{osl:Array (Option Value)}{kV doc pm cdv ct:Value}(l:K.lookup f=some ⟨oc,od,.func (fnOf x qual (b7 st) (bL st) (au st) .none kV doc pm an cdv ct),osl⟩)
  (c:codeIn K cdv qual=true) (k:keepIn K (.ref f)=true):Fun K x qual st f (fnOf x qual (b7 st) (bL st) (au st) .none kV doc pm an cdv ct):=⟨⟨oc,od,kV,doc,pm,an,cdv,ct,osl,rfl,l,c⟩,k⟩
variable {X:Cx}
theorem pv (i:Nat) {x:Str}{pos:Pos}(hN:X.N[i]?=some x:=by rfl) (hv:Vis X.env.scope x:=by first | exact Or.inl rfl | exact Or.inr (Or.inl rfl) | exact Or.inr (Or.inr rfl)) (hd:(x==("__debug__":Str))=false:=by decide)
  (hcd:(x==("__classdict__":Str))=false:=by decide):PE X (.Name x pos) (O2 i):=J1 hN hv hd hcd
end
theorem Uo {A B:Prop}(h:B):if false=true then A else B:=by
 rw[if_neg o_];exact h
theorem Uq {A B:Prop}(h:A):if true=true then A else B:=by
 rw[if_pos rfl];exact h
section
variable {κ:Type} [DecidableEq κ]
theorem jX:∀{l:List κ}{k:κ},l.Nodup->¬k∈l->(l++[k]).Nodup
 |[],k,_,_=>by simp
 |a::r,k,h,hk=>by
  obtain⟨h1,h2⟩:=Vu.mp h
  show (a::(r++[k])).Nodup
  refine Vu.mpr ⟨fun m=>?_,jX h2 fun m=>hk (p_.mpr (Or.inr m))⟩
  rcases D_.mp m with q | q
  ·
   exact h1 q
  ·
   exact hk (p_.mpr (Or.inl (i_.mp q).symm))
end
theorem jF {F:Str × NameKind->Str × NameKind}(hF:∀p,(F p).1=p.1) {x:Str}{k:NameKind}:∀{names:List (Str × NameKind)},names.lookup x=some k->(names.map F).lookup x=some (F (x,k)).2
 |[],h=>by cases h
 | (m,q)::r,h=>by
  have hm:=hF (m,q)
  rw[A_,show F (m,q)=(m,(F (m,q)).2) from Prod.ext hm rfl]
  by_cases e:x=m
  ·
   subst e
   rw[List.lookup_cons_self] at h ⊢
   cases h
   rfl
  ·
   have eb:(x==m)=false:=V9.mpr e
   simp only[List.lookup,eb] at h ⊢
   exact jF hF h
theorem ir {env:Env}{x:Str}{names:List (Str × NameKind)}(h:names.lookup x=some .free) :
  (names.map fun (n,k)=>if (k==NameKind.free&&env.scope.kind==.function&&env.kindOf n==some .cell) then (n,NameKind.cell) else (n,k)).lookup x=some .cell \/
  (names.map fun (n,k)=>if (k==NameKind.free&&env.scope.kind==.function&&env.kindOf n==some .cell) then (n,NameKind.cell) else (n,k)).lookup x=some .free:=by
 rw[jF (F:=fun (n,k)=>if (k==NameKind.free&&env.scope.kind==.function&&env.kindOf n==some .cell) then (n,NameKind.cell) else (n,k)) (fun p=>by dsimp only;split <;> rfl) h];dsimp only;split
 ·exact .inl rfl
 exact .inr rfl
theorem kO {scope:Scope}{env:Env}(h:∀y∈scope.names,y.2=.free->∃c,env.cells.lookup y.1=some c) :
  ∃cl,closureFor scope env=pure cl/\(∀x c,cl.lookup x=some c->env.cells.lookup x=some c)/\∀y∈scope.names,y.2=.free->∃c,cl.lookup y.1=some c:=by
 have key:∀(names:List (Str × NameKind)) (cs:List (Str × Addr)),(∀y∈names,y.2=.free->∃c,env.cells.lookup y.1=some c)->(∀x c,cs.lookup x=some c->env.cells.lookup x=some c) ->
   ∃cl:List (Str × Addr),(forIn names cs (fun (x:Str × NameKind) (r:List (Str × Addr))=>(do
    if x.2==.free then do
     let a <- cellOf env x.1
     pure (ForInStep.yield ((x.1,a)::r))
    else pure (ForInStep.yield r):Sem (ForInStep (List (Str × Addr))))):Sem (List (Str × Addr)))=pure cl/\(∀x c,cl.lookup x=some c->env.cells.lookup x=some c) /\
    (∀x c,cs.lookup x=some c->∃c',cl.lookup x=some c')/\∀y∈names,y.2=.free->∃c,cl.lookup y.1=some c:=by
  intro names
  induction names with
  |nil=>intro cs _ hc;exact⟨cs,rfl,hc,fun x c e=>⟨c,e⟩,fun y hy=>nomatch hy⟩
  |cons y r ih =>
   intro cs hn hc
   obtain⟨n,k⟩:=y
   by_cases hk:k=.free
   ·
    subst hk
    obtain⟨c,ec⟩:=hn (n,.free) t_ rfl
    have hcell:cellOf env n=pure c:=by unfold cellOf;rw[ec]
    obtain⟨cl,e,h1,h2,h3⟩:=ih ((n,c)::cs) (fun y hy=>hn y (v_ _ hy)) (fun x c' q=>by
     simp only[V7] at q
     cases hx:x==n with
     |true=>rw[hx] at q;cases q;rw[eq_of_beq hx];exact ec
     |false=>rw[hx] at q;exact hc x c' q)
    refine⟨cl,?_,h1,fun x c' q=>?_,fun y hy hf=>?_⟩
    ·
     rw[List.forIn_cons]
     show ((if (NameKind.free==NameKind.free)=true then (cellOf env n >>= fun a=>pure (ForInStep.yield ((n,a)::cs))) else pure (ForInStep.yield cs)) >>= _)=_
     rw[hcell]
     exact e
    ·
     cases hx:x==n with
     |true=>exact h2 x c (by simp only[V7,hx])
     |false=>exact h2 x c' (by simp only[V7,hx];exact q)
    ·
     rcases p_.mp hy with rfl | hy
     ·
      exact h2 n c (by simp [V7])
     ·
      exact h3 y hy hf
   ·
    obtain⟨cl,e,h1,h2,h3⟩:=ih cs (fun y hy=>hn y (v_ _ hy)) hc
    have hb:(k==NameKind.free)=false:=by simpa using hk
    refine⟨cl,?_,h1,h2,fun y hy hf=>?_⟩
    ·
     rw[List.forIn_cons]
     show ((if (k==NameKind.free)=true then (cellOf env n >>= fun a=>pure (ForInStep.yield ((n,a)::cs))) else pure (ForInStep.yield cs)) >>= _)=_
     rw[hb]
     exact e
    ·
     rcases p_.mp hy with rfl | hy
     ·
      exact absurd hf hk
     ·
      exact h3 y hy hf
 obtain⟨cl,e,h1,_,h3⟩:=key scope.names [] h (fun x c q=>by simp at q);refine⟨cl,?_,h1,h3⟩;unfold closureFor;exact Q_ (fun m=>m >>= fun r=>pure r) e
def bJ (X:Cx) (N':List Str) (scope:Scope) (cl:List (Str × Addr)) (pins:List (Addr × Obj)) (s:Shared) (H:Hp) (C:Addr) (fp:List Addr):Cx where
 prog:=X.prog
 w:=X.w
 K:=X.K
 mg:=X.mg
 base:=X.base
 A:=X.A
 N:=N'
 s₀:=s
 H₀:=H
 env:=compEnvC scope cl C X.env
 outer:=X.stack
 stack:=X.stack
 ex:=fp
 fn:=fun x=>scope.names.lookup x==some .cell
 calm:=X.calm
 pn:=X.pn++pins
 xe:=fun _ _=>False
def PIf (X:Cx) (ifs:List Expr) (t:TT):Prop :=
 ∀(pins:List (Addr × Obj)) (s:Shared) (Z:St) (H:Hp) (Q:Bool->Hp->Prop),Inv X pins Z H s->t Z H Q ->
  wpAny (model X.prog X.w) X.A (forIn ifs true fun c r=>if r=true then do let ok <- isTrue c X.env (eval c X.env);pure (ForInStep.yield ok) else pure (ForInStep.yield r)) (TP X pins Z Q) X.xe s
def Ur:TT:=fun _ H Q=>Q true H
theorem EY {X:Cx}:PIf X [] Ur:=fun _ _ _ H _ I h=>wpAny_tests_nil ⟨H,I,h⟩
theorem Fb {X:Cx}{c:Expr}{t:TT}(h:PT X c t):PIf X [c] t:=fun pins s Z H Q I hq=>wpAny_tests_one (h pins s Z H Q I hq)
section
variable {prog:Program}{w:World}{A:Around}{R:Result->Shared->Prop}{s:Shared}
theorem o6 {elt target iter:Expr}{ifs:List Expr}{scope:Scope}{pos:Pos}{it acc:Value}{env:Env}(I:Nat->Shared->Prop)
  (turn:∀n s,I n s->wpAny (model prog w) A (pyNext it) (fun r s₁=>match r with | .none=>R (.ok .next) s₁ | .some v=>wpAny (model prog w) A (letOwnedTupleGo target it v) (fun _ s₁'=>wpAny (model prog w) A (assign target env v) (fun _ s₂=>wpAny (model prog w) A (forIn ifs true fun c r=>if r=true then do let ok <- isTrue c env (eval c env);pure (ForInStep.yield ok) else pure (ForInStep.yield r)) (fun ok s₃=>if ok=true then wpAny (model prog w) A (eval elt env) (fun x s₄=>wpAny (model prog w) A (call (.builtin "list.append") [acc,x]) (fun _ s₅=>∃m,m<n/\I m s₅) (fun _ _=>False) s₄) (fun _ _=>False) s₃ else ∃m,m<n/\I m s₃) (fun _ _=>False) s₂) (fun _ _=>False) s₁') (fun _ _=>False) s₁) (fun _ _=>False) s)
  (n:Nat) (h:I n s):codeAny (model prog w) A (.compLoop (.ListComp elt [⟨target,iter,ifs,0⟩] scope pos) 0 it acc env) R s:=by
 refine codeAny_loop rfl I (fun j s₀ hI=>?_) n h;show wpAny _ A ((compTurn (.ListComp elt [⟨target,iter,ifs,0⟩] scope pos) 0 it acc env).onRaise (fun x=>do noteFrame x env;theTreesLotGoes x)) _ _ s₀;refine wpAny_noted ?_;rw[compTurn_list];refine a_ (wpAny_standAt (a_ (V0 (turn j s₀ hI) (fun r s₁ h₁=>?_) fun _ _ h'=>h'.elim)));cases r with
 |none=>exact h_ h₁
 |some v =>
 refine a_ (V0 h₁ (fun _ s₁' h₁'=>?_) fun _ _ h'=>h'.elim);refine a_ (V0 h₁' (fun _ s₂ h₂=>a_ (V0 h₂ (fun ok s₃ h₃=>?_) fun _ _ h'=>h'.elim)) fun _ _ h'=>h'.elim);cases ok with
 |false=>exact (h_ (And.intro rfl h₃))
 |true =>
 exact a_ (a_ (V0 h₃ (fun x s₄ h₄=>a_ (V0 h₄ (fun _ s₅ h₅=>h_ (h_ ⟨rfl,h₅⟩)) fun _ _ h'=>h'.elim)) fun _ _ h'=>h'.elim))
end
def vf (J:It) (g:TG) (tt:TT) (te:TE) (fin:List V->Hp->Prop) (Z₀:St) (H₁:Hp):Prop :=
 ∃W:Nat->Nat->List V->St->Hp->Prop,(∃m,W 0 m [] Z₀ H₁)/\∀i m ys Z H,W i m ys Z H ->
  (J.stop i H/\ys.length<=sizeLine/\fin ys H) \/
  (J.go i H/\∀x H',J.yld i H x H'->g x Z H' fun Z2 H2=>tt Z2 H2 fun b H3=>if b=true then te Z2 H3 fun y H4=>ys.length<sizeLine/\∃m',m'<m/\W (i+1) m' (ys++[y]) Z2 H4 else ∃m',m'<m/\W (i+1) m' ys Z2 H3)
def mK (nt:Nat) (cap:List Nat) (Z:St):St:=List.replicate nt none++cap.map fun j=>(Z[j]?).getD none
structure CompSc (X:Cx) (N':List Str) (nt:Nat) (cap:List Nat) (scope:Scope):Prop where
 kind:scope.kind=.function
 cells:∀y∈scope.names,y.2=.cell->scope.names.lookup y.1=some .cell
 names:∀x∈scope.names,x.2=.local->scope.names.lookup x.1=some .local
 free:∀y∈scope.names,y.2=.free->X.env.kindOf y.1=some .cell\/X.env.kindOf y.1=some .free
 len:N'.length=nt+cap.length
 caps:∀(j:Nat) (x:Str),N'[nt+j]?=some x->∃i,cap[j]?=some i/\X.N[i]?=some x/\scope.names.lookup x=some .free
theorem jQ {l:Addr}{its:List Value}{n:Nat}{u:Value}{P:Program}{w:World}{A:Around}{E:Value->Shared->Prop}{s:Shared}{Q:Value->Shared->Prop}
  (e:s.heap.get? l=some { cls:=.type "list",data:=.seq its.toArray n}) (hz:its.length<sizeLine)
  (h:∀h' n',h'.get? l=some { cls:=.type "list",data:=.seq (its++[u]).toArray n'}->(∀b o,b≠l->s.heap.get? b=some o->h'.get? b=some o)->Q .none { s with heap:=h'}) :
  wpAny (model P w) A (call (.builtin "list.append") [.ref l,u]) Q E s:=by
 refine Yo F.slot_list_append ⟨_,e,rfl⟩ F.entry_list_append (F.args_list_append_2 _ _) (list_append l its.toArray n u (by rw[l_];omega)) ⟨e,?_⟩;have q:=PySem.IsL.update e (·.push u);rw[List.push_toArray] at q;exact h _ _ q (fun b o hb hu=>(Vo s.heap _ (Ne.symm hb)).trans hu)
theorem bO:∀(names:List (Str × NameKind)) (n:Nat) (acc:List (Str × Addr)),cellsFrom n names acc=cellsFrom n names []++acc
 |[],_,_=>rfl
 | (x,k)::r,n,acc=>by
  unfold cellsFrom
  split
  ·
   rw[bO r (n+1) ((x,n)::acc),bO r (n+1) [(x,n)],Vq]
   rfl
  ·
   exact bO r n acc
theorem du {α:Type}(x:Str):∀(l m:List (Str × α)),(l++m).lookup x=(l.lookup x).or (m.lookup x)
 |[],_=>rfl
 | (y,v)::r,m=>by
  rw[Xf,V7,V7,du x r m]
  cases x==y <;> rfl
theorem fM {names:List (Str × NameKind)}{n:Nat}{cl:List (Str × Addr)}{x:Str}{c:Addr}(h:(cellsFrom n names cl).lookup x=some c):(cellsFrom n names []).lookup x=some c\/((cellsFrom n names []).lookup x=none/\cl.lookup x=some c):=by
 rw[bO,du] at h;cases e:(cellsFrom n names []).lookup x with
 |some d=>rw[e] at h;exact .inl h
 |none=>rw[e] at h;exact .inr ⟨rfl,h⟩
theorem iG {x:Str}{c:Addr}:∀{names:List (Str × NameKind)}{n:Nat}{acc:List (Str × Addr)},(x,c)∈cellsFrom n names acc->(x,NameKind.cell)∈names\/(x,c)∈acc
 |[],_,_,h=>.inr h
 | (y,k)::r,n,acc,h=>by
  unfold cellsFrom at h
  split at h
  ·
   rename_i hk
   rcases iG h with q | q
   ·
    exact .inl (v_ _ q)
   ·
    rcases p_.mp q with q | q
    ·
     cases q
     have:k=.cell:=by simpa using hk
     subst this
     exact .inl t_
    ·
     exact .inr q
  ·
   rcases iG h with q | q
   ·
    exact .inl (v_ _ q)
   ·
    exact .inr q
theorem Fd {M:Model}{A:Around}{E:Value->Shared->Prop}{s:Shared}{scope:Scope}{globals:Addr}{closure:List (Str × Addr)}{qual:Str}{env:Env}{Q:Env->Shared->Prop}
  (hQ:Q (newEnv scope s.heap.objs.size globals (cellsFrom (s.heap.objs.size+1) scope.names closure) qual none .none (some env) builtinsNs) { s with heap:=pushCells (s.heap.push { cls:=.type "dict",data:=.dict #[]}) scope.names}) :
  wpAny M A (newFunctionEnv scope globals closure [] qual none .none (some env)) Q E s:=by
 simp only[newFunctionEnv,Option.isSome_some,if_true];refine a_ (wpAny_alloc ?_);refine a_ (wpAny_layCells _ (fun name kind cells=>by cases hkc:kind==NameKind.cell <;> simp [hkc]) _ _ _ _ ?_);rw[show ({ s with heap:=s.heap.push { cls:=.type "dict",data:=.dict #[]}}:Shared).heap.objs.size=s.heap.objs.size+1 from Ww ..];refine a_ ?_;rw[List.forIn_nil];exact h_ (h_ hQ)
theorem zu {X:Cx}{pins:List (Addr × Obj)}{Z:St}{H:Hp}{s:Shared}{N':List Str}{nt:Nat}{cap:List Nat}{scope:Scope}{cl:List (Str × Addr)}{fp:List Addr}{h':Heap}{C:Addr}{tk:Nat}{pl:List (Addr × Obj)}
  (S:CompSc X N' nt cap scope) (I:Inv X pins Z H s) (hcl:∀x c,cl.lookup x=some c->X.env.cells.lookup x=some c) (hclh:∀y∈scope.names,y.2=.free->∃c,cl.lookup y.1=some c)
  (hf:∀b∈fp,mG X pins H b) (hfl:∀b∈fp,b<s.heap.objs.size) (hC:s.heap.objs.size<C) (hn:h'.Ns C fun _=>none) (hk:∀b o,s.heap.get? b=some o->h'.get? b=some o)
  (hp:∀p∈pl,h'.get? p.1=some p.2/\s.heap.objs.size=p.1/\∀v,p.2.data≠.cell v) (hcc:CellsOk h' (C+1) (cellsFrom (C+1) scope.names [])) :
  Inv (bJ X N' scope (cellsFrom (C+1) scope.names cl) pins s H C fp) pl (mK nt cap Z) H { s with heap:=h',toks:=tk}:=by
 have two:∀x c,(cellsFrom (C+1) scope.names cl).lookup x=some c->(C+1<=c/\(cellsFrom (C+1) scope.names []).lookup x=some c)\/X.env.cells.lookup x=some c:=fun x c e=>by
  rcases fM e with q | q
  ·exact .inl ⟨(hcc.empty x c (mem_of_lookup q)).2,q⟩
  exact .inr (hcl x c q.2)
 have low:∀x c,X.env.cells.lookup x=some c->c<s.heap.objs.size:=fun x c e=>by obtain⟨v,q⟩:=I.cell x c e;exact q.lt
 have hok:(bJ X N' scope (cellsFrom (C+1) scope.names cl) pins s H C fp).Ok:=by
  refine⟨I.ok.mod,S.kind,I.ok.glob,I.ok.blt,V5 hC,fun x y c e1 e2=>?_,fun x hx=>?_,fun x c z e=>?_,I.ok.hd,I.ok.frames,.inl rfl,fun b hb=>?_,I.bs,U8 I.ok.bsz I.sz,fun b o e hb=>?_,fun b hb z=>?_,I.stack,I.stkFree⟩
  ·rcases two x c e1 with ⟨q1,p1⟩ | q1
   ·rcases two y c e2 with ⟨q2,p2⟩ | q2
    ·exact name_of_addr hcc.apart (mem_of_lookup p1) (mem_of_lookup p2)
    exact absurd (P_ (Wj (XX (low y c q2) hC)) q1) (Vc _)
   rcases two y c e2 with ⟨q2,p2⟩ | q2
   ·exact absurd (P_ (Wj (XX (low x c q1) hC)) q2) (Vc _)
   exact I.ok.inj x y c q1 q2
  ·have hx':(relabel scope X.env).names.lookup x=some .cell\/(relabel scope X.env).names.lookup x=some .free:=hx;have hm:∃k,(x,k)∈(relabel scope X.env).names/\(k=.cell\/k=.free):=by
    rcases hx' with z | z
    ·exact⟨_,mem_of_lookup z,.inl rfl⟩
    exact⟨_,mem_of_lookup z,.inr rfl⟩
   obtain⟨k,hm,hk⟩:=hm;obtain⟨⟨n,k0⟩,hm0,e⟩:=k_.mp hm;have e':(if (k0==NameKind.free&&X.env.scope.kind==.function&&X.env.kindOf n==some .cell)=true then (n,NameKind.cell) else (n,k0))=(x,k):=e;by_cases hk0:k0=.free
   ·subst hk0;have en:n=x:=by split at e' <;> exact Q_ Prod.fst e'
    subst en;obtain⟨c,ec⟩:=hclh (n,.free) hm0 rfl;show ∃c,(cellsFrom (C+1) scope.names cl).lookup n=some c;rw[bO,du,ec];cases (cellsFrom (C+1) scope.names []).lookup n with
    |none=>exact⟨c,rfl⟩
    |some d=>exact⟨d,rfl⟩
   have hb:(k0==NameKind.free)=false:=by simpa using hk0
   rw[hb] at e';simp only[Bool.false_and,y_,U7] at e';cases e';rcases hk with rfl | rfl
   ·obtain⟨c,ec⟩:=iR (n:=C+1) (S.cells _ hm0 rfl);refine⟨c,?_⟩;show (cellsFrom (C+1) scope.names cl).lookup _=some c;rw[bO,du,ec];rfl
   exact absurd rfl hk0
  ·have z':scope.names.lookup x=some .cell:=by simpa [bJ] using z
   obtain⟨d,ed⟩:=iR (n:=C+1) z';have e':(cellsFrom (C+1) scope.names cl).lookup x=some c:=e;rw[bO,du,ed] at e';cases e';have:=(hcc.empty x _ (mem_of_lookup ed)).2;show s.heap.objs.size<=_;omega
  ·obtain⟨f0,f1,f2,f3,f4,f5⟩:=hf b hb;refine⟨fun z=>absurd (hfl b hb) (XJ.mpr (by rw[show b=C from z];exact V5 hC)),fun x c e=>?_⟩;rcases two x c e with ⟨q,_⟩ | q
   ·intro z;rw[z] at q;exact absurd (P_ (Wj (XX (hfl b hb) hC)) q) (Vc _)
   exact f4 x c q
  ·obtain⟨f0,f1,f2,f3,f4,f5⟩:=hf b hb;rcases f3 with q | q
   ·exact I.ok.noex b o e q
   exact absurd (B_ (I.ok.bs b o e).1) (XJ.mpr q)
  obtain⟨f0,f1,f2,f3,f4,f5⟩:=hf b hb;rcases p_.mp (I.stkSub b z) with q | q
  ·exact f1 q
  exact f2 q
 obtain⟨m,hnm,hl⟩:=id I.loc;refine⟨hok,rfl,I.bare,Un.kept hk,⟨_,hn,fun i x v e1 e2 e3=>?_⟩,fun x c e=>?_,I.hok.fresh (V5 hC),fun x c e=>?_,fun p hp'=>?_,I.hok.kept hk,?_⟩
 ·-- a name of the block: one that it takes from around
  unfold mK at e2;by_cases hi:i<nt
  ·rw[Vj (by simpa using hi),Xe] at e2;split at e2 <;> cases e2
  obtain⟨j,rfl⟩:∃j,i=nt+j:=⟨i - nt,by omega⟩;obtain⟨k,ck,hN,hfree⟩:=S.caps j x e1;rw[R_ (by simp),Xy,Nat.add_sub_cancel_left,z_,ck] at e2;have e2':(Z[k]?).getD none=some v:=U6 e2;have e2'':Z[k]?=some (some v):=by
   cases q:Z[k]? with
   |none=>rw[q] at e2';cases e2'
   |some z=>rw[q] at e2';exact Q_ some e2'
  have hkd:=S.free (x,.free) (mem_of_lookup hfree) rfl;obtain⟨u,ru,lk⟩:=hl k x v hN e2'' (.inr hkd);refine⟨u,ru,.inr ⟨ir hfree,?_⟩⟩;rcases lk with ⟨kl,_⟩ | ⟨_,c,hc,hcell⟩
  ·rcases hkd with z | z <;> (rw[kl] at z;cases z)
  obtain⟨c',hc'⟩:=hclh (x,.free) (mem_of_lookup hfree) rfl;have e:=hcl x c' hc';rw[hc] at e;cases e;obtain⟨o,ho,hd⟩:=hcell;refine⟨c,?_,o,hk _ _ ho,hd⟩;show (cellsFrom (C+1) scope.names cl).lookup x=some c;rw[bO,du];cases q:(cellsFrom (C+1) scope.names []).lookup x with
  |none=>exact hc'
  |some d =>
  rcases iG (mem_of_lookup q) with z | z
  ·have:=S.cells _ z rfl;rw[hfree] at this;cases this
  cases z
 ·rcases two x c e with ⟨_,q⟩ | q
  ·exact⟨none,(hcc.empty x c (mem_of_lookup q)).1⟩
  obtain⟨v,o,ho,hd⟩:=I.cell x c q;exact⟨v,o,hk _ _ ho,hd⟩
 ·rcases two x c e with ⟨q,_⟩ | q
  ·exact I.hok.fresh (V5 (P_ (Wj hC) q))
  exact I.freeC x c q
 ·rcases D_.mp hp' with z | z
  ·obtain⟨e,n,n1,n2,d⟩:=I.pin p z;refine⟨hk _ _ e,n,fun q=>?_,fun q=>?_,d⟩
   ·exact absurd (B_ e) (XJ.mpr (by rw[show p.1=C from q];exact V5 hC))
   rcases p_.mp (I.stkSub p.1 q) with q | q
   ·exact n1 q
   exact n2 q
  obtain⟨e,n,d⟩:=hp p z;refine⟨e,I.hok.fresh (by omega),fun q=>?_,fun q=>?_,d⟩
  ·exact absurd (n.trans (show p.1=C from q)) (U9 hC)
  have:=I.stkSub p.1 q;rcases p_.mp this with q | q
  ·exact absurd I.lt (XJ.mpr (by rw[<- q,n];exact m_ _))
  exact I.nofs (by omega) q
 unfold mK;show _=N'.length;rw[b_,Xy,d_,S.len]
theorem HOk.track {P:Program}{w:World}{H:Hp}{h h':Heap}{a C:Addr}{o:HO}(x:HOk P w H h) (hn:H a=none) (hC:H C=none) (k:∀b u,b≠C->h.get? b=some u->h'.get? b=some u) (new:ObjOk P w (upd H a o) h' a o):HOk P w (upd H a o) h':=fun b u e=>by
 by_cases hb:b=a
 ·subst hb;rw[bU] at e;cases e;exact new
 rw[aP hb] at e;have nC:∀c z,H c=some z->c≠C:=fun c z q r=>by rw[r,hC] at q;cases q
 refine (x b u e).stay (fun c v hc q=>k c v ?_ q) (fun c q=>by rw[aP (cg q hn)];exact q) fun c xs q=>by rw[aP (cg q hn)];exact q
 rcases hc with rfl | hc
 ·exact nC c u e
 exact nC c _ hc
theorem qJ {X:Cx}{pins:List (Addr × Obj)}{Z:St}{H₂:Hp}{s₂:Shared}{N':List Str}{nt:Nat}{cap:List Nat}{scope:Scope}{cl:List (Str × Addr)}{elt tg iter:Expr}{ifs:List Expr}{pos:Pos}{g:TG}{tt:TT}{te:TE}
  {it:Addr} {fp:List Addr} {tn:Nat->Heap->Prop} {J:It} {fin:List V->Hp->Prop} {E:Value->Shared->Prop} {RR:Value->Addr->Result->Shared->Prop}
  (hc:X.calm=true) (S:CompSc X N' nt cap scope) (hcl:∀x c,cl.lookup x=some c->X.env.cells.lookup x=some c) (hclh:∀y∈scope.names,y.2=.free->∃c,cl.lookup y.1=some c)
  (hX:∀cl pins s H C fp,PG (bJ X N' scope cl pins s H C fp) tg g/\PIf (bJ X N' scope cl pins s H C fp) ifs tt/\PE (bJ X N' scope cl pins s H C fp) elt te)
  (I:Inv X pins Z H₂ s₂) (T:Turn X.prog X.w X.K tg J fp it tn) (st:tn 0 s₂.heap) (hf:∀b∈fp,mG X pins H₂ b) (hw:vf J g tt te fin (mK nt cap Z) H₂)
  (hRR:∀(D C:Addr) (s₄:Shared) (m:Str->Option Value) (ys:List V) (H':Hp),s₄.heap.Ns C m->s₂.heap.objs.size<=D->s₂.heap.objs.size<=C->C≠D->H' D=none->H' C=none->ys.length<=sizeLine->fin ys H' ->
   (∀h',(∀b o,b≠C->s₄.heap.get? b=some o->h'.get? b=some o)->Inv X pins Z (upd H' D (.lst ys)) { s₄ with heap:=h'})->RR (.ref D) C (.ok .next) s₄) :
  wpAny (model X.prog X.w) X.A (newList []) (fun acc s₃=>wpAny (model X.prog X.w) X.A (newFunctionEnv scope X.env.globals cl [] X.env.qual none .none (some X.env)) (fun cenv s₄ =>
   codeAny (model X.prog X.w) X.A (.compStart (.ListComp elt [⟨tg,iter,ifs,0⟩] scope pos) 0 (.ref it) acc { cenv with scope:=relabel scope X.env}) (RR acc cenv.locals) s₄) E s₃) E s₂:=by
 refine Vb (Fd ?_);dsimp only;generalize hH2:s₂.heap.push { cls:=.type "list",dict:=none,data:=.seq ([]:List Value).toArray}=B;generalize hD:s₂.heap.objs.size=D;have hB:B.objs.size=D+1:=by rw[<- hH2,Ww,hD]
 have hcc0:CellsOk (pushCells (B.push { cls:=.type "dict",data:=.dict #[]}) scope.names) (B.objs.size+1) (cellsFrom (B.objs.size+1) scope.names []):=by have:=cellsFrom_ok scope.names (B.push { cls:=.type "dict",data:=.dict #[]}) (B.objs.size+1) [] ⟨fun _ _ hm=>(nomatch hm),List.Pairwise.nil⟩ (by rw[Ww];exact m_ _);rw[Ww] at this;exact this
 have hns₁:(pushCells (B.push { cls:=.type "dict",data:=.dict #[]}) scope.names).Ns B.objs.size fun _=>none:=(Heap.Ns.new B (.type "dict")).keeps (pushCells_keeps _ _);have kp₁:∀b o,B.get? b=some o->(pushCells (B.push { cls:=.type "dict",data:=.dict #[]}) scope.names).get? b=some o:=fun b o e=>pushCells_keeps _ _ b o (e_ _ e);generalize hCe:B.objs.size=C at hns₁ hcc0 ⊢;generalize pushCells (B.push { cls:=.type "dict",data:=.dict #[]}) scope.names=h₁ at hns₁ hcc0 kp₁ ⊢;have hCD:C=D+1:=hCe.symm.trans hB;have hDC:D≠C:=by rw[hCD];exact U9 (Xd _)
 have hDlt:s₂.heap.objs.size<C:=by rw[hD,hCD];exact Xd _
 have below:∀b o,s₂.heap.get? b=some o->b≠C/\b≠D:=fun b o e=>by have:=B_ e;rw[hD] at this;exact⟨by rw[hCD];exact U9 (Wj this),U9 this⟩
 have old:∀b o,s₂.heap.get? b=some o->h₁.get? b=some o:=fun b o e=>kp₁ b o (hH2▸e_ _ e);have hacc:h₁.get? D=some { cls:=.type "list",data:=.seq ([]:List Value).toArray 0}:=kp₁ _ _ (hH2▸hD▸x_ _ rfl);have hst₁:tn 0 h₁:=T.keep _ _ _ st fun b hb o e=>old b o e;have hfl:∀b∈fp,b<s₂.heap.objs.size:=fun b hb=>by obtain⟨o,e,_⟩:=T.obj _ _ st b hb;exact B_ e
 obtain⟨W,⟨m0,w0⟩,turn⟩:=hw;obtain⟨hg,hi,he⟩:=hX (cellsFrom (C+1) scope.names cl) pins s₂ H₂ C fp;have stat:∀{H':Hp} {k:Nat} {its:List Value},(∀b∈fp,H' b=none)->∀b∈fp,mG (bJ X N' scope (cellsFrom (C+1) scope.names cl) pins s₂ H₂ C fp) [(D,{ cls:=.type "list",data:=.seq its.toArray k})] H' b:=fun {H' k its} hn b hb=>by
  obtain⟨f0,f1,f2,f3,f4,f5⟩:=hf b hb;have hlt:=hfl b hb;refine⟨hn b hb,fun z=>?_,fun z=>?_,.inl hb,fun x c e=>?_,fun p hp=>?_⟩
  ·rw[show b=C from z] at hlt;exact absurd hlt (XJ.mpr (V5 hDlt))
  ·rcases p_.mp (I.stkSub b z) with q | q
   ·exact f1 q
   exact f2 q
  ·rcases fM e with q | q
   ·have:=(hcc0.empty x c (mem_of_lookup q)).2;intro z;rw[z] at this;exact absurd (P_ (Wj (XX hlt hDlt)) this) (Vc _)
   exact f4 x c (hcl x c q.2)
  rcases D_.mp hp with z | z
  ·exact f5 p z
  rw[i_.mp z];intro e;rw[<- (show D=b from e),hD] at hlt;exact Vc _ hlt
 have loop:∀s₃:Shared,s₃={ s₂ with heap:=h₁}->codeAny (model X.prog X.w) X.A (.compLoop (.ListComp elt [⟨tg,iter,ifs,0⟩] scope pos) 0 (.ref it) (.ref D) (compEnvC scope (cellsFrom (C+1) scope.names cl) C X.env)) (RR (.ref D) C) s₃:=by
  rintro s₃ rfl;refine o6 (fun n s'=>∃i ys its k Z' H',Inv (bJ X N' scope (cellsFrom (C+1) scope.names cl) pins s₂ H₂ C fp) [(D,{ cls:=.type "list",data:=.seq its.toArray k})] Z' H' s'/\Vals ys its/\tn i s'.heap/\(∀b∈fp,H' b=none)/\W i n ys Z' H'/\ys.length<=sizeLine) ?_ m0
   ⟨0,[],[],0,mK nt cap Z,H₂,zu (tk:=s₂.toks) S I hcl hclh hf hfl hDlt hns₁ old (fun p hp=>?_) hcc0,.nil,hst₁,fun b hb=>(hf b hb).1,w0,Vx _⟩
  ·rintro n s3 ⟨i,ys,its,k,Z3,H3,I3,rv,st3,fr3,w3,hz⟩;have pD:=I3.pin (D,{ cls:=.type "list",data:=.seq its.toArray k}) (T_ _ (i_.mpr rfl));rcases turn i n ys Z3 H3 w3 with ⟨stop,hz',hfin⟩ | ⟨go,step⟩
   ·refine thn (T.done (bJ X N' scope (cellsFrom (C+1) scope.names cl) pins s₂ H₂ C fp) rfl rfl rfl hc i _ s3 Z3 H3 (fun _ _=>False) I3 (stat fr3) st3 stop) fun r s4 ⟨hr,I4⟩=>?_;subst hr;obtain⟨m4,hn4,_⟩:=I4.loc;have pD4:=I4.pin (D,{ cls:=.type "list",data:=.seq its.toArray k}) (T_ _ (i_.mpr rfl));refine hRR D C s4 m4 ys H3 hn4 (by rw[hD];exact m_ _) (V5 hDlt) (Ne.symm hDC) pD4.2.1 I4.free hz' hfin fun h' k'=>?_;have nD:∀b u,H3 b=some u->b≠D:=fun b u e z=>by rw[z,pD4.2.1] at e;cases e
    have nDs:∀b o,s₂.heap.get? b=some o->b≠D/\b≠C:=fun b o e=>⟨(below b o e).2,(below b o e).1⟩;have B4:=I4.base;refine I.call' (s':={ s4 with heap:=h'}) (ch:=fp) I4.os ⟨fun b o e n hb hx=>k' b o (nDs b o e).2 (B4.keep b o e n hb hx),fun b o e n hb hx=>?_,fun b o e n hx=>?_,fun b o e hx=>?_,fun b xs e=>?_,fun b o u e=>?_,fun b ps e=>?_⟩ ?_ I4.bare fun b hb=>?_
    ·obtain⟨sl,q⟩:=B4.slot b o e n hb hx;exact⟨sl,k' b _ (nDs b o e).2 q⟩
    ·rw[aP (nDs b o e).1];exact B4.free b o e n hx
    ·obtain⟨o',q⟩:=B4.there b o e hx;exact⟨o',k' b _ (nDs b o e).2 q⟩
    ·have q:=B4.tups b xs e;rw[aP (nD _ _ q)];exact q
    ·have q:=B4.frzs b o u e;rw[aP (nD _ _ q)];exact q
    ·obtain⟨more,q⟩:=B4.tbls b ps e;exact⟨more,by rw[aP (nD _ _ q)];exact q⟩
    ·exact I4.hok.track pD4.2.1 I4.free k' ⟨hz',its,k,rv,k' D _ hDC pD4.1⟩
    obtain⟨f0,f1,f2,f3,f4,f5⟩:=hf b hb;exact⟨f3,f1,f4,f5⟩
   refine thn (T.item (bJ X N' scope (cellsFrom (C+1) scope.names cl) pins s₂ H₂ C fp) rfl rfl rfl hc i _ s3 Z3 H3 (fun _ _=>False) I3 (stat fr3) st3 go) fun r s4 ⟨u,hr,h4⟩=>?_;subst hr;refine thn h4 fun _ s5 ⟨x,H5,I5,r5,y5,st5,fr5⟩=>?_;have I5':=I5.pinned (stat fr5) (T.obj _ _ st5);refine thn (hg _ s5 Z3 H5 x u _ I5' r5 (step x H5 y5)) fun _ s6 ⟨Z6,H6,I6,q6⟩=>?_;refine thn (hi _ s6 Z6 H6 _ I6 q6) fun ok s7 ⟨H7,I7,q7⟩=>?_;have back:∀{Z8:St} {H8:Hp} {s8:Shared},Inv (bJ X N' scope (cellsFrom (C+1) scope.names cl) pins s₂ H₂ C fp) ([(D,{ cls:=.type "list",data:=.seq its.toArray k})]++kj fp s5.heap) Z8 H8 s8->tn (i+1) s8.heap/\∀b∈fp,H8 b=none:=fun {Z8 H8 s8} I8 =>
    ⟨T.keep _ _ _ st5 fun b hb o e=>(I8.pin (b,o) (T_ _ (T_ _ (fK hb e)))).1,fun b hb=>by
     obtain⟨o,e,d⟩:=T.obj _ _ st5 b hb
     exact (I8.pin (b,o) (T_ _ (T_ _ (fK hb e)))).2.1⟩
   cases ok with
   |false=>rw[if_neg o_] at q7 ⊢;obtain⟨m',hm,w7⟩:=q7;exact⟨m',hm,i+1,ys,its,k,Z6,H7,I7.unpinned,rv,(back I7).1,(back I7).2,w7,hz⟩
   |true =>
   rw[if_pos rfl] at q7 ⊢;refine thn (he _ s7 Z6 H7 _ I7 q7) fun uy s8 ⟨y,H8,I8,ry,hz8,m',hm,w8⟩=>?_;have pD8:=I8.pin (D,{ cls:=.type "list",data:=.seq its.toArray k}) (T_ _ (Ve _ (i_.mpr rfl)));have hl:=rv.length;refine jQ pD8.1 (by omega) fun h' k' e' kk=>?_;have I9:Inv (bJ X N' scope (cellsFrom (C+1) scope.names cl) pins s₂ H₂ C fp) [] Z6 H8 { s8 with heap:=h'}:=by
    refine Inv.turned (t':=s8.toks) (it:=D) (I8.pins_of (pins':=[]) (fun p hp=>nomatch hp)) (fun b o hb e=>kk b o hb e) pD8.2.1 pD8.2.2.1 (.inr (by show s₂.heap.objs.size<=D;rw[hD];exact m_ _)) (fun x c e z=>?_) (fun p hp z=>?_)
    ·rcases fM e with q | q
     ·have:=(hcc0.empty x c (mem_of_lookup q)).2;rw[z,hCD] at this;omega
     obtain⟨v,q⟩:=I.cell x c (hcl x c q.2);have:=q.lt;rw[z,hD] at this;exact Vc _ this
    rw[S_] at hp;have:=B_ (I.pin p hp).1;rw[z,hD] at this;exact Vc _ this
   refine⟨m',hm,i+1,ys++[y],its++[uy],k',Z6,H8,I9.pins_of fun p hp=>?_,rv.append (.cons ry .nil),?_,(back I8).2,w8,?_⟩
   ·rw[i_.mp hp];exact⟨e',pD8.2.1,pD8.2.2.1,pD8.2.2.2.1,fun v z=>by cases z⟩
   ·refine T.keep _ _ _ (back I8).1 fun b hb o e=>kk b o (fun z=>?_) e;have:=hfl b hb;rw[z,hD] at this;exact Vc _ this
   rw[b_,G_];omega
  rw[i_.mp hp];exact⟨hacc,hD,fun v z=>by cases z⟩
 exact codeAny_compStart_list (loop _ rfl) (T.self _ 0 _ _ _ hst₁ (loop _ rfl))
def Qo (wi:TI) (g:TG) (tt:TT) (te:TE) (nt:Nat) (cap:List Nat):TE:=fun Z H Q=>wi Z H fun J H1=>vf J g tt te (fun ys H'=>∀p,H' p=none->Q (.ref p) (upd H' p (.lst ys))) (mK nt cap Z) H1
theorem Fe {X:Cx}{N':List Str}{nt:Nat}{cap:List Nat}{scope:Scope}{elt tg iter:Expr}{ifs:List Expr}{pos:Pos}{wi:TI}{g:TG}{tt:TT}{te:TE}(hc:X.calm=true) (S:CompSc X N' nt cap scope) (hi:PI X tg iter wi)
  (hX:∀cl pins s H C fp,PG (bJ X N' scope cl pins s H C fp) tg g/\PIf (bJ X N' scope cl pins s H C fp) ifs tt/\PE (bJ X N' scope cl pins s H C fp) elt te)
  (hs:∀x,foldedSetIterable iter X.env x=pure x:=by intro _;rfl):PE X (.ListComp elt [⟨tg,iter,ifs,0⟩] scope pos) (Qo wi g tt te nt cap):=by
 intro pins s Z H Q I h;rw[eval_ListComp];obtain⟨cl,hclos,hcl,hclh⟩:=kO (scope:=scope) (env:=X.env) fun y hy hf=>I.ok.has y.1 (S.free y hy hf);refine wpAny_comprehension_free (use:=none) rfl hs hclos S.kind S.names (thn (hi pins s Z H _ I h) fun v s1 h1=>thn h1 fun itv s2 h2=>?_);obtain⟨it,fp,tn,J,H2,rfl,I2,T,st2,f2,hw⟩:=h2;refine qJ (RR:=fun acc C=>compPost (model X.prog X.w) X.A X.xe none (EP X pins Z Q) acc C) hc S hcl hclh hX I2 T st2 f2 hw fun D C s4 m ys H' hn hD hC hDC nD nC hz hfin k=>?_;refine⟨m,hn,fun h' hs'=>?_⟩;exact⟨.ref D,_,k h' fun b o hb e=>hs'.extBut b o hb e,rfl,hfin D nD⟩
def zx (wi:TI) (g:TG) (tt:TT) (te:TE) (nt:Nat) (cap:List Nat) (i:Nat):TS:=fun D Z H=>wi Z H fun J H1=>vf J g tt te (fun ys H'=>∀p,H' p=none->D.nx (Z.set i (some (.ref p))) (upd H' p (.lst ys))) (mK nt cap Z) H1
theorem Ff {X:Cx}{N':List Str}{nt:Nat}{cap:List Nat}{scope:Scope}{elt tg iter:Expr}{ifs:List Expr}{pos pos' spos:Pos}{wi:TI}{g:TG}{tt:TT}{te:TE}{i:Nat}{x:Str}(hc:X.calm=true) (hN:X.N.Nodup) (hi':X.N[i]?=some x) (hx:Loc X.env.scope x) (S:CompSc X N' nt cap scope) (hi:PI X tg iter wi)
  (hX:∀cl pins s H C fp,PG (bJ X N' scope cl pins s H C fp) tg g/\PIf (bJ X N' scope cl pins s H C fp) ifs tt/\PE (bJ X N' scope cl pins s H C fp) elt te)
  (hsw:swapsWith (.ListComp elt [⟨tg,iter,ifs,0⟩] scope pos) (some (.Name x pos')) spos.line X.env=pure true:=by rfl)
  (hs:∀x,foldedSetIterable iter X.env x=pure x:=by intro _;rfl) (hf:X.fn x=true\/X.env.scope.names.lookup x=some .local:=by first | exact .inl rfl | exact .inr rfl | assumption) :
  PS X (.Assign [.Name x pos'] (.ListComp elt [⟨tg,iter,ifs,0⟩] scope pos) spos) (zx wi g tt te nt cap i):=by
 intro pins s Z H Dn I h;rw[exec_Assign_Name_used _ _ _ _ hsw];obtain⟨cl,hclos,hcl,hclh⟩:=kO (scope:=scope) (env:=X.env) fun y hy hf=>I.ok.has y.1 (S.free y hy hf);refine a_ (wpAny_standAt (a_ ?_));show wpAny _ X.A (do let _ <- comprehension (.ListComp elt [⟨tg,iter,ifs,0⟩] scope pos) scope X.env _ (newList []) false (eval iter X.env) (some (assign (.Name x pos') X.env))) _ _ s;refine a_ (V0 (wpAny_comprehension_free (use:=some (assign (.Name x pos') X.env)) (Q:=fun _ s'=>SP X pins Dn .next s') rfl hs hclos S.kind S.names
  (thn (hi pins s Z H _ I h) fun v s1 h1=>thn h1 fun itv s2 h2=>?_)) (fun _ s' hq=>h_ (h_ hq)) fun _ _ e=>e)
 obtain⟨it,fp,tn,J,H2,rfl,I2,T,st2,f2,hw⟩:=h2;refine qJ (RR:=fun acc C=>compPost (model X.prog X.w) X.A X.xe (some (assign (.Name x pos') X.env)) (fun _ s'=>SP X pins Dn .next s') acc C) hc S hcl hclh hX I2 T st2 f2 hw fun D C s4 m ys H' hn hD hC hDC nD nC hz hfin k=>?_;show wpAny _ X.A (assign (.Name x pos') X.env (.ref D)) _ _ s4;have I4:=k s4.heap fun b o _ e=>e;have nCL:C≠X.env.locals:=fun z=>by have:=I2.lt;rw[<- z] at this;exact absurd this (XJ.mpr hC)
 have nCc:∀y c,X.env.cells.lookup y=some c->c≠C:=fun y c e z=>by obtain⟨v,q⟩:=I2.cell y c e;have:=q.lt;rw[z] at this;exact absurd this (XJ.mpr hC)
 refine wpAny_assign_Name (m7 I4 hN hi' hx (show RelV (.ref D) (.ref D) from rfl) (fun s5 I5 ⟨a,sb,ha⟩=>?_) hf);have nCa:C≠a:=by
  rcases ha with rfl | ha
  ·exact nCL
  exact fun z=>nCc x a ha z.symm
 refine⟨m,hn.sameBut sb nCa,fun h' hs'=>⟨_,_,Inv.turned (t':=s5.toks) (it:=C) I5 (fun b o hb e=>hs'.extBut b o hb e) (by rw[aP hDC];exact nC) nCL (.inr (U8 I2.sz hC)) nCc (fun p hp z=>?_),hfin D nD⟩⟩;have:=B_ (I2.pin p hp).1;rw[z] at this;exact absurd this (XJ.mpr hC)
def exP (e C:Addr) (d:Option Addr) (rd:Bool) (h:Heap):Prop:=∃vs sl,h.get? e=some ⟨.ref C,d,.fields vs,sl⟩/\(rd=true->vs[1]?=some .none)
def exO (e C:Addr) (d:Option Addr) (rd:Bool):HO:=.ext (exP e C d rd)
def dxP (dx:Addr) (fs:List (Str × V)) (h:Heap):Prop:=∃mA,h.Ns1 dx mA/\(∀f,RelO (fs.lookup f) (mA f))/\PySem.Within mA (fs.map (·.1))
def dxO (dx:Addr) (fs:List (Str × V)):HO:=.ext (dxP dx fs)
section
variable {P:Program}{w:World}{H:Hp}{h:Heap}{e C dx:Addr}{d:Option Addr}{rd:Bool}{fs:List (Str × V)}
end
end L2
set_option maxHeartbeats 1000000
namespace L3
open L2
inductive T where
 |non | bl (b:Bool) | int (i:Int) | str (x:Str) | tup (ts:List T) | ref (a:Addr) | ty (n:String)
mutual
def Rep (K:Frag) (H:Hp):T->V->Prop
 |.non,v=>v=.non
 |.bl b,v=>v=.bl b
 |.int i,v=>v=.int i
 |.str x,v=>v=.str x
 |.tup ts,v=>∃a xs,v=.ref a/\SqT K H a xs/\Reps K H ts xs
 |.ref a,v=>v=.ref a
 |.ty n,v=>v=.ty n
def Reps (K:Frag) (H:Hp):List T->List V->Prop
 |[],xs=>xs=[]
 |t::ts,xs=>∃x r,xs=x::r/\Rep K H t x/\Reps K H ts r
end
def TupLe (K:Frag) (H H':Hp):Prop:=∀a xs,SqT K H a xs->SqT K H' a xs
theorem TupLe.refl {K:Frag}{H:Hp}:TupLe K H H:=fun _ _ h=>h
theorem TupLe.trans {K:Frag}{H H1 H2:Hp}(a:TupLe K H H1) (b:TupLe K H1 H2):TupLe K H H2:=fun c xs h=>b c xs (a c xs h)
mutual
theorem Rep.mono {K:Frag}{H H':Hp}(le:TupLe K H H'):∀{t:T}{v:V},Rep K H t v->Rep K H' t v
 |.non,_,h=>by simp only[Rep] at h ⊢;exact h
 |.bl _,_,h=>by simp only[Rep] at h ⊢;exact h
 |.int _,_,h=>by simp only[Rep] at h ⊢;exact h
 |.str _,_,h=>by simp only[Rep] at h ⊢;exact h
 |.ref _,_,h=>by simp only[Rep] at h ⊢;exact h
 |.ty _,_,h=>by simp only[Rep] at h ⊢;exact h
 |.tup ts,_,h=>by
  simp only[Rep] at h ⊢
  obtain⟨a,xs,e,s,r⟩:=h
  exact⟨a,xs,e,le a xs s,Reps.mono le r⟩
theorem Reps.mono {K:Frag}{H H':Hp}(le:TupLe K H H'):∀{ts:List T}{xs:List V},Reps K H ts xs->Reps K H' ts xs
 |[],_,h=>by simp only[Reps] at h ⊢;exact h
 |t::ts,_,h=>by
  simp only[Reps] at h ⊢
  obtain⟨x,r,e,a,b⟩:=h
  exact⟨x,r,e,Rep.mono le a,Reps.mono le b⟩
end
section
variable {K:Frag}{H:Hp}
theorem Reps.nil:Reps K H [] []:=by simp only[Reps]
theorem Reps.cons {t:T}{v:V}{ts:List T}{vs:List V}(a:Rep K H t v) (b:Reps K H ts vs):Reps K H (t::ts) (v::vs):=by simp only[Reps];exact⟨v,vs,rfl,a,b⟩
theorem Reps.inv {t:T}{ts:List T}{vs:List V}(h:Reps K H (t::ts) vs):∃v r,vs=v::r/\Rep K H t v/\Reps K H ts r:=by simp only[Reps] at h;exact h
theorem Reps.inv0 {vs:List V}(h:Reps K H [] vs):vs=[]:=by simp only[Reps] at h;exact h
theorem Reps.length:∀{ts:List T}{vs:List V},Reps K H ts vs->ts.length=vs.length
 |[],_,h=>by rw[h.inv0];rfl
 |t::ts,_,h=>by obtain⟨v,r,rfl,_,b⟩:=h.inv;simp [Reps.length b]
theorem Reps.get:∀{ts:List T}{vs:List V}{i:Nat}{t:T},Reps K H ts vs->ts[i]?=some t->∃v,vs[i]?=some v/\Rep K H t v
 |[],_,_,_,_,e=>by simp at e
 |a::ts,_,0,t,h,e=>by obtain⟨v,r,rfl,q,_⟩:=h.inv;simp at e;subst e;exact⟨v,rfl,q⟩
 |a::ts,_,i+1,t,h,e=>by obtain⟨v,r,rfl,_,b⟩:=h.inv;simpa using Reps.get b (by simpa using e)
theorem Reps.get':∀{ts:List T}{vs:List V}{i:Nat}{v:V},Reps K H ts vs->vs[i]?=some v->∃t,ts[i]?=some t/\Rep K H t v
 |[],_,_,_,h,e=>by rw[h.inv0] at e;simp at e
 |a::ts,_,0,v,h,e=>by obtain⟨x,r,rfl,q,_⟩:=h.inv;simp at e;subst e;exact⟨a,rfl,q⟩
 |a::ts,_,i+1,v,h,e=>by obtain⟨x,r,rfl,_,b⟩:=h.inv;simpa using Reps.get' b (by simpa using e)
theorem Reps.append:∀{ts us:List T}{xs ys:List V},Reps K H ts xs->Reps K H us ys->Reps K H (ts++us) (xs++ys)
 |[],_,_,_,h,h'=>by rw[h.inv0];exact h'
 |t::ts,_,_,_,h,h'=>by obtain⟨v,r,rfl,a,b⟩:=h.inv;exact .cons a (Reps.append b h')
theorem Reps.take:∀{ts:List T}{xs:List V}(n:Nat),Reps K H ts xs->Reps K H (ts.take n) (xs.take n)
 |[],_,n,h=>by rw[h.inv0];simp only[List.take_nil];exact .nil
 |t::ts,_,0,h=>.nil
 |t::ts,_,n+1,h=>by obtain⟨v,r,rfl,a,b⟩:=h.inv;exact .cons a (Reps.take n b)
theorem Reps.drop:∀{ts:List T}{xs:List V}(n:Nat),Reps K H ts xs->Reps K H (ts.drop n) (xs.drop n)
 |[],_,n,h=>by rw[h.inv0];simp only[List.drop_nil];exact .nil
 |t::ts,_,0,h=>h
 |t::ts,_,n+1,h=>by obtain⟨v,r,rfl,a,b⟩:=h.inv;exact Reps.drop n b
theorem Reps.set:∀{ts:List T}{xs:List V}{t:T}{v:V}(n:Nat),Reps K H ts xs->Rep K H t v->Reps K H (ts.set n t) (xs.set n v)
 |[],_,_,_,n,h,r=>by rw[h.inv0];exact .nil
 |t::ts,_,_,_,0,h,q=>by obtain⟨v,r,rfl,a,b⟩:=h.inv;exact .cons q b
 |t::ts,_,_,_,n+1,h,q=>by obtain⟨v,r,rfl,a,b⟩:=h.inv;exact .cons a (Reps.set n b q)
theorem Reps.reverse {ts:List T}{xs:List V}(h:Reps K H ts xs):Reps K H ts.reverse xs.reverse:=by
 induction ts generalizing xs with
 |nil=>rw[h.inv0];exact .nil
 |cons t ts ih=>obtain⟨v,r,rfl,a,b⟩:=h.inv;simp only[Yj];exact (ih b).append (.cons a .nil)
theorem Reps.eraseIdx:∀{ts:List T}{xs:List V}(n:Nat),Reps K H ts xs->Reps K H (ts.eraseIdx n) (xs.eraseIdx n)
 |[],_,n,h=>by rw[h.inv0];exact .nil
 |t::ts,_,0,h=>by obtain⟨v,r,rfl,a,b⟩:=h.inv;exact b
 |t::ts,_,n+1,h=>by obtain⟨v,r,rfl,a,b⟩:=h.inv;exact .cons a (Reps.eraseIdx n b)
theorem Rep.non {v:V}(h:Rep K H .non v):v=.non:=by simp only[Rep] at h;exact h
theorem Rep.bl {b:Bool}{v:V}(h:Rep K H (.bl b) v):v=.bl b:=by simp only[Rep] at h;exact h
theorem Rep.int {i:Int}{v:V}(h:Rep K H (.int i) v):v=.int i:=by simp only[Rep] at h;exact h
theorem Rep.str {x:Str}{v:V}(h:Rep K H (.str x) v):v=.str x:=by simp only[Rep] at h;exact h
theorem Rep.ref {a:Addr}{v:V}(h:Rep K H (.ref a) v):v=.ref a:=by simp only[Rep] at h;exact h
theorem Rep.ty {n:String}{v:V}(h:Rep K H (.ty n) v):v=.ty n:=by simp only[Rep] at h;exact h
theorem Rep.tup {ts:List T}{v:V}(h:Rep K H (.tup ts) v):∃a xs,v=.ref a/\SqT K H a xs/\Reps K H ts xs:=by simp only[Rep] at h;exact h
theorem Rep.ofNon:Rep K H .non .non:=by simp only[Rep]
theorem Rep.ofBl {b:Bool}:Rep K H (.bl b) (.bl b):=by simp only[Rep]
theorem Rep.ofInt {i:Int}:Rep K H (.int i) (.int i):=by simp only[Rep]
theorem Rep.ofStr {x:Str}:Rep K H (.str x) (.str x):=by simp only[Rep]
theorem Rep.ofRef {a:Addr}:Rep K H (.ref a) (.ref a):=by simp only[Rep]
theorem Rep.ofTup {ts:List T}{a:Addr}{xs:List V}(h:SqT K H a xs) (r:Reps K H ts xs):Rep K H (.tup ts) (.ref a):=by simp only[Rep];exact⟨a,xs,rfl,h,r⟩
end
inductive O3 where
 |lst (ts:List T) | rol (ts:List T) | dct (kvs:List (Str × T)) | dcp (kvs:List (List Key × T))
 |exc (C dx:Addr) | xdt (fs:List (Str × T))
 |dci (kvs:List (Int × T)) | dif (o:Obj) (kvs:List (Int × T)) | ins (C:Addr) (fs:List (Str × T))
abbrev Hp3:=Addr->Option O3
def up3 (H:Hp3) (a:Addr) (o:O3):Hp3:=fun b=>if b=a then some o else H b
theorem aC {H:Hp3}{a:Addr}{o:O3}:up3 H a o a=some o:=by unfold up3;rw[if_pos rfl]
theorem aD {H:Hp3}{a b:Addr}{o:O3}(h:b≠a):up3 H a o b=H b:=by unfold up3;rw[if_neg h]
theorem vg {H:Hp3}{a:Addr}{o u:O3}:up3 (up3 H a o) a u=up3 H a u:=by funext b;unfold up3;split <;> rfl
def RepD (K:Frag) (H:Hp):List (Str × T)->List (Key × V)->Prop:=Paired fun (p:Str × T) (q:Key × V)=>q.1=Sum.inr p.1/\Rep K H p.2 q.2
def RepP (K:Frag) (H:Hp):List (List Key × T)->List (List Key × V)->Prop:=Paired fun (p:List Key × T) (q:List Key × V)=>q.1=p.1/\Rep K H p.2 q.2
def RepF (K:Frag) (H:Hp):List (Str × T)->List (Str × V)->Prop:=Paired fun (p:Str × T) (q:Str × V)=>q.1=p.1/\Rep K H p.2 q.2
def RepI (K:Frag) (H:Hp):List (Int × T)->List (Key × V)->Prop:=Paired fun (p:Int × T) (q:Key × V)=>q.1=Sum.inl p.1/\Rep K H p.2 q.2
def RepO (K:Frag) (H:Hp) (a:Addr):O3->Prop
 |.lst ts=>∃xs,H a=some (.lst xs)/\Reps K H ts xs
 |.rol ts=>∃xs,Rd H a (.lst xs)/\Reps K H ts xs
 |.dct kvs=>∃vs,H a=some (.dK vs)/\RepD K H kvs vs
 |.dcp kvs=>∃vs,H a=some (.dT vs)/\RepP K H kvs vs
 |.exc C dx=>H a=some (exO a C (some dx) false)
 |.xdt fs=>∃vs,H a=some (dxO a vs)/\RepF K H fs vs
 |.dci kvs=>∃vs,H a=some (.dK vs)/\RepI K H kvs vs
 |.dif o kvs=>∃vs,H a=some (.frz o (.dK vs))/\RepI K H kvs vs
 |.ins C fs=>∃dx vs,H a=some (.ins C dx vs)/\RepF K H fs vs
def SimH (K:Frag) (H3:Hp3) (H:Hp):Prop:=∀a o,H3 a=some o->RepO K H a o
abbrev St3:=List (Option T)
structure SimS (K:Frag) (H:Hp) (Z3:St3) (Z:L2.St):Prop where
 len:Z3.length=Z.length
 at':∀(i:Nat) (t:T),Z3[i]?=some (some t)->∃v,Z[i]?=some (some v)/\Rep K H t v
section
variable {K:Frag}{H H':Hp}{H3:Hp3}{Z3:St3}{Z:L2.St}
theorem SimS.mono (s:SimS K H Z3 Z) (le:TupLe K H H'):SimS K H' Z3 Z:=⟨s.len,fun i t e=>let ⟨v,e',r⟩:=s.at' i t e;⟨v,e',r.mono le⟩⟩
theorem SimS.set (s:SimS K H Z3 Z) {i:Nat}{t:T}{v:V}(r:Rep K H t v):SimS K H (Z3.set i (some t)) (Z.set i (some v)):=by
 refine⟨by simp [s.len],fun j u e=>?_⟩;by_cases hj:i=j
 ·subst hj;by_cases hl:i<Z3.length
  ·rw[Xo hl] at e;have e':t=u:=U6 (U6 e);subst e';exact⟨v,by rw[Xo (by rw[<- s.len];exact hl)],r⟩
  rw[L_ (by simpa using hl)] at e;cases e
 rw[XH hj] at e;rw[XH hj];exact s.at' j u e
theorem RepD.mono {kvs:List (Str × T)}{vs:List (Key × V)}(h:RepD K H kvs vs) (le:TupLe K H H'):RepD K H' kvs vs:=Paired.mapP h fun _ _ ⟨a,b⟩=>⟨a,b.mono le⟩
theorem RepF.mono {kvs:List (Str × T)}{vs:List (Str × V)}(h:RepF K H kvs vs) (le:TupLe K H H'):RepF K H' kvs vs:=Paired.mapP h fun _ _ ⟨a,b⟩=>⟨a,b.mono le⟩
theorem RepI.mono {kvs:List (Int × T)}{vs:List (Key × V)}(h:RepI K H kvs vs) (le:TupLe K H H'):RepI K H' kvs vs:=Paired.mapP h fun _ _ ⟨a,b⟩=>⟨a,b.mono le⟩
theorem RepP.mono {kvs:List (List Key × T)}{vs:List (List Key × V)}(h:RepP K H kvs vs) (le:TupLe K H H'):RepP K H' kvs vs:=Paired.mapP h fun _ _ ⟨a,b⟩=>⟨a,b.mono le⟩
theorem ne3 {a b:Addr}{o u:O3}(h:H3 a=some o) (h':H3 b=some u) (d:o≠u):a≠b:=by
 intro e;subst e;rw[h] at h';exact d (U6 h')
theorem aX {a b:Addr}{o:O3}(h:H3 a=some o) (h':H3 b=none):a≠b:=by
 intro e;subst e;rw[h] at h';cases h'
theorem aL {p:Addr}{o:HO}(hp:H p=none):TupLe K H (upd H p o):=fun a xs h=>by
 rcases h with (h | ⟨ob,h⟩) | h
 ·exact .inl (.inl (by rw[aP (cg h hp)];exact h))
 ·exact .inl (.inr ⟨ob,by rw[aP (cg h hp)];exact h⟩)
 exact .inr h
theorem bF {p:Addr}{o:HO}(hp:Mut (H p)):TupLe K H (upd H p o):=fun a xs h=>by
 have key:∀u,H a=some u->¬Mut (some u)->a≠p:=fun u e nm z=>by subst z;rw[e] at hp;exact nm hp
 rcases h with (h | ⟨ob,h⟩) | h
 ·exact .inl (.inl (by rw[aP (key _ h fun z=>z)];exact h))
 ·exact .inl (.inr ⟨ob,by rw[aP (key _ h fun z=>z)];exact h⟩)
 exact .inr h
theorem RepO.stay {a:Addr}{o:O3}(h:RepO K H a o) (le:TupLe K H H') (keep:∀u,H a=some u->H' a=some u):RepO K H' a o:=by
 cases o with
 |lst ts=>obtain⟨xs,e,r⟩:=h;exact⟨xs,keep _ e,r.mono le⟩
 |rol ts =>
  obtain⟨xs,e,r⟩:=h;refine⟨xs,?_,r.mono le⟩;rcases e with e | ⟨ob,e⟩
  ·exact .inl (keep _ e)
  exact .inr ⟨ob,keep _ e⟩
 |dct kvs=>obtain⟨vs,e,r⟩:=h;exact⟨vs,keep _ e,r.mono le⟩
 |dcp kvs=>obtain⟨vs,e,r⟩:=h;exact⟨vs,keep _ e,r.mono le⟩
 |exc C dx=>exact keep _ h
 |xdt fs=>obtain⟨vs,e,r⟩:=h;exact⟨vs,keep _ e,r.mono le⟩
 |dci kvs=>obtain⟨vs,e,r⟩:=h;exact⟨vs,keep _ e,r.mono le⟩
 |dif o kvs=>obtain⟨vs,e,r⟩:=h;exact⟨vs,keep _ e,r.mono le⟩
 |ins C fs=>obtain⟨dx,vs,e,r⟩:=h;exact⟨dx,vs,keep _ e,r.mono le⟩
theorem SimH.new {p:Addr}{o:HO}(s:SimH K H3 H) (hp:H p=none):SimH K H3 (upd H p o):=fun a u e =>
 (s a u e).stay (aL hp) fun w q=>by rw[aP (cg q hp)];exact q
theorem SimH.fresh {p:Addr}(s:SimH K H3 H) (hp:H p=none):H3 p=none:=by
 cases e:H3 p with
 |none=>rfl
 |some o =>
  have q:=s p o e
  cases o with
  |lst ts=>obtain⟨xs,z,_⟩:=q;rw[hp] at z;cases z
  |dct ts=>obtain⟨xs,z,_⟩:=q;rw[hp] at z;cases z
  |dcp ts=>obtain⟨xs,z,_⟩:=q;rw[hp] at z;cases z
  |exc C dx=>have z:H p=_:=q;rw[hp] at z;cases z
  |xdt ts=>obtain⟨xs,z,_⟩:=q;rw[hp] at z;cases z
  |dci ts=>obtain⟨xs,z,_⟩:=q;rw[hp] at z;cases z
  |dif o ts=>obtain⟨xs,z,_⟩:=q;rw[hp] at z;cases z
  |ins C ts=>obtain⟨dx,xs,z,_⟩:=q;rw[hp] at z;cases z
  |rol ts =>
   obtain⟨xs,z,_⟩:=q
   rcases z with z | ⟨ob,z⟩
   ·
    rw[hp] at z;cases z
   ·
    rw[hp] at z;cases z
end
abbrev VK3:=T->Hp3->Prop
abbrev TE3:=St3->Hp3->VK3->Prop
abbrev TT3:=St3->Hp3->(Bool->Hp3->Prop)->Prop
abbrev TA3:=St3->Hp3->(List T->Hp3->Prop)->Prop
structure Ends3 where
 nx:St3->Hp3->Prop
 rt:VK3
 bk:St3->Hp3->Prop:=fun _ _=>False
 ct:St3->Hp3->Prop:=fun _ _=>False
abbrev TS3:=Ends3->St3->Hp3->Prop
abbrev TG3:=T->St3->Hp3->(St3->Hp3->Prop)->Prop
abbrev kW:=List T->St3->Hp3->(St3->Hp3->Prop)->Prop
abbrev R3:=T->T->Hp3->VK3->Prop
section
variable (K:Frag)
def KV3 (H:Hp) (Q3:VK3) (Q:VK):Prop:=∀v H' t H3',TupLe K H H'->SimH K H3' H'->Rep K H' t v->Q3 t H3'->Q v H'
def KS3 (H:Hp) (N3:St3->Hp3->Prop) (N:L2.St->Hp->Prop):Prop:=∀Z' H' Z3' H3',TupLe K H H'->SimS K H' Z3' Z'->SimH K H3' H'->N3 Z3' H3'->N Z' H'
def lft (t3:TE3):TE:=fun Z H Q=>∃Z3 H3 Q3,SimS K H Z3 Z/\SimH K H3 H/\t3 Z3 H3 Q3/\KV3 K H Q3 Q
def xO (t3:TT3):TT:=fun Z H Q=>∃Z3 H3 Q3,SimS K H Z3 Z/\SimH K H3 H/\t3 Z3 H3 Q3/\∀b H' H3',TupLe K H H'->SimH K H3' H'->Q3 b H3'->Q b H'
def Us (t3:TA3):TA:=fun Z H Q=>∃Z3 H3 Q3,SimS K H Z3 Z/\SimH K H3 H/\t3 Z3 H3 Q3/\∀vs H' ts H3',TupLe K H H'->SimH K H3' H'->Reps K H' ts vs->Q3 ts H3'->Q vs H'
def Qp (t3:TS3):TS:=fun D Z H=>∃Z3 H3 D3,SimS K H Z3 Z/\SimH K H3 H/\t3 D3 Z3 H3/\KS3 K H D3.nx D.nx/\KV3 K H D3.rt D.rt/\KS3 K H D3.bk D.bk/\KS3 K H D3.ct D.ct
def Fg (t3:TG3):TG:=fun v Z H Q=>∃t Z3 H3 Q3,Rep K H t v/\SimS K H Z3 Z/\SimH K H3 H/\t3 t Z3 H3 Q3/\KS3 K H Q3 Q
def Qq (t3:kW):TGs:=fun vs Z H Q=>∃ts Z3 H3 Q3,Reps K H ts vs/\SimS K H Z3 Z/\SimH K H3 H/\t3 ts Z3 H3 Q3/\KS3 K H Q3 Q
def K8 (r3:R3):R2:=fun x y H Q=>∃tx ty H3 Q3,Rep K H tx x/\Rep K H ty y/\SimH K H3 H/\r3 tx ty H3 Q3/\KV3 K H Q3 Q
def Ut (r3:List T->Hp3->VK3->Prop):List V->Hp->VK->Prop:=fun xs H Q=>∃ts H3 Q3,Reps K H ts xs/\SimH K H3 H/\r3 ts H3 Q3/\KV3 K H Q3 Q
def Uu (r3:T->List T->Hp3->VK3->Prop):V->List V->Hp->VK->Prop:=fun x xs H Q=>∃tx ts H3 Q3,Rep K H tx x/\Reps K H ts xs/\SimH K H3 H/\r3 tx ts H3 Q3/\KV3 K H Q3 Q
end
section
variable {K:Frag}{H H1:Hp}
theorem KV3.at {Q3:VK3}{Q:VK}(k:KV3 K H Q3 Q) (le:TupLe K H H1):KV3 K H1 Q3 Q:=fun v H' t H3' l=>k v H' t H3' (le.trans l)
theorem KS3.at {N3:St3->Hp3->Prop}{N:L2.St->Hp->Prop}(k:KS3 K H N3 N) (le:TupLe K H H1):KS3 K H1 N3 N:=fun a b c d l=>k a b c d (le.trans l)
end
def PE3 (X:Cx) (e:Expr) (t:TE3):Prop:=PE X e (lft X.K t)
def PT3 (X:Cx) (e:Expr) (t:TT3):Prop:=PT X e (xO X.K t)
def PW3 (X:Cx) (e:Expr) (t:TT3):Prop:=PW X e (xO X.K t)
def PA3 (X:Cx) (es:List Expr) (t:TA3):Prop:=PA X es (Us X.K t)
def PS3 (X:Cx) (st:Stmt) (t:TS3):Prop:=PS X st (Qp X.K t)
def o7 (X:Cx) (st:List Stmt) (t:TS3):Prop:=PSs X st (Qp X.K t)
def PG3 (X:Cx) (e:Expr) (t:TG3):Prop:=PG X e (Fg X.K t)
def Fi (X:Cx) (es:List Expr) (t:kW):Prop:=PGs X es (Qq X.K t)
def dD (X:Cx) (f:Value->Value->Sem Value) (r:R3):Prop:=OpR X f (K8 X.K r)
def fP (X:Cx) (f:Value) (r:List T->Hp3->VK3->Prop):Prop:=CallR X f (Ut X.K r)
def Qs (X:Cx) (r:R3):Prop:=IxR X (K8 X.K r)
def tV (X:Cx) (id:String) (r:T->List T->Hp3->VK3->Prop):Prop:=MtR X id (Uu X.K r)
theorem PE.imp {X:Cx}{e:Expr}{t t':TE}(h:PE X e t) (w:∀Z H Q,t' Z H Q->t Z H Q):PE X e t':=fun pins s Z H Q I q=>h pins s Z H Q I (w Z H Q q)
theorem PT.imp {X:Cx}{e:Expr}{t t':TT}(h:PT X e t) (w:∀Z H Q,t' Z H Q->t Z H Q):PT X e t':=fun pins s Z H Q I q=>h pins s Z H Q I (w Z H Q q)
theorem PW.imp {X:Cx}{e:Expr}{t t':TT}(h:PW X e t) (w:∀Z H Q,t' Z H Q->t Z H Q):PW X e t':=fun wh pins s Z H Q I q=>h wh pins s Z H Q I (w Z H Q q)
theorem PA.imp {X:Cx}{es:List Expr}{t t':TA}(h:PA X es t) (w:∀Z H Q,t' Z H Q->t Z H Q):PA X es t':=fun pos pins s Z H Q I q=>h pos pins s Z H Q I (w Z H Q q)
theorem PS.imp {X:Cx}{e:Stmt}{t t':TS}(h:PS X e t) (w:∀D Z H,t' D Z H->t D Z H):PS X e t':=fun pins s Z H D I q=>h pins s Z H D I (w D Z H q)
theorem PSs.imp {X:Cx}{e:List Stmt}{t t':TS}(h:PSs X e t) (w:∀D Z H,t' D Z H->t D Z H):PSs X e t':=fun pins s Z H D I q=>h pins s Z H D I (w D Z H q)
theorem PG.imp {X:Cx}{e:Expr}{t t':TG}(h:PG X e t) (w:∀v Z H Q,t' v Z H Q->t v Z H Q):PG X e t':=fun pins s Z H v u Q I r q=>h pins s Z H v u Q I r (w v Z H Q q)
theorem PGs.imp {X:Cx}{e:List Expr}{t t':TGs}(h:PGs X e t) (w:∀v Z H Q,t' v Z H Q->t v Z H Q):PGs X e t':=fun pins s Z H v u Q I r q=>h pins s Z H v u Q I r (w v Z H Q q)
theorem OpR.imp {X:Cx}{f:Value->Value->Sem Value}{t t':R2}(h:OpR X f t) (w:∀x y H Q,t' x y H Q->t x y H Q):OpR X f t':=fun pins s Z H x y v u Q I r1 r2 q=>h pins s Z H x y v u Q I r1 r2 (w x y H Q q)
theorem CallR.imp {X:Cx}{f:Value}{t t':List V->Hp->VK->Prop}(h:CallR X f t) (w:∀x H Q,t' x H Q->t x H Q):CallR X f t':=fun pins s Z H x v Q I r1 q=>h pins s Z H x v Q I r1 (w x H Q q)
theorem IxR.imp {X:Cx}{t t':R2}(h:IxR X t) (w:∀x y H Q,t' x y H Q->t x y H Q):IxR X t':=fun a b pins s Z H x y v u Q I r1 r2 q=>h a b pins s Z H x y v u Q I r1 r2 (w x y H Q q)
theorem MtR.imp {X:Cx}{id:String}{t t':V->List V->Hp->VK->Prop}(h:MtR X id t) (w:∀x xs H Q,t' x xs H Q->t x xs H Q):MtR X id t':=fun pins s Z H x xs v us Q I r1 r2 q=>h pins s Z H x xs v us Q I r1 r2 (w x xs H Q q)
section
variable {X:Cx}{pos:Pos}
def qK (i:Nat):TE3:=fun Z H Q=>match Z[i]? with
 |some (some t)=>Q t H
 |_=>False
def tC3 (t:T):TE3:=fun _ H Q=>Q t H
theorem v3 (i:Nat) {x:Str}{pos:Pos}(hN:X.N[i]?=some x:=by rfl) (hv:Vis X.env.scope x:=by first | exact Or.inl rfl | exact Or.inr (Or.inl rfl) | exact Or.inr (Or.inr rfl)) (hd:(x==("__debug__":Str))=false:=by decide)
  (hcd:(x==("__classdict__":Str))=false:=by decide):PE3 X (.Name x pos) (qK i):=by
 refine PE.imp (pv i hN hv hd hcd) ?_;rintro Z H Q ⟨Z3,H3,Q3,ss,sh,h,k⟩;unfold qK at h;split at h
 ·rename_i t e;obtain⟨v,e',r⟩:=ss.at' i t e;exact⟨v,e',k v H t H3 .refl sh r h⟩
 exact h.elim
theorem ao {i:Int}{j:Nat}:PE3 X (.Constant (.int i) j pos) (tC3 (.int i)):=by
 refine PE.imp J2 ?_;rintro Z H Q ⟨Z3,H3,Q3,ss,sh,h,k⟩;exact k _ _ _ H3 .refl sh .ofInt h
theorem gB {b:Bool}{j:Nat}:PE3 X (.Constant (.bool b) j pos) (tC3 (.bl b)):=by
 refine PE.imp O4 ?_;rintro Z H Q ⟨Z3,H3,Q3,ss,sh,h,k⟩;exact k _ _ _ H3 .refl sh .ofBl h
theorem gC {j:Nat}:PE3 X (.Constant .none j pos) (tC3 .non):=by
 refine PE.imp J3 ?_;rintro Z H Q ⟨Z3,H3,Q3,ss,sh,h,k⟩;exact k _ _ _ H3 .refl sh .ofNon h
theorem fU {x:Str}{j:Nat}:PE3 X (.Constant (.str x) j pos) (tC3 (.str x)):=by
 refine PE.imp J4 ?_;rintro Z H Q ⟨Z3,H3,Q3,ss,sh,h,k⟩;exact k _ _ _ H3 .refl sh .ofStr h
variable {a b c:Expr}{ta tb tc:TE3}
def qL (r:R3) (ta tb:TE3):TE3:=fun Z H Q=>ta Z H fun x H1=>tb Z H1 fun y H2=>r x y H2 Q
theorem gW {r:R3}{Z:L2.St}{H:Hp}{Q:VK}(h:lft X.K (qL r ta tb) Z H Q):tOp (K8 X.K r) (lft X.K ta) (lft X.K tb) Z H Q:=by
 obtain⟨Z3,H3,Q3,ss,sh,h,k⟩:=h;exact⟨Z3,H3,_,ss,sh,h,fun x H1 tx H31 le1 sh1 rx q1=>⟨Z3,H31,_,ss.mono le1,sh1,q1,fun y H2 ty H32 le2 sh2 ry q2=>⟨tx,ty,H32,Q3,rx.mono le2,ry,sh2,q2,k.at (le1.trans le2)⟩⟩⟩
theorem aH {op:Operator}{r:R3}(ho:dD X (binaryOp op) r) (ha:PE3 X a ta) (hb:PE3 X b tb):PE3 X (.BinOp a op b pos) (qL r ta tb):=PE.imp (Pn ho ha hb) fun _ _ _ h=>gW h
theorem fV {op:CmpOp}{r:R3}(ho:dD X (compareOp op) r) (ha:PE3 X a ta) (hb:PE3 X b tb) (hm:behindInMarks op b=false:=by first | exact yW _ | rfl):PE3 X (.Compare a [op] [b] pos) (qL r ta tb):=PE.imp (Eg ho ha hb hm) fun _ _ _ h=>gW h
theorem aK {r:R3}(hr:Qs X r) (ha:PE3 X a ta) (hb:PE3 X b tb) (hs:uZ b:=by exact fun _ _=>rfl):PE3 X (.Subscript a b pos) (qL r ta tb):=PE.imp (Qe hr ha hb hs) fun _ _ _ h=>gW h
def jt (t:TE3):TT3:=fun Z H Q=>t Z H fun x H'=>match x with
 |.bl k=>Q k H'
 |_=>False
theorem aU {op:CmpOp}{r:R3}(ho:dD X (compareOp op) r) (ha:PE3 X a ta) (hb:PE3 X b tb) (hm:behindInMarks op b=false:=by first | exact yW _ | rfl):PT3 X (.Compare a [op] [b] pos) (jt (qL r ta tb)):=by
 refine PT.imp (Eh ho ha hb hm) ?_;rintro Z H Q ⟨Z3,H3,Q3,ss,sh,h,k⟩;refine gW (X:=X) ⟨Z3,H3,_,ss,sh,h,fun v H' t H3' le sh' r q=>?_⟩;cases t with
 |bl b=>exact⟨b,r.bl,k b H' H3' le sh' q⟩
 |_=>exact q.elim
variable {tA tB':TT3}{rest:List Expr}
theorem dw (h:PE3 X a ta) (he:∀whole,isTrue a X.env whole=(do let v <- whole;standAt a.pos;holding [v] (truthy v)):=by intro _;rfl):PT3 X a (jt ta):=by
 refine PT.imp (J5 h he) ?_;rintro Z H Q ⟨Z3,H3,Q3,ss,sh,h,k⟩;refine⟨Z3,H3,_,ss,sh,h,fun v H' t H3' le sh' r q=>?_⟩;cases t with
 |bl b=>exact⟨b,r.bl,k b H' H3' le sh' q⟩
 |_=>exact q.elim
def HY (t u:TT3):TT3:=fun Z H Q=>t Z H fun c H1=>if c=true then u Z H1 Q else Q false H1
def Qt (t u:TT3):TT3:=fun Z H Q=>t Z H fun c H1=>if c=true then Q true H1 else u Z H1 Q
def Ia (t:TT3):TT3:=fun Z H Q=>t Z H fun c H1=>Q (!c) H1
theorem PW3.pt (h:PW3 X a tA):PT3 X a tA:=PW.pt h
theorem cT (ha:PT3 X a tA):PW3 X (.BoolOp .And [a] pos) tA:=DQ ha
theorem o8 (ha:PT3 X a tA):PW3 X (.BoolOp .Or [a] pos) tA:=J6 ha
theorem cU (ha:PT3 X a tA) (hb:PW3 X (.BoolOp .And (b::rest) pos) tB'):PW3 X (.BoolOp .And (a::b::rest) pos) (HY tA tB'):=by
 refine PW.imp (J7 ha hb) ?_;rintro Z H Q ⟨Z3,H3,Q3,ss,sh,h,k⟩;refine⟨Z3,H3,_,ss,sh,h,fun b H' H3' le sh' q=>?_⟩;cases b with
 |true=>exact⟨Z3,H3',_,ss.mono le,sh',q,fun b H'' H3'' le' sh'' q'=>k b H'' H3'' (le.trans le') sh'' q'⟩
 |false=>exact k false H' H3' le sh' q
theorem vh (ha:PT3 X a tA) (hb:PW3 X (.BoolOp .Or (b::rest) pos) tB'):PW3 X (.BoolOp .Or (a::b::rest) pos) (Qt tA tB'):=by
 refine PW.imp (O5 ha hb) ?_;rintro Z H Q ⟨Z3,H3,Q3,ss,sh,h,k⟩;refine⟨Z3,H3,_,ss,sh,h,fun b H' H3' le sh' q=>?_⟩;cases b with
 |true=>exact k true H' H3' le sh' q
 |false=>exact⟨Z3,H3',_,ss.mono le,sh',q,fun b H'' H3'' le' sh'' q'=>k b H'' H3'' (le.trans le') sh'' q'⟩
theorem kY (ha:PT3 X a tA):PT3 X (.UnaryOp .Not a pos) (Ia tA):=by
 refine PT.imp (J8 ha) ?_;rintro Z H Q ⟨Z3,H3,Q3,ss,sh,h,k⟩;exact⟨Z3,H3,_,ss,sh,h,fun b H' H3' le sh' q=>k _ H' H3' le sh' q⟩
def zy (ta tb:TE3):TE3:=fun Z H Q=>ta Z H fun x H1=>match x with
 |.bl c=>if c=true then tb Z H1 Q else Q (.bl false) H1
 |_=>False
def Ib (ta tb:TE3):TE3:=fun Z H Q=>ta Z H fun x H1=>match x with
 |.bl c=>if c=true then Q (.bl true) H1 else tb Z H1 Q
 |_=>False
theorem kZ {op:PySem.BoolOp}{t:TE3}(h:PE3 X a t):PE3 X (.BoolOp op [a] pos) t:=J9 h
theorem zz (ha:PE3 X a ta) (hb:PE3 X (.BoolOp .And (b::rest) pos) tb):PE3 X (.BoolOp .And (a::b::rest) pos) (zy ta tb):=by
 refine PE.imp (Ka ha hb) ?_;rintro Z H Q ⟨Z3,H3,Q3,ss,sh,h,k⟩;refine⟨Z3,H3,_,ss,sh,h,fun v H' t H3' le sh' r q=>?_⟩;cases t with
 |bl b =>
  refine⟨b,r.bl,?_⟩;cases b with
  |true=>exact⟨Z3,H3',_,ss.mono le,sh',q,k.at le⟩
  |false=>exact k _ H' _ H3' le sh' .ofBl q
 |_=>exact q.elim
theorem zA (ha:PE3 X a ta) (hb:PE3 X (.BoolOp .Or (b::rest) pos) tb):PE3 X (.BoolOp .Or (a::b::rest) pos) (Ib ta tb):=by
 refine PE.imp (O7 ha hb) ?_;rintro Z H Q ⟨Z3,H3,Q3,ss,sh,h,k⟩;refine⟨Z3,H3,_,ss,sh,h,fun v H' t H3' le sh' r q=>?_⟩;cases t with
 |bl b =>
  refine⟨b,r.bl,?_⟩;cases b with
  |true=>exact k _ H' _ H3' le sh' .ofBl q
  |false=>exact⟨Z3,H3',_,ss.mono le,sh',q,k.at le⟩
 |_=>exact q.elim
def Uv (t:TT3) (ta tb:TE3):TE3:=fun Z H Q=>t Z H fun c H1=>if c=true then ta Z H1 Q else tb Z H1 Q
variable {e:Expr}{es:List Expr}{te:TE3}{t:TA3}
def Ie:TA3:=fun _ H Q=>Q [] H
def zB (ta:TE3) (tr:TA3):TA3:=fun Z H Q=>ta Z H fun x H1=>tr Z H1 fun xs H2=>Q (x::xs) H2
theorem aj:PA3 X [] Ie:=by
 refine PA.imp KJ ?_;rintro Z H Q ⟨Z3,H3,Q3,ss,sh,h,k⟩;exact k _ _ _ _ .refl sh .nil h
theorem aa (ha:PE3 X e te) (hr:PA3 X es t) (hs:starEach (e::es) X.env=(false,eval e X.env)::starEach es X.env:=by rfl):PA3 X (e::es) (zB te t):=by
 refine PA.imp (El ha hr hs) ?_;rintro Z H Q ⟨Z3,H3,Q3,ss,sh,h,k⟩;exact⟨Z3,H3,_,ss,sh,h,fun v H' t H3' le sh' r q=>⟨Z3,H3',_,ss.mono le,sh',q,fun vs H'' ts H3'' le' sh'' rs q'=>k _ _ _ _ (le.trans le') sh'' (.cons (r.mono le') rs) q'⟩⟩
def Ig (t:TA3):TE3:=fun Z H Q=>t Z H fun xs H1=>xs.length<=sizeLine/\Q (.tup xs) H1
def Ih (t:TA3):TE3:=fun Z H Q=>t Z H fun xs H1=>xs.length<=sizeLine/\∀p,H1 p=none->Q (.ref p) (up3 H1 p (.lst xs))
theorem SimH.newTup {K:Frag}{H:Hp}{H3:Hp3}{ts:List T}{xs:List V}{p:Addr}(hp:H p=none) (r:Reps K H ts xs):Rep K (upd H p (.tup xs)) (.tup ts) (.ref p) :=
 .ofTup (.of bU) (r.mono (aL hp))
theorem SimH.newLst {K:Frag}{H:Hp}{H3:Hp3}{ts:List T}{xs:List V}{p:Addr}(s:SimH K H3 H) (hp:H p=none) (r:Reps K H ts xs):SimH K (up3 H3 p (.lst ts)) (upd H p (.lst xs)):=fun a o e=>by
 by_cases ha:a=p
 ·subst ha;rw[aC] at e;cases e;exact⟨xs,bU,r.mono (aL hp)⟩
 rw[aD ha] at e;exact s.new hp a o e
theorem bf {x1}(h:PA3 X es t):PE3 X (.Tuple es x1 pos) (Ig t):=by
 refine PE.imp (KN h) ?_;rintro Z H Q ⟨Z3,H3,Q3,ss,sh,h,k⟩;refine⟨Z3,H3,_,ss,sh,h,fun vs H' ts H3' le sh' r q=>⟨by rw[<- r.length];exact q.1,fun p hp=>?_⟩⟩;exact k _ _ _ H3' (le.trans (aL hp)) (sh'.new hp) (SimH.newTup (H3:=H3') hp r) q.2
theorem bV (h:PA3 X es t):PE3 X (.List es pos) (Ih t):=by
 refine PE.imp (KQ h) ?_;rintro Z H Q ⟨Z3,H3,Q3,ss,sh,h,k⟩;refine⟨Z3,H3,_,ss,sh,h,fun vs H' ts H3' le sh' r q=>⟨by rw[<- r.length];exact q.1,fun p hp=>?_⟩⟩;exact k _ _ _ _ (le.trans (aL hp)) (sh'.newLst hp r) .ofRef (q.2 p (sh'.fresh hp))
end
section
variable {X:Cx}{st:Stmt}{rest:List Stmt}{e c:Expr}{te:TE3}{tc:TT3}{t u:TS3}{pos:Pos}
def zE:TS3:=fun D Z H=>D.nx Z H
def vm (t u:TS3):TS3:=fun D Z H=>t { D with nx:=u D} Z H
theorem aY:o7 X [] zE:=by
 refine PSs.imp DR ?_;rintro D Z H ⟨Z3,H3,D3,ss,sh,h,k1,_⟩;exact k1 _ _ _ _ .refl ss sh h
theorem ak (h1:PS3 X st t) (h2:o7 X rest u):o7 X (st::rest) (vm t u):=by
 refine PSs.imp (yQ h1 h2) ?_;rintro D Z H ⟨Z3,H3,D3,ss,sh,h,k1,k2,k3,k4⟩;exact⟨Z3,H3,_,ss,sh,h,fun Z' H' Z3' H3' le ss' sh' q=>⟨Z3',H3',D3,ss',sh',q,k1.at le,k2.at le,k3.at le,k4.at le⟩,k2,k3,k4⟩
theorem aq (h1:PS3 X st t):o7 X [st] t:=DW h1
def zF (te:TE3):TS3:=fun D Z H=>te Z H fun _ H1=>D.nx Z H1
theorem bI (he:PE3 X e te) (hs:swapsWith e none pos.line X.env=pure false:=by rfl):PS3 X (.Expr e pos) (zF te):=by
 refine PS.imp (DX he hs) ?_;rintro D Z H ⟨Z3,H3,D3,ss,sh,h,k1,_⟩;exact⟨Z3,H3,_,ss,sh,h,fun v H' t H3' le sh' r q=>k1 _ _ _ _ le (ss.mono le) sh' q⟩
def Ii (te:TE3):TS3:=fun D Z H=>te Z H D.rt
theorem aM (he:PE3 X e te):PS3 X (.Return (some e) pos) (Ii te):=by
 refine PS.imp (Kc he) ?_;rintro D Z H ⟨Z3,H3,D3,ss,sh,h,k1,k2,_⟩;exact⟨Z3,H3,_,ss,sh,h,k2⟩
def K9:TS3:=fun D _ H=>D.rt .non H
def Ij (c:TT3) (t u:TS3):TS3:=fun D Z H=>c Z H fun b H1=>if b=true then t D Z H1 else u D Z H1
theorem bQ {a b:List Stmt}(hc:PT3 X c tc) (ha:o7 X a t) (hb:o7 X b u):PS3 X (.If c a b pos) (Ij tc t u):=by
 refine PS.imp (Pa hc ha hb) ?_;rintro D Z H ⟨Z3,H3,D3,ss,sh,h,k1,k2,k3,k4⟩;refine⟨Z3,H3,_,ss,sh,h,fun b H' H3' le sh' q=>?_⟩;cases b with
 |true=>exact⟨Z3,H3',D3,ss.mono le,sh',q,k1.at le,k2.at le,k3.at le,k4.at le⟩
 |false=>exact⟨Z3,H3',D3,ss.mono le,sh',q,k1.at le,k2.at le,k3.at le,k4.at le⟩
def dX (i:Nat):TG3:=fun v Z H Q=>Q (Z.set i (some v)) H
theorem aB {i:Nat}{x:Str}(hN:X.N.Nodup) (hi:X.N[i]?=some x:=by rfl) (hx:Loc X.env.scope x:=by first | exact Or.inl rfl | exact Or.inr rfl) (hf:X.fn x=true\/X.env.scope.names.lookup x=some .local:=by first | exact .inl rfl | exact .inr rfl | assumption):PG3 X (.Name x pos) (dX i):=by
 refine PG.imp (DY hN hi hx hf) ?_;rintro v Z H Q ⟨t,Z3,H3,Q3,r,ss,sh,h,k⟩;exact k _ _ _ _ .refl (ss.set r) sh h
def vo:kW:=fun ts Z H Q=>match ts with
 |[]=>Q Z H
 |_=>False
def iH (t:TG3) (u:kW):kW:=fun ts Z H Q=>match ts with
 |x::r=>t x Z H fun Z' H'=>u r Z' H' Q
 |[]=>False
theorem bM:Fi X [] vo:=by
 refine PGs.imp Ea ?_;rintro vs Z H Q ⟨ts,Z3,H3,Q3,r,ss,sh,h,k⟩;cases ts with
 |nil=>exact⟨r.inv0,k _ _ _ _ .refl ss sh h⟩
 |cons _ _=>exact h.elim
theorem aG {e:Expr}{es:List Expr}{t:TG3}{u:kW}(h1:PG3 X e t) (h2:Fi X es u)
  (hs:(assignEach (e::es) X.env).map (·.2)=assign e X.env::(assignEach es X.env).map (·.2):=by rfl):Fi X (e::es) (iH t u):=by
 refine PGs.imp (yS h1 h2 hs) ?_;rintro vs Z H Q ⟨ts,Z3,H3,Q3,r,ss,sh,h,k⟩;cases ts with
 |nil=>exact h.elim
 |cons x ts =>
 obtain⟨v,vr,rfl,rv,rr⟩:=r.inv;exact⟨v,vr,rfl,x,Z3,H3,_,rv,ss,sh,h,fun Z' H' Z3' H3' le ss' sh' q=>⟨ts,Z3',H3',Q3,rr.mono le,ss',sh',q,k.at le⟩⟩
def qM (n:Nat) (g:kW):TG3:=fun t Z H Q=>match t with
 |.tup ts=>ts.length=n/\g ts Z H Q
 |_=>False
theorem cB {es:List Expr}{k:Nat}{t:kW}{n:Nat}(hc:X.calm=true) (h:Fi X es t)
  (hn:(assignEach es X.env).length=n:=by rfl) (hst:(assignEach es X.env).findIdx? (·.1)=none:=by rfl):PG3 X (.Tuple es k pos) (qM n t):=by
 refine PG.imp (Kd hc h hn hst) ?_;rintro v Z H Q ⟨t,Z3,H3,Q3,r,ss,sh,h,k⟩;cases t with
 |tup ts=>obtain⟨a,xs,rfl,s,rs⟩:=r.tup;exact⟨a,xs,rfl,s,by rw[<- rs.length];exact h.1,ts,Z3,H3,Q3,rs,ss,sh,h.2,k⟩
 |_=>exact h.elim
def vp (te:TE3) (g:TG3):TS3:=fun D Z H=>te Z H fun x H1=>g x Z H1 D.nx
theorem o9 {tg e:Expr}{te:TE3}{g:TG3}(he:PE3 X e te) (hg:PG3 X tg g) (hs:swapsWithSole [tg] e pos.line X.env=pure false:=by rfl) (hw:swappedStores [tg] e X.env=pure none:=by rfl)
  (h1:(assignEach [tg] X.env).map (·.2)=[assign tg X.env]:=by rfl):PS3 X (.Assign [tg] e pos) (vp te g):=by
 refine PS.imp (Kf he hg hs hw h1) ?_;rintro D Z H ⟨Z3,H3,D3,ss,sh,h,k1,_⟩;exact⟨Z3,H3,_,ss,sh,h,fun v H' t H3' le sh' r q=>⟨t,Z3,H3',_,r,ss.mono le,sh',q,k1.at le⟩⟩
theorem aF {i:Nat}{x:Str}{e:Expr}{te:TE3}{pos':Pos}(hN:X.N.Nodup) (he:PE3 X e te) (hi:X.N[i]?=some x:=by rfl) (hx:Loc X.env.scope x:=by first | exact Or.inl rfl | exact Or.inr rfl)
  (hs:swapsWith e (some (.Name x pos')) pos.line X.env=pure false:=by rfl) (hf:X.fn x=true\/X.env.scope.names.lookup x=some .local:=by first | exact .inl rfl | exact .inr rfl | assumption) :
  PS3 X (.Assign [.Name x pos'] e pos) (vp te (dX i)):=by
 refine PS.imp (Kg hN hi hx he hs hf) ?_;rintro D Z H ⟨Z3,H3,D3,ss,sh,h,k1,_⟩;exact⟨Z3,H3,_,ss,sh,h,fun v H' t H3' le sh' r q=>k1 _ _ _ _ le ((ss.mono le).set r) sh' q⟩
end
abbrev qN:=T->T->T->Hp3->(Hp3->Prop)->Prop
def La (K:Frag) (t3:qN):yR:=fun o i v H Q=>∃to ti tv H3 Q3,Rep K H to o/\Rep K H ti i/\Rep K H tv v/\SimH K H3 H/\t3 to ti tv H3 Q3/\∀H' H3',TupLe K H H'->SimH K H3' H'->Q3 H3'->Q H'
def Ik (X:Cx) (t:qN):Prop:=PSet X (La X.K t)
theorem PSet.imp {X:Cx}{t t':yR}(h:PSet X t) (w:∀o i v H Q,t' o i v H Q->t o i v H Q):PSet X t':=fun pins s Z H o i v ov iv u Q I r1 r2 r3 q=>h pins s Z H o i v ov iv u Q I r1 r2 r3 (w o i v H Q q)
section
variable {X:Cx}{pos:Pos}
def Il (to ti:TE3) (t:qN):TG3:=fun v Z H Q=>to Z H fun o H1=>ti Z H1 fun i H2=>t o i v H2 fun H3=>Q Z H3
theorem Ld {o i:Expr}{to ti:TE3}{t:qN}(ho:PE3 X o to) (hi:PE3 X i ti) (hs:Ik X t)
  (ha:∀v,assign (.Subscript o i pos) X.env v=(do
   let ov <- holding [v] (eval o X.env)
   let iv <- holding [v,ov] (eval i X.env)
   standAt pos
   holding [v,ov,iv] (setItem ov iv v)
   release [v,ov,iv] []):=by intro _;rfl):PG3 X (.Subscript o i pos) (Il to ti t):=by
 refine PG.imp (Ke ho hi hs ha) ?_;rintro v Z H Q ⟨t,Z3,H3,Q3,r,ss,sh,h,k⟩;exact⟨Z3,H3,_,ss,sh,h,fun o H1 to H31 le1 sh1 ro q1=>⟨Z3,H31,_,ss.mono le1,sh1,q1,fun i H2 ti H32 le2 sh2 ri q2=>⟨to,ti,t,H32,_,ro.mono le2,ri,r.mono (le1.trans le2),sh2,q2,fun H' H3' le sh' q=>k _ _ _ _ (le1.trans (le2.trans le)) (ss.mono (le1.trans (le2.trans le))) sh' q⟩⟩⟩
end
abbrev TI3:=St3->Hp3->(List T->(Hp3->Prop)->Hp3->Prop)->Prop
def lg (K:Frag) (J:It) (ts:List T) (still:Hp3->Prop) (H:Hp):Prop:=∀H' H3',TupLe K H H'->SimH K H3' H'->still H3' ->
 (∀i,ts.length<=i->J.stop i H')/\∀i t,ts[i]?=some t->J.go i H'/\∀x H'',J.yld i H' x H''->TupLe K H' H''/\SimH K H3' H''/\Rep K H'' t x
def Uw (K:Frag) (t3:TI3):TI:=fun Z H R=>∃Z3 H3 R3,SimS K H Z3 Z/\SimH K H3 H/\t3 Z3 H3 R3/\∀J ts still H' H3',TupLe K H H'->SimH K H3' H'->lg K J ts still H'->R3 ts still H3'->R J H'
def PI3 (X:Cx) (tg iter:Expr) (t:TI3):Prop:=PI X tg iter (Uw X.K t)
theorem PI.imp {X:Cx}{tg e:Expr}{t t':TI}(h:PI X tg e t) (w:∀Z H R,t' Z H R->t Z H R):PI X tg e t':=fun pins s Z H R I q=>h pins s Z H R I (w Z H R q)
def cM:Hp3->Prop:=fun _=>True
def cC (a:Addr) (ts:List T):Hp3->Prop:=fun H=>H a=some (.lst ts)\/H a=some (.rol ts)
theorem SimH.sqL {K:Frag}{H:Hp}{H3:Hp3}{a:Addr}{ts:List T}(s:SimH K H3 H) (h:cC a ts H3):∃xs,SqL K H a xs/\Reps K H ts xs:=by
 rcases h with h | h
 ·obtain⟨xs,e,r⟩:=s a _ h;exact⟨xs,.of e,r⟩
 obtain⟨xs,e,r⟩:=s a _ h;exact⟨xs,.inl e,r⟩
section
variable {X:Cx}{tg l:Expr}{tl:TE3}{pos p:Pos}
def zG (tl:TE3):TI3:=fun Z H R=>tl Z H fun x H1=>match x with
 |.ref a=>match H1 a with
  |some (.lst ts)=>R ts (cC a ts) H1
  |some (.rol ts)=>R ts (cC a ts) H1
  |_=>False
 |_=>False
theorem nO {K:Frag}{H:Hp}{a:Addr}{ts:List T}:lg K (Itl K a) ts (cC a ts) H:=fun H' H3' le sh st=>by
 obtain⟨xs,sq,rs⟩:=sh.sqL st;have hl:=rs.length;refine⟨fun i hi=>⟨xs,sq,by omega⟩,fun i t e=>?_⟩;obtain⟨v,ev,rv⟩:=rs.get e;refine⟨⟨xs,v,sq,ev⟩,fun x H'' y=>?_⟩;obtain⟨e1,y⟩:=y;subst e1;have:=y xs sq;rw[ev] at this;cases this;exact⟨.refl,sh,rv⟩
theorem cj (hl:PE3 X l tl):PI3 X tg l (zG tl):=by
 refine PI.imp (Eb hl) ?_;rintro Z H R ⟨Z3,H3,R3,ss,sh,h,k⟩;refine⟨Z3,H3,_,ss,sh,h,fun v H' t H3' le sh' r q=>?_⟩;cases t with
 |ref a =>
  have q':(match H3' a with
   |some (.lst ts)=>R3 ts (cC a ts) H3'
   |some (.rol ts)=>R3 ts (cC a ts) H3'
   |_=>False):=q
  split at q'
  ·
   rename_i ts e
   obtain⟨xs,sq,rs⟩:=sh'.sqL (.inl e)
   exact⟨a,r.ref,⟨xs,sq⟩,k _ ts (cC a ts) H' H3' le sh' nO q'⟩
  ·
   rename_i ts e
   obtain⟨xs,sq,rs⟩:=sh'.sqL (.inr e)
   exact⟨a,r.ref,⟨xs,sq⟩,k _ ts (cC a ts) H' H3' le sh' nO q'⟩
  ·
   exact q'.elim
 |_=>exact q.elim
def Im (tl:TE3):TI3:=fun Z H R=>tl Z H fun x H1=>match x with
 |.tup ts=>R ts cM H1
 |_=>False
theorem zH {K:Frag}{H:Hp}{a:Addr}{ts:List T}{xs:List V}(sq:SqT K H a xs) (rs:Reps K H ts xs):lg K (Itt K a) ts cM H:=fun H' H3' le sh st=>by
 have hl:=rs.length;refine⟨fun i hi=>⟨xs,le _ _ sq,by omega⟩,fun i t e=>?_⟩;obtain⟨v,ev,rv⟩:=rs.get e;refine⟨⟨xs,v,le _ _ sq,ev⟩,fun x H'' y=>?_⟩;obtain⟨e1,y⟩:=y;subst e1;have:=y xs (le _ _ sq);rw[ev] at this;cases this;exact⟨.refl,sh,rv.mono le⟩
theorem c7 (hl:PE3 X l tl):PI3 X tg l (Im tl):=by
 refine PI.imp (Kl hl) ?_;rintro Z H R ⟨Z3,H3,R3,ss,sh,h,k⟩;refine⟨Z3,H3,_,ss,sh,h,fun v H' t H3' le sh' r q=>?_⟩;cases t with
 |tup ts=>obtain⟨a,xs,e,sq,rs⟩:=r.tup;exact⟨a,e,⟨xs,sq⟩,k _ ts cM H' H3' le sh' (zH sq rs) q⟩
 |_=>exact q.elim
def cZ (lo:Int) (n:Nat):List T:=(List.range n).map fun (i:Nat)=>T.int (lo+i)
theorem qO {K:Frag}{H:Hp}{lo:Int}{n:Nat}:lg K (Itr lo n) (cZ lo n) cM H:=fun H' H3' le sh st=>by
 refine⟨fun i hi=>by unfold cZ at hi;simp at hi;exact hi,fun i t e=>?_⟩;unfold cZ at e;rw[z_] at e;by_cases hi:i<n
 ·rw[Vz hi] at e;cases e;refine⟨hi,fun x H'' y=>?_⟩;obtain⟨e1,e2⟩:=y;subst e1;subst e2;exact⟨.refl,sh,.ofInt⟩
 rw[L_ (by simpa using hi)] at e;cases e
def zJ (ta:TA3):TI3:=fun Z H R=>ta Z H fun vs H1=>match vs with
 |[.int j]=>-(2^62)<=j/\j<2^62/\R (cZ 0 j.toNat) cM H1
 |[.int i,.int j]=>(-(2^62)<=i/\i<2^62 /\ -(2^62)<=j/\j<2^62)/\R (cZ i (j - i).toNat) cM H1
 |_=>False
theorem aQ {a:Expr}{ta:TA3}(hg:Gl X "range") (hm:X.mg "range"=none) (ha:PA3 X [a] ta) (hs:starEach [a] X.env=[(false,eval a X.env)]:=by rfl):PI3 X tg (.Call (.Name "range" p) [a] [] pos) (zJ (fun Z H Q=>ta Z H fun vs H1=>vs.length=1/\Q vs H1)):=by
 refine PI.imp (xg hg hm ha hs) ?_;rintro Z H R ⟨Z3,H3,R3,ss,sh,h,k⟩;refine⟨Z3,H3,_,ss,sh,h,fun vs H' ts H3' le sh' r q=>?_⟩;obtain⟨hl,q⟩:=q;cases ts with
 |nil=>cases hl
 |cons t ts =>
 cases ts with
 |cons _ _=>simp at hl
 |nil =>
 cases t with
 |int j=>obtain⟨v,_,rfl,rv,r0⟩:=r.inv;rw[r0.inv0,rv.int];exact⟨j,rfl,q.1,q.2.1,k _ _ _ H' H3' le sh' qO q.2.2⟩
 |_=>exact q.elim
theorem nP {a b:Expr}{ta:TA3}(hg:Gl X "range") (hm:X.mg "range"=none) (ha:PA3 X [a,b] ta) (hs:starEach [a,b] X.env=[(false,eval a X.env),(false,eval b X.env)]:=by rfl) (hs2:starEach [b] X.env=[(false,eval b X.env)]:=by rfl) :
  PI3 X tg (.Call (.Name "range" p) [a,b] [] pos) (zJ (fun Z H Q=>ta Z H fun vs H1=>vs.length=2/\Q vs H1)):=by
 refine PI.imp (xj hg hm ha hs hs2) ?_;rintro Z H R ⟨Z3,H3,R3,ss,sh,h,k⟩;refine⟨Z3,H3,_,ss,sh,h,fun vs H' ts H3' le sh' r q=>?_⟩;obtain⟨hl,q⟩:=q
 match ts,hl,r with
 |[t1,t2],_,r =>
 obtain⟨v,_,rfl,rv,r1⟩:=r.inv;obtain⟨v2,_,rfl,rv2,r2⟩:=r1.inv;cases t1 with
 |int i =>
  cases t2 with
  |int j=>rw[r2.inv0,rv.int,rv2.int];exact⟨i,j,rfl,q.1,k _ _ _ H' H3' le sh' qO q.2⟩
  |_=>exact q.elim
 |_=>cases t2 <;> exact q.elim
end
def iter3 (g:TG3) (tb:TS3) (D:Ends3) (still:Hp3->Prop):List T->St3->Hp3->Prop
 |[],Z,H=>still H/\D.nx Z H
 |t::r,Z,H=>still H/\g t Z H fun Z2 H2=>tb { D with nx:=iter3 g tb D still r,ct:=iter3 g tb D still r,bk:=D.nx} Z2 H2
theorem iter3.st {g:TG3}{tb:TS3}{D:Ends3}{still:Hp3->Prop}{ts:List T}{Z:St3}{H:Hp3}(h:iter3 g tb D still ts Z H):still H:=by
 cases ts with
 |nil=>exact h.1
 |cons t r=>exact h.1
def Io (wi:TI3) (g:TG3) (tb:TS3):TS3:=fun D Z H=>wi Z H fun ts still H1=>iter3 g tb D still ts Z H1
section
variable {X:Cx}{tg iter:Expr}{pos:Pos}
theorem bx {body:List Stmt}{wi:TI3}{g:TG3}{tb:TS3}(hp:PassesOwn (model X.prog X.w) X.A X.env X.xe) (hc:X.calm=true) (hi:PI3 X tg iter wi) (hg:PG3 X tg g) (hb:o7 X body tb)
  (hs:∀x,foldedSetIterable iter X.env x=pure x:=by intro _;rfl):PS3 X (.For tg iter body [] pos) (Io wi g tb):=by
 refine PS.imp (Km hp hc hi hg hb hs) ?_;rintro D Z H ⟨Z3,H3,D3,ss,sh,h,k1,k2,k3,k4⟩;refine⟨Z3,H3,_,ss,sh,h,fun J ts still H1 H31 le sh1 wk q=>?_⟩;refine⟨fun i m Z H=>∃Z3 H3,TupLe X.K H1 H/\SimS X.K H Z3 Z/\SimH X.K H3 H/\m=ts.length - i/\i<=ts.length/\iter3 g tb D3 still (ts.drop i) Z3 H3,⟨ts.length,Z3,H31,.refl,ss.mono le,sh1,rfl,Vx _,by simpa using q⟩,?_⟩;rintro i m Z H ⟨Z4,H4,le4,ss4,sh4,rfl,hi,it⟩;have w:=wk H H4 le4 sh4 it.st;by_cases hlt:i<ts.length
 ·have e:=g_ hlt;have ed:ts.drop i=ts[i]::ts.drop (i+1):=Ws hlt;rw[ed] at it;obtain⟨st,it⟩:=it;obtain⟨go,yl⟩:=w.2 i _ e;refine .inr ⟨go,fun Z' H'=>∃Z3 H3,TupLe X.K H1 H'/\SimS X.K H' Z3 Z'/\SimH X.K H3 H'/\iter3 g tb D3 still (ts.drop (i+1)) Z3 H3,fun Z' H' ⟨s5,h5,a,b,c,d⟩=>⟨ts.length - (i+1),by omega,s5,h5,a,b,c,rfl,hlt,d⟩,fun x H' y=>?_⟩;obtain⟨le',sh',rx⟩:=yl x H' y;refine⟨ts[i],Z4,H4,_,rx,ss4.mono le',sh',it,fun Z2 H2 Z32 H32 le2 ss2 sh2 q2=>?_⟩;have all:TupLe X.K H1 H2:=le4.trans (le'.trans le2);have nx:∀(B:TupLe X.K H1 H2),KS3 X.K H2 (iter3 g tb D3 still (ts.drop (i+1))) (fun Z' H'=>∃Z3 H3,TupLe X.K H1 H'/\SimS X.K H' Z3 Z'/\SimH X.K H3 H'/\iter3 g tb D3 still (ts.drop (i+1)) Z3 H3) :=
   fun B Z' H' Z3' H3' l s h q=>⟨Z3',H3',B.trans l,s,h,q⟩
  exact⟨Z32,H32,_,ss2,sh2,q2,nx all,k2.at (le.trans all),k1.at (le.trans all),nx all⟩
 have e:i=ts.length:=by omega
 subst e;rw[List.drop_length] at it;exact .inl ⟨w.1 _ (m_ _),k1 _ _ _ _ (le.trans le4) ss4 sh4 it.2⟩
def ph (c:TT3) (tb:TS3):TS3:=fun D Z H=>∃W:Nat->St3->Hp3->Prop,(∃m,W m Z H)/\∀m Z H,W m Z H ->
 c Z H fun b H1=>if b=true then tb { D with nx:=fun Z' H'=>∃m',m'<m/\W m' Z' H',ct:=fun Z' H'=>∃m',m'<m/\W m' Z' H',bk:=D.nx} Z H1 else D.nx Z H1
theorem iT {c:Expr}{body:List Stmt}{tc:TT3}{tb:TS3}(hp:PassesOwn (model X.prog X.w) X.A X.env X.xe) (hc:PT3 X c tc) (hb:o7 X body tb):PS3 X (.While c body [] pos) (ph tc tb):=by
 refine PS.imp (yU hp hc hb) ?_;rintro D Z H ⟨Z3,H3,D3,ss,sh,⟨W,⟨m0,w0⟩,turn⟩,k1,k2,k3,k4⟩;refine⟨fun m Z' H'=>∃Z3 H3,TupLe X.K H H'/\SimS X.K H' Z3 Z'/\SimH X.K H3 H'/\W m Z3 H3,⟨m0,Z3,H3,.refl,ss,sh,w0⟩,?_⟩;rintro m Z1 H1 ⟨Z4,H4,le4,ss4,sh4,w4⟩;refine⟨Z4,H4,_,ss4,sh4,turn m Z4 H4 w4,fun b H2 H5 le5 sh5 q=>?_⟩;cases b with
 |true =>
  rw[if_pos rfl] at q ⊢;have nx:KS3 X.K H2 (fun Z' H'=>∃m',m'<m/\W m' Z' H') (fun Z' H'=>∃m',m'<m/\∃Z3 H3,TupLe X.K H H'/\SimS X.K H' Z3 Z'/\SimH X.K H3 H'/\W m' Z3 H3) :=
   fun Z' H' Z3' H3' l s h ⟨m',hm,w⟩=>⟨m',hm,Z3',H3',le4.trans (le5.trans l),s,h,w⟩
  exact⟨_,fun Z' H' h=>h,Z4,H5,_,ss4.mono le5,sh5,q,nx,k2.at (le4.trans le5),k1.at (le4.trans le5),nx⟩
 |false =>
 rw[if_neg o_] at q ⊢;exact k1 _ _ _ _ (le4.trans le5) (ss4.mono le5) sh5 q
end
def Fj (X:Cx) (ifs:List Expr) (t:TT3):Prop:=PIf X ifs (xO X.K t)
def vz:TT3:=fun _ H Q=>Q true H
theorem bD {X:Cx}:Fj X [] vz:=fun pins s Z H Q I ⟨Z3,H3,Q3,ss,sh,h,k⟩=>EY pins s Z H Q I (k _ _ _ .refl sh h)
theorem gY {X:Cx}{c:Expr}{t:TT3}(h:PT3 X c t):Fj X [c] t:=Fb h
def mL (nt:Nat) (cap:List Nat) (Z:St3):St3:=List.replicate nt none++cap.map fun j=>(Z[j]?).getD none
theorem vA {K:Frag}{H:Hp}{Z3:St3}{Z:L2.St}{nt:Nat}{cap:List Nat}(s:SimS K H Z3 Z):SimS K H (mL nt cap Z3) (mK nt cap Z):=by
 refine⟨by simp [mL,mK],fun i t e=>?_⟩;unfold mL at e;unfold mK;by_cases hi:i<nt
 ·rw[Vj (by simpa using hi),Xe] at e;split at e <;> cases e
 rw[R_ (by simpa using hi),z_] at e;rw[R_ (by simpa using hi),z_];simp only[Xy] at e ⊢;cases q:cap[i - nt]? with
 |none=>rw[q] at e;cases e
 |some j =>
 rw[q] at e;have e':(Z3[j]?).getD none=some t:=U6 e;have e2:Z3[j]?=some (some t):=by
  cases z:Z3[j]? with
  |none=>rw[z] at e';cases e'
  |some y=>rw[z] at e';exact Q_ some e'
 obtain⟨v,ev,r⟩:=s.at' j t e2;exact⟨v,by simp [ev],r⟩
def cIter3 (g:TG3) (tt:TT3) (te:TE3) (still:Hp3->Prop) (fin:List T->Hp3->Prop):List T->List T->St3->Hp3->Prop
 |[],ys,Z,H=>still H/\ys.length<=sizeLine/\fin ys H
 |t::r,ys,Z,H=>still H/\g t Z H fun Z2 H2=>tt Z2 H2 fun b H3=>if b=true then te Z2 H3 fun y H4=>ys.length<sizeLine/\cIter3 g tt te still fin r (ys++[y]) Z2 H4 else cIter3 g tt te still fin r ys Z2 H3
theorem cIter3.st {g:TG3}{tt:TT3}{te:TE3}{still:Hp3->Prop}{fin:List T->Hp3->Prop}{ts ys:List T}{Z:St3}{H:Hp3}(h:cIter3 g tt te still fin ts ys Z H):still H:=by
 cases ts with
 |nil=>exact h.1
 |cons t r=>exact h.1
theorem zK {K:Frag}{J:It}{g:TG3}{tt:TT3}{te:TE3}{still:Hp3->Prop}{fin3:List T->Hp3->Prop}{fin:List V->Hp->Prop}{ts:List T}{Z3:St3}{Z:L2.St}{H1:Hp}{H31:Hp3}
  (wk:lg K J ts still H1) (ss:SimS K H1 Z3 Z) (sh:SimH K H31 H1) (h:cIter3 g tt te still fin3 ts [] Z3 H31)
  (hf:∀ys us H' H3',TupLe K H1 H'->SimH K H3' H'->Reps K H' ys us->fin3 ys H3'->fin us H'):vf J (Fg K g) (xO K tt) (lft K te) fin Z H1:=by
 refine⟨fun i m us Z H=>∃Z3 H3 ys,TupLe K H1 H/\SimS K H Z3 Z/\SimH K H3 H/\Reps K H ys us/\m=ts.length - i/\i<=ts.length/\cIter3 g tt te still fin3 (ts.drop i) ys Z3 H3,⟨ts.length,Z3,H31,[],.refl,ss,sh,.nil,rfl,Vx _,by simpa using h⟩,?_⟩;rintro i m us Z H ⟨Z4,H4,ys,le4,ss4,sh4,ry,rfl,hi,it⟩;have w:=wk H H4 le4 sh4 it.st;by_cases hlt:i<ts.length
 ·have e:=g_ hlt;have ed:ts.drop i=ts[i]::ts.drop (i+1):=Ws hlt;rw[ed] at it;obtain⟨st,it⟩:=it;obtain⟨go,yl⟩:=w.2 i _ e;refine .inr ⟨go,fun x H' y=>?_⟩;obtain⟨le',sh',rx⟩:=yl x H' y;refine⟨ts[i],Z4,H4,_,rx,ss4.mono le',sh',it,fun Z2 H2 Z32 H32 le2 ss2 sh2 q2=>?_⟩;refine⟨Z32,H32,_,ss2,sh2,q2,fun b H3 H33 le3 sh3 q3=>?_⟩;have all:TupLe K H H3:=le'.trans (le2.trans le3);cases b with
  |true=>rw[if_pos rfl] at q3;refine Uq ?_;refine⟨Z32,H33,_,ss2.mono le3,sh3,q3,fun v H5 t H35 le5 sh5 rt q5=>⟨by rw[<- ry.length];exact q5.1,ts.length - (i+1),by omega,Z32,H35,ys++[t],le4.trans (all.trans le5),ss2.mono (le3.trans le5),sh5,(ry.mono (all.trans le5)).append (.cons rt .nil),rfl,hlt,q5.2⟩⟩
  |false =>
  rw[if_neg o_] at q3;refine Uo ?_;exact⟨ts.length - (i+1),by omega,Z32,H33,ys,le4.trans all,ss2.mono le3,sh3,ry.mono all,rfl,hlt,q3⟩
 have e:i=ts.length:=by omega
 subst e;rw[List.drop_length] at it;exact .inl ⟨w.1 _ (m_ _),by rw[<- ry.length];exact it.2.1,hf _ _ _ _ le4 sh4 ry it.2.2⟩
def zL (wi:TI3) (g:TG3) (tt:TT3) (te:TE3) (nt:Nat) (cap:List Nat):TE3:=fun Z H Q=>wi Z H fun ts still H1=>cIter3 g tt te still (fun ys H'=>∀p,H' p=none->Q (.ref p) (up3 H' p (.lst ys))) ts [] (mL nt cap Z) H1
def nQ (wi:TI3) (g:TG3) (tt:TT3) (te:TE3) (nt:Nat) (cap:List Nat) (i:Nat):TS3:=fun D Z H=>wi Z H fun ts still H1=>cIter3 g tt te still (fun ys H'=>∀p,H' p=none->D.nx (Z.set i (some (.ref p))) (up3 H' p (.lst ys))) ts [] (mL nt cap Z) H1
section
variable {X:Cx}{N':List Str}{nt:Nat}{cap:List Nat}{scope:Scope}{elt tg iter:Expr}{ifs:List Expr}{pos pos' spos:Pos}{wi:TI3}{g:TG3}{tt:TT3}{te:TE3}
theorem bz (hc:X.calm=true) (S:CompSc X N' nt cap scope) (hi:PI3 X tg iter wi)
  (hX:∀cl pins s H C fp,PG3 (bJ X N' scope cl pins s H C fp) tg g/\Fj (bJ X N' scope cl pins s H C fp) ifs tt/\PE3 (bJ X N' scope cl pins s H C fp) elt te)
  (hs:∀x,foldedSetIterable iter X.env x=pure x:=by intro _;rfl):PE3 X (.ListComp elt [⟨tg,iter,ifs,0⟩] scope pos) (zL wi g tt te nt cap):=by
 refine PE.imp (Fe (g:=Fg X.K g) (tt:=xO X.K tt) (te:=lft X.K te) hc S hi hX hs) ?_;rintro Z H Q ⟨Z3,H3,Q3,ss,sh,h,k⟩;refine⟨Z3,H3,_,ss,sh,h,fun J ts still H1 H31 le sh1 wk q=>?_⟩;exact zK wk (vA (ss.mono le)) sh1 q fun ys us H' H3' le' sh' ry q' p hp=>k _ _ _ _ (le.trans (le'.trans (aL hp))) (sh'.newLst hp ry) .ofRef (q' p (sh'.fresh hp))
theorem jY {i:Nat}{x:Str}(hc:X.calm=true) (hN:X.N.Nodup) (S:CompSc X N' nt cap scope) (hi:PI3 X tg iter wi)
  (hX:∀cl pins s H C fp,PG3 (bJ X N' scope cl pins s H C fp) tg g/\Fj (bJ X N' scope cl pins s H C fp) ifs tt/\PE3 (bJ X N' scope cl pins s H C fp) elt te)
  (hi':X.N[i]?=some x:=by rfl) (hx:Loc X.env.scope x:=by first | exact Or.inl rfl | exact Or.inr rfl)
  (hsw:swapsWith (.ListComp elt [⟨tg,iter,ifs,0⟩] scope pos) (some (.Name x pos')) spos.line X.env=pure true:=by rfl)
  (hs:∀x,foldedSetIterable iter X.env x=pure x:=by intro _;rfl) (hf:X.fn x=true\/X.env.scope.names.lookup x=some .local:=by first | exact .inl rfl | exact .inr rfl | assumption) :
  PS3 X (.Assign [.Name x pos'] (.ListComp elt [⟨tg,iter,ifs,0⟩] scope pos) spos) (nQ wi g tt te nt cap i):=by
 refine PS.imp (Ff (g:=Fg X.K g) (tt:=xO X.K tt) (te:=lft X.K te) hc hN hi' hx S hi hX hsw hs hf) ?_;rintro D Z H ⟨Z3,H3,D3,ss,sh,h,k1,_⟩;refine⟨Z3,H3,_,ss,sh,h,fun J ts still H1 H31 le sh1 wk q=>?_⟩;exact zK wk (vA (ss.mono le)) sh1 q fun ys us H' H3' le' sh' ry q' p hp =>
  k1 _ _ _ _ (le.trans (le'.trans (aL hp))) ((ss.mono (le.trans (le'.trans (aL hp)))).set .ofRef) (sh'.newLst hp ry) (q' p (sh'.fresh hp))
end
abbrev Sp3:=List T->Hp3->VK3->Prop
def qP (K:Frag) (sp:Sp3):Sp:=fun vs H Q _=>∃ts H3 Q3,Reps K H ts vs/\SimH K H3 H/\sp ts H3 Q3/\KV3 K H Q3 Q
def Sub3 (H H':Hp3):Prop:=∀a o,H a=some o->H' a=some o
theorem Sub3.refl {H:Hp3}:Sub3 H H:=fun _ _ h=>h
theorem Sub3.trans {H H1 H2:Hp3}(a:Sub3 H H1) (b:Sub3 H1 H2):Sub3 H H2:=fun c o h=>b c o (a c o h)
theorem Sub3.new {H:Hp3}{p:Addr}{o:O3}(h:H p=none):Sub3 H (up3 H p o):=fun a u e=>by rw[aD (aX e h)];exact e
theorem SimH.sub {K:Frag}{H3 H3':Hp3}{H:Hp}(s:SimH K H3' H) (h:Sub3 H3 H3'):SimH K H3 H:=fun a o e=>s a o (h a o e)
def Fin3 (Q:VK3):VK3:=fun v H=>∃H',Sub3 H' H/\Q v H'
theorem Fin3.of {Q:VK3}{v:T}{H H':Hp3}(h:Sub3 H' H) (q:Q v H'):Fin3 Q v H:=⟨H',h,q⟩
def aO (N:List Str) (ts:List T):St3:=ts.map some++List.replicate (N.length - ts.length) none
theorem xP {K:Frag}{H:Hp}{N:List Str}{ts:List T}{vs:List V}(r:Reps K H ts vs):SimS K H (aO N ts) (L2.start N vs):=by
 refine⟨by simp [aO,L2.start,r.length],fun i t e=>?_⟩;unfold aO at e;unfold L2.start;have hl:=r.length;by_cases hi:i<ts.length
 ·rw[Vj (by simpa using hi),z_] at e;rw[Vj (by rw[d_];omega),z_];cases q:ts[i]? with
  |none=>rw[q] at e;cases e
  |some u =>
  rw[q] at e;cases e;obtain⟨v,ev,rv⟩:=r.get q;exact⟨v,by rw[ev];rfl,rv⟩
 rw[R_ (by simpa using hi),Xe] at e;split at e <;> cases e
section
variable {X:Cx}{k:Nat}{f:Addr}{fd:FuncData}{ps:List Str}{sp:Sp3}{x:Str}{p pos:Pos}{e:Expr}{es:List Expr}{t:TA3}
def jG (P:Program) (w:World) (K:Frag) (mg:Str->Option Value) (base:Heap) (k:Nat) (f:Addr) (fd:FuncData) (ps:List Str) (sp:Sp3):Prop:=FnOk P w K mg base CX0 k f fd ps (qP K sp)
def pA (sp:Sp3) (t:TA3):TE3:=fun Z H Q=>t Z H fun vs H1=>sp vs H1 Q
theorem Fl (F:jG X.prog X.w X.K X.mg X.base k f fd ps sp) (hr:Room k X.A) (hg:Gl X x) (hm:X.mg x=some (.ref f)) (hk:keepIn X.K (.ref f)=true) (hb:Binds X.K fd ps [])
  (ha:PA3 X (e::es) t) (hdb:(x==("__debug__":Str))=false:=by decide) (he:starEach (e::es) X.env=(false,eval e X.env)::starEach es X.env:=by rfl) (hpl:(backTo pos (starEach es X.env)).any (·.1)=false:=by rfl) :
  PE3 X (.Call (.Name x p) (e::es) [] pos) (pA sp t):=by
 refine PE.imp (Em (dvs:=[]) (E:=E0) F hr hg hm hk hb .nil zr ha hdb he hpl) ?_;rintro Z H Q ⟨Z3,H3,Q3,ss,sh,h,k⟩;refine⟨Z3,H3,_,ss,sh,h,fun vs H' ts H3' le sh' r q=>?_⟩;show qP X.K sp (vs++[]) H' Q E0;rw[S_];exact⟨ts,H3',Q3,r,sh',q,k.at le⟩
theorem fn3 {P:Program}{w:World}{K:Frag}{mg:Str->Option Value}{base:Heap}{qual:Str}{st:Stmt}{N:List Str}(F:Fun K x qual st f fd) (S:FnScope N ps (au st)) (len:∀ts H Q,sp ts H Q->ts.length=ps.length)
  (hbody:∀(cdv:Value) (A:Around) (outer:List Env) (s:Shared) (H:Hp) (E:XK) (ts:List T) (H3:Hp3) (Q:VK3),Room k (A.deeper (envOfC qual (au st) s.heap.objs.size f cdv))->sp ts H3 Q ->
   ∃t,o7 (tK CX0 P w K mg base N qual (au st) f cdv A outer s H E).nox (bL st) t/\t { nx:=fun _ H'=>Fin3 Q .non H',rt:=Fin3 Q} (aO N ts) H3):jG P w K mg base (k+1) f fd ps sp:=by
 refine F.ok S (fun vs H Q E ⟨ts,H3,Q3,r,sh,q,k⟩=>by rw[<- r.length];exact len _ _ _ q) fun cdv A outer s H vs Q E hr ⟨ts,H3,Q3,r,sh,q,k⟩=>?_;obtain⟨t,ht,hq⟩:=hbody cdv A outer s H E ts H3 Q3 hr q;exact⟨_,ht,aO N ts,H3,_,xP r,sh,hq,fun Z' H' Z3' H3' le ss' sh' ⟨H4,sb,q⟩=>k _ _ _ _ le (sh'.sub sb) .ofNon q,fun v H' t H3' le sh' rv ⟨H4,sb,q⟩=>k _ _ _ _ le (sh'.sub sb) rv q,fun _ _ _ _ _ _ _ z=>z,fun _ _ _ _ _ _ _ z=>z⟩
end
noncomputable instance:DecidableEq T:=fun a b=>Classical.propDecidable (a=b)
def pl:Nat->T->Bool
 |_,.non=>true
 |_,.int _=>true
 |_,.str _=>true
 |d+1,.tup ts=>ts.all (pl d)
 |_,_=>false
section
variable {X:Cx}{pins:List (Addr × Obj)}{Z:L2.St}{H:Hp}{s:Shared}
theorem vB (I:Inv X pins Z H s):∀(d:Nat) (x y:T) (v:V),pl d x=true->pl d y=true->Rep X.K H x v->Rep X.K H y v->x=y:=by
 intro d;induction d with
 |zero =>
  intro x y v px py rx ry;cases x <;> cases y <;> first
   |rfl
   | (simp only[Rep] at rx ry;subst rx;cases ry <;> rfl)
   | (simp [pl] at px;done)
   | (simp [pl] at py;done)
 |succ d ih =>
 intro x y v px py rx ry;cases x with
 |tup ts =>
  cases y with
  |tup us =>
   obtain⟨a,xs,rfl,sq,r⟩:=rx.tup;obtain⟨b,ys,e,sq',r'⟩:=ry.tup;cases e;have:=I.tuple_inj sq sq';subst this;simp only[pl,U_] at px py;congr 1;have key:∀(ts us:List T) (xs:List V),(∀t∈ts,pl d t=true)->(∀t∈us,pl d t=true)->Reps X.K H ts xs->Reps X.K H us xs->ts=us:=by
    intro ts;induction ts with
    |nil =>
     intro us xs _ _ h h';rw[h.inv0] at h';cases us with
     |nil=>rfl
     |cons u us=>obtain⟨_,_,e,_⟩:=h'.inv;cases e
    |cons t ts ih2 =>
    intro us xs p1 p2 h h';obtain⟨v,r,rfl,a,b⟩:=h.inv;cases us with
    |nil=>exact absurd h'.inv0 (by simp)
    |cons u us =>
    obtain⟨v',r',e,a',b'⟩:=h'.inv;cases e;rw[ih t u v (p1 t t_) (p2 u t_) a a',ih2 us r (fun t ht=>p1 t (v_ _ ht)) (fun t ht=>p2 t (v_ _ ht)) b b']
   exact key ts us xs px py r r'
  |_=>first | (simp only[Rep] at rx ry;obtain⟨a,xs,e,_⟩:=rx;subst e;cases ry;done) | (simp [pl] at py;done)
 |_=>cases y <;> first
  |rfl
  | (simp only[Rep] at rx ry;subst rx;cases ry <;> rfl)
  | (simp [pl] at px;done)
  | (simp [pl] at py;done)
  | (simp only[Rep] at rx ry;obtain⟨a,xs,e,_⟩:=ry;subst e;cases rx;done)
theorem units_in1 (A:Around):A.in1.units=A.units+1:=by rfl
theorem lq {α:Type} [DecidableEq (Option α)] (ts us:List α):((List.range (min ts.length us.length)).all (fun j=>decide (ts[j]?=us[j]?))&&ts.length==us.length)=true↔ts=us:=by
 rw[Vf,U_,W9];constructor
 ·rintro⟨h,hl⟩;refine W5 fun i=>?_;by_cases hi:i<ts.length
  ·exact VF (h i (I_.mpr (by omega)))
  rw[L_ (by omega),L_ (by omega)]
 rintro rfl;exact⟨fun i _=>by simp,rfl⟩
theorem Fo {us:List Value}{i:Nat}(h:i<us.toArray.size) {v:Value}(e:us[i]?=some v):us.toArray[i]=v:=by
 have:us.toArray[i]?=some v:=by simpa using e
 rw[K_ h] at this;exact U6 this
theorem vC (I:Inv X pins Z H s):∀(d:Nat) (A:Around) (x y:T) (vx vy:V) (u v:Value),pl d x=true->pl d y=true->Rep X.K H x vx->Rep X.K H y vy->RelV vx u->RelV vy v->A.units+d<cLine->SeqAt.EqAt A s u v (decide (x=y)):=by
 have iB:∀(A:Around) (x y:T) (vx vy:V) (u v:Value),pl 0 x=true->pl 0 y=true->Rep X.K H x vx->Rep X.K H y vy->RelV vx u->RelV vy v->SeqAt.EqAt A s u v (decide (x=y)):=by
  intro A x y vx vy u v px py rx ry ru rv;cases x with
  |non =>
   cases rx.non;cases ru;cases y with
   |non=>cases ry.non;cases rv;simp only[WP];exact SeqAt.EqAt.same _
   |int j=>cases ry.int;obtain⟨t',rfl⟩:=rv;rw[C_ (by simp)];exact SeqAt.EqAt.none_int _ _
   |str j=>cases ry.str;obtain⟨t',rfl⟩:=rv;rw[C_ (by simp)];exact SeqAt.EqAt.none_str _ _
   |_=>simp [pl] at py
  |int i =>
   cases rx.int;obtain⟨t,rfl⟩:=ru;cases y with
   |non=>cases ry.non;cases rv;rw[C_ (by simp)];exact SeqAt.EqAt.int_none _ _
   |int j=>cases ry.int;obtain⟨t',rfl⟩:=rv;rw[show decide (T.int i=T.int j)=(i==j) by by_cases h:i=j <;> simp [h]];exact SeqAt.EqAt.int_int _ _ _ _
   |str j=>cases ry.str;obtain⟨t',rfl⟩:=rv;rw[C_ (by simp)];exact SeqAt.EqAt.int_str _ _ _ _
   |_=>simp [pl] at py
  |str i =>
   cases rx.str;obtain⟨t,rfl⟩:=ru;cases y with
   |non=>cases ry.non;cases rv;rw[C_ (by simp)];exact SeqAt.EqAt.str_none _ _
   |int j=>cases ry.int;obtain⟨t',rfl⟩:=rv;rw[C_ (by simp)];exact SeqAt.EqAt.str_int _ _ _ _
   |str j=>cases ry.str;obtain⟨t',rfl⟩:=rv;rw[show decide (T.str i=T.str j)=(i==j) by by_cases h:i=j <;> simp [h]];exact SeqAt.EqAt.str_str _ _ _ _
   |_=>simp [pl] at py
  |_=>simp [pl] at px
 intro d;induction d with
 |zero=>intro A x y vx vy u v px py rx ry ru rv _;exact iB A x y vx vy u v px py rx ry ru rv
 |succ d ih =>
 intro A x y vx vy u v px py rx ry ru rv hu;have hu0:A.units<cLine:=by omega
 cases x with
 |tup ts =>
  obtain⟨a,xs,rfl,sq,r⟩:=rx.tup;cases ru;obtain⟨its,rv1,ht,_⟩:=I.tuple sq;cases y with
  |tup us =>
   obtain⟨b,ys,rfl,sq',r'⟩:=ry.tup;cases rv;obtain⟨its',rv2,ht',_⟩:=I.tuple sq';by_cases hab:a=b
   ·subst hab;have e:T.tup ts=T.tup us:=vB I (d+1) _ _ (.ref a) px py (.ofTup sq r) (.ofTup sq' r');rw[e,O_ rfl];exact SeqAt.EqAt.same _
   have l1:=r.length;have l2:=r'.length;have l3:=rv1.length;have l4:=rv2.length;have key:=SeqAt.RcAt.tuples (A:=A) (s:=s) (e:=fun j=>decide (ts[j]?=us[j]?)) (show s.heap.IsTuple a its.toArray from ht) (show s.heap.IsTuple b its'.toArray from ht') hu0 (fun j h1 h2=>by
    rw[l_] at h1 h2
    have g1:j<ts.length:=by omega
    have g2:j<us.length:=by omega
    obtain⟨p1,e1,q1⟩:=r.get (g_ g1)
    obtain⟨p2,e2,q2⟩:=r'.get (g_ g2)
    obtain⟨z1,f1,w1⟩:=rv1.get e1
    obtain⟨z2,f2,w2⟩:=rv2.get e2
    rw[Fo _ f1,Fo _ f2,g_ g1,g_ g2]
    simp only[pl,U_] at px py
    have:=ih A.in1 ts[j] us[j] p1 p2 z1 z2 (px _ (Vh g1)) (py _ (Vh g2)) q1 q2 w1 w2 (by rw[units_in1];omega)
    rw[show decide (some ts[j]=some us[j])=decide (ts[j]=us[j]) by by_cases h:ts[j]=us[j] <;> simp [h]]
    exact this)
   have eb:((List.range (min its.toArray.size its'.toArray.size)).all (fun j=>decide (ts[j]?=us[j]?))&&its.toArray.size==its'.toArray.size)=decide (T.tup ts=T.tup us):=by
    rw[l_,l_,<- l3,<- l1,<- l4,<- l2,Vi,lq,q_];constructor
    ·rintro rfl;rfl
    intro h;injection h
   rw[eb] at key;exact .of_refs hab key
  |non=>cases ry.non;cases rv;rw[C_ (by simp)];exact SeqAt.EqAt.tuple_none ht hu0
  |int j=>cases ry.int;obtain⟨t',rfl⟩:=rv;rw[C_ (by simp)];exact SeqAt.EqAt.tuple_int _ _ ht hu0
  |str j=>cases ry.str;obtain⟨t',rfl⟩:=rv;rw[C_ (by simp)];exact SeqAt.EqAt.tuple_str _ _ ht hu0
  |_=>simp [pl] at py
 |non =>
  cases y with
  |tup us=>obtain⟨b,ys,rfl,sq',r'⟩:=ry.tup;cases rv;obtain⟨its',rv2,ht',_⟩:=I.tuple sq';cases rx.non;cases ru;rw[C_ (by simp)];exact SeqAt.EqAt.none_tuple ht' hu0
  |non=>exact iB A _ _ vx vy u v rfl rfl rx ry ru rv
  |int j=>exact iB A _ _ vx vy u v rfl rfl rx ry ru rv
  |str j=>exact iB A _ _ vx vy u v rfl rfl rx ry ru rv
  |_=>simp [pl] at py
 |int i =>
  cases y with
  |tup us=>obtain⟨b,ys,rfl,sq',r'⟩:=ry.tup;cases rv;obtain⟨its',rv2,ht',_⟩:=I.tuple sq';cases rx.int;obtain⟨t,rfl⟩:=ru;rw[C_ (by simp)];exact SeqAt.EqAt.int_tuple _ _ ht' hu0
  |non=>exact iB A _ _ vx vy u v rfl rfl rx ry ru rv
  |int j=>exact iB A _ _ vx vy u v rfl rfl rx ry ru rv
  |str j=>exact iB A _ _ vx vy u v rfl rfl rx ry ru rv
  |_=>simp [pl] at py
 |str i =>
  cases y with
  |tup us=>obtain⟨b,ys,rfl,sq',r'⟩:=ry.tup;cases rv;obtain⟨its',rv2,ht',_⟩:=I.tuple sq';cases rx.str;obtain⟨t,rfl⟩:=ru;rw[C_ (by simp)];exact SeqAt.EqAt.str_tuple _ _ ht' hu0
  |non=>exact iB A _ _ vx vy u v rfl rfl rx ry ru rv
  |int j=>exact iB A _ _ vx vy u v rfl rfl rx ry ru rv
  |str j=>exact iB A _ _ vx vy u v rfl rfl rx ry ru rv
  |_=>simp [pl] at py
 |_=>simp [pl] at px
end
def rI3 (C:Int->Int->Prop) (g:Int->Int->T):R3:=fun x y H Q=>match x,y with
 |.int i,.int j=>C i j/\Q (g i j) H
 |_,_=>False
def pB (g:Int->Int->T):R3:=fun x y H Q=>match x,y with
 |.int i,.int j=>Q (g i j) H
 |_,_=>False
section
variable {X:Cx}
theorem Fp {f:Value->Value->Sem Value}{C:Int->Int->Prop}{g:Int->Int->T}{g':Int->Int->V}(h:OpR X f (rI C g')) (hg:∀i j H,Rep X.K H (g i j) (g' i j)):dD X f (rI3 C g):=by
 refine OpR.imp h ?_;rintro x y H Q ⟨tx,ty,H3,Q3,rx,ry,sh,h,k⟩;cases tx with
 |int i =>
  cases ty with
  |int j=>exact⟨i,j,rx.int,ry.int,h.1,k _ _ _ _ .refl sh (hg i j H) h.2⟩
  |_=>exact h.elim
 |_=>exact h.elim
theorem lr {f:Value->Value->Sem Value}{g:Int->Int->T}{g':Int->Int->V}(h:OpR X f (rI0 g')) (hg:∀i j H,Rep X.K H (g i j) (g' i j)):dD X f (pB g):=by
 refine OpR.imp h ?_;rintro x y H Q ⟨tx,ty,H3,Q3,rx,ry,sh,h,k⟩;cases tx with
 |int i =>
  cases ty with
  |int j=>exact⟨i,j,rx.int,ry.int,k _ _ _ _ .refl sh (hg i j H) h⟩
  |_=>exact h.elim
 |_=>exact h.elim
def zM (_ j:Int):Prop:=0<j/\j.natAbs.log2<9000
theorem zN:OpR X (binaryOp .FloorDiv) (rI zM fun i j=>.int (i / j)):=opI fun i j _ _ _ _ _ hc q=>by
 have e:i / j=i.fdiv j:=(Int.fdiv_eq_ediv_of_nonneg i (Int.le_of_lt hc.1)).symm;rw[e] at q;exact floordiv_int (Int.ne_of_gt hc.1) q (.inl (PyProof.noPylong_of_log2 hc.2))
theorem gD:dD X (binaryOp .Sub) (pB fun i j=>.int (i - j)):=lr Kp fun _ _ _=>.ofInt
theorem eO:dD X (binaryOp .FloorDiv) (rI3 zM fun i j=>.int (i / j)):=Fp zN fun _ _ _=>.ofInt
theorem dG:dD X (binaryOp .Mod) (rI3 (fun _ j=>0<j) fun i j=>.int (i%j)):=Fp Kr fun _ _ _=>.ofInt
theorem fW:dD X (binaryOp .Pow) (rI3 Pr fun i j=>.int (i^j.toNat)):=Fp Ks fun _ _ _=>.ofInt
theorem vD:dD X (compareOp .Lt) (pB fun i j=>.bl (decide (i<j))):=lr Pz fun _ _ _=>.ofBl
theorem zO:dD X (compareOp .LtE) (pB fun i j=>.bl (decide (i<=j))):=lr PB fun _ _ _=>.ofBl
theorem Qu:dD X (compareOp .Gt) (pB fun i j=>.bl (decide (j<i))):=lr PJ fun _ _ _=>.ofBl
theorem Ip:dD X (compareOp .GtE) (pB fun i j=>.bl (decide (j<=i))):=lr PK fun _ _ _=>.ofBl
theorem dY:dD X (binaryOp .Mult) (rI3 CMul fun i j=>.int (i*j)):=Fp Kq fun _ _ _=>.ofInt
def lu:R3:=fun x y H Q=>match x,y with
 |.int i,.int j=>Q (.int (i+j)) H
 |.str i,.str j=>i.length+j.length<=sizeLine/\Q (.str (i++j)) H
 |.ref a,.ref b=>match H a,H b with
  |some (.lst xs),some (.lst ys)=>xs.length+ys.length<=sizeLine/\∀p,H p=none->Q (.ref p) (up3 H p (.lst (xs++ys)))
  |_,_=>False
 |.tup xs,.tup ys=>xs.length+ys.length<=sizeLine/\Q (.tup (xs++ys)) H
 |_,_=>False
theorem zP:OpR X (binaryOp .Add) (fun x y H Q=>∃a b ys,x=.ref a/\y=.ref b/\SqT X.K H a []/\SqT X.K H b ys/\Q (.ref b) H):=by
 intro pins s Z H x y v u Q I rx ry h;obtain⟨a,b,ys,rfl,rfl,ha,hb,q⟩:=h;cases rx;cases ry;obtain⟨its,r1,p1,_⟩:=I.tuple ha;obtain⟨its2,r2,p2,_⟩:=I.tuple hb;cases r1;obtain⟨⟨cls,dd,data,sl⟩,ho,hc,n,hd⟩:=id p1;obtain⟨⟨cls2,dd2,data2,sl2⟩,ho2,hc2,n2,hd2⟩:=id p2;simp only at hc hd hc2 hd2;subst hc hd hc2 hd2;exact concat_meets ⟨_,ho,rfl⟩ ⟨_,ho2,rfl⟩ noFill_tuple_add seq_tuple_add PySem.F.slot_tuple_add PySem.F.entry_tuple_add (X7 _ _)
   (tuple_addW0 a b _ its2.toArray n n2 dd dd2 sl sl2 (by simp)) ⟨ho,ho2,⟨.ref b,H,I,rfl,q⟩⟩
theorem aR:dD X (binaryOp .Add) lu:=by
 refine OpR.imp (op_add.or (op_add_str.or (op_cat.or (op_catT.or zP)))) ?_;rintro x y H Q ⟨tx,ty,H3,Q3,rx,ry,sh,h,k⟩;cases tx with
 |int i =>
  cases ty with
  |int j=>exact .inl ⟨i,j,rx.int,ry.int,k _ _ _ _ .refl sh .ofInt h⟩
  |_=>exact h.elim
 |str i =>
  cases ty with
  |str j=>exact .inr (.inl ⟨i,j,rx.str,ry.str,h.1,k _ _ _ _ .refl sh .ofStr h.2⟩)
  |_=>exact h.elim
 |ref a =>
  cases ty with
  |ref b =>
   have h':(match H3 a,H3 b with
    |some (.lst xs),some (.lst ys)=>xs.length+ys.length<=sizeLine/\∀p,H3 p=none->Q3 (.ref p) (up3 H3 p (.lst (xs++ys)))
    |_,_=>False):=h
   split at h'
   ·
    rename_i xs ys e1 e2
    obtain⟨vs,g1,r1⟩:=sh a _ e1
    obtain⟨ws,g2,r2⟩:=sh b _ e2
    refine .inr (.inr (.inl ⟨a,b,vs,ws,rx.ref,ry.ref,g1,g2,by rw[<- r1.length,<- r2.length];exact h'.1,fun p hp=>?_⟩))
    exact k _ _ _ _ (aL hp) (sh.newLst hp (r1.append r2)) .ofRef (h'.2 p (sh.fresh hp))
   ·
    exact h'.elim
  |_=>exact h.elim
 |tup xs =>
  cases ty with
  |tup ys =>
   obtain⟨a,vs,rfl,s1,r1⟩:=rx.tup;obtain⟨b,ws,rfl,s2,r2⟩:=ry.tup;by_cases hv:vs=[]
   ·subst hv;have e0:xs=[]:=Wb r1.length;subst e0;exact .inr (.inr (.inr (.inr ⟨a,b,ws,rfl,rfl,s1,s2,k _ _ _ _ .refl sh (.ofTup s2 r2) h.2⟩)))
   refine .inr (.inr (.inr (.inl ⟨a,b,vs,ws,rfl,rfl,s1,s2,hv,by rw[<- r1.length,<- r2.length];exact h.1,fun hw=>?_,fun hw p hp=>?_⟩)))
   ·have e:ys=[]:=by have:=r2.length;rw[hw] at this;exact Wb this
    have q:=h.2;rw[e,S_] at q;exact k _ _ _ _ .refl sh (.ofTup s1 r1) q
   exact k _ _ _ _ (aL hp) (sh.new hp) (SimH.newTup (H3:=H3) hp (r1.append r2)) h.2
  |_=>exact h.elim
 |_=>exact h.elim
variable {pins:List (Addr × Obj)}{Z:L2.St}{H:Hp}{s:Shared}
def qQ (neg:Bool):R3:=fun x y H Q=>match x,y with
 |.int i,.int j=>Q (.bl (if neg then !decide (i=j) else decide (i=j))) H
 |.str i,.str j=>Q (.bl (if neg then !decide (i=j) else decide (i=j))) H
 |.bl i,.bl j=>Q (.bl (if neg then !decide (i=j) else decide (i=j))) H
 |.non,.non=>Q (.bl (if neg then false else true)) H
 |.tup xs,.tup ys=>xs.all (pl 20)=true/\ys.all (pl 20)=true/\Q (.bl (if neg then !decide (xs=ys) else decide (xs=ys))) H
 |.ref a,.ref b=>match H a,H b with
  |some (.lst xs),some (.lst ys)=>a≠b/\xs.all (pl 20)=true/\ys.all (pl 20)=true/\Q (.bl (if neg then !decide (xs=ys) else decide (xs=ys))) H
  |_,_=>False
 |_,_=>False
theorem gF (I:Inv X pins Z H s) {ts us:List T}{xs ys:List V}{its its':List Value}{A:Around}(hu:A.units+30<cLine) (px:ts.all (pl 20)=true) (py:us.all (pl 20)=true) (r:Reps X.K H ts xs) (r':Reps X.K H us ys) (rv1:Vals xs its) (rv2:Vals ys its') :
  ∀j (h1:j<its.toArray.size) (h2:j<its'.toArray.size),SeqAt.EqAt A.in1 s its.toArray[j] its'.toArray[j] (decide (ts[j]?=us[j]?)):=fun j h1 h2=>by
 have l1:=r.length;have l2:=r'.length;have l3:=rv1.length;have l4:=rv2.length;rw[l_] at h1 h2;have g1:j<ts.length:=by omega
 have g2:j<us.length:=by omega
 obtain⟨p1,e1,q1⟩:=r.get (g_ g1);obtain⟨p2,e2,q2⟩:=r'.get (g_ g2);obtain⟨z1,f1,w1⟩:=rv1.get e1;obtain⟨z2,f2,w2⟩:=rv2.get e2;rw[Fo _ f1,Fo _ f2,g_ g1,g_ g2];rw[U_] at px py;have:=vC I 20 A.in1 ts[j] us[j] p1 p2 z1 z2 (px _ (Vh g1)) (py _ (Vh g2)) q1 q2 w1 w2 (by rw[units_in1];omega);rw[show decide (some ts[j]=some us[j])=decide (ts[j]=us[j]) by by_cases h:ts[j]=us[j] <;> simp [h]];exact this
theorem gG {ts us:List T}:((List.range (min ts.length us.length)).all (fun j=>decide (ts[j]?=us[j]?))&&ts.length==us.length)=decide (ts=us):=by
 rw[Vi,lq,q_]
theorem cY (hu:X.A.units+30<cLine):dD X (compareOp .Eq) (qQ false):=by
 intro pins s Z H x y v u Q I rv ru h;obtain⟨tx,ty,H3,Q3,rx,ry,sh,h,k⟩:=h;have sc:∀{x y:V},iB x y=true->RelV x v->RelV y u->(k:Q (.bl (decide (x=y))) H)->wpAny (model X.prog X.w) X.A (compareOp .Eq v u) (EP X pins Z Q) X.xe s:=fun {x y} a r1 r2 q=>Px pins s Z H x y v u Q I r1 r2 ⟨a,q⟩;cases tx with
 |int i =>
  cases ty with
  |int j=>rw[rx.int] at rv;rw[ry.int] at ru;exact sc rfl rv ru (k _ _ _ _ .refl sh (by rw[show decide (V.int i=V.int j)=decide (i=j) by by_cases e:i=j <;> simp [e]];exact .ofBl) h)
  |_=>exact h.elim
 |str i =>
  cases ty with
  |str j=>rw[rx.str] at rv;rw[ry.str] at ru;exact sc rfl rv ru (k _ _ _ _ .refl sh (by rw[show decide (V.str i=V.str j)=decide (i=j) by by_cases e:i=j <;> simp [e]];exact .ofBl) h)
  |_=>exact h.elim
 |bl i =>
  cases ty with
  |bl j=>rw[rx.bl] at rv;rw[ry.bl] at ru;exact sc rfl rv ru (k _ _ _ _ .refl sh (by rw[show decide (V.bl i=V.bl j)=decide (i=j) by by_cases e:i=j <;> simp [e]];exact .ofBl) h)
  |_=>exact h.elim
 |non =>
  cases ty with
  |non=>rw[rx.non] at rv;rw[ry.non] at ru;exact sc rfl rv ru (k _ _ _ _ .refl sh (by rw[show decide (V.non=V.non)=true by simp];exact .ofBl) h)
  |_=>exact h.elim
 |tup ts =>
  cases ty with
  |tup us=>obtain⟨a,xs,rfl,sq,r⟩:=rx.tup;obtain⟨b,ys,rfl,sq',r'⟩:=ry.tup;cases rv;cases ru;obtain⟨its,rv1,ht,_⟩:=I.tuple sq;obtain⟨its',rv2,ht',_⟩:=I.tuple sq';refine SeqAt.eq_tupleAt (e:=fun j=>decide (ts[j]?=us[j]?)) ht ht' (by omega) (gF I hu h.1 h.2.1 r r' rv1 rv2) ⟨.bl _,H,I,rfl,?_⟩;rw[l_,l_,<- rv1.length,<- rv2.length,<- r.length,<- r'.length,gG];exact k _ _ _ _ .refl sh .ofBl h.2.2
  |_=>exact h.elim
 |ref a =>
  cases ty with
  |ref b =>
   have h':(match H3 a,H3 b with
    |some (.lst xs),some (.lst ys)=>a≠b/\xs.all (pl 20)=true/\ys.all (pl 20)=true/\Q3 (.bl (decide (xs=ys))) H3
    |_,_=>False):=h
   split at h'
   ·
    rename_i ts us e1 e2
    obtain⟨xs,g1,r⟩:=sh a _ e1
    obtain⟨ys,g2,r'⟩:=sh b _ e2
    cases rx.ref;cases ry.ref;cases rv;cases ru
    obtain⟨its,rv1,ht,_⟩:=I.list (X:=X) (.of g1)
    obtain⟨its',rv2,ht',_⟩:=I.list (X:=X) (.of g2)
    have hl:its.length=ts.length:=by rw[<- rv1.length,<- r.length]
    have hl':its'.length=us.length:=by rw[<- rv2.length,<- r'.length]
    by_cases hsz:ts.length=us.length
    ·
     refine SeqAt.eq_listAt (e:=fun j=>decide (ts[j]?=us[j]?)) ht.isList ht'.isList (by simp;omega) (by omega) (gF I hu h'.2.1 h'.2.2.1 r r' rv1 rv2) ⟨.bl _,H,I,rfl,?_⟩
     have e:=gG (ts:=ts) (us:=us)
     rw[<- hsz,Nat.min_self,beq_self_eq_true,X_] at e
     rw[l_,hl,e]
     exact k _ _ _ _ .refl sh .ofBl h'.2.2.2
    ·
     refine SeqAt.eq_list_lengthsAt ht.isList ht'.isList (by simp;omega) (by omega) ⟨.bl false,H,I,rfl,?_⟩
     have e:decide (ts=us)=false:=C_ fun z=>hsz (by rw[z])
     have q:=h'.2.2.2
     rw[e] at q
     exact k _ _ _ _ .refl sh .ofBl q
   ·
    exact h'.elim
  |_=>exact h.elim
 |_=>exact h.elim
theorem iU (hu:X.A.units+30<cLine):dD X (compareOp .NotEq) (qQ true):=by
 intro pins s Z H x y v u Q I rv ru h;obtain⟨tx,ty,H3,Q3,rx,ry,sh,h,k⟩:=h;have sc:∀{x y:V},iB x y=true->RelV x v->RelV y u->(k:Q (.bl (!decide (x=y))) H)->wpAny (model X.prog X.w) X.A (compareOp .NotEq v u) (EP X pins Z Q) X.xe s:=fun {x y} a r1 r2 q=>Py pins s Z H x y v u Q I r1 r2 ⟨a,q⟩;cases tx with
 |int i =>
  cases ty with
  |int j=>rw[rx.int] at rv;rw[ry.int] at ru;exact sc rfl rv ru (k _ _ _ _ .refl sh (by rw[show decide (V.int i=V.int j)=decide (i=j) by by_cases e:i=j <;> simp [e]];exact .ofBl) h)
  |_=>exact h.elim
 |str i =>
  cases ty with
  |str j=>rw[rx.str] at rv;rw[ry.str] at ru;exact sc rfl rv ru (k _ _ _ _ .refl sh (by rw[show decide (V.str i=V.str j)=decide (i=j) by by_cases e:i=j <;> simp [e]];exact .ofBl) h)
  |_=>exact h.elim
 |bl i =>
  cases ty with
  |bl j=>rw[rx.bl] at rv;rw[ry.bl] at ru;exact sc rfl rv ru (k _ _ _ _ .refl sh (by rw[show decide (V.bl i=V.bl j)=decide (i=j) by by_cases e:i=j <;> simp [e]];exact .ofBl) h)
  |_=>exact h.elim
 |non =>
  cases ty with
  |non=>rw[rx.non] at rv;rw[ry.non] at ru;exact sc rfl rv ru (k _ _ _ _ .refl sh (by rw[show decide (V.non=V.non)=true by simp];exact .ofBl) h)
  |_=>exact h.elim
 |tup ts =>
  cases ty with
  |tup us=>obtain⟨a,xs,rfl,sq,r⟩:=rx.tup;obtain⟨b,ys,rfl,sq',r'⟩:=ry.tup;cases rv;cases ru;obtain⟨its,rv1,ht,_⟩:=I.tuple sq;obtain⟨its',rv2,ht',_⟩:=I.tuple sq';refine SeqAt.RcNeAt.tuples (e:=fun j=>decide (ts[j]?=us[j]?)) ht ht' (by omega) (gF I hu h.1 h.2.1 r r' rv1 rv2) _ _ _ _ ⟨.bl _,H,I,rfl,?_⟩;rw[l_,l_,<- rv1.length,<- rv2.length,<- r.length,<- r'.length,gG];exact k _ _ _ _ .refl sh .ofBl h.2.2
  |_=>exact h.elim
 |ref a =>
  cases ty with
  |ref b =>
   have h':(match H3 a,H3 b with
    |some (.lst xs),some (.lst ys)=>a≠b/\xs.all (pl 20)=true/\ys.all (pl 20)=true/\Q3 (.bl (!decide (xs=ys))) H3
    |_,_=>False):=h
   split at h'
   ·
    rename_i ts us e1 e2
    obtain⟨xs,g1,r⟩:=sh a _ e1
    obtain⟨ys,g2,r'⟩:=sh b _ e2
    cases rx.ref;cases ry.ref;cases rv;cases ru
    obtain⟨its,rv1,ht,_⟩:=I.list (X:=X) (.of g1)
    obtain⟨its',rv2,ht',_⟩:=I.list (X:=X) (.of g2)
    have hl:its.length=ts.length:=by rw[<- rv1.length,<- r.length]
    have hl':its'.length=us.length:=by rw[<- rv2.length,<- r'.length]
    by_cases hsz:ts.length=us.length
    ·
     refine SeqAt.RcNeAt.lists (e:=fun j=>decide (ts[j]?=us[j]?)) ht.isList ht'.isList (by simp;omega) (by omega) (gF I hu h'.2.1 h'.2.2.1 r r' rv1 rv2) _ _ _ _ ⟨.bl _,H,I,rfl,?_⟩
     have e:=gG (ts:=ts) (us:=us)
     rw[<- hsz,Nat.min_self,beq_self_eq_true,X_] at e
     rw[l_,hl,e]
     exact k _ _ _ _ .refl sh .ofBl h'.2.2.2
    ·
     refine SeqAt.RcNeAt.lists_lengths ht.isList ht'.isList (by simp;omega) (by omega) _ _ _ _ ⟨.bl true,H,I,rfl,?_⟩
     have e:decide (ts=us)=false:=C_ fun z=>hsz (by rw[z])
     have q:=h'.2.2.2
     rw[e] at q
     exact k _ _ _ _ .refl sh .ofBl q
   ·
    exact h'.elim
  |_=>exact h.elim
 |_=>exact h.elim
def dJ (neg:Bool) (x:T) (ts:List T):Bool:=if neg then !decide (x∈ts) else decide (x∈ts)
def occ (neg:Bool) (i j:Str):Bool:=if neg then !(!(Builtin.Str.occurrences j i 0 j.length 1).isEmpty) else !(Builtin.Str.occurrences j i 0 j.length 1).isEmpty
def tW (neg:Bool):R3:=fun x y H Q=>match y with
 |.tup ts=>pl 20 x=true/\ts.all (pl 20)=true/\Q (.bl (dJ neg x ts)) H
 |.ref a=>match H a with
  |some (.lst ts)=>pl 20 x=true/\ts.all (pl 20)=true/\Q (.bl (dJ neg x ts)) H
  |some (.rol ts)=>pl 20 x=true/\ts.all (pl 20)=true/\Q (.bl (dJ neg x ts)) H
  |_=>False
 |.str j=>match x with
  |.str i=>Q (.bl (occ neg i j)) H
  |_=>False
 |_=>False
theorem pC (I:Inv X pins Z H s) {x:T}{ts:List T}{xs:List V}{its:List Value}(px:pl 20 x=true) (pts:ts.all (pl 20)=true) (r:Reps X.K H ts xs) (rv:Vals xs its) (A:Around) (hu:A.units+30<cLine) {vx:V}{u:Value}(rx:Rep X.K H x vx) (ru:RelV vx u) :
  ∃e:Value->Bool,(∀y,y∈its->SeqAt.EqAt A s y u (e y))/\its.any e=decide (x∈ts):=by
 rw[U_] at pts;have own:∀y,y∈its->∃t v,t∈ts/\Rep X.K H t v/\RelV v y:=fun y hy=>by
  obtain⟨i,hi,e⟩:=List.mem_iff_getElem.mp hy;have hl:=rv.length;have e':its[i]?=some y:=by rw[g_ hi,e]
  have hx:xs[i]?=some xs[i]:=g_ (by omega);obtain⟨z,ez,rz⟩:=rv.get hx;rw[e'] at ez;cases ez;obtain⟨t,et,rt⟩:=r.get' hx;exact⟨t,_,V3 et,rt,rz⟩
 have dec:∀t v y,t∈ts->Rep X.K H t v->RelV v y->(@decide (∃v,RelV v y/\Rep X.K H x v) (Classical.propDecidable _)=true↔t=x):=fun t v y ht rt ry=>by
  rw[@q_ _ (Classical.propDecidable _)];constructor
  ·rintro⟨v',r1,r2⟩;cases r1.inj ry;exact vB I 20 t x _ (pts t ht) px rt r2
  rintro rfl;exact⟨v,ry,rt⟩
 refine⟨fun y=>@decide (∃v,RelV v y/\Rep X.K H x v) (Classical.propDecidable _),fun y hy=>?_,?_⟩
 ·obtain⟨t,v,ht,rt,ry⟩:=own y hy;have q:=vC I 20 A t x v vx y u (pts t ht) px rt rx ry ru (by omega);have e:@decide (∃v,RelV v y/\Rep X.K H x v) (Classical.propDecidable _)=decide (t=x):=by rw[Vi,dec t v y ht rt ry,q_]
  show SeqAt.EqAt A s y u (@decide (∃v,RelV v y/\Rep X.K H x v) (Classical.propDecidable _));rw[e];exact q
 rw[Vi,Wu,q_];constructor
 ·rintro⟨y,hy,e⟩;obtain⟨t,v,ht,rt,ry⟩:=own y hy;rw[<- (dec t v y ht rt ry).mp e];exact ht
 intro hx;obtain⟨i,hi,e⟩:=List.mem_iff_getElem.mp hx;obtain⟨v,ev,rvv⟩:=r.get (show ts[i]?=some x by rw[g_ hi,e]);obtain⟨y,ey,ry⟩:=rv.get ev;exact⟨y,V3 ey,(dec x v y hx rvv ry).mpr rfl⟩
theorem zQ (hu:X.A.units+31<cLine):dD X (compareOp .In) (tW false):=by
 intro pins s Z H x y v u Q I rv ru h;obtain⟨tx,ty,H3,Q3,rx,ry,sh,h,k⟩:=h;have hu':X.A.in1.units+30<cLine:=by rw[units_in1];omega
 have lst:∀{a:Addr} {ts:List T} {xs:List V},SqL X.K H a xs->Reps X.K H ts xs->u=.ref a->pl 20 tx=true->ts.all (pl 20)=true->Q3 (.bl (dJ false tx ts)) H3->wpAny (model X.prog X.w) X.A (compareOp .In v u) (EP X pins Z Q) X.xe s:=by intro a ts xs sq r e p1 p2 q;subst e;obtain⟨its,rvs,ht,_⟩:=I.list sq;obtain⟨e,he,ea⟩:=pC I p1 p2 r rvs X.A.in1 hu' rx rv;refine SeqAt.in_listAt e ht.isList (fun y hy=>he y (by simpa using hy)) ⟨.bl _,H,I,rfl,?_⟩;rw[show its.toArray.any e=its.any e by simp,ea];exact k _ _ _ _ .refl sh .ofBl q
 cases ty with
 |tup ts=>obtain⟨a,xs,rfl,sq,r⟩:=ry.tup;cases ru;obtain⟨its,rvs,ht,_⟩:=I.tuple sq;obtain⟨e,he,ea⟩:=pC I h.1 h.2.1 r rvs X.A.in1 hu' rx rv;refine SeqAt.in_tupleAt e ht (fun y hy=>he y (by simpa using hy)) ⟨.bl _,H,I,rfl,?_⟩;rw[show its.toArray.any e=its.any e by simp,ea];exact k _ _ _ _ .refl sh .ofBl h.2.2
 |ref a =>
  have h':(match H3 a with
   |some (.lst ts)=>pl 20 tx=true/\ts.all (pl 20)=true/\Q3 (.bl (dJ false tx ts)) H3
   |some (.rol ts)=>pl 20 tx=true/\ts.all (pl 20)=true/\Q3 (.bl (dJ false tx ts)) H3
   |_=>False):=h
  rw[ry.ref] at ru
  split at h'
  ·
   rename_i ts e
   obtain⟨xs,sq,r⟩:=sh.sqL (.inl e)
   exact lst sq r ru h'.1 h'.2.1 h'.2.2
  ·
   rename_i ts e
   obtain⟨xs,sq,r⟩:=sh.sqL (.inr e)
   exact lst sq r ru h'.1 h'.2.1 h'.2.2
  ·
   exact h'.elim
 |str j =>
  cases tx with
  |str i=>exact xn pins s Z H x y v u Q I rv ru ⟨i,j,rx.str,ry.str,k _ _ _ _ .refl sh .ofBl h⟩
  |_=>exact h.elim
 |_=>exact h.elim
theorem qR (hu:X.A.units+31<cLine):dD X (compareOp .NotIn) (tW true):=by
 intro pins s Z H x y v u Q I rv ru h;obtain⟨tx,ty,H3,Q3,rx,ry,sh,h,k⟩:=h;have hu':X.A.in1.units+30<cLine:=by rw[units_in1];omega
 have lst:∀{a:Addr} {ts:List T} {xs:List V},SqL X.K H a xs->Reps X.K H ts xs->u=.ref a->pl 20 tx=true->ts.all (pl 20)=true->Q3 (.bl (dJ true tx ts)) H3->wpAny (model X.prog X.w) X.A (compareOp .NotIn v u) (EP X pins Z Q) X.xe s:=by intro a ts xs sq r e p1 p2 q;subst e;obtain⟨its,rvs,ht,_⟩:=I.list sq;obtain⟨e,he,ea⟩:=pC I p1 p2 r rvs X.A.in1 hu' rx rv;refine SeqAt.notIn_listAt e ht.isList (fun y hy=>he y (by simpa using hy)) ⟨.bl _,H,I,rfl,?_⟩;rw[show its.toArray.any e=its.any e by simp,ea];exact k _ _ _ _ .refl sh .ofBl q
 cases ty with
 |tup ts=>obtain⟨a,xs,rfl,sq,r⟩:=ry.tup;cases ru;obtain⟨its,rvs,ht,_⟩:=I.tuple sq;obtain⟨e,he,ea⟩:=pC I h.1 h.2.1 r rvs X.A.in1 hu' rx rv;refine SeqAt.notIn_tupleAt e ht (fun y hy=>he y (by simpa using hy)) ⟨.bl _,H,I,rfl,?_⟩;rw[show its.toArray.any e=its.any e by simp,ea];exact k _ _ _ _ .refl sh .ofBl h.2.2
 |ref a =>
  have h':(match H3 a with
   |some (.lst ts)=>pl 20 tx=true/\ts.all (pl 20)=true/\Q3 (.bl (dJ true tx ts)) H3
   |some (.rol ts)=>pl 20 tx=true/\ts.all (pl 20)=true/\Q3 (.bl (dJ true tx ts)) H3
   |_=>False):=h
  rw[ry.ref] at ru
  split at h'
  ·
   rename_i ts e
   obtain⟨xs,sq,r⟩:=sh.sqL (.inl e)
   exact lst sq r ru h'.1 h'.2.1 h'.2.2
  ·
   rename_i ts e
   obtain⟨xs,sq,r⟩:=sh.sqL (.inr e)
   exact lst sq r ru h'.1 h'.2.1 h'.2.2
  ·
   exact h'.elim
 |str j =>
  cases tx with
  |str i=>exact oV pins s Z H x y v u Q I rv ru ⟨i,j,rx.str,ry.str,k _ _ _ _ .refl sh .ofBl h⟩
  |_=>exact h.elim
 |_=>exact h.elim
def oq {α:Type}(o:Option α) (Q:α->Prop):Prop:=match o with
 |some v=>Q v
 |none=>False
def qT:R3:=fun x y H Q=>match x,y with
 |.ref a,.int i=>match H a with
  |some (.lst ts)=>oq (atI ts i) fun t=>Q t H
  |some (.rol ts)=>oq (atI ts i) fun t=>Q t H
  |_=>False
 |.tup ts,.int i=>oq (atI ts i) fun t=>Q t H
 |.str z,.int i=>z.length<=sizeLine/\oq (atI z.cps.toList i) fun c=>Q (.str ⟨#[c]⟩) H
 |_,_=>False
theorem vG {K:Frag}{H:Hp}{ts:List T}{xs:List V}{i:Int}{t:T}(r:Reps K H ts xs) (h:atI ts i=some t):∃v,atI xs i=some v/\Rep K H t v:=by
 unfold atI at h ⊢;rw[<- r.length];cases e:ixN ts.length i with
 |none=>rw[e] at h;cases h
 |some j =>
 rw[e] at h;exact r.get h
theorem ix3:Qs X qT:=by
 refine IxR.imp KZ ?_;rintro x y H Q ⟨tx,ty,H3,Q3,rx,ry,sh,h,k⟩;have lst:∀{a:Addr} {ts:List T} {xs:List V} {i:Int},SqL X.K H a xs->Reps X.K H ts xs->x=.ref a->y=.int i->oq (atI ts i) (fun t=>Q3 t H3)->rIx X.K x y H Q:=by
  intro a ts xs i sq r e1 e2 q;cases e:atI ts i with
  |none=>rw[e] at q;exact q.elim
  |some t =>
  rw[e] at q;obtain⟨v,ev,rv⟩:=vG r e;exact .inl ⟨a,xs,i,v,e1,e2,sq,ev,k _ _ _ _ .refl sh rv q⟩
 cases tx with
 |ref a =>
  cases ty with
  |int i =>
   have h':(match H3 a with
    |some (.lst ts)=>oq (atI ts i) fun t=>Q3 t H3
    |some (.rol ts)=>oq (atI ts i) fun t=>Q3 t H3
    |_=>False):=h
   split at h'
   ·
    rename_i ts e
    obtain⟨xs,sq,r⟩:=sh.sqL (.inl e)
    exact lst sq r rx.ref ry.int h'
   ·
    rename_i ts e
    obtain⟨xs,sq,r⟩:=sh.sqL (.inr e)
    exact lst sq r rx.ref ry.int h'
   ·
    exact h'.elim
  |_=>exact h.elim
 |tup ts =>
  cases ty with
  |int i =>
   have h':oq (atI ts i) fun t=>Q3 t H3:=h
   cases e:atI ts i with
   |none=>rw[e] at h';exact h'.elim
   |some t =>
    rw[e] at h'
    obtain⟨a,xs,e1,sq,r⟩:=rx.tup
    obtain⟨v,ev,rv⟩:=vG r e
    exact .inr (.inl ⟨a,xs,i,v,e1,ry.int,sq,ev,k _ _ _ _ .refl sh rv h'⟩)
  |_=>exact h.elim
 |str z =>
  cases ty with
  |int i =>
   have h':z.length<=sizeLine/\oq (atI z.cps.toList i) fun c=>Q3 (.str ⟨#[c]⟩) H3:=h
   cases e:atI z.cps.toList i with
   |none=>rw[e] at h';exact h'.2.elim
   |some c =>
    rw[e] at h'
    exact .inr (.inr ⟨z,i,c,rx.str,ry.int,h'.1,e,k _ _ _ _ .refl sh .ofStr h'.2⟩)
  |_=>exact h.elim
 |_=>exact h.elim
def zR:qN:=fun o i v H Q=>match o,i with
 |.ref a,.int k=>match H a with
  |some (.lst ts)=>oq (ixN ts.length k) fun j=>Q (up3 H a (.lst (ts.set j v)))
  |_=>False
 |_,_=>False
theorem SimH.wrL {K:Frag}{H:Hp}{H3:Hp3}{a:Addr}{xs:List V}{ts:List T}{xs':List V}(s:SimH K H3 H) (hH:H a=some (.lst xs)) (r:Reps K H ts xs'):SimH K (up3 H3 a (.lst ts)) (upd H a (.lst xs')):=fun b o e=>by
 have le:TupLe K H (upd H a (.lst xs')):=bF (by rw[hH];exact trivial);by_cases hb:b=a
 ·subst hb;rw[aC] at e;cases e;exact⟨xs',bU,r.mono le⟩
 rw[aD hb] at e;exact (s b o e).stay le fun u q=>by rw[aP hb];exact q
theorem xQ:Ik X zR:=by
 refine PSet.imp set_list ?_;rintro o i v H Q ⟨to,ti,tv,H3,Q3,ro,ri,rv,sh,h,k⟩;cases to with
 |ref a =>
  cases ti with
  |int n =>
   have h':(match H3 a with
    |some (.lst ts)=>oq (ixN ts.length n) fun j=>Q3 (up3 H3 a (.lst (ts.set j tv)))
    |_=>False):=h
   split at h'
   ·
    rename_i ts e
    obtain⟨xs,hH,r⟩:=sh a _ e
    cases ej:ixN ts.length n with
    |none=>rw[ej] at h';exact h'.elim
    |some j =>
     rw[ej] at h'
     exact⟨a,xs,n,j,ro.ref,ri.int,hH,by rw[<- r.length];exact ej,k _ _ (bF (by rw[hH];exact trivial)) (sh.wrL hH (r.set j rv)) h'⟩
   ·
    exact h'.elim
  |_=>exact h.elim
 |_=>exact h.elim
abbrev TO3:=St3->Hp3->(Option Int->Hp3->Prop)->Prop
def Ux (K:Frag) (t3:TO3):TO:=fun Z H Q=>∃Z3 H3 Q3,SimS K H Z3 Z/\SimH K H3 H/\t3 Z3 H3 Q3/\∀o H' H3',TupLe K H H'->SimH K H3' H'->Q3 o H3'->Q o H'
def PO3 (X:Cx) (e:Option Expr) (t:TO3):Prop:=PO X e (Ux X.K t)
theorem PO.imp {e:Option Expr}{t t':TO}(h:PO X e t) (w:∀Z H Q,t' Z H Q->t Z H Q):PO X e t':=fun pins s Z H Q I q=>h pins s Z H Q I (w Z H Q q)
def qU:TO3:=fun _ H Q=>Q none H
def zT (t:TE3):TO3:=fun Z H Q=>t Z H fun x H1=>match x with
 |.int i=>Q (some i) H1
 |_=>False
theorem dC:PO3 X none qU:=by
 refine PO.imp Er ?_;rintro Z H Q ⟨Z3,H3,Q3,ss,sh,h,k⟩;exact k _ _ _ .refl sh h
theorem cG {e:Expr}{te:TE3}(h:PE3 X e te):PO3 X (some e) (zT te):=by
 refine PO.imp (Es h) ?_;rintro Z H Q ⟨Z3,H3,Q3,ss,sh,h,k⟩;refine⟨Z3,H3,_,ss,sh,h,fun v H' t H3' le sh' r q=>?_⟩;cases t with
 |int i=>exact⟨i,r.int,k _ _ _ le sh' q⟩
 |_=>exact q.elim
theorem Le:SlR X (fun x lo hi H Q=>∃z,x=.str z/\z.length<=sizeLine/\Q (.str (Txt.slice z lo hi)) H):=by
 intro pins s Z H x v vl vu lo hi sl Q I rx hs pl pu h;obtain⟨z,rfl,hz,q⟩:=h;obtain⟨t,rfl⟩:=rx;refine⟨"str",_,F.slot_str_getitem.lookup,typeIs_str _ _ _,?_⟩;obtain⟨o,e,c,d⟩:=hs;have fin:∀(t':Tok) (k:Nat),EP X pins Z Q (.str (Txt.slice z lo hi) t') { s with toks:=k}:=fun t' k=>⟨.str _,H,I.tok k,⟨t',rfl⟩,q⟩;cases pl with
 |none =>
  cases pu with
  |none=>exact Xg (l:=none) (u:=none) (st:=none) ⟨o,e,c,d⟩ rfl (post_val_or_str ⟨U8 (Txt.slice_le z _ _) hz,fin⟩)
  |int j uj=>exact Xg (l:=none) (u:=some (j,uj)) (st:=none) ⟨o,e,c,d⟩ rfl (post_val_or_str ⟨U8 (Txt.slice_le z _ _) hz,fin⟩)
 |int i ui =>
 cases pu with
 |none=>exact Xg (l:=some (i,ui)) (u:=none) (st:=none) ⟨o,e,c,d⟩ rfl (post_val_or_str ⟨U8 (Txt.slice_le z _ _) hz,fin⟩)
 |int j uj=>exact Xg (l:=some (i,ui)) (u:=some (j,uj)) (st:=none) ⟨o,e,c,d⟩ rfl (post_val_or_str ⟨U8 (Txt.slice_le z _ _) hz,fin⟩)
def cI (ts:List T) (lo hi:Option Int):List T:=(ts.drop (HT.sIx ts.length 0 lo)).take (HT.sIx ts.length ts.length hi - HT.sIx ts.length 0 lo)
def Fq:T->Option Int->Option Int->Hp3->VK3->Prop:=fun x lo hi H Q=>match x with
 |.ref a=>match H a with
  |some (.lst ts)=>∀p,H p=none->Q (.ref p) (up3 H p (.lst (cI ts lo hi)))
  |some (.rol ts)=>∀p,H p=none->Q (.ref p) (up3 H p (.lst (cI ts lo hi)))
  |_=>False
 |.tup ts=>¬(HT.sIx ts.length 0 lo=0/\HT.sIx ts.length ts.length hi=ts.length)/\Q (.tup (cI ts lo hi)) H
 |.str z=>z.length<=sizeLine/\Q (.str (Txt.slice z lo hi)) H
 |_=>False
def Qv (te:TE3) (tl th:TO3):TE3:=fun Z H Q=>te Z H fun x H1=>tl Z H1 fun l H2=>th Z H2 fun u H3=>Fq x l u H3 Q
theorem jZ {K:Frag}{H:Hp}{ts:List T}{xs:List V}(r:Reps K H ts xs) (lo hi:Option Int):Reps K H (cI ts lo hi) (qz xs lo hi):=by
 unfold cI qz;rw[<- r.length];exact (r.drop _).take _
theorem iV {e:Expr}{lo hi:Option Expr}{te:TE3}{tl th:TO3}{p2 pos:Pos}(he:PE3 X e te) (hl:PO3 X lo tl) (hu:PO3 X hi th):PE3 X (.Subscript e (.Slice lo hi none p2) pos) (Qv te tl th):=by
 refine PE.imp (qy (sl_list.or (sl_tup.or Le)) he hl hu) ?_;rintro Z H Q ⟨Z3,H3,Q3,ss,sh,h,k⟩;refine⟨Z3,H3,_,ss,sh,h,fun x H1 tx H31 le1 sh1 rx q1=>⟨Z3,H31,_,ss.mono le1,sh1,q1,fun l H2 H32 le2 sh2 q2=>⟨Z3,H32,_,ss.mono (le1.trans le2),sh2,q2,fun u H4 H34 le4 sh4 q4=>?_⟩⟩⟩;have k':=k.at (le1.trans (le2.trans le4));have rx':=rx.mono (le2.trans le4);cases tx with
 |ref a =>
  have h':(match H34 a with
   |some (.lst ts)=>∀p,H34 p=none->Q3 (.ref p) (up3 H34 p (.lst (cI ts l u)))
   |some (.rol ts)=>∀p,H34 p=none->Q3 (.ref p) (up3 H34 p (.lst (cI ts l u)))
   |_=>False):=q4
  split at h'
  ·
   rename_i ts e
   obtain⟨xs,sq,r⟩:=sh4.sqL (.inl e)
   exact .inl ⟨a,xs,rx'.ref,sq,fun p hp=>k' _ _ _ _ (aL hp) (sh4.newLst hp (jZ r l u)) .ofRef (h' p (sh4.fresh hp))⟩
  ·
   rename_i ts e
   obtain⟨xs,sq,r⟩:=sh4.sqL (.inr e)
   exact .inl ⟨a,xs,rx'.ref,sq,fun p hp=>k' _ _ _ _ (aL hp) (sh4.newLst hp (jZ r l u)) .ofRef (h' p (sh4.fresh hp))⟩
  ·
   exact h'.elim
 |tup ts=>obtain⟨a,xs,rfl,sq,r⟩:=rx'.tup;refine .inr (.inl ⟨a,xs,rfl,sq,by rw[<- r.length];exact q4.1,fun p hp=>k' _ _ _ _ (aL hp) (sh4.new hp) (SimH.newTup (H3:=H34) hp (jZ r l u)) q4.2⟩)
 |str z=>exact .inr (.inr ⟨z,rx'.str,q4.1,k' _ _ _ _ .refl sh4 .ofStr q4.2⟩)
 |_=>exact q4.elim
def aN (k:Str):List (Str × T)->Option T
 |[]=>none
 | (k',v)::r=>if k'=k then some v else aN k r
def put3 (k:Str) (v:T) (kvs:List (Str × T)):List (Str × T) :=
 if (kvs.any fun kv=>decide (kv.1=k))=true then kvs.map (fun kv=>if kv.1=k then (kv.1,v) else kv) else kvs++[(k,v)]
def r3D:R3:=fun x y H Q=>match x,y with
 |.ref a,.str k=>match H a with
  |some (.dct kvs)=>oq (aN k kvs) fun t=>Q t H
  |_=>False
 |_,_=>False
theorem qW {K:Frag}{H:Hp}{k:Str}:∀{kvs:List (Str × T)}{vs:List (Key × V)}{t:T},RepD K H kvs vs->aN k kvs=some t->∃v,dR vs (Sum.inr k:Key)=some v/\Rep K H t v
 |[],_,_,_,e=>by cases e
 | (k',t')::r,_,t,.cons (b:=(kk,v')) ⟨e1,rv⟩ rr,e=>by
  simp only at e1 rv
  subst e1
  unfold aN at e
  by_cases hk:k'=k
  ·
   rw[if_pos hk] at e
   cases e
   exact⟨v',by rw[dU (by rw[hk])],rv⟩
  ·
   rw[if_neg hk] at e
   obtain⟨v,ev,q⟩:=qW rr e
   exact⟨v,by rw[dW (by intro z;exact hk (Sum.inr.inj z))];exact ev,q⟩
theorem fX {o i:Expr}{to ti:TE3}{pos:Pos}(hu:X.A.units+1<cLine) (ho:PE3 X o to) (hi:PE3 X i ti) (hs:Ew i:=by exact fun _ _=>rfl):PE3 X (.Subscript o i pos) (qL r3D to ti):=by
 refine PE.imp (u6 hu ho hi hs) ?_;rintro Z H Q ⟨Z3,H3,Q3,ss,sh,h,k⟩;refine⟨Z3,H3,_,ss,sh,h,fun x H1 tx H31 le1 sh1 rx q1=>⟨Z3,H31,_,ss.mono le1,sh1,q1,fun y H2 ty H32 le2 sh2 ry q2=>?_⟩⟩;cases tx with
 |ref a =>
  cases ty with
  |str key =>
   have h':(match H32 a with
    |some (.dct kvs)=>oq (aN key kvs) fun t=>Q3 t H32
    |_=>False):=q2
   split at h'
   ·
    rename_i kvs e
    obtain⟨vs,hH,r⟩:=sh2 a _ e
    cases el:aN key kvs with
    |none=>rw[el] at h';exact h'.elim
    |some t =>
     rw[el] at h'
     obtain⟨v,ev,rv⟩:=qW r el
     refine⟨a,v,rx.ref,?_,k.at (le1.trans le2) _ _ _ _ .refl sh2 rv h'⟩
     rw[ry.str,<- ev]
     exact DGet.k (k:=Sum.inr key) hH
   ·
    exact h'.elim
  |_=>exact q2.elim
 |_=>exact q2.elim
def zU (td ty tv:TE3):TS3:=fun D Z H=>tv Z H fun v H1=>td Z H1 fun x H2=>ty Z H2 fun y H3=>match x,y with
 |.ref a,.str k=>match H3 a with
  |some (.dct kvs)=>kvs.length<sizeLine/\D.nx Z (up3 H3 a (.dct (put3 k v kvs)))
  |_=>False
 |_,_=>False
theorem Ft {K:Frag}{H:Hp}{k:Str}{t:T}{v:V}(rv:Rep K H t v) {kvs:List (Str × T)}{vs:List (Key × V)}(r:RepD K H kvs vs):RepD K H (put3 k t kvs) (putK vs (Sum.inr k:Key) v):=by
 have e:∀{kvs:List (Str × T)} {vs:List (Key × V)},RepD K H kvs vs->(kvs.any fun kv=>decide (kv.1=k))=(vs.any fun kv=>decide (kv.1=(Sum.inr k:Key)))/\RepD K H (kvs.map (fun kv=>if kv.1=k then (kv.1,t) else kv)) (vs.map (fun kv=>if kv.1=(Sum.inr k:Key) then (kv.1,v) else kv)):=by
  intro kvs;induction kvs with
  |nil=>intro vs r;cases r;exact⟨rfl,.nil⟩
  |cons p l ih =>
  intro vs r;cases r with
  |cons q rr =>
  rename_i b l2;obtain⟨e1,e2⟩:=ih rr;obtain⟨q1,q2⟩:=q;obtain⟨bk,bv⟩:=b;simp only at q1 q2;subst q1;by_cases hk:p.1=k
  ·refine⟨by simp [hk],?_⟩;simp only[A_,hk,if_true];exact .cons ⟨rfl,rv⟩ e2
  have hk':¬(Sum.inr p.1:Key)=Sum.inr k:=fun z=>hk (Sum.inr.inj z);refine⟨by simp only[X8,hk,hk',Wl,Bool.false_or];exact e1,?_⟩;simp only[A_,hk,hk',U7];exact .cons ⟨rfl,q2⟩ e2
 obtain⟨e1,e2⟩:=e r;unfold put3 putK;rw[e1];split
 ·exact e2
 have app:∀{a:List (Str × T)} {b:List (Key × V)},RepD K H a b->RepD K H (a++[(k,t)]) (b++[((Sum.inr k:Key),v)]):=fun h=>Paired.snoc h ⟨rfl,rv⟩;exact app r
theorem SimH.wrD {K:Frag}{H:Hp}{H3:Hp3}{a:Addr}{kv:List (Key × V)}{kvs:List (Str × T)}{kv':List (Key × V)}(s:SimH K H3 H) (hH:H a=some (.dK kv)) (r:RepD K H kvs kv'):SimH K (up3 H3 a (.dct kvs)) (upd H a (.dK kv')):=fun b o e=>by
 have le:TupLe K H (upd H a (.dK kv')):=bF (by rw[hH];exact trivial);by_cases hb:b=a
 ·subst hb;rw[aC] at e;cases e;exact⟨kv',bU,r.mono le⟩
 rw[aD hb] at e;exact (s b o e).stay le fun u q=>by rw[aP hb];exact q
theorem vH {o i value:Expr}{td ty tv:TE3}{pos pos':Pos}(hu:X.A.units+1<cLine) (ho:PE3 X o td) (hi:PE3 X i ty) (hv:PE3 X value tv) (hs:swapsWith value (some (.Subscript o i pos')) pos.line X.env=pure false:=by rfl) :
  PS3 X (.Assign [.Subscript o i pos'] value pos) (zU td ty tv):=by
 refine PS.imp (Ez hu ho hi hv hs) ?_;rintro D Z H ⟨Z3,H3,D3,ss,sh,h,k1,_⟩;refine⟨Z3,H3,_,ss,sh,h,fun v H1 tv H31 le1 sh1 rv q1=>⟨Z3,H31,_,ss.mono le1,sh1,q1,fun x H2 tx H32 le2 sh2 rx q2=>⟨Z3,H32,_,ss.mono (le1.trans le2),sh2,q2,fun y H4 ty H34 le4 sh4 ry q4=>?_⟩⟩⟩;cases tx with
 |ref a =>
  cases ty with
  |str key =>
   have h':(match H34 a with
    |some (.dct kvs)=>kvs.length<sizeLine/\D3.nx Z3 (up3 H34 a (.dct (put3 key tv kvs)))
    |_=>False):=q4
   split at h'
   ·
    rename_i kvs e
    obtain⟨vs,hH,r⟩:=sh4 a _ e
    have rvv:=rv.mono (le2.trans le4)
    have le5:TupLe X.K H4 (upd H4 a (.dK (putK vs (Sum.inr key:Key) v))):=bF (by rw[hH];exact trivial)
    refine⟨a,_,(rx.mono le4).ref,?_,k1 _ _ _ _ (le1.trans (le2.trans (le4.trans le5))) (ss.mono (le1.trans (le2.trans (le4.trans le5)))) (sh4.wrD hH (Ft rvv r)) h'.2⟩
    rw[ry.str]
    exact DPut.k (k:=Sum.inr key) hH (by rw[<- Xx r];exact h'.1)
   ·
    exact h'.elim
  |_=>exact q4.elim
 |_=>exact q4.elim
def Qw:List (Str × TE3)->St3->Hp3->(List (Str × T)->Hp3->Prop)->Prop
 |[],_,H,Q=>Q [] H
 | (k,tv)::r,Z,H,Q=>tv Z H fun y H2=>Qw r Z H2 fun ps H3=>Q ((k,y)::ps) H3
def Uy (kvs more:List (Str × T)):List (Str × T):=more.foldl (fun acc kv=>put3 kv.1 kv.2 acc) kvs
def Lf (trs:List (Str × TE3)):TE3:=fun Z H Q=>∀p,H p=none->Qw trs Z (up3 H p (.dct [])) fun ps H2=>H2 p=some (.dct [])/\ps.length<=15/\Q (.ref p) (up3 H2 p (.dct (Uy [] ps)))
variable {x:Str}{p pos:Pos}{e:Expr}{es:List Expr}{t:TA3}{id Ty:String}{r:List T->Hp3->VK3->Prop}
def Lg (r:List T->Hp3->VK3->Prop) (t:TA3):TE3:=fun Z H Q=>t Z H fun vs H1=>r vs H1 Q
theorem aW (hc:fP X (.builtin id) r) (hg:Gl X x) (hm:X.mg x=none) (hv:bootBuiltins x=some (.builtin id)) (ha:PA3 X (e::es) t) (hn:x≠"__name__":=by decide) (hdb:(x==("__debug__":Str))=false:=by decide)
  (he:starEach (e::es) X.env=(false,eval e X.env)::starEach es X.env:=by rfl) (hpl:(backTo pos (starEach es X.env)).any (·.1)=false:=by rfl):PE3 X (.Call (.Name x p) (e::es) [] pos) (Lg r t):=by
 refine PE.imp (zc hc hg hm hv ha hn hdb he hpl) ?_;rintro Z H Q ⟨Z3,H3,Q3,ss,sh,h,k⟩;exact⟨Z3,H3,_,ss,sh,h,fun vs H' ts H3' le sh' r q=>⟨ts,H3',Q3,r,sh',q,k.at le⟩⟩
theorem bc (hc:fP X (.type Ty) r) (hg:Gl X x) (hm:X.mg x=none) (hv:bootBuiltins x=some (.type Ty)) (ha:PA3 X (e::es) t) (hn:x≠"__name__":=by decide) (hdb:(x==("__debug__":Str))=false:=by decide)
  (he:starEach (e::es) X.env=(false,eval e X.env)::starEach es X.env:=by rfl) (hpl:(backTo pos (starEach es X.env)).any (·.1)=false:=by rfl):PE3 X (.Call (.Name x p) (e::es) [] pos) (Lg r t):=by
 refine PE.imp (xG hc hg hm hv ha hn hdb he hpl) ?_;rintro Z H Q ⟨Z3,H3,Q3,ss,sh,h,k⟩;exact⟨Z3,H3,_,ss,sh,h,fun vs H' ts H3' le sh' r q=>⟨ts,H3',Q3,r,sh',q,k.at le⟩⟩
theorem Reps.one' {K:Frag}{H:Hp}{t:T}{vs:List V}(r:Reps K H [t] vs):∃v,vs=[v]/\Rep K H t v:=by
 obtain⟨v,_,rfl,a,b⟩:=r.inv;rw[b.inv0];exact⟨v,rfl,a⟩
theorem Reps.two' {K:Frag}{H:Hp}{t u:T}{vs:List V}(r:Reps K H [t,u] vs):∃v w,vs=[v,w]/\Rep K H t v/\Rep K H u w:=by
 obtain⟨v,_,rfl,a,b⟩:=r.inv;obtain⟨w,rfl,c⟩:=b.one';exact⟨v,w,rfl,a,c⟩
def vI:List T->Hp3->VK3->Prop:=fun ts H Q=>match ts with
 |[.ref a]=>match H a with
  |some (.lst xs)=>Q (.int xs.length) H
  |some (.rol xs)=>Q (.int xs.length) H
  |_=>False
 |[.tup xs]=>Q (.int xs.length) H
 |[.str z]=>z.length<=sizeLine/\Q (.int z.length) H
 |_=>False
theorem bW:fP X (.builtin "len") vI:=by
 refine CallR.imp (call_len_seq.or o4) ?_;rintro xs H Q ⟨ts,H3,Q3,r,sh,h,k⟩
 match ts,h,r with
 |[.ref a],h,r =>
  obtain⟨v,rfl,rv⟩:=r.one';have h':(match H3 a with
   |some (.lst xs)=>Q3 (.int xs.length) H3
   |some (.rol xs)=>Q3 (.int xs.length) H3
   |_=>False):=h
  split at h'
  ·rename_i us e;obtain⟨ys,sq,rs⟩:=sh.sqL (.inl e);exact .inl ⟨a,ys,by rw[rv.ref],.inl sq,by rw[<- rs.length];exact k _ _ _ _ .refl sh .ofInt h'⟩
  ·rename_i us e;obtain⟨ys,sq,rs⟩:=sh.sqL (.inr e);exact .inl ⟨a,ys,by rw[rv.ref],.inl sq,by rw[<- rs.length];exact k _ _ _ _ .refl sh .ofInt h'⟩
  exact h'.elim
 |[.tup us],h,r=>obtain⟨v,rfl,rv⟩:=r.one';obtain⟨a,ys,rfl,sq,rs⟩:=rv.tup;exact .inl ⟨a,ys,rfl,.inr sq,by rw[<- rs.length];exact k _ _ _ _ .refl sh .ofInt h⟩
 |[.str z],h,r =>
 obtain⟨v,rfl,rv⟩:=r.one';exact .inr ⟨z,by rw[rv.str],h.1,k _ _ _ _ .refl sh .ofInt h.2⟩
def pF:List T->Hp3->VK3->Prop:=fun ts H Q=>match ts with
 |[.ref a]=>match H a with
  |some (.lst xs)=>∀p,H p=none->Q (.ref p) (up3 H p (.lst xs))
  |some (.rol xs)=>∀p,H p=none->Q (.ref p) (up3 H p (.lst xs))
  |_=>False
 |[.tup xs]=>∀p,H p=none->Q (.ref p) (up3 H p (.lst xs))
 |_=>False
theorem pG:fP X (.type "list") pF:=by
 refine CallR.imp o5 ?_;rintro xs H Q ⟨ts,H3,Q3,r,sh,h,k⟩
 match ts,h,r with
 |[.ref a],h,r =>
  obtain⟨v,rfl,rv⟩:=r.one';have h':(match H3 a with
   |some (.lst xs)=>∀p,H3 p=none->Q3 (.ref p) (up3 H3 p (.lst xs))
   |some (.rol xs)=>∀p,H3 p=none->Q3 (.ref p) (up3 H3 p (.lst xs))
   |_=>False):=h
  split at h'
  ·rename_i us e;obtain⟨ys,sq,rs⟩:=sh.sqL (.inl e);exact⟨a,ys,by rw[rv.ref],.inl sq,fun l hl=>k _ _ _ _ (aL hl) (sh.newLst hl rs) .ofRef (h' l (sh.fresh hl))⟩
  ·rename_i us e;obtain⟨ys,sq,rs⟩:=sh.sqL (.inr e);exact⟨a,ys,by rw[rv.ref],.inl sq,fun l hl=>k _ _ _ _ (aL hl) (sh.newLst hl rs) .ofRef (h' l (sh.fresh hl))⟩
  exact h'.elim
 |[.tup us],h,r =>
 obtain⟨v,rfl,rv⟩:=r.one';obtain⟨a,ys,rfl,sq,rs⟩:=rv.tup;exact⟨a,ys,rfl,.inr sq,fun l hl=>k _ _ _ _ (aL hl) (sh.newLst hl rs) .ofRef (h l (sh.fresh hl))⟩
def pH:List T->Hp3->VK3->Prop:=fun ts H Q=>match ts with
 |[.ref a]=>match H a with
  |some (.lst xs)=>Q (.tup xs) H
  |some (.rol xs)=>Q (.tup xs) H
  |_=>False
 |[.tup xs]=>Q (.tup xs) H
 |_=>False
theorem bY:fP X (.type "tuple") pH:=by
 refine CallR.imp mJ ?_;rintro xs H Q ⟨ts,H3,Q3,r,sh,h,k⟩
 match ts,h,r with
 |[.ref a],h,r =>
  obtain⟨v,rfl,rv⟩:=r.one';have h':(match H3 a with
   |some (.lst xs)=>Q3 (.tup xs) H3
   |some (.rol xs)=>Q3 (.tup xs) H3
   |_=>False):=h
  split at h'
  ·rename_i us e;obtain⟨ys,sq,rs⟩:=sh.sqL (.inl e);exact⟨a,ys,by rw[rv.ref],.inl ⟨sq,fun l hl=>k _ _ _ _ (aL hl) (sh.new hl) (SimH.newTup (H3:=H3) hl rs) h'⟩⟩
  ·rename_i us e;obtain⟨ys,sq,rs⟩:=sh.sqL (.inr e);exact⟨a,ys,by rw[rv.ref],.inl ⟨sq,fun l hl=>k _ _ _ _ (aL hl) (sh.new hl) (SimH.newTup (H3:=H3) hl rs) h'⟩⟩
  exact h'.elim
 |[.tup us],h,r =>
 obtain⟨v,rfl,rv⟩:=r.one';obtain⟨a,ys,rfl,sq,rs⟩:=rv.tup;exact⟨a,ys,rfl,.inr ⟨sq,k _ _ _ _ .refl sh (.ofTup sq rs) h⟩⟩
def zV:List T->Hp3->VK3->Prop:=fun ts H Q=>match ts with
 |[.int i]=>Q (.int i) H
 |[.bl b]=>Q (.int (if b then 1 else 0)) H
 |_=>False
theorem Fv:fP X (.type "int") zV:=by
 refine CallR.imp xq ?_;rintro xs H Q ⟨ts,H3,Q3,r,sh,h,k⟩
 match ts,h,r with
 |[.int i],h,r=>obtain⟨v,rfl,rv⟩:=r.one';exact .inl ⟨i,by rw[rv.int],k _ _ _ _ .refl sh .ofInt h⟩
 |[.bl b],h,r =>
 obtain⟨v,rfl,rv⟩:=r.one';exact .inr ⟨b,by rw[rv.bl],k _ _ _ _ .refl sh .ofInt h⟩
def ints3:List T->Option (List Int)
 |[]=>some []
 |.int i::r=>(ints3 r).map (i::·)
 |_=>none
theorem ju:∀(ns:List Int),ints3 (ns.map T.int)=some ns
 |[]=>rfl
 |n::r=>by simp [ints3,ju r]
theorem lw {K:Frag}{H:Hp}:∀{ts:List T}{xs:List V}{us:List Value}{ns:List Int},ints3 ts=some ns->Reps K H ts xs->Vals xs us->IntsAre us ns
 |[],xs,us,ns,e,r,v=>by
  cases e
  rw[r.inv0] at v
  cases v
  exact .nil
 |.int i::l,xs,us,ns,e,r,v=>by
  obtain⟨x,xr,rfl,rx,rr⟩:=r.inv
  cases v with
  |cons a b =>
   rw[rx.int] at a
   obtain⟨t,rfl⟩:=a
   cases hl:ints3 l with
   |none=>simp [ints3,hl] at e
   |some ms =>
    simp [ints3,hl] at e
    subst e
    exact .cons _ _ (lw hl rr b)
 |.non::_,_,_,_,e,_,_=>by simp [ints3] at e
 |.bl _::_,_,_,_,e,_,_=>by simp [ints3] at e
 |.str _::_,_,_,_,e,_,_=>by simp [ints3] at e
 |.tup _::_,_,_,_,e,_,_=>by simp [ints3] at e
 |.ref _::_,_,_,_,e,_,_=>by simp [ints3] at e
 |.ty _::_,_,_,_,e,_,_=>by simp [ints3] at e
variable {o:Expr}{to:TE3}{name:Str}{apos cpos:Pos}{m:T->List T->Hp3->VK3->Prop}
def ty3 (Ty:String):T->Hp3->Prop:=fun x H=>match x with
 |.str _=>Ty="str"
 |.tup _=>Ty="tuple"
 |.ref a=>Ty="list"/\match H a with
  |some (.lst _)=>True
  |some (.rol _)=>True
  |_=>False
 |_=>False
theorem Ir {K:Frag}{H:Hp}{H3:Hp3}{t:T}{v:V}(sh:SimH K H3 H) (r:Rep K H t v) (h:ty3 Ty t H3):tyV K Ty v H:=by
 cases t with
 |str z=>rw[r.str];exact h
 |tup ts=>obtain⟨a,xs,rfl,sq,_⟩:=r.tup;exact .inr (.inl ⟨h,xs,sq⟩)
 |ref a =>
  rw[r.ref];refine .inl ⟨h.1,?_⟩;have h2:=h.2;cases e:H3 a with
  |none=>rw[e] at h2;exact h2.elim
  |some o =>
  rw[e] at h2;cases o with
  |lst ts=>obtain⟨xs,sq,_⟩:=sh.sqL (.inl e);exact⟨xs,sq⟩
  |rol ts=>obtain⟨xs,sq,_⟩:=sh.sqL (.inr e);exact⟨xs,sq⟩
  |dct _=>exact h2.elim
  |dcp _=>exact h2.elim
  |exc _ _=>exact h2.elim
  |xdt _=>exact h2.elim
  |dci _=>exact h2.elim
  |dif _ _=>exact h2.elim
  |ins _ _=>exact h2.elim
 |_=>exact h.elim
def Qx (Ty:String) (m:T->List T->Hp3->VK3->Prop) (to:TE3) (t:TA3):TE3:=fun Z H Q=>to Z H fun x H1=>ty3 Ty x H1/\t Z H1 fun xs H2=>m x xs H2 Q
theorem cN (pa:PlainAttrs Ty) (slot:Slot Ty name id) (hty:typeOf (.builtin id)=pure (.type "method_descriptor")) (hm:tV X id m) (ho:PE3 X o to) (ha:PA3 X (e::es) t)
  (hbase:attributeBase o name X.env (eval o X.env)=eval o X.env:=by rfl)
  (hfew:((backTo cpos (starEach (e::es) X.env)).all (fun x=>!x.1)&&(backToKw cpos (keywordEach [] X.env)).all (fun x=>x.1.isSome)
   && decide ((e::es).length+([]:List Keyword).length+(if ([]:List Keyword).isEmpty then 0 else 1)<30))=true:=by rfl)
  (hline:(apos.endLine==cpos.line)=true:=by rfl) (hs:starEach (e::es) X.env=(false,eval e X.env)::starEach es X.env:=by rfl) (hplain:(backTo cpos (starEach es X.env)).any (·.1)=false:=by rfl) :
  PE3 X (.Call (.Attribute o name apos) (e::es) [] cpos) (Qx Ty m to t):=by
 refine PE.imp (Qj pa slot hty hm ho ha hbase hfew hline hs hplain) ?_;rintro Z H Q ⟨Z3,H3,Q3,ss,sh,h,k⟩;exact⟨Z3,H3,_,ss,sh,h,fun x H1 tx H31 le1 sh1 rx q1=>⟨Ir sh1 rx q1.1,Z3,H31,_,ss.mono le1,sh1,q1.2,fun vs H2 ts H32 le2 sh2 rs q2=>⟨tx,ts,H32,Q3,rx.mono le2,rs,sh2,q2,k.at (le1.trans le2)⟩⟩⟩
def Iu:T->List T->Hp3->VK3->Prop:=fun x ts H Q=>match x,ts with
 |.ref a,[t]=>match H a with
  |some (.lst xs)=>xs.length<sizeLine/\Q .non (up3 H a (.lst (xs++[t])))
  |_=>False
 |_,_=>False
theorem bu:tV X "list.append" Iu:=by
 refine MtR.imp xH ?_;rintro x xs H Q ⟨tx,ts,H3,Q3,rx,rs,sh,h,k⟩
 match tx,ts,h,rx,rs with
 |.ref a,[t],h,rx,rs =>
 obtain⟨v,rfl,rv⟩:=rs.one';have h':(match H3 a with
  |some (.lst xs)=>xs.length<sizeLine/\Q3 .non (up3 H3 a (.lst (xs++[t])))
  |_=>False):=h
 split at h'
 ·rename_i ls e;obtain⟨ys,hH,r⟩:=sh a _ e;exact⟨a,ys,v,rx.ref,rfl,hH,by rw[<- r.length];exact h'.1,k _ _ _ _ (bF (by rw[hH];exact trivial)) (sh.wrL hH (r.append (.cons rv .nil))) .ofNon h'.2⟩
 exact h'.elim
def vJ:T->List T->Hp3->VK3->Prop:=fun x ts H Q=>match x,ts with
 |.ref a,[.int i]=>match H a with
  |some (.lst xs)=>oq (ixN xs.length i) fun j=>oq (xs[j]?) fun t=>Q t (up3 H a (.lst (xs.eraseIdx j)))
  |_=>False
 |_,_=>False
theorem zW:tV X "list.pop" vJ:=by
 intro pins s Z H x xs v us Q I rx0 rs0 hh;obtain⟨tx,ts,H3,Q3,rx,rs,sh,h,k⟩:=hh;refine zm pins s Z H x xs v us Q I rx0 rs0 ?_
 match tx,ts,h,rx,rs with
 |.ref a,[.int i],h,rx,rs =>
 obtain⟨w,rfl,rv⟩:=rs.one';have h':(match H3 a with
  |some (.lst xs)=>oq (ixN xs.length i) fun j=>oq (xs[j]?) fun t=>Q3 t (up3 H3 a (.lst (xs.eraseIdx j)))
  |_=>False):=h
 split at h'
 ·rename_i ls e;obtain⟨ys,hH,r⟩:=sh a _ e;have hz:=(I.lstM hH).1;cases ej:ixN ls.length i with
  |none=>rw[ej] at h';exact h'.elim
  |some j =>
  rw[ej] at h';cases et:ls[j]? with
  |none=>simp only[oq,et] at h'
  |some t =>
   have h2:Q3 t (up3 H3 a (.lst (ls.eraseIdx j))):=by simpa only[oq,et] using h'
   obtain⟨g1,g2,g3,g4⟩:=oX ej
   obtain⟨y,ey,ry⟩:=r.get et
   have hl:=r.length
   have hb:=dO
   have le:TupLe X.K H (upd H a (.lst (ys.eraseIdx j))):=bF (by rw[hH];exact trivial)
   exact⟨a,ys,i,j,y,rx.ref,by rw[rv.int],hH,by omega,by omega,by rw[<- hl];exact g1,ey,k _ _ _ _ le (sh.wrL hH (r.eraseIdx j)) (ry.mono le) h2⟩
 exact h'.elim
def vK:T->List T->Hp3->VK3->Prop:=fun x ts H Q=>match x,ts with
 |.str z,[.str y]=>match Builtin.Str.occurrences z y 0 z.length 1 with
  |i::_=>Q (.int i) H
  |[]=>False
 |_,_=>False
theorem zX:tV X "str.index" vK:=by
 intro pins s Z H x xs v us Q I rx0 rs0 hh;obtain⟨tx,ts,H3,Q3,rx,rs,sh,h,k⟩:=hh
 match tx,ts,h,rx,rs with
 |.str z,[.str y],h,rx,rs =>
 obtain⟨w,rfl,rv⟩:=rs.one';obtain⟨u,rfl,ru⟩:=vals1 rs0;rw[rv.str] at ru;obtain⟨t',rfl⟩:=ru;rw[rx.str] at rx0;obtain⟨t,rfl⟩:=rx0;have h':(match Builtin.Str.occurrences z y 0 z.length 1 with
  |i::_=>Q3 (.int i) H3
  |[]=>False):=h
 split at h'
 ·rename_i i rest e;exact SC.index e ⟨.int i,H,I.tok _,⟨_,rfl⟩,k _ _ _ _ .refl sh .ofInt h'⟩
 exact h'.elim
end
def compLook (n0:List (Str × NameKind)) (N:List Str) (kind:Bool) (names:List (Str × NameKind)) (N':List Str) (nt:Nat) (cap:List Nat):Bool :=
 kind&&names.all (fun y=>y.2 != .cell||names.lookup y.1==some .cell)&&names.all (fun x=>x.2 != .local||names.lookup x.1==some .local)&&names.all (fun y=>y.2 != .free||n0.lookup y.1==some .cell||n0.lookup y.1==some .free)
  && N'.length==nt+cap.length&&(List.range cap.length).all fun j=>match N'[nt+j]?,cap[j]? with
   |some x,some i=>N[i]?==some x&&names.lookup x==some .free
   |_,_=>false
theorem bB {X:Cx}{N':List Str}{nt:Nat}{cap:List Nat}{scope:Scope}{n0:List (Str × NameKind)}{N:List Str}(h0:X.env.scope.names=n0) (hN:X.N=N)
  (h:compLook n0 N (scope.kind==.function) scope.names N' nt cap=true):CompSc X N' nt cap scope:=by
 unfold compLook at h;simp only[Vf,U_,W9,bne_iff_ne,Bool.or_eq_true,I_] at h;obtain⟨⟨⟨⟨⟨h1,h2⟩,h3⟩,h4⟩,h5⟩,h6⟩:=h;refine⟨h1,fun y hy e=>(h2 y hy).resolve_left fun z=>z e,fun x hx e=>(h3 x hx).resolve_left fun z=>z e,fun y hy e=>?_,h5,fun j x e=>?_⟩
 ·show X.env.scope.names.lookup y.1=_\/X.env.scope.names.lookup y.1=_;rw[h0];rcases h4 y hy with (z | z) | z
  ·exact absurd e z
  ·exact .inl z
  exact .inr z
 have hj:j<cap.length:=by have:=(VG.mp e).1;omega
 have q:=h6 j hj;rw[e] at q;cases ec:cap[j]? with
 |none=>rw[ec] at q;cases q
 |some i =>
 rw[ec] at q;simp only[Vf,W9] at q;exact⟨i,rfl,by rw[hN];exact q.1,q.2⟩
def Lh (n00 names:List (Str × NameKind)):List (Str × NameKind):=names.map fun (n,k)=>if (k==NameKind.free&&n00.lookup n==some .cell)=true then (n,NameKind.cell) else (n,k)
theorem Fw {X:Cx}{N0 N':List Str}{nt:Nat}{cap:List Nat}{scope0 scope:Scope}{n00:List (Str × NameKind)}{N:List Str}{cl:List (Str × Addr)}{pins:List (Addr × Obj)}{s:Shared}{H:Hp}{C:Addr}{fp:List Addr}
  (h0:X.env.scope.names=n00) (hk:X.env.scope.kind=.function) (hN:N0=N) (h:compLook (Lh n00 scope0.names) N (scope.kind==.function) scope.names N' nt cap=true):CompSc (bJ X N0 scope0 cl pins s H C fp) N' nt cap scope:=by
 refine bB (n0:=Lh n00 scope0.names) (N:=N) ?_ hN h;show (relabel scope0 X.env).names=_;unfold relabel Lh;dsimp only;refine VR fun y hy=>?_;obtain⟨n,k⟩:=y;have e:X.env.kindOf n=n00.lookup n:=by unfold Env.kindOf;rw[h0]
 simp only[e,hk,beq_self_eq_true,X_]
structure G3 (K:Frag) (mg:Str->Option Value) (x:Str) (st:Stmt) (ps:List Str) (f:Addr) (fd:FuncData):Prop where
 fn:Fun K x x st f fd
 b:Binds K fd ps []
 m:mg x=some (.ref f)
structure Bl (mg:Str->Option Value):Prop where
 len_:mg "len"=none
 sum_:mg "sum"=none
 isinstance_:mg "isinstance"=none
 all_:mg "all"=none
 any_:mg "any"=none
 list_:mg "list"=none
 tuple_:mg "tuple"=none
 int_:mg "int"=none
 str_:mg "str"=none
 bool_:mg "bool"=none
 range_:mg "range"=none
 zip_:mg "zip"=none
 reversed_:mg "reversed"=none
 enumerate_:mg "enumerate"=none
 set_:mg "set"=none
 sorted_:mg "sorted"=none
 min_:mg "min"=none
 max_:mg "max"=none
 dict_:mg "dict"=none
 repr_:mg "repr"=none
theorem bZ:bootBuiltins "len"=some (.builtin "len"):=by decide +kernel
theorem Li:bootBuiltins "any"=some (.builtin "any"):=by decide +kernel
theorem iW:bootBuiltins "list"=some (.type "list"):=by decide +kernel
theorem bK:bootBuiltins "tuple"=some (.type "tuple"):=by decide +kernel
theorem Lj:bootBuiltins "int"=some (.type "int"):=by decide +kernel
theorem Room.u30 {k:Nat}{A:Around}(r:Room k A):A.units+30<cLine:=by have:=r.un;omega
theorem Room.u31 {k:Nat}{A:Around}(r:Room k A):A.units+31<cLine:=by have:=r.un;omega
theorem Room.u1 {k:Nat}{A:Around}(r:Room k A):A.units+1<cLine:=by have:=r.un;omega
section
variable {H:Hp3}{Q:VK3}{Z:St3}
def vq (o:Option (Option T)) (Q:T->Prop):Prop:=match o with
 |some (some t)=>Q t
 |_=>False
theorem Uz (t:T) (Q:T->Prop):vq (some (some t)) Q=Q t:=rfl
theorem zY (i:Nat):qK i Z H Q=vq (Z[i]?) fun t=>Q t H:=rfl
def bq (x:T) (Q:Bool->Prop):Prop:=match x with
 |.bl k=>Q k
 |_=>False
theorem fc (b:Bool) (Q:Bool->Prop):bq (.bl b) Q=Q b:=rfl
theorem Lk (t:TE3) (Q:Bool->Hp3->Prop):jt t Z H Q=t Z H fun x H'=>bq x fun k=>Q k H':=rfl
theorem Ln (ta tb:TE3):zy ta tb Z H Q=ta Z H fun x H1=>bq x fun c=>if c=true then tb Z H1 Q else Q (.bl false) H1:=rfl
theorem Qy (ta tb:TE3):Ib ta tb Z H Q=ta Z H fun x H1=>bq x fun c=>if c=true then Q (.bl true) H1 else tb Z H1 Q:=rfl
theorem iY {α:Type}(v:α) (Q:α->Prop):oq (some v) Q=Q v:=rfl
theorem q_I (C:Int->Int->Prop) (g:Int->Int->T) (i j:Int):rI3 C g (.int i) (.int j) H Q=(C i j/\Q (g i j) H):=rfl
theorem UG (g:Int->Int->T) (i j:Int):pB g (.int i) (.int j) H Q=Q (g i j) H:=rfl
theorem lz (i j:Int):lu (.int i) (.int j) H Q=Q (.int (i+j)) H:=rfl
theorem Lp (i j:Str):lu (.str i) (.str j) H Q=(i.length+j.length<=sizeLine/\Q (.str (i++j)) H):=rfl
theorem Lq (xs ys:List T):lu (.tup xs) (.tup ys) H Q=(xs.length+ys.length<=sizeLine/\Q (.tup (xs++ys)) H):=rfl
def Qz (o u:Option O3) (H:Hp3) (Q:VK3):Prop:=match o,u with
 |some (.lst xs),some (.lst ys)=>xs.length+ys.length<=sizeLine/\∀p,H p=none->Q (.ref p) (up3 H p (.lst (xs++ys)))
 |_,_=>False
theorem zZ (a b:Addr):lu (.ref a) (.ref b) H Q=Qz (H a) (H b) H Q:=rfl
theorem jw (xs ys:List T):Qz (some (.lst xs)) (some (.lst ys)) H Q=(xs.length+ys.length<=sizeLine/\∀p,H p=none->Q (.ref p) (up3 H p (.lst (xs++ys)))):=rfl
theorem vL (n:Bool) (i j:Int):qQ n (.int i) (.int j) H Q=Q (.bl (if n then !decide (i=j) else decide (i=j))) H:=rfl
theorem QB (n:Bool) (i j:Str):qQ n (.str i) (.str j) H Q=Q (.bl (if n then !decide (i=j) else decide (i=j))) H:=rfl
theorem QC (n:Bool) (i j:Bool):qQ n (.bl i) (.bl j) H Q=Q (.bl (if n then !decide (i=j) else decide (i=j))) H:=rfl
theorem Iv (n:Bool) (xs ys:List T):qQ n (.tup xs) (.tup ys) H Q=(xs.all (pl 20)=true/\ys.all (pl 20)=true/\Q (.bl (if n then !decide (xs=ys) else decide (xs=ys))) H):=rfl
def eqH (n:Bool) (a b:Addr) (o u:Option O3) (H:Hp3) (Q:VK3):Prop:=match o,u with
 |some (.lst xs),some (.lst ys)=>a≠b/\xs.all (pl 20)=true/\ys.all (pl 20)=true/\Q (.bl (if n then !@decide (xs=ys) (instDecidableEqList xs ys) else @decide (xs=ys) (instDecidableEqList xs ys))) H
 |_,_=>False
theorem QD (n:Bool) (a b:Addr):qQ n (.ref a) (.ref b) H Q=eqH n a b (H a) (H b) H Q:=rfl
theorem QF (n:Bool) (a b:Addr) (xs ys:List T):eqH n a b (some (.lst xs)) (some (.lst ys)) H Q=(a≠b/\xs.all (pl 20)=true/\ys.all (pl 20)=true/\Q (.bl (if n then !decide (xs=ys) else decide (xs=ys))) H):=rfl
theorem Iw (n:Bool) (x:T) (ts:List T):tW n x (.tup ts) H Q=(pl 20 x=true/\ts.all (pl 20)=true/\Q (.bl (dJ n x ts)) H):=rfl
theorem QG (n:Bool) (i j:Str):tW n (.str i) (.str j) H Q=Q (.bl (occ n i j)) H:=rfl
def inH (n:Bool) (x:T) (o:Option O3) (H:Hp3) (Q:VK3):Prop:=match o with
 |some (.lst ts)=>pl 20 x=true/\ts.all (pl 20)=true/\Q (.bl (dJ n x ts)) H
 |some (.rol ts)=>pl 20 x=true/\ts.all (pl 20)=true/\Q (.bl (dJ n x ts)) H
 |_=>False
theorem Iz (n:Bool) (x:T) (a:Addr):tW n x (.ref a) H Q=inH n x (H a) H Q:=rfl
theorem IK (n:Bool) (x:T) (ts:List T):inH n x (some (.lst ts)) H Q=(pl 20 x=true/\ts.all (pl 20)=true/\Q (.bl (dJ n x ts)) H):=rfl
def ixH (o:Option O3) (i:Int) (H:Hp3) (Q:VK3):Prop:=match o with
 |some (.lst ts)=>oq (atI ts i) fun t=>Q t H
 |some (.rol ts)=>oq (atI ts i) fun t=>Q t H
 |_=>False
theorem QH (a:Addr) (i:Int):qT (.ref a) (.int i) H Q=ixH (H a) i H Q:=rfl
theorem QJ (ts:List T) (i:Int):ixH (some (.lst ts)) i H Q=oq (atI ts i) fun t=>Q t H:=rfl
theorem QK (ts:List T) (i:Int):qT (.tup ts) (.int i) H Q=oq (atI ts i) fun t=>Q t H:=rfl
theorem QL (z:Str) (i:Int):qT (.str z) (.int i) H Q=(z.length<=sizeLine/\oq (atI z.cps.toList i) fun c=>Q (.str ⟨#[c]⟩) H):=rfl
def stH (o:Option O3) (a:Addr) (k:Int) (v:T) (H:Hp3) (Q:Hp3->Prop):Prop:=match o with
 |some (.lst ts)=>oq (ixN ts.length k) fun j=>Q (up3 H a (.lst (ts.set j v)))
 |_=>False
theorem Lr (a:Addr) (k:Int) (v:T) (Q:Hp3->Prop):zR (.ref a) (.int k) v H Q=stH (H a) a k v H Q:=rfl
theorem QM (ts:List T) (a:Addr) (k:Int) (v:T) (Q:Hp3->Prop):stH (some (.lst ts)) a k v H Q=oq (ixN ts.length k) fun j=>Q (up3 H a (.lst (ts.set j v))):=rfl
def pq (x:T) (Q:Option Int->Prop):Prop:=match x with
 |.int i=>Q (some i)
 |_=>False
theorem Ls (i:Int) (Q:Option Int->Prop):pq (.int i) Q=Q (some i):=rfl
theorem Lw (t:TE3) (Q:Option Int->Hp3->Prop):zT t Z H Q=t Z H fun x H1=>pq x fun o=>Q o H1:=rfl
def slH (o:Option O3) (lo hi:Option Int) (H:Hp3) (Q:VK3):Prop:=match o with
 |some (.lst ts)=>∀p,H p=none->Q (.ref p) (up3 H p (.lst (cI ts lo hi)))
 |some (.rol ts)=>∀p,H p=none->Q (.ref p) (up3 H p (.lst (cI ts lo hi)))
 |_=>False
theorem QQ (a:Addr) (lo hi:Option Int):Fq (.ref a) lo hi H Q=slH (H a) lo hi H Q:=rfl
theorem IV (ts:List T) (lo hi:Option Int):slH (some (.lst ts)) lo hi H Q=∀p,H p=none->Q (.ref p) (up3 H p (.lst (cI ts lo hi))):=rfl
theorem Lx (ts:List T) (lo hi:Option Int):slH (some (.rol ts)) lo hi H Q=∀p,H p=none->Q (.ref p) (up3 H p (.lst (cI ts lo hi))):=rfl
theorem QR (ts:List T) (lo hi:Option Int):Fq (.tup ts) lo hi H Q=(¬(HT.sIx ts.length 0 lo=0/\HT.sIx ts.length ts.length hi=ts.length)/\Q (.tup (cI ts lo hi)) H):=rfl
theorem QS (z:Str) (lo hi:Option Int):Fq (.str z) lo hi H Q=(z.length<=sizeLine/\Q (.str (Txt.slice z lo hi)) H):=rfl
def dgH (o:Option O3) (k:Str) (H:Hp3) (Q:VK3):Prop:=match o with
 |some (.dct kvs)=>oq (aN k kvs) fun t=>Q t H
 |_=>False
theorem q_D (a:Addr) (k:Str):r3D (.ref a) (.str k) H Q=dgH (H a) k H Q:=rfl
theorem QT (kvs:List (Str × T)) (k:Str):dgH (some (.dct kvs)) k H Q=oq (aN k kvs) fun t=>Q t H:=rfl
def dpH (x y v:T) (H:Hp3) (Q:Hp3->Prop):Prop:=match x,y with
 |.ref a,.str k=>match H a with
  |some (.dct kvs)=>kvs.length<sizeLine/\Q (up3 H a (.dct (put3 k v kvs)))
  |_=>False
 |_,_=>False
def dpO (o:Option O3) (a:Addr) (k:Str) (v:T) (H:Hp3) (Q:Hp3->Prop):Prop:=match o with
 |some (.dct kvs)=>kvs.length<sizeLine/\Q (up3 H a (.dct (put3 k v kvs)))
 |_=>False
theorem Ly (td ty tv:TE3) (D:Ends3):zU td ty tv D Z H=tv Z H fun v H1=>td Z H1 fun x H2=>ty Z H2 fun y H3=>dpH x y v H3 fun H4=>D.nx Z H4:=rfl
theorem QV (a:Addr) (k:Str) (v:T) (Q:Hp3->Prop):dpH (.ref a) (.str k) v H Q=dpO (H a) a k v H Q:=rfl
theorem QW (kvs:List (Str × T)) (a:Addr) (k:Str) (v:T) (Q:Hp3->Prop):dpO (some (.dct kvs)) a k v H Q=(kvs.length<sizeLine/\Q (up3 H a (.dct (put3 k v kvs)))):=rfl
def lnH (o:Option O3) (H:Hp3) (Q:VK3):Prop:=match o with
 |some (.lst xs)=>Q (.int xs.length) H
 |some (.rol xs)=>Q (.int xs.length) H
 |_=>False
theorem Lz (a:Addr):vI [.ref a] H Q=lnH (H a) H Q:=rfl
theorem QX (xs:List T):lnH (some (.lst xs)) H Q=Q (.int xs.length) H:=rfl
theorem LC (xs:List T):vI [.tup xs] H Q=Q (.int xs.length) H:=rfl
theorem LK (z:Str):vI [.str z] H Q=(z.length<=sizeLine/\Q (.int z.length) H):=rfl
def liH (o:Option O3) (H:Hp3) (Q:VK3):Prop:=match o with
 |some (.lst xs)=>∀p,H p=none->Q (.ref p) (up3 H p (.lst xs))
 |some (.rol xs)=>∀p,H p=none->Q (.ref p) (up3 H p (.lst xs))
 |_=>False
theorem vM (a:Addr):pF [.ref a] H Q=liH (H a) H Q:=rfl
theorem IW (xs:List T):liH (some (.lst xs)) H Q=∀p,H p=none->Q (.ref p) (up3 H p (.lst xs)):=rfl
theorem vN (xs:List T):pF [.tup xs] H Q=∀p,H p=none->Q (.ref p) (up3 H p (.lst xs)):=rfl
def tpH (o:Option O3) (H:Hp3) (Q:VK3):Prop:=match o with
 |some (.lst xs)=>Q (.tup xs) H
 |some (.rol xs)=>Q (.tup xs) H
 |_=>False
theorem LQ (a:Addr):pH [.ref a] H Q=tpH (H a) H Q:=rfl
theorem QZ (xs:List T):tpH (some (.lst xs)) H Q=Q (.tup xs) H:=rfl
theorem LR (xs:List T):pH [.tup xs] H Q=Q (.tup xs) H:=rfl
theorem Ma (i:Int):zV [.int i] H Q=Q (.int i) H:=rfl
theorem Mf (b:Bool):zV [.bl b] H Q=Q (.int (if b then 1 else 0)) H:=rfl
theorem Q0 (Ty:String) (z:Str):ty3 Ty (.str z) H=(Ty="str"):=rfl
def tyH (o:Option O3):Prop:=match o with
 |some (.lst _)=>True
 |some (.rol _)=>True
 |_=>False
theorem Q4 (Ty:String) (a:Addr):ty3 Ty (.ref a) H=(Ty="list"/\tyH (H a)):=rfl
theorem Q5 (xs:List T):tyH (some (.lst xs))=True:=rfl
def apH (o:Option O3) (a:Addr) (t:T) (H:Hp3) (Q:VK3):Prop:=match o with
 |some (.lst xs)=>xs.length<sizeLine/\Q .non (up3 H a (.lst (xs++[t])))
 |_=>False
theorem Q6 (a:Addr) (t:T):Iu (.ref a) [t] H Q=apH (H a) a t H Q:=rfl
theorem Q7 (xs:List T) (a:Addr) (t:T):apH (some (.lst xs)) a t H Q=(xs.length<sizeLine/\Q .non (up3 H a (.lst (xs++[t])))):=rfl
def poH (o:Option O3) (a:Addr) (i:Int) (H:Hp3) (Q:VK3):Prop:=match o with
 |some (.lst xs)=>oq (ixN xs.length i) fun j=>oq (xs[j]?) fun t=>Q t (up3 H a (.lst (xs.eraseIdx j)))
 |_=>False
theorem Q8 (a:Addr) (i:Int):vJ (.ref a) [.int i] H Q=poH (H a) a i H Q:=rfl
theorem Q9 (xs:List T) (a:Addr) (i:Int):poH (some (.lst xs)) a i H Q=oq (ixN xs.length i) fun j=>oq (xs[j]?) fun t=>Q t (up3 H a (.lst (xs.eraseIdx j))):=rfl
def idH (o:List Nat) (H:Hp3) (Q:VK3):Prop:=match o with
 |i::_=>Q (.int i) H
 |[]=>False
theorem Fx (z y:Str):vK (.str z) [.str y] H Q=idH (Builtin.Str.occurrences z y 0 z.length 1) H Q:=rfl
theorem Ra (i:Nat) (r:List Nat):idH (i::r) H Q=Q (.int i) H:=rfl
def rgq (vs:List T) (H:Hp3) (R:List T->(Hp3->Prop)->Hp3->Prop):Prop:=match vs with
 |[.int j]=>-(2^62)<=j/\j<2^62/\R (cZ 0 j.toNat) cM H
 |[.int i,.int j]=>(-(2^62)<=i/\i<2^62 /\ -(2^62)<=j/\j<2^62)/\R (cZ i (j - i).toNat) cM H
 |_=>False
theorem Rb (ta:TA3) (R:List T->(Hp3->Prop)->Hp3->Prop):zJ ta Z H R=ta Z H fun vs H1=>rgq vs H1 R:=rfl
theorem Rc (j:Int) (R:List T->(Hp3->Prop)->Hp3->Prop):rgq [.int j] H R=(-(2^62)<=j/\j<2^62/\R (cZ 0 j.toNat) cM H):=rfl
theorem Rf (i j:Int) (R:List T->(Hp3->Prop)->Hp3->Prop):rgq [.int i,.int j] H R=((-(2^62)<=i/\i<2^62 /\ -(2^62)<=j/\j<2^62)/\R (cZ i (j - i).toNat) cM H):=rfl
def tuq (x:T) (H:Hp3) (R:List T->(Hp3->Prop)->Hp3->Prop):Prop:=match x with
 |.tup ts=>R ts cM H
 |_=>False
theorem Mg (tl:TE3) (R:List T->(Hp3->Prop)->Hp3->Prop):Im tl Z H R=tl Z H fun x H1=>tuq x H1 R:=rfl
theorem Rg (ts:List T) (R:List T->(Hp3->Prop)->Hp3->Prop):tuq (.tup ts) H R=R ts cM H:=rfl
def liq (x:T) (H:Hp3) (R:List T->(Hp3->Prop)->Hp3->Prop):Prop:=match x with
 |.ref a=>match H a with
  |some (.lst ts)=>R ts (cC a ts) H
  |some (.rol ts)=>R ts (cC a ts) H
  |_=>False
 |_=>False
def liO (o:Option O3) (a:Addr) (H:Hp3) (R:List T->(Hp3->Prop)->Hp3->Prop):Prop:=match o with
 |some (.lst ts)=>R ts (cC a ts) H
 |some (.rol ts)=>R ts (cC a ts) H
 |_=>False
theorem Fy (tl:TE3) (R:List T->(Hp3->Prop)->Hp3->Prop):zG tl Z H R=tl Z H fun x H1=>liq x H1 R:=rfl
theorem qX (a:Addr) (R:List T->(Hp3->Prop)->Hp3->Prop):liq (.ref a) H R=liO (H a) a H R:=rfl
theorem lA (ts:List T) (a:Addr) (R:List T->(Hp3->Prop)->Hp3->Prop):liO (some (.lst ts)) a H R=R ts (cC a ts) H:=rfl
theorem Mh (Q:St3->Hp3->Prop):vo [] Z H Q=Q Z H:=rfl
theorem Fz (t:TG3) (u:kW) (x:T) (r:List T) (Q:St3->Hp3->Prop):iH t u (x::r) Z H Q=t x Z H fun Z' H'=>u r Z' H' Q:=rfl
theorem Mi (n:Nat) (g:kW) (ts:List T) (Q:St3->Hp3->Prop):qM n g (.tup ts) Z H Q=(ts.length=n/\g ts Z H Q):=rfl
end
theorem vO {n j:Nat}(h:j<n):ixN n (j:Int)=some j:=by
 unfold ixN;rw[if_pos (WQ j),if_pos (by omega),Wa]
theorem at0 {α:Type}(a:α) (r:List α):atI (a::r) 0=some a:=bC (j:=0) rfl
theorem at1 {α:Type}(a b:α) (r:List α):atI (a::b::r) 1=some b:=bC (j:=1) rfl
theorem at2 {α:Type}(a b c:α) (r:List α):atI (a::b::c::r) 2=some c:=bC (j:=2) rfl
theorem at3 {α:Type}(a b c d:α) (r:List α):atI (a::b::c::d::r) 3=some d:=bC (j:=3) rfl
theorem vP {α:Type}(xs:List α) (i:Int) (h0:0<=i) (h1:i<xs.length):∃z,z∈xs/\atI xs i=some z:=by
 obtain⟨j,rfl⟩:=Int.eq_ofNat_of_zero_le h0;have hj:j<xs.length:=by omega
 exact⟨xs[j],Vh hj,bC (g_ hj)⟩
theorem pI {α β:Type}(f:α->β) (xs:List α) (i:Int):atI (xs.map f) i=(atI xs i).map f:=by
 unfold atI;rw[d_];cases ixN xs.length i with
 |none=>rfl
 |some j=>simp
theorem j0 {g:TG3}{tb:TS3}{D:Ends3}{still:Hp3->Prop}{ts:List T}{Z:St3}{H:Hp3}(I:List T->St3->Hp3->Prop) (h0:I ts Z H) (hn:∀Z H,I [] Z H->still H/\D.nx Z H)
  (hs:∀t r Z H (N:St3->Hp3->Prop),I (t::r) Z H->(∀Z' H',I r Z' H'->N Z' H')->still H/\g t Z H fun Z2 H2=>tb { D with nx:=N,ct:=N,bk:=D.nx} Z2 H2):iter3 g tb D still ts Z H:=by
 induction ts generalizing Z H with
 |nil=>exact hn Z H h0
 |cons t r ih=>exact hs t r Z H (iter3 g tb D still r) h0 fun Z' H' h=>ih h
theorem gH {g:TG3}{tt:TT3}{te:TE3}{still:Hp3->Prop}{fin:List T->Hp3->Prop}{ts ys:List T}{Z:St3}{H:Hp3}(I:List T->List T->St3->Hp3->Prop) (h0:I ts ys Z H) (hn:∀ys Z H,I [] ys Z H->still H/\ys.length<=sizeLine/\fin ys H)
  (hs:∀t r ys Z H (N:List T->St3->Hp3->Prop),I (t::r) ys Z H->(∀ys' Z' H',I r ys' Z' H'->N ys' Z' H') ->
   still H/\g t Z H fun Z2 H2=>tt Z2 H2 fun b H3=>if b=true then te Z2 H3 fun y H4=>ys.length<sizeLine/\N (ys++[y]) Z2 H4 else N ys Z2 H3):cIter3 g tt te still fin ts ys Z H:=by
 induction ts generalizing Z H ys with
 |nil=>exact hn ys Z H h0
 |cons t r ih=>exact hs t r ys Z H (cIter3 g tt te still fin r) h0 fun ys' Z' H' h=>ih h
theorem sx0 (n:Nat):HT.sIx n 0 none=0:=rfl
theorem tX {ts:List T}{k:Nat}:cI ts none (some (k:Int))=ts.take k:=by
 unfold cI;rw[sx0,HT.sIx_nat,List.drop_zero,Nat.sub_zero];by_cases h:k<=ts.length
 ·rw[Nat.min_eq_left h]
 rw[Nat.min_eq_right (by omega),List.take_length,WM (by omega)]
theorem lB {ts:List T}{k:Nat}:cI ts (some (k:Int)) none=ts.drop k:=by
 unfold cI;rw[HT.sIx_none,HT.sIx_nat];by_cases h:k<=ts.length
 ·rw[Nat.min_eq_left h,WM (by simp)]
 rw[Nat.min_eq_right (by omega),Xr (m_ _),Xr (by omega),List.take_nil]
theorem b8 {H:Hp3}{a b:Addr}{o:O3}(h:up3 H a o b=none):b≠a/\H b=none:=by
 by_cases e:b=a
 ·subst e;rw[aC] at h;cases h
 rw[aD e] at h;exact⟨e,h⟩
theorem z6 {H:Hp3}{a b:Addr}{o u:O3}(h:a≠b):up3 (up3 H a o) b u=up3 (up3 H b u) a o:=by
 funext c;by_cases h1:c=b
 ·subst h1;rw[aC,aD (Ne.symm h),aC]
 rw[aD h1];by_cases h2:c=a
 ·subst h2;rw[aC,aC]
 rw[aD h2,aD h2,aD h1]
theorem cH {α:Type}(enc f:α->T) (as:List α) (rest:St3) {te:TE3}{still:Hp3->Prop}{fin:List T->Hp3->Prop}{v:Option T}{H:Hp3}(hst:still H) (hl:as.length<=sizeLine)
  (ht:∀a∈as,∀Q:VK3,Q (f a) H->te (some (enc a)::rest) H Q) (hfin:fin (as.map f) H):cIter3 (dX 0) vz te still fin (as.map enc) [] (v::rest) H:=by
 refine gH (fun r ys Z H'=>∃(rs ds:List α) (v:Option T),Z=v::rest/\r=rs.map enc/\ys=ds.map f/\ds++rs=as/\H'=H) ⟨as,[],v,rfl,rfl,rfl,rfl,rfl⟩ ?_ ?_
 ·rintro ys Z H' ⟨rs,ds,v,rfl,hrs,rfl,hsp,rfl⟩;have hrs':rs=[]:=WK.mp hrs.symm;subst hrs';rw[S_] at hsp;subst hsp;exact⟨hst,by rw[d_];exact hl,hfin⟩
 rintro x r ys Z H' N ⟨rs,ds,v,rfl,hrs,rfl,hsp,rfl⟩ hN;cases rs with
 |nil=>cases hrs
 |cons t rs =>
 injection hrs with e1 e2;subst e1 e2;refine⟨hst,?_⟩;show te (some (enc t)::rest) H' _;refine ht t (by rw[<- hsp];simp) _ ⟨?_,hN _ _ _ ⟨rs,ds++[t],_,rfl,rfl,by simp,by rw[<- hsp];simp,rfl⟩⟩;have:=Q_ List.length hsp;simp only[b_,j_] at this;rw[d_];omega
section
variable {X:Cx}
def cF:List T->Option (List Bool)
 |[]=>some []
 |.bl x::r=>(cF r).map (x::·)
 |_=>none
theorem lC:∀(ns:List Bool),cF (ns.map T.bl)=some ns
 |[]=>rfl
 |n::r=>by simp [cF,lC r]
theorem jH {K:Frag}{H:Hp}:∀{ts:List T}{xs:List V}{us:List Value}{bs:List Bool},cF ts=some bs->Reps K H ts xs->Vals xs us->us=bs.map Value.bool
 |[],xs,us,bs,e,r,v=>by
  cases e
  rw[r.inv0] at v
  cases v
  rfl
 |.bl i::l,xs,us,bs,e,r,v=>by
  obtain⟨x,xr,rfl,rx,rr⟩:=r.inv
  cases v with
  |cons a b =>
   rw[rx.bl] at a
   cases hl:cF l with
   |none=>simp [cF,hl] at e
   |some ms =>
    simp [cF,hl] at e
    subst e
    cases a
    rw[jH hl rr b]
    rfl
 |.non::_,_,_,_,e,_,_=>by simp [cF] at e
 |.int _::_,_,_,_,e,_,_=>by simp [cF] at e
 |.str _::_,_,_,_,e,_,_=>by simp [cF] at e
 |.tup _::_,_,_,_,e,_,_=>by simp [cF] at e
 |.ref _::_,_,_,_,e,_,_=>by simp [cF] at e
 |.ty _::_,_,_,_,e,_,_=>by simp [cF] at e
end
def UJ:T->Option Key
 |.int i=>some (.inl i)
 |.str x=>some (.inr x)
 |_=>none
def z7:List T->Option (List Key)
 |[]=>some []
 |t::r=>match UJ t,z7 r with
  |some k,some ks=>some (k::ks)
  |_,_=>none
def Ja (k:List Key):List (List Key × T)->Option T
 |[]=>none
 | (k',v)::r=>if k'=k then some v else Ja k r
def UL (k:List Key) (v:T) (kvs:List (List Key × T)):List (List Key × T) :=
 if (kvs.any fun kv=>decide (kv.1=k))=true then kvs.map (fun kv=>if kv.1=k then (kv.1,v) else kv) else kvs++[(k,v)]
def UT (o:Option O3) (ts:List T) (H:Hp3) (Q:VK3):Prop:=match o with
 |some (.dcp kvs)=>oq (z7 ts) fun ks=>oq (Ja ks kvs) fun t=>Q t H
 |_=>False
def dgP (x:T) (ts:List T) (H:Hp3) (Q:VK3):Prop:=match x with
 |.ref a=>UT (H a) ts H Q
 |_=>False
def FJ (td:TE3) (ta:TA3):TE3:=fun Z H Q=>td Z H fun x H1=>ta Z H1 fun ts H2=>ts.length<=sizeLine/\dgP x ts H2 Q
def UV (o:Option O3) (a:Addr) (ts:List T) (v:T) (H:Hp3) (Q:Hp3->Prop):Prop:=match o with
 |some (.dcp kvs)=>oq (z7 ts) fun ks=>kvs.length<sizeLine/\Q (up3 H a (.dcp (UL ks v kvs)))
 |_=>False
def dpP (x:T) (ts:List T) (v:T) (H:Hp3) (Q:Hp3->Prop):Prop:=match x with
 |.ref a=>UV (H a) a ts v H Q
 |_=>False
def FN (td:TE3) (ta:TA3) (tv:TE3):TS3:=fun D Z H=>tv Z H fun v H1=>td Z H1 fun x H2=>ta Z H2 fun ts H3=>ts.length<=sizeLine/\dpP x ts v H3 fun H4=>D.nx Z H4
section
variable {H:Hp3}{Q:VK3}{Z:St3}
variable {X:Cx}{o i k value:Expr}{es:List Expr}{td ti tk tv:TE3}{ta:TA3}{pos pos' p2:Pos}{x1:Nat}
def z8:TE3:=fun _ H Q=>∀p,H p=none->Q (.ref p) (up3 H p (.dct []))
def FP:TE3:=fun _ H Q=>∀p,H p=none->Q (.ref p) (up3 H p (.dcp []))
theorem SimH.newD {K:Frag}{H:Hp}{H3:Hp3}{p:Addr}(s:SimH K H3 H) (hp:H p=none):SimH K (up3 H3 p (.dct [])) (upd H p (.dK [])):=fun a o e=>by
 by_cases ha:a=p
 ·subst ha;rw[aC] at e;cases e;exact⟨[],bU,.nil⟩
 rw[aD ha] at e;exact s.new hp a o e
theorem FQ:PE3 X (.Dict [] [] pos) z8:=by
 refine PE.imp qH ?_;rintro Z H Q ⟨Z3,H3,Q3,ss,sh,h,k⟩ p hp;exact k _ _ _ _ (aL hp) (sh.newD hp) .ofRef (h p (sh.fresh hp))
def d1q (y:T) (p:Addr) (v:T) (H:Hp3) (Q:VK3):Prop:=match y with
 |.str k=>H p=some (.dct [])/\Q (.ref p) (up3 H p (.dct [(k,v)]))
 |_=>False
def z9 (tk tv:TE3):TE3:=fun Z H Q=>∀p,H p=none->tk Z (up3 H p (.dct [])) fun y H1=>tv Z H1 fun v H2=>d1q y p v H2 Q
theorem Rh (x:Str) (p:Addr) (v:T) {H:Hp3}{Q:VK3}:d1q (.str x) p v H Q=(H p=some (.dct [])/\Q (.ref p) (up3 H p (.dct [(x,v)]))):=rfl
theorem Aa {v:Expr}(hk:PE3 X k tk) (hv:PE3 X v tv):PE3 X (.Dict [some k] [v] pos) (z9 tk tv):=by
 refine PE.imp (vd (qI hk hv u9) rfl rfl (by simp) (by show 1<=15;decide)) ?_;rintro Z H Q ⟨Z3,H3,Q3,ss,sh,h,k⟩ p hp;have le0:TupLe X.K H (upd H p (.dK [])):=aL hp;refine⟨Z3,up3 H3 p (.dct []),_,ss.mono le0,sh.newD hp,h p (sh.fresh hp),fun y H1 ty H31 le1 sh1 ry q1=>?_⟩;refine⟨Z3,H31,_,ss.mono (le0.trans le1),sh1,q1,fun z H2 tz H32 le2 sh2 rz q2=>?_⟩;cases ty with
 |str key =>
  have h':H32 p=some (.dct [])/\Q3 (.ref p) (up3 H32 p (.dct [(key,tz)])):=q2
  obtain⟨ws,hH,r⟩:=sh2 p _ h'.1
  cases r
  refine⟨hH,[(Sum.inr key,z)],by rw[(ry.mono le2).str];rfl,by show 1<=15;decide,?_⟩
  have e:iD [] [((Sum.inr key:Key),z)]=[((Sum.inr key:Key),z)]:=rfl
  rw[e]
  exact k _ _ _ _ (le0.trans (le1.trans (le2.trans (bF (by rw[hH];exact trivial))))) (sh2.wrD hH (.cons ⟨rfl,rz⟩ .nil)) .ofRef h'.2
 |_=>exact q2.elim
def diH (neg:Bool) (y:T) (o:Option O3) (H:Hp3) (Q:VK3):Prop:=match y,o with
 |.str k,some (.dct kvs)=>Q (.bl (if neg then !(aN k kvs).isSome else (aN k kvs).isSome)) H
 |_,_=>False
def diq (neg:Bool) (y x:T) (H:Hp3) (Q:VK3):Prop:=match x with
 |.ref a=>diH neg y (H a) H Q
 |_=>False
def Ab (neg:Bool) (ti to:TE3):TE3:=fun Z H Q=>ti Z H fun y H1=>to Z H1 fun x H2=>diq neg y x H2 Q
theorem Ri (neg:Bool) (y:T) (a:Addr) {H:Hp3}{Q:VK3}:diq neg y (.ref a) H Q=diH neg y (H a) H Q:=rfl
theorem Rj (neg:Bool) (k:Str) (kvs:List (Str × T)) {H:Hp3}{Q:VK3}:diH neg (.str k) (some (.dct kvs)) H Q=Q (.bl (if neg then !(aN k kvs).isSome else (aN k kvs).isSome)) H:=rfl
theorem nR {K:Frag}{H:Hp}{k:Str}:∀{kvs:List (Str × T)}{vs:List (Key × V)},RepD K H kvs vs->(dR vs (Sum.inr k:Key)).isSome=(aN k kvs).isSome
 |[],_,.nil=>rfl
 | (k',t')::r,_,.cons (b:=(kk,v')) ⟨e1,rv⟩ rr=>by
  simp only at e1 rv
  subst e1
  unfold aN
  by_cases hk:k'=k
  ·
   rw[if_pos hk,dU (by rw[hk])];rfl
  ·
   rw[if_neg hk,dW (by intro z;exact hk (Sum.inr.inj z))]
   exact nR rr
theorem vQ {neg:Bool}{H:Hp}{H3:Hp3}{x y:V}{tx ty:T}{Q3:VK3}(sh:SimH X.K H3 H) (rx:Rep X.K H tx x) (ry:Rep X.K H ty y) (q:diq neg ty tx H3 Q3) :
  ∃a ov b,x=.ref a/\DGet H a y ov/\(if neg then !ov.isSome else ov.isSome)=b/\Q3 (.bl b) H3:=by
 cases tx with
 |ref a =>
  have h':diH neg ty (H3 a) H3 Q3:=q
  cases ty with
  |str k =>
   cases e:H3 a with
   |none=>rw[e] at h';exact h'.elim
   |some ob =>
    rw[e] at h'
    cases ob with
    |dct kvs =>
     obtain⟨ws,hH,r⟩:=sh a _ e
     refine⟨a,dR ws (Sum.inr k:Key),_,rx.ref,by rw[ry.str];exact DGet.k (k:=Sum.inr k) hH,rfl,?_⟩
     rw[nR r]
     exact h'
    |_=>exact h'.elim
  |_=>exact h'.elim
 |_=>exact q.elim
theorem pJ (hu:X.A.units+1<cLine) (hi:PE3 X i ti) (ho:PE3 X o td) (hm:behindInMarks .In o=false:=by rfl):PT3 X (.Compare i [.In] [o] pos) (jt (Ab false ti td)):=by
 refine PT.imp (sX (K6 hu hi ho) hm) ?_;rintro Z H Q ⟨Z3,H3,Q3,ss,sh,h,k⟩;refine⟨Z3,H3,_,ss,sh,h,fun y H1 ty H31 le1 sh1 ry q1=>⟨Z3,H31,_,ss.mono le1,sh1,q1,fun x H2 tx H32 le2 sh2 rx q2=>?_⟩⟩;obtain⟨a,ov,b,e,g,eb,q⟩:=vQ sh2 rx (ry.mono le2) q2;exact⟨a,ov,e,g,b,by rw[show ov.isSome=b from eb],k _ _ _ (le1.trans le2) sh2 q⟩
theorem nT (hu:X.A.units+1<cLine) (hi:PE3 X i ti) (ho:PE3 X o td) (hm:behindInMarks .NotIn o=false:=by rfl):PT3 X (.Compare i [.NotIn] [o] pos) (jt (Ab true ti td)):=by
 refine PT.imp (sX (nH hu hi ho) hm) ?_;rintro Z H Q ⟨Z3,H3,Q3,ss,sh,h,k⟩;refine⟨Z3,H3,_,ss,sh,h,fun y H1 ty H31 le1 sh1 ry q1=>⟨Z3,H31,_,ss.mono le1,sh1,q1,fun x H2 tx H32 le2 sh2 rx q2=>?_⟩⟩;obtain⟨a,ov,b,e,g,eb,q⟩:=vQ sh2 rx (ry.mono le2) q2;exact⟨a,ov,e,g,b,by rw[show (!ov.isSome)=b from eb],k _ _ _ (le1.trans le2) sh2 q⟩
end
def xR (x:T) (H:Hp3) (R:List T->(Hp3->Prop)->Hp3->Prop):Prop:=match x with
 |.tup ts=>R ts cM H
 |.ref a=>liO (H a) a H R
 |_=>False
theorem Mj (ts:List T) {H:Hp3}{R:List T->(Hp3->Prop)->Hp3->Prop}:xR (.tup ts) H R=R ts cM H:=rfl
theorem Ml (a:Addr) {H:Hp3}{R:List T->(Hp3->Prop)->Hp3->Prop}:xR (.ref a) H R=liO (H a) a H R:=rfl
def Ac (i:Nat):TI3:=fun Z H R=>vq (Z[i]?) fun x=>xR x H R
theorem FT (i:Nat) {Z:St3}{H:Hp3}{R:List T->(Hp3->Prop)->Hp3->Prop}:Ac i Z H R=vq (Z[i]?) fun x=>xR x H R:=rfl
theorem FW {X:Cx}{tg:Expr}(i:Nat) {x:Str}{pos:Pos}(hN:X.N[i]?=some x:=by rfl) (hv:Vis X.env.scope x:=by first | exact Or.inl rfl | exact Or.inr (Or.inl rfl) | exact Or.inr (Or.inr rfl)) (hd:(x==("__debug__":Str))=false:=by decide)
  (hcd:(x==("__classdict__":Str))=false:=by decide):PI3 X tg (.Name x pos) (Ac i):=by
 intro pins s Z H R I q;obtain⟨Z3,H3,R3,ss,sh,h,k⟩:=q;have h':vq (Z3[i]?) fun x=>xR x H3 R3:=h;cases e:Z3[i]? with
 |none=>rw[e] at h';exact h'.elim
 |some o =>
 cases o with
 |none=>rw[e] at h';exact h'.elim
 |some t =>
 rw[e] at h';cases t with
 |tup ts=>exact c7 (v3 i hN hv hd hcd) pins s Z H R I ⟨Z3,H3,R3,ss,sh,by show qK i Z3 H3 _;rw[zY,e];exact h',k⟩
 |ref a=>exact cj (v3 i hN hv hd hcd) pins s Z H R I ⟨Z3,H3,R3,ss,sh,by show qK i Z3 H3 _;rw[zY,e];exact h',k⟩
 |_=>exact h'.elim
theorem aV {α:Type}(enc:α->T) (xs:List α) {g:TG3}{tb:TS3}{D:Ends3}{still:Hp3->Prop}{Z:St3}{H:Hp3}(I:List α->St3->Hp3->Prop) (h0:I [] Z H) (hn:∀Z H,I xs Z H->still H/\D.nx Z H)
  (hs:∀A x B Z H (N:St3->Hp3->Prop),xs=A++x::B->I A Z H->(∀Z' H',I (A++[x]) Z' H'->N Z' H')->still H/\g (enc x) Z H fun Z2 H2=>tb { D with nx:=N,ct:=N,bk:=D.nx} Z2 H2):iter3 g tb D still (xs.map enc) Z H:=by
 have:∀(B A:List α) (Z:St3) (H:Hp3),xs=A++B->I A Z H->iter3 g tb D still (B.map enc) Z H:=by
  intro B;induction B with
  |nil=>intro A Z H e h;rw[S_] at e;subst e;exact hn Z H h
  |cons x B ih =>
  intro A Z H e h;exact hs A x B Z H (iter3 g tb D still (B.map enc)) e h fun Z' H' h'=>ih (A++[x]) Z' H' (by rw[e];simp) h'
 exact this xs [] Z H rfl h0
theorem cz {α:Type}(enc:α->T) (xs:List α) {g:TG3}{tt:TT3}{te:TE3}{still:Hp3->Prop}{fin:List T->Hp3->Prop}{Z:St3}{H:Hp3}(I:List α->List T->St3->Hp3->Prop) (h0:I [] [] Z H) (hn:∀ys Z H,I xs ys Z H->still H/\ys.length<=sizeLine/\fin ys H)
  (hs:∀A x B ys Z H (N:List T->St3->Hp3->Prop),xs=A++x::B->I A ys Z H->(∀ys' Z' H',I (A++[x]) ys' Z' H'->N ys' Z' H') ->
   still H/\g (enc x) Z H fun Z2 H2=>tt Z2 H2 fun b H3=>if b=true then te Z2 H3 fun y H4=>ys.length<sizeLine/\N (ys++[y]) Z2 H4 else N ys Z2 H3):cIter3 g tt te still fin (xs.map enc) [] Z H:=by
 have:∀(B A:List α) (ys:List T) (Z:St3) (H:Hp3),xs=A++B->I A ys Z H->cIter3 g tt te still fin (B.map enc) ys Z H:=by
  intro B;induction B with
  |nil=>intro A ys Z H e h;rw[S_] at e;subst e;exact hn ys Z H h
  |cons x B ih =>
  intro A ys Z H e h;exact hs A x B ys Z H (cIter3 g tt te still fin (B.map enc)) e h fun ys' Z' H' h'=>ih (A++[x]) ys' Z' H' (by rw[e];simp) h'
 exact this xs [] [] Z H rfl h0
theorem Ad:typeLookup (.type "tuple") "__reversed__"=pure none:=by rw[We,Vt];kernel_rfl
theorem xT:isSubtype (.type "tuple") (.type "dict")=pure false:=by rw[Wm];kernel_rfl
theorem FZ:Slot "reversed" "__init__" "object.__init__":=.of (owner:="object") (n:="__init__") (by rw[We,Vt];kernel_rfl) (by decide +kernel) (by decide +kernel) (by decide +kernel)
 (by first | exact .inr (by decide +kernel) | exact .inl (by decide +kernel)) (by rw[Wm];kernel_rfl)
theorem rv_next:Slot "reversed" "__next__" "reversed.__next__":=.of (owner:="reversed") (n:="__next__") (by rw[We,Vt];kernel_rfl) (by decide +kernel) (by decide +kernel) (by decide +kernel)
 (by first | exact .inr (by decide +kernel) | exact .inl (by decide +kernel)) (by rw[Wm];kernel_rfl)
theorem vR:Slot "reversed" "__iter__" "reversed.__iter__":=.of (owner:="reversed") (n:="__iter__") (by rw[We,Vt];kernel_rfl) (by decide +kernel) (by decide +kernel) (by decide +kernel)
 (by first | exact .inr (by decide +kernel) | exact .inl (by decide +kernel)) (by rw[Wm];kernel_rfl)
theorem rv_hint:Slot "reversed" "__length_hint__" "reversed.__length_hint__":=.of (owner:="reversed") (n:="__length_hint__") (by rw[We,Vt];kernel_rfl) (by decide +kernel) (by decide +kernel) (by decide +kernel)
 (by first | exact .inr (by decide +kernel) | exact .inl (by decide +kernel)) (by rw[Wm];kernel_rfl)
theorem tY:Manifest.owners.lookup (String.ofList ['d','e','s','r','e','v','e','r'].reverse)=some Manifest.sig_reversed:=by kernel_rfl
theorem nU:entryFor table "reversed.__next__"=some Builtin.«reversed.__next__»:=entryFor_of_tree (by kernel_rfl)
theorem xU:entryFor table "reversed.__length_hint__"=some Builtin.«reversed.__length_hint__»:=entryFor_of_tree (by kernel_rfl)
theorem xV:entryFor table "reversed.__iter__"=some Builtin.«dict_keyiterator.__iter__» :=
 entryFor_alias (id':="dict_keyiterator.__iter__") (by kernel_rfl) (by first | rfl | decide +kernel | (unfold String.splitOn;simp +decide [String.splitOnAux])) (by decide +kernel) (by kernel_rfl)
theorem nY (a:Value):argsOk "reversed.__next__" ⟨[a],[]⟩:=by
 unfold argsOk;rw[Yp (id:="reversed.__next__") (n:=['_','_','t','x','e','n','_','_']) (o:=['d','e','s','r','e','v','e','r']) (by kernel_rfl) tY];kernel_rfl
theorem xW (a:Value):argsOk "reversed.__iter__" ⟨[a],[]⟩:=by
 unfold argsOk;rw[Yp (id:="reversed.__iter__") (n:=['_','_','r','e','t','i','_','_']) (o:=['d','e','s','r','e','v','e','r']) (by kernel_rfl) tY];kernel_rfl
theorem xX (a:Value):argsOk "reversed.__length_hint__" ⟨[a],[]⟩:=by
 unfold argsOk;rw[Yp (id:="reversed.__length_hint__") (n:=['_','_','t','n','i','h','_','h','t','g','n','e','l','_','_']) (o:=['d','e','s','r','e','v','e','r']) (by kernel_rfl) tY];kernel_rfl
theorem Ae:typeLookup (.type "reversed") "__len__"=pure none:=by rw[We,Vt];kernel_rfl
def Jb (t:Addr) (i:Int):Obj:={ cls:=.type "reversed",data:=.fields #[.ref t,rawInt i]}
def RvAt (h:Heap) (a t:Addr) (i:Int):Prop:=∃o,h.get? a=some o/\o.cls=.type "reversed"/\o.data=.fields #[.ref t,rawInt i]
theorem RvAt.ty {s:Shared}{a t:Addr}{i:Int}(x:RvAt s.heap a t i):s.TypeIs (.ref a) "reversed":=let ⟨o,ho,hc,_⟩:=x;⟨o,ho,hc⟩
theorem mO (t:Addr) (items:Array Value) (hsz:items.size<=sizeLine):Meets (Builtin.«reversed.__new__» ⟨[.type "reversed",.ref t],[]⟩) (fun _ R s=>s.heap.IsTuple t items /\
   ∀tk,s.toks<=tk->R (.ok (.ret (.ref s.heap.objs.size))) { s with heap:=s.heap.push (Jb t ((items.size:Int) - 1)),toks:=tk}) :=
 .of_wp fun prog w A R s h=>by
  obtain⟨hl,h⟩:=h;unfold Builtin.«reversed.__new__»;refine a_ (Wx (newClass_reversed _) ?_);try dsimp only
  refine a_ (Wx (a:=()) (by first | rfl | kernel_rfl) ?_);refine a_ (Wx (a:=()) (by first | rfl | kernel_rfl) ?_);try dsimp only
  refine a_ (Wr hl.typeIs Ad ?_);try dsimp only
  refine a_ ?_;show wpAny _ A.in1 (isInstance (Value.ref t) (.type "dict") >>= fun b=>if b=true then pure false else specialOf (Value.ref t) "__getitem__" >>= fun o=>_) _ _ s;refine a_ (Xh (b:=false) hl.typeIs xT ?_);rw[if_neg o_];refine a_ (Wr hl.typeIs F.slot_tuple_getitem.lookup ?_);dsimp only;rw[if_pos (by decide +kernel)];refine h_ ?_;rw[if_neg (by decide)];refine a_ (len_tuple hl (by have:=dO;omega) ?_);refine a_ (Wx (a:=some (items.size:Int)) rfl ?_);dsimp only;show wpAny _ _ (newObj (.type "reversed") (.fields #[.ref t,rawInt ((items.size:Int) - 1)]) >>= fun v=>ret v) _ _ _;refine a_ (Vb ?_);exact h_ ⟨_,rfl,h _ (by show s.toks<=s.toks+1+1;omega)⟩
theorem tZ:TypeCalled "reversed" "reversed.__new__" "object.__init__" :=
 ⟨by decide +kernel,by decide +kernel,⟨_,_,F.mro_reversed⟩,F.made_reversed,by decide +kernel,F.sub_reversed_self,FZ⟩
section
variable {prog:Program}{w:World}{A:Around}{E:Value->Shared->Prop}{s:Shared}
theorem pK {t:Addr}{items:Array Value}{Q:Value->Shared->Prop}(hl:s.heap.IsTuple t items) (hsz:items.size<=sizeLine)
  (h:∀tk,s.toks<=tk->Q (.ref s.heap.objs.size) { s with heap:=s.heap.push (Jb t ((items.size:Int) - 1)),toks:=tk}) :
  wpAny (model prog w) A (call (.type "reversed") [.ref t]) Q E s:=by
 refine callType_new tZ (by decide) (F.typeCall_reversed_1 _) (F.newCall_reversed_1 _) (fun obj=>F.args_object_init_2 obj _) F.entry_reversed_new (mO t items hsz) ⟨hl,fun tk htk=>?_⟩;exact⟨⟨_,x_ _ rfl,rfl⟩,h tk htk⟩
theorem Ga {it t:Addr}{i:Nat}{items:Array Value}{x:Value}{Q:Option Value->Shared->Prop}(hit:RvAt s.heap it t (i:Int)) (hl:s.heap.IsTuple t items) (hsz:items.size<=sizeLine) (hx:items[i]?=some x)
  (hQ:∀h' tk,s.toks<=tk->RvAt h' it t ((i:Int) - 1)->Heap.SameBut it s.heap h'->Q (some x) { s with heap:=h',toks:=tk}):wpAny (model prog w) A (pyNext (.ref it)) Q E s:=by
 obtain⟨o,ho,hc,hd⟩:=id hit;have hi:=(Array.getElem?_eq_some_iff.mp hx).1;have:=dO;unfold pyNext;refine a_ (Yb (V2 (name:=Str.ofString "__next__") hit.ty rv_next
  (Vw rv_next hit.ty nU ?_ (nY _))))
 unfold Builtin.«reversed.__next__»;refine a_ (Wx (a:=(Value.ref it,[])) rfl ?_);try dsimp only
 refine a_ (Wq ho hd (x:=.ref t) rfl ?_);refine a_ (Wq ho hd (x:=rawInt (i:Int)) rfl ?_);show wpAny _ _ (if (i:Int)<0 then _ else _) _ _ s;rw[if_neg (by omega)];refine a_ (Wr hl.typeIs F.slot_tuple_getitem.lookup ?_);rw[if_neg (by decide)];refine a_ (wpAny_mkInt ?_);refine a_ (Yb (getItem_tuple (k:=i) hl (by omega) (by omega) ?_ hx ?_))
 ·simp [seqIndex?];omega
 refine a_ (Wq ho hd (x:=rawInt (i:Int)) rfl ?_);show wpAny _ _ (setField (.ref it) 1 (rawInt ((i:Int) - 1)) >>= fun _=>ret x) _ _ _;refine a_ (Wn ho hd (by simp) ?_);refine h_ ⟨x,rfl,h_ (hQ _ _ (by show s.toks<=s.toks+1;omega) ?_ (Heap.SameBut.update ..))⟩;exact⟨_,Vs _ ho (Obj.isFreed_of_fields (WR hd _)),(Obj.cls_mapFields ..).trans hc,by
  rw[WR hd];simp⟩
theorem Mm {it t:Addr}{Q:Option Value->Shared->Prop}(hh:A.handled=none) (hit:RvAt s.heap it t (-1))
  (hQ:∀h',Heap.ExtBut it s.heap h'->Q none { s with heap:=h'}):wpAny (model prog w) A (pyNext (.ref it)) Q E s:=by
 obtain⟨o,ho,hc,hd⟩:=id hit;unfold pyNext;refine a_ (Yb (V2 (name:=Str.ofString "__next__") hit.ty rv_next
  (Vw rv_next hit.ty nU ?_ (nY _))))
 unfold Builtin.«reversed.__next__»;refine a_ (Wx (a:=(Value.ref it,[])) rfl ?_);try dsimp only
 refine a_ (Wq ho hd (x:=.ref t) rfl ?_);refine a_ (Wq ho hd (x:=rawInt (-1)) rfl ?_);show wpAny _ _ (if (-1:Int)<0 then _ else _) _ _ s;rw[if_pos (by decide)];refine a_ (wpAny_rule ?_);refine a_ ?_;show wpAny _ _ (setField (.ref it) 1 (rawInt (-1)) >>= fun _=>setField (.ref it) 0 .none) _ _ s;refine a_ (Wn ho hd (by simp) ?_);have hf:=Obj.isFreed_of_fields (WR hd fun vs=>vs.setIfInBounds 1 (rawInt (-1)));have ho2:=Vs (Obj.mapFields fun vs=>vs.setIfInBounds 1 (rawInt (-1))) ho hf;refine Wn ho2 (WR hd _) (by simp) ?_;refine a_ ?_;show wpAny _ _ (newExc (.type "StopIteration") [] >>= _) _ _ _;refine a_ ?_;simp only[newExc,newTuple];refine a_ (Vb ?_ (by size_fits));refine a_ (m:=firstArgMember _ _) (Wx (a:=Value.none) (by first | rfl | (simp only[firstArgMember];rfl)) ?_);refine Vb ?_ (by size_fits);simp only[raiseNew];refine a_ (wpAny_handled ?_);first | rw[show A.in1.handled=none from hh] | rw[hh]
 refine a_ (h_ (wpAny_throw ?_));refine a_ (Xh (T:="StopIteration") (b:=true) ⟨_,x_ _ rfl,rfl⟩ isSubtype_stop ?_);refine h_ (hQ _ fun b o' hb e=>?_);refine e_ _ (e_ _ ?_);exact (Vo _ _ (Ne.symm hb)).trans ((Vo _ _ (Ne.symm hb)).trans e)
theorem vU {it t:Addr}{i:Int}{Q:Value->Shared->Prop}(hit:RvAt s.heap it t i) (h:Q (.ref it) s):wpAny (model prog w) A (pyIter (.ref it)) Q E s:=by
 refine Yk hit.ty vR (Vw vR hit.ty xV ?_ (xW _));show wpAny _ _ (ret (.ref it)) _ _ s;exact h_ ⟨_,rfl,"reversed",_,hit.ty,rv_next.lookup,h⟩
end
theorem Af {prog:Program}{w:World}{A:Around}(hh:A.handled=none) (I t:Addr) (hne:t≠I) (items:Array Value) (hsz:items.size<=sizeLine) :
  Walks prog w A I [I,t] [I] items.size (fun i v=>items[items.size - 1 - i]?=some v) (fun i h=>i<=items.size/\RvAt h I t ((items.size:Int) - 1 - (i:Int))/\h.IsTuple t items) where
 sub:=fun b hb=>by rw[i_.mp hb];exact t_
 frame:=fun _ _ _ x hk=>by
  obtain⟨o,ho,r⟩:=x.2.1
  exact⟨x.1,⟨o,hk I (by simp) o ho,r⟩,x.2.2.at fun o e=>hk t (by simp) o e⟩
 item:=fun i s Q E hi x hQ=>by
  have e:(items.size:Int) - 1 - (i:Int)=((items.size - 1 - i:Nat):Int):=by omega
  have hit:=x.2.1
  rw[e] at hit
  have hx:items[items.size - 1 - i]?=some (items[items.size - 1 - i]'(by omega)):=K_ (by omega)
  refine Ga hit x.2.2 hsz hx fun h' tk htk hit' hs'=>?_
  have e2:((items.size - 1 - i:Nat):Int) - 1=(items.size:Int) - 1 - ((i+1:Nat):Int):=by omega
  rw[e2] at hit'
  exact hQ _ h' tk hx ⟨hi,hit',x.2.2.at fun o eo=>(hs'.2 t hne).trans eo⟩ fun b o hb eo=>hs'.extBut b o (fun h=>hb (by simp [h])) eo
 done:=fun s Q E x hQ=>by
  have e:(items.size:Int) - 1 - (items.size:Int) = -1:=by omega
  have hit:=x.2.1
  rw[e] at hit
  exact Mm hh hit fun h' he'=>hQ h' s.toks fun b o hb eo=>he' b o (fun h=>hb (by simp [h])) eo
 self:=fun _ _ _ _ x hQ=>vU x.2.1 hQ
section
variable {prog:Program}{w:World}{A:Around}{E:Value->Shared->Prop}{s:Shared}
theorem Mp {it t:Addr}{items:Array Value}{Q:Value->Shared->Prop}(hit:RvAt s.heap it t ((items.size:Int) - 1)) (hl:s.heap.IsTuple t items) (hsz:items.size<=sizeLine)
  (hQ:∀u tk,s.toks<=tk->Q (.int (items.size:Int) u) { s with toks:=tk}):wpAny (model prog w) A (call (.builtin "reversed.__length_hint__") [.ref it]) Q E s:=by
 obtain⟨o,ho,hc,hd⟩:=id hit;have:=dO;refine Vw rv_hint hit.ty xU ?_ (xX _);unfold Builtin.«reversed.__length_hint__»;refine a_ (Wx (a:=Value.ref it) rfl ?_);refine a_ (Wq ho hd (x:=.ref t) rfl ?_);rw[if_neg (show ¬(Value.ref t==Value.none)=true from o_)];refine a_ (len_tuple hl (by omega) ?_);refine a_ (Wx (a:=some (items.size:Int)) rfl ?_);dsimp only;refine a_ (Wq ho hd (x:=rawInt ((items.size:Int) - 1)) rfl ?_);show wpAny _ _ (if (items.size:Int)<(items.size:Int) - 1+1 then _ else _) _ _ _;rw[if_neg (by omega)];show wpAny _ _ (mkInt ((items.size:Int) - 1+1) >>= fun v=>ret v) _ _ _;refine a_ (wpAny_mkInt (h_ ⟨_,rfl,?_⟩));rw[show (items.size:Int) - 1+1=items.size from by omega];exact hQ _ _ (by show s.toks<=s.toks+1+1+1;omega)
end
def lD:Obj:={ cls:=.type "list",data:=.seq ([]:List Value).toArray}
section
variable {prog:Program}{w:World}{A:Around}{E:Value->Shared->Prop}{s:Shared}
theorem t6 {I t:Addr}{items:Array Value}{Q:List Value->Shared->Prop}(hh:A.handled=none) (hne:t≠I) (hsz:items.size<=sizeLine) (hit:RvAt s.heap I t ((items.size:Int) - 1)) (hl:s.heap.IsTuple t items)
  (hQ:∀s' acc,Moved [I] (fun a b=>b=a) s s'->ItemsOf (fun i v=>items[items.size - 1 - i]?=some v) acc items.size->Q acc.toList s'):wpAny (model prog w) A (collect (.ref I)) Q E s:=by
 have W:=(Af (prog:=prog) (w:=w) (A:=A.in1) hh I t hne items hsz).toS;have hIl:I<s.heap.objs.size:=by obtain⟨o,ho,_⟩:=hit;exact B_ ho
 have htl:t<s.heap.objs.size:=by obtain⟨o,ho,_⟩:=hl;exact B_ ho
 have hSf:s.heap.objs.size∉[I,t]:=fun hm=>by
  rcases p_.mp hm with e | e
  ·rw[<- e] at hIl;exact Vc _ hIl
  rw[<- i_.mp e] at htl;exact Vc _ htl
 have hSI:s.heap.objs.size≠I:=fun e=>by rw[<- e] at hIl;exact Vc _ hIl
 have st:(fun (i:Nat) (s:Shared)=>i<=items.size/\RvAt s.heap I t ((items.size:Int) - 1 - (i:Int))/\s.heap.IsTuple t items) 0 s:=⟨Vx _,by simpa using hit,hl⟩;unfold collect;refine a_ (wpAny_runValue (Wz F.entry_proto_collect ?_));rw[W6 F.plain_proto_collect _];show wpAny _ A.in1 (newList [] >>= fun z=>again (.builtin "list.__iadd__" ⟨[z,.ref I],[]⟩)) _ _ s;refine a_ (Vb ?_);refine h_ ⟨W_ F.plain_list_iadd _,Wz F.entry_list_iadd ?_⟩;rw[W6 F.plain_list_iadd _];have st1:=W.frame 0 s (s.heap.push lD) s.toks st (m_ _) fun b _ o e=>e_ _ e;have hE:(s.heap.push lD).get? s.heap.objs.size=some lD:=x_ _ rfl;show wpAny _ A.in1 (Builtin.List.listExtendWith (.ref s.heap.objs.size) (.ref I) (.ref s.heap.objs.size)) _ _ { s with heap:=s.heap.push lD};unfold Builtin.List.listExtendWith;have hty:({ s with heap:=s.heap.push lD}:Shared).TypeIs (.ref I) "reversed":=RvAt.ty st1.2.1;refine a_ (Xp hty ?_);have n1:Builtin.List.listSameRef (.ref s.heap.objs.size) (.ref I)=false:=by simp [Builtin.List.listSameRef,hSI]
 have n2:(Value.type "reversed"==Value.type "list")=false:=by decide
 have n3:(Value.type "reversed"==Value.type "tuple")=false:=by decide
 simp only[n1,n2,n3,Bool.or_false,y_,U7];refine a_ (vU st1.2.1 ?_);refine a_ (VN ?_);unfold Builtin.List.listLengthHint;refine a_ (Wr hty Ae ?_);show wpAny _ A.in1 (specialOf (Value.ref I) (Str.ofString "__length_hint__") >>= _) _ _ _;refine a_ (Wr hty rv_hint.lookup ?_);generalize hid:("reversed.__length_hint__":String)=id0
 (fail_if_success (clear hid id0))
 wp_delta
 rw[show splitId id0=some ("reversed","__length_hint__") from by subst hid;decide +kernel];subst hid;refine a_ (Xh (b:=true) hty F.sub_reversed_self ?_);rw[if_neg (show ¬(!true)=true from o_)];dsimp only;rw[if_neg (by decide +kernel)];refine a_ (wpAny_rule ?_);refine a_ (Wx (rv_hint.bind _) ?_);dsimp only;have hit1:RvAt (s.heap.push lD) I t ((items.size:Int) - 1):=by have:=st1.2.1;simpa using this
 refine a_ (Yb (Mp hit1 st1.2.2 hsz fun u tk htk=>?_));dsimp only;have e0:asInt? (Value.int (items.size:Int) u)=pure (some (items.size:Int)):=rfl;rw[e0,pure_bind];dsimp only;have f1:Builtin.List.listFitsIndex (items.size:Int)=true:=by have:=dO;unfold Builtin.List.listFitsIndex;rw[Vf,q_,q_];omega
 have f2:Builtin.List.listTooLong (items.size:Int).toNat=false:=by unfold Builtin.List.listTooLong;rw[Xi,Wa];omega
 rw[f1,f2,if_neg (show ¬(!true)=true from o_),if_neg (show ¬((items.size:Int)<0) from by omega),if_neg o_];refine h_ ?_;have st2:=W.frame 0 _ (s.heap.push lD) tk st1 htk fun b _ o e=>e;have fin:∀(h2:Heap),(∀b o,b≠s.heap.objs.size->(s.heap.push lD).get? b=some o->h2.get? b=some o)->(∃c,h2.get? s.heap.objs.size=some { cls:=.type "list",dict:=none,data:=.seq #[] c,slots:=#[]}) ->
   codeAny (model prog w) A (.builtin "list.extend.loop" ⟨[.ref s.heap.objs.size,.ref I,.ref s.heap.objs.size],[]⟩) (fun r s'=>r=.ok (.ret (.ref s.heap.objs.size))/\∃acc c,Moved [I] (fun a b=>b=a) s s'/\s'.heap.get? s.heap.objs.size=some { cls:=.type "list",dict:=none,data:=.seq acc c,slots:=#[]}/\ItemsOf (fun i v=>items[items.size - 1 - i]?=some v) acc items.size) { s with heap:=h2,toks:=tk}:=fun h2 k1 ⟨c,k2⟩=>by
  refine codeAny_extend_loopS W hsz _ hSf _ items.size 0 _ _ _ rfl (Vx _) (W.frame 0 ({ s with heap:=s.heap.push lD,toks:=tk}:Shared) h2 tk st2 (m_ _) fun b hb o e=>k1 b o (fun z=>hSf (z▸hb)) e) k2 (ItemsOf.nil _) fun s' acc' c' hm hS' hacc=>⟨rfl,acc',c',?_,hS',hacc⟩
  refine Moved.drop_new (o:=lD) (tk:=tk) (Moved.trans W.gtrans ((Moved.refl (G:=fun a b=>b=a) fun _=>rfl).then_heap (s':={ s with heap:=s.heap.push lD,toks:=tk}) (m_ _) fun b o hb e=>?_) hm) htk
  exact k1 b o (fun z=>hb (z▸t_)) e
 clear f1 f2;split
 ·refine a_ (wpAny_rule ?_);refine a_ ?_;show wpAny _ A.in1 (updateSeq s.heap.objs.size (·.push .none) >>= fun _=>updateSeq s.heap.objs.size (·.pop)) _ _ _;refine a_ (Yd hE rfl ?_);have hE2:=Vs (Obj.mapSeq (·.push Value.none)) hE rfl;refine Yd hE2 rfl ?_;have hE3:=Vs (Obj.mapSeq (·.pop)) hE2 rfl;refine h_ ⟨W_ F.plain_extend_loop _,W4 (fin _ (fun b o hb e=>(Vo _ _ (Ne.symm hb)).trans ((Vo _ _ (Ne.symm hb)).trans e)) ⟨_,hE3⟩) ?_⟩;rintro r s' ⟨rfl,acc,c,hm,hS',hacc⟩;show wpAny _ A (load s.heap.objs.size >>= _) _ _ s';exact a_ (wpAny_load hS' (h_ (hQ s' acc hm hacc)))
 refine h_ ⟨W_ F.plain_extend_loop _,W4 (fin _ (fun b o hb e=>e) ⟨_,hE⟩) ?_⟩;rintro r s' ⟨rfl,acc,c,hm,hS',hacc⟩;show wpAny _ A (load s.heap.objs.size >>= _) _ _ s';exact a_ (wpAny_load hS' (h_ (hQ s' acc hm hacc)))
end
theorem Ag {items acc:Array Value}(h:ItemsOf (fun i v=>items[items.size - 1 - i]?=some v) acc items.size):acc=items.reverse:=by
 refine Array.ext (by rw[h.1];simp) fun j h1 h2=>?_;have q:items[items.size - 1 - j]?=some acc[j]:=h.2 j acc[j] (K_ h1);have hj:j<items.size:=by rw[<- h.1];exact h1
 rw[K_ (by omega)] at q;rw[Array.getElem_reverse];exact (U6 q).symm
theorem mQ (I t:Addr) (items:Array Value) (hsz:items.size<=sizeLine) (hne:t≠I) :
  Meets (Builtin.«tuple.__new__» ⟨[.type "tuple",.ref I],[]⟩)
   (fun A R s=>A.handled=none/\RvAt s.heap I t ((items.size:Int) - 1)/\s.heap.IsTuple t items/\∀s',Moved [I] (fun a b=>b=a) s s'->R (.ok (.ret (.ref s'.heap.objs.size))) { s' with heap:=s'.heap.push { cls:=.type "tuple",data:=.seq items.reverse}}) :=
 .of_wp fun prog w A R s h=>by
  obtain⟨hp,g,d,tk,os⟩:=s;obtain⟨hh,hr,hl,h⟩:=h;have hsub:=sub_tuple_self;have hinit:=init_tuple_lookup;have hmh:=madeHere_tuple;have hT:Shared.TypeIs ⟨hp,g,d,tk,os⟩ (.ref I) "reversed":=RvAt.ty hr;have ho:=hr;obtain⟨o,ho,hc,hd⟩:=ho
  wp_walk using AutoSeq1.wpAny_loadPart' ho,Xp hT,t6 (A:=A.in1) hh hne hsz hr hl
  intro s' acc hm hacc;rw[Ag hacc];show wpAny _ _ (Builtin.Tuple.tupleExact items.reverse.toList.toArray >>= fun v=>ret v) _ _ _;unfold Builtin.Tuple.tupleExact;refine a_ (Vb ?_ (by show items.reverse.toList.toArray.size<=sizeLine;simpa using hsz));refine h_ ⟨_,rfl,?_⟩;rw[show items.reverse.toList.toArray=items.reverse from Array.toArray_toList];exact h s' hm
section
variable {prog:Program}{w:World}{A:Around}{E:Value->Shared->Prop}{s:Shared}
theorem pL {I t:Addr}{items:Array Value}{Q:Value->Shared->Prop}(hh:A.handled=none) (hne:t≠I) (hsz:items.size<=sizeLine) (hr:RvAt s.heap I t ((items.size:Int) - 1)) (hl:s.heap.IsTuple t items)
  (h:∀s',Moved [I] (fun a b=>b=a) s s'->Q (.ref s'.heap.objs.size) { s' with heap:=s'.heap.push { cls:=.type "tuple",data:=.seq items.reverse}}) :
  wpAny (model prog w) A (call (.type "tuple") [.ref I]) Q E s :=
 callType_new F.called_tuple (by decide) (F.typeCall_tuple_1 _) (F.newCall_tuple_1 _) (fun obj=>F.args_object_init_2 obj _) F.entry_tuple_new
  (mQ I t items hsz hne) ⟨hh,hr,hl,fun s' hm=>⟨⟨_,x_ _ rfl,rfl⟩,h s' hm⟩⟩
variable {X:Cx}{e:Expr}{te:TE}{p1 p2 pos pos':Pos}
def Gb (te:TE):TE:=fun Z H Q=>te Z H fun x H1=>∃p ys,x=.ref p/\SqT X.K H1 p ys/\∀l,H1 l=none->Q (.ref l) (upd H1 l (.tup ys.reverse))
theorem xY (hc:X.calm=true) (hgt:Gl X "tuple") (hmt:X.mg "tuple"=none) (hgr:Gl X "reversed") (hmr:X.mg "reversed"=none) (hvt:bootBuiltins "tuple"=some (.type "tuple")) (hvr:bootBuiltins "reversed"=some (.type "reversed")) (ha:PE X e te)
  (he:starEach [e] X.env=(false,eval e X.env)::starEach [] X.env:=by rfl) (hpl:(backTo pos (starEach [] X.env)).any (·.1)=false:=by rfl) (hpl':(backTo pos' (starEach [] X.env)).any (·.1)=false:=by rfl) :
  PE X (.Call (.Name "tuple" p1) [.Call (.Name "reversed" p2) [e] [] pos'] [] pos) (Gb (X:=X) te):=by
 intro pins s Z H Q I h;refine Vm (dq I hgt hmt hvt ?_ (by decide) (by decide));refine Va ?_ rfl hpl;show wpAny _ _ (spliced ((false,eval (.Call (.Name "reversed" p2) [e] [] pos') X.env)::backTo pos (starEach [] X.env))) _ _ s;refine Vr ?_;refine Vm (dq I hgr hmr hvr ?_ (by decide) (by decide));refine Va ?_ he hpl';rw[he];show wpAny _ _ (spliced ((false,eval e X.env)::backTo pos' (starEach [] X.env))) _ _ s;refine Vr (thn (ha pins s Z H _ I h) fun u s1 ⟨x,H1,I1,r1,p,ys,hx,sq,q⟩=>?_);subst hx;cases r1;obtain⟨its,rv,hl,hz⟩:=I1.tuple sq;have hlen:=rv.length;have hsz:its.toArray.size<=sizeLine:=by simp only[l_];omega
 refine VD ?_;refine pK hl hsz fun tk htk=>?_;refine VD ?_;have hpI:p≠s1.heap.objs.size:=fun z=>by obtain⟨o,eo,_⟩:=hl;have:=B_ eo;rw[z] at this;exact Vc _ this
 refine pL (I1.ok.hd hc) hpI hsz ⟨_,x_ _ rfl,rfl,rfl⟩ (let ⟨o,eo,r⟩:=hl;⟨o,e_ _ eo,r⟩) fun s' hm=>?_;have kp:∀b u,s1.heap.get? b=some u->s'.heap.get? b=some u:=fun b u eb=>hm.heap b u (fun z=>by
  have:=B_ eb
  rw[i_.mp z] at this
  exact Vc _ this) (e_ _ eb)
 have e1:s'={ s1 with heap:=s'.heap,toks:=s'.toks}:=by
  obtain⟨a1,a2,a3,a4,a5⟩:=s';have:=hm.gens;have:=hm.drawn;have:=hm.os
  simp_all
 have I2:Inv X pins Z H1 { s1 with heap:=s'.heap,toks:=s'.toks}:=I1.kept kp;have I3:Inv X pins Z (upd H1 s'.heap.objs.size (.tup ys.reverse)) { s1 with heap:=s'.heap.push { cls:=.type "tuple",data:=.seq its.toArray.reverse},toks:=s'.toks} :=
  I2.laid (t':=s'.toks) (fun b o e=>e_ _ e) (m_ _) (show ObjOk X.prog X.w _ _ _ (.tup ys.reverse) from ⟨by simpa using hz,its.reverse,rv.reverse,by simpa using Tup0.new _ _⟩)
 rw[e1];exact⟨.ref s'.heap.objs.size,_,I3,rfl,q _ (I2.hok.fresh (m_ _))⟩
def qY (te:TE3):TE3:=fun Z H Q=>te Z H fun x H1=>match x with
 |.tup xs=>Q (.tup xs.reverse) H1
 |_=>False
theorem xZ {te:TE3}(hc:X.calm=true) (hgt:Gl X "tuple") (hmt:X.mg "tuple"=none) (hgr:Gl X "reversed") (hmr:X.mg "reversed"=none) (ha:PE3 X e te)
  (he:starEach [e] X.env=(false,eval e X.env)::starEach [] X.env:=by rfl) (hpl:(backTo pos (starEach [] X.env)).any (·.1)=false:=by rfl) (hpl':(backTo pos' (starEach [] X.env)).any (·.1)=false:=by rfl) :
  PE3 X (.Call (.Name "tuple" p1) [.Call (.Name "reversed" p2) [e] [] pos'] [] pos) (qY te):=by
 refine PE.imp (xY hc hgt hmt hgr hmr bK (by decide +kernel) ha he hpl hpl') ?_;rintro Z H Q ⟨Z3,H3,Q3,ss,sh,h,k⟩;refine⟨Z3,H3,_,ss,sh,h,fun v H' t H3' le sh' r q=>?_⟩;cases t with
 |tup ts=>obtain⟨a,ys,rfl,sq,rs⟩:=r.tup;exact⟨a,ys,rfl,sq,fun l hl=>k _ _ _ _ (le.trans (aL hl)) (sh'.new hl) (SimH.newTup (H3:=H3') hl rs.reverse) q⟩
 |_=>exact q.elim
theorem Ah (te:TE3) {Z:St3}{H:Hp3}{Q:VK3}:qY te Z H Q=te Z H fun x H1=>match x with
 |.tup xs=>Q (.tup xs.reverse) H1
 |_=>False:=rfl
variable {z ti to i1 i2:Addr}{f1 f2:List Addr}
variable {n1 n2 k:Nat}{P1 P2:Nat->Value->Prop}{S1 S2:Nat->Heap->Prop}
variable {pins:List (Addr × Obj)}{Z:L2.St}{H:Hp}{h':Heap}
theorem vV {ch:List Addr}{t':Nat}(I:Inv X pins Z H s) (k:∀b o,b∉ch->s.heap.get? b=some o->h'.get? b=some o) (hf:∀b∈ch,mG X pins H b):Inv X pins Z H { s with heap:=h',toks:=t'}:=by
 have nit:∀b u,H b=some u->b∉ch:=fun b u e z=>by rw[(hf b z).1] at e;cases e
 refine I.step (g':=s.gens) (d':=s.drawn) (ch:=ch) (fun b hb=>?_) (fun b o _ _ hc e _=>k b o hc e) (fun b o _ _ hc e _=>⟨o.slots,k b o hc e⟩) (fun _ _ _ _ n=>n)
  (fun b o hc e=>⟨o,k b o hc e⟩) (fun _ _ e=>e) (fun _ _ _ e=>e) (fun b ps e=>⟨#[],by rw[e];simp⟩) (fun m hm=>?_) (fun b u e=>?_) I.bare
 ·obtain⟨_,f1,_,f3,f4,f5⟩:=hf b hb;exact⟨f3,f1,f4,f5⟩
 ·obtain⟨o,es,ep,ho,r⟩:=hm;exact⟨o,es,ep,k _ o (fun z=>(hf _ z).2.1 rfl) ho,r⟩
 refine (I.hok b u e).stay (fun c v hc q=>k c v ?_ q) (fun _ q=>q) fun _ _ q=>q;rcases hc with z | z
 ·rw[z];exact nit b u e
 exact nit c _ z
variable {elts:List Expr}{x1:Nat}{tpos p:Pos}{ea eb:Expr}
end
theorem jJ {α:Type}(e1 e2 f:α->T) (as:List α) (rest:St3) {te:TE3}{still:Hp3->Prop}{fin:List T->Hp3->Prop}{v u:Option T}{H:Hp3}(hst:still H) (hl:as.length<=sizeLine)
  (ht:∀a∈as,∀Q:VK3,Q (f a) H->te (some (e1 a)::some (e2 a)::rest) H Q) (hfin:fin (as.map f) H) :
  cIter3 (qM 2 (iH (dX 0) (iH (dX 1) vo))) vz te still fin (as.map fun a=>.tup [e1 a,e2 a]) [] (v::u::rest) H:=by
 refine gH (fun r ys Z H'=>∃(rs ds:List α) (v u:Option T),Z=v::u::rest/\r=rs.map (fun a=>.tup [e1 a,e2 a])/\ys=ds.map f/\ds++rs=as/\H'=H) ⟨as,[],v,u,rfl,rfl,rfl,rfl,rfl⟩ ?_ ?_
 ·rintro ys Z H' ⟨rs,ds,v,u,rfl,hrs,rfl,hsp,rfl⟩;have hrs':rs=[]:=WK.mp hrs.symm;subst hrs';rw[S_] at hsp;subst hsp;exact⟨hst,by rw[d_];exact hl,hfin⟩
 rintro x r ys Z H' N ⟨rs,ds,v,u,rfl,hrs,rfl,hsp,rfl⟩ hN;cases rs with
 |nil=>cases hrs
 |cons t rs =>
 injection hrs with a1 a2;subst a1 a2;refine⟨hst,rfl,?_⟩;show te (some (e1 t)::some (e2 t)::rest) H' _;refine ht t (by rw[<- hsp];simp) _ ⟨?_,hN _ _ _ ⟨rs,ds++[t],_,_,rfl,rfl,by simp,by rw[<- hsp];simp,rfl⟩⟩;have:=Q_ List.length hsp;simp only[b_,j_] at this;rw[d_];omega
section
variable {H:Hp3}{Q:VK3}
theorem vW {α:Type} [DecidableEq α] (a:α):decide (a=a)=true:=O_ rfl
end
open L2 PySem.Builtin PySem.Builtin.Str
section
variable {prog:Program}{w:World}{A:Around}{E:Value->Shared->Prop}{s:Shared}{x y:Str}{t u:Tok}{Q:Value->Shared->Prop}
variable {X:Cx}
variable {elts:List Expr}{x1 j:Nat}{tpos pos p cp kp:Pos}{e:Expr}
variable {tg l:Expr}
variable {te:TE}{p1 p2 pos':Pos}
variable {pins:List (Addr × Obj)}{Z:L2.St}{H:Hp}
variable {a:Expr}{ta:TE3}
def ngq (x:T) (H:Hp3) (Q:VK3):Prop:=match x with
 |.int i=>Q (.int (-i)) H
 |_=>False
def Jc (ta:TE3):TE3:=fun Z H Q=>ta Z H fun x H1=>ngq x H1 Q
theorem Rk (ta:TE3) {Z:St3}{H:Hp3}{Q:VK3}:Jc ta Z H Q=ta Z H fun x H1=>ngq x H1 Q:=rfl
theorem Rm (i:Int) {H:Hp3}{Q:VK3}:ngq (.int i) H Q=Q (.int (-i)) H:=rfl
theorem lE (ha:PE3 X a ta):PE3 X (.UnaryOp .USub a pos) (Jc ta):=by
 refine PE.imp (Pq Kv ha) ?_;rintro Z H Q ⟨Z3,H3,Q3,ss,sh,h,k⟩;refine⟨Z3,H3,_,ss,sh,h,fun v H' t H3' le sh' r q=>?_⟩;cases t with
 |int i=>exact⟨i,r.int,k _ _ _ _ le sh' .ofInt q⟩
 |_=>exact q.elim
def anH (o:Option O3) (H:Hp3) (Q:VK3):Prop:=match o with
 |some (.lst xs)=>oq (cF xs) fun bs=>Q (.bl (bs.any id)) H
 |some (.rol xs)=>oq (cF xs) fun bs=>Q (.bl (bs.any id)) H
 |_=>False
def Jd:List T->Hp3->VK3->Prop:=fun ts H Q=>match ts with
 |[.ref a]=>anH (H a) H Q
 |_=>False
theorem Rn (a:Addr) {H:Hp3}{Q:VK3}:Jd [.ref a] H Q=anH (H a) H Q:=rfl
theorem Ro (xs:List T) {H:Hp3}{Q:VK3}:anH (some (.lst xs)) H Q=oq (cF xs) fun bs=>Q (.bl (bs.any id)) H:=rfl
theorem any_range (bs:List Bool):(List.range bs.length).any (fun i=>bs.getD i true)=bs.any id:=by
 rw[Vi,Wu,Wu];constructor
 ·rintro⟨i,hi,h⟩;have hi':=I_.mp hi;refine⟨bs[i],Vh hi',?_⟩;simpa [List.getD,hi'] using h
 rintro⟨b,hb,h⟩;obtain⟨i,hi,rfl⟩:=List.mem_iff_getElem.mp hb;refine⟨i,I_.mpr hi,?_⟩;simpa [List.getD,hi] using h
theorem Mq (hc:X.calm=true):fP X (.builtin "any") Jd:=by
 intro pins s Z H xs us Q I rv h;obtain⟨ts,H3,Q3,r,sh,h,k⟩:=h
 match ts,h,r with
 |[.ref a],h,r =>
 obtain⟨v,rfl,rv'⟩:=r.one';obtain⟨u,rfl,ru⟩:=vals1 rv;rw[rv'.ref] at ru;cases ru;have main:∀{ls:List T} {ys:List V},SqL X.K H a ys->Reps X.K H ls ys->oq (cF ls) (fun bs=>Q3 (.bl (bs.any id)) H3)->wpAny (model X.prog X.w) X.A (call (.builtin "any") [.ref a]) (EP X pins Z Q) X.xe s:=by
  intro ls ys sq rs q;cases e:cF ls with
  |none=>rw[e] at q;exact q.elim
  |some bs =>
  rw[e] at q;obtain⟨its,rvs,hl,_⟩:=I.list sq;have hi:=jH e rs rvs;subst hi;have hlI:a≠s.heap.objs.size:=fun z=>by obtain⟨o,n,eo,_⟩:=hl;have:=B_ eo;rw[z] at this;exact Vc _ this
  refine call_any_walk (wpAny_pyIter_list hl.isList ?_);refine⟨s.heap.objs.size,_,_,_,_,_,fun i=>bs.getD i true,rfl,Walks.list (A:=X.A.in1) (I.ok.hd hc) s.heap.objs.size a hlI (bs.map Value.bool).toArray,⟨⟨_,x_ _ rfl,rfl,rfl⟩,hl.isList.push _⟩,fun i v s' Q' E' hv hq=>?_,fun h' tk hk=>?_⟩
  ·have hv':(bs.map Value.bool)[i]?=some v:=by simpa using hv
   rw[z_] at hv';cases eb:bs[i]? with
   |none=>rw[eb] at hv';cases hv'
   |some b =>
   rw[eb] at hv';cases hv';have:bs.getD i true=b:=by simp [List.getD,eb]
   dsimp only at hq;rw[this] at hq;exact W0 hq
  have hn:(bs.map Value.bool).toArray.size=bs.length:=by simp
  rw[hn,any_range];refine⟨.bl (bs.any id),H,I.kept fun b o e=>hk b o (fun z=>?_) (e_ _ e),rfl,k _ _ _ _ .refl sh .ofBl q⟩;have:=B_ e;rw[i_.mp z] at this;exact Vc _ this
 have h':anH (H3 a) H3 Q3:=h;cases eo:H3 a with
 |none=>rw[eo] at h';exact h'.elim
 |some o =>
 rw[eo] at h';cases o with
 |lst ls=>obtain⟨ys,sq,rs⟩:=sh.sqL (.inl eo);exact main sq rs h'
 |rol ls=>obtain⟨ys,sq,rs⟩:=sh.sqL (.inr eo);exact main sq rs h'
 |_=>exact h'.elim
def Ai:List T->Hp3->VK3->Prop:=fun ts H Q=>match ts with
 |[.int i,.int j]=>Q (.int (if j>i then j else i)) H
 |_=>False
theorem Mr (i j:Int) {H:Hp3}{Q:VK3}:Ai [.int i,.int j] H Q=Q (.int (if j>i then j else i)) H:=rfl
theorem Gd (hc:X.calm=true):fP X (.builtin "max") Ai:=by
 intro pins s Z H xs us Q I rv h;obtain⟨ts,H3,Q3,r,sh,h,k⟩:=h
 match ts,h,r with
 |[.int i,.int j],h,r =>
 obtain⟨v,v2,rfl,r1,r2⟩:=r.two';obtain⟨u1,u2,rfl,q1,q2⟩:=vals2 rv;rw[r1.int] at q1;rw[r2.int] at q2;obtain⟨t1,rfl⟩:=q1;obtain⟨t2,rfl⟩:=q2;refine max_two_ints (I.ok.hd hc) fun h' tk hk=>?_;refine⟨.int (if j>i then j else i),H,I.kept hk,?_,k _ _ _ _ .refl sh .ofInt h⟩;by_cases z:j>i
 ·rw[if_pos z,if_pos z];exact⟨_,rfl⟩
 rw[if_neg z,if_neg z];exact⟨_,rfl⟩
theorem Aj:dD X (binaryOp .BitAnd) (pB fun i j=>.int (Builtin.bitAnd i j)):=lr Ku fun _ _ _=>.ofInt
theorem Rp:dD X (binaryOp .BitOr) (pB fun i j=>.int (Builtin.bitOr i j)):=lr Pu fun _ _ _=>.ofInt
theorem Ak:bootBuiltins "max"=some (.builtin "max"):=by decide +kernel
end
theorem bh {N P:List Str}{sc:Scope}(a:sc.kind=.function:=by rfl) (b:sc.isCoroutine=false:=by rfl) (c:sc.isGenerator=false:=by rfl) (d:N.Nodup:=by decide +kernel) (e:N.take P.length=P:=by rfl)
 (f:∀x∈P,sc.names.lookup x=some .local\/sc.names.lookup x=some .cell:=by decide +kernel) (g:∀y∈sc.names,y.2≠.free:=by decide +kernel):FnScope N P sc:=⟨a,b,c,d,e,f,g⟩
theorem Ge {p:Prop} [Decidable p] (h:¬p):¬(decide p=true) := fun e=>h (VF e)
theorem upa {H:Hp3}{a q:Addr}{o u:O3}(h:H a=some u) (hq:H q=none):up3 H q o a=some u := by rw[aD (aX h hq)];exact h
structure Cal (P:Program) (w:World) (K:Frag) (mg:Str->Option Value) (base:Heap) (k:Nat) (x:Str) (st:Stmt) (ps:List Str) (sp:Sp3):Prop where
 ex:∃(f:Addr) (fd:FuncData),G3 K mg x st ps f fd/\jG P w K mg base k f fd ps sp
theorem Ms {X:Cx}{k:Nat}{ps:List Str}{sp:Sp3}{st:Stmt}{x:Str}{p pos:Pos}{e:Expr}{es:List Expr}{t:TA3}(D:Cal X.prog X.w X.K X.mg X.base k x st ps sp) (hr:Room k X.A) (hg:Gl X x)
  (ha:PA3 X (e::es) t) (hdb:(x==("__debug__":Str))=false:=by decide) (he:starEach (e::es) X.env=(false,eval e X.env)::starEach es X.env:=by rfl) (hpl:(backTo pos (starEach es X.env)).any (·.1)=false:=by rfl) :
  PE3 X (.Call (.Name x p) (e::es) [] pos) (pA sp t):=by
 obtain⟨f,fd,g,F⟩:=D.ex;exact Fl F hr hg g.m g.fn.kp g.b ha hdb he hpl
theorem aJ {X:Cx}{k j:Nat}{ps:List Str}{sp:Sp3}{st:Stmt}{x:Str}{p pos:Pos}{e:Expr}{es:List Expr}{t:TA3}(D:Cal X.prog X.w X.K X.mg X.base k x st ps sp) (hr:Room j X.A) (hg:Gl X x) (ha:PA3 X (e::es) t) (hk:k<=j:=by decide) (hdb:(x==("__debug__":Str))=false:=by decide) (he:starEach (e::es) X.env=(false,eval e X.env)::starEach es X.env:=by rfl) (hpl:(backTo pos (starEach es X.env)).any (·.1)=false:=by rfl):PE3 X (.Call (.Name x p) (e::es) [] pos) (pA sp t):=Ms D (hr.mono hk) hg ha hdb he hpl
section
variable {X:Cx}{pins:List (Addr × Obj)}{Z:L2.St}{H:Hp}{s:Shared}
def rpH (o:Option O3) (k:Int) (H:Hp3) (Q:VK3):Prop:=match o with
 |some (.lst xs)=>(-(2^63)<=k/\k<2^63/\xs.length*k.toNat<=sizeLine)/\∀p,H p=none->Q (.ref p) (up3 H p (.lst (List.replicate k.toNat xs).flatten))
 |_=>False
def Je:R3:=fun x y H Q=>match x,y with
 |.ref a,.int k=>rpH (H a) k H Q
 |_,_=>False
theorem Jf (a:Addr) (k:Int) (H:Hp3) (Q:VK3):Je (.ref a) (.int k) H Q=rpH (H a) k H Q:=rfl
theorem Jg (xs:List T) (k:Int) (H:Hp3) (Q:VK3):rpH (some (.lst xs)) k H Q=((-(2^63)<=k/\k<2^63/\xs.length*k.toNat<=sizeLine)/\∀p,H p=none->Q (.ref p) (up3 H p (.lst (List.replicate k.toNat xs).flatten))):=rfl
theorem Reps.rep {K:Frag}{H:Hp}{ts:List T}{vs:List V}(r:Reps K H ts vs):∀k:Nat,Reps K H (List.replicate k ts).flatten (List.replicate k vs).flatten
 |0=>.nil
 |k+1=>by rw[Wo,Wo,Wi,Wi];exact r.append (Reps.rep r k)
theorem Mt:dD X (binaryOp .Mult) Je:=by
 refine OpR.imp K5 ?_;rintro x y H Q ⟨tx,ty,H3,Q3,rx,ry,sh,h,k⟩;cases tx with
 |ref a =>
  cases ty with
  |int n =>
   rw[Jf] at h;cases e:H3 a with
   |none=>rw[e] at h;exact h.elim
   |some o =>
   rw[e] at h;cases o with
   |lst xs=>rw[Jg] at h;obtain⟨vs,g1,r1⟩:=sh a _ e;obtain⟨⟨h1,h2,h3⟩,h'⟩:=h;refine⟨a,n,vs,rx.ref,ry.int,g1,h1,h2,by rw[<- r1.length];exact h3,fun p hp=>?_⟩;exact k _ _ _ _ (aL hp) (sh.newLst hp (r1.rep n.toNat)) .ofRef (h' p (sh.fresh hp))
   |_=>exact h.elim
  |_=>exact h.elim
 |_=>exact h.elim
end
theorem lr_hint:Slot "list_reverseiterator" "__length_hint__" "list_reverseiterator.__length_hint__":=.of (owner:="list_reverseiterator") (n:="__length_hint__") (by rw[We,Vt];kernel_rfl) (by decide +kernel) (by decide +kernel) (by decide +kernel)
 (by first | exact .inr (by decide +kernel) | exact .inl (by decide +kernel)) (by rw[Wm];kernel_rfl)
theorem Al:typeLookup (.type "list_reverseiterator") "__len__"=pure none:=by rw[We,Vt];kernel_rfl
theorem Mu:isSubtype (.type "list_reverseiterator") (.type "list_reverseiterator")=pure true:=by rw[Wm];kernel_rfl
theorem Am {items acc:Array Value}(h:ItemsOf (fun i v=>items[items.size - 1 - i]?=some v) acc items.size):acc=items.reverse:=by
 refine Array.ext (by rw[h.1];simp) fun j h1 h2=>?_;have q:items[items.size - 1 - j]?=some acc[j]:=h.2 j acc[j] (K_ h1);have hj:j<items.size:=by rw[<- h.1];exact h1
 rw[K_ (by omega)] at q;rw[Array.getElem_reverse];exact (U6 q).symm
section
variable {prog:Program}{w:World}{A:Around}{E:Value->Shared->Prop}{s:Shared}
theorem yc {R:Result->Shared->Prop}{I l S:Addr}{items:Array Value}{res:Value}{c₀:Nat}(hh:A.handled=none) (hne:l≠I) (hsz:items.size<=sizeLine) (hSf:S∉[I,l]) (hit:s.heap.IsRevIter I l ((items.size:Int) - 1)) (hl:s.heap.IsList l items)
  (hS:s.heap.get? S=some { cls:=.type "list",data:=.seq #[] c₀})
  (hR:∀s' acc' c',Moved (S::[I]) (fun a b=>b=a) s s'->s'.heap.get? S=some { cls:=.type "list",dict:=none,data:=.seq acc' c',slots:=#[]}->ItemsOf (fun i v=>items[items.size - 1 - i]?=some v) acc' items.size->R (.ok (.ret res)) s') :
  wpAny (model prog w) A.in1 (Builtin.List.listExtendWith (.ref S) (.ref I) res)
   (fun fin s'=>match fin with | .done f=>R (.ok f) s' | .again c'=>c'.quiet=true/\codeAny (model prog w) A c' R s') (fun e s'=>R (.error e) s') s:=by
 have W:=(Walks.listRev (prog:=prog) (w:=w) (A:=A.in1) hh I l hne items).toS;have hSI:S≠I:=fun e=>hSf (e▸t_);have st:(fun (i:Nat) (s:Shared)=>i<=items.size/\s.heap.IsRevIter I l ((items.size:Int) - 1 - (i:Int))/\s.heap.IsList l items) 0 s:=⟨Vx _,by simpa using hit,hl⟩;have hty:s.TypeIs (.ref I) "list_reverseiterator":=hit.typeIs;unfold Builtin.List.listExtendWith;refine a_ (Xp hty ?_);have n1:Builtin.List.listSameRef (.ref S) (.ref I)=false:=by simp [Builtin.List.listSameRef,hSI]
 have n2:(Value.type "list_reverseiterator"==Value.type "list")=false:=by decide
 have n3:(Value.type "list_reverseiterator"==Value.type "tuple")=false:=by decide
 simp only[n1,n2,n3,Bool.or_false,y_,U7];refine a_ (wpAny_pyIter_revIter hit ?_);refine a_ (VN ?_);unfold Builtin.List.listLengthHint;refine a_ (Wr hty Al ?_);show wpAny _ A.in1 (specialOf (Value.ref I) (Str.ofString "__length_hint__") >>= _) _ _ _;refine a_ (Wr hty lr_hint.lookup ?_);generalize hid:("list_reverseiterator.__length_hint__":String)=id0
 (fail_if_success (clear hid id0))
 wp_delta
 rw[show splitId id0=some ("list_reverseiterator","__length_hint__") from by subst hid;decide +kernel];subst hid;refine a_ (Xh (b:=true) hty Mu ?_);rw[if_neg (show ¬(!true)=true from o_)];dsimp only;rw[if_pos (by decide +kernel)];rw[if_neg (show ¬((Value.builtin "list_reverseiterator.__length_hint__"==Value.builtin "range_iterator.__length_hint__")=true) from by decide)];refine h_ ?_;try rw[if_neg o_]
 refine h_ ⟨W_ F.plain_extend_loop _,?_⟩;exact codeAny_extend_loopS W hsz _ hSf _ items.size 0 _ _ _ rfl (Vx _) st hS (ItemsOf.nil _) fun s' acc' c' hm hS' hacc=>hR s' acc' c' hm hS' hacc
theorem Gf {R:Result->Shared->Prop}{I l S:Addr}{items:Array Value}(hh:A.handled=none) (hne:l≠I) (hsz:items.size<=sizeLine) (hSf:S∉[I,l]) (hit:s.heap.IsRevIter I l ((items.size:Int) - 1)) (hl:s.heap.IsList l items)
  (hS:s.heap.get? S=some { cls:=.type "list",data:=.seq #[]})
  (hR:∀s' acc' c',Moved (S::[I]) (fun a b=>b=a) s s'->s'.heap.get? S=some { cls:=.type "list",dict:=none,data:=.seq acc' c',slots:=#[]}->ItemsOf (fun i v=>items[items.size - 1 - i]?=some v) acc' items.size->R (.ok (.ret .none)) s') :
  wpAny (model prog w) A.in1 (Builtin.«list.__init__» ⟨[.ref S,.ref I],[]⟩)
   (fun fin s'=>match fin with | .done f=>R (.ok f) s' | .again c'=>c'.quiet=true/\codeAny (model prog w) A c' R s') (fun e s'=>R (.error e) s') s:=by
 show wpAny _ A.in1 (do let old <- Builtin.List.listItems (.ref S);Builtin.List.listUpdate (.ref S) (fun _=>#[]);letGo old.toList.reverse;Builtin.List.listExtendWith (.ref S) (.ref I) .none) _ _ s;refine a_ ?_;unfold Builtin.List.listItems;refine a_ (wpAny_seqItems hS rfl (h_ ?_));show wpAny _ A.in1 (updateSeq S (fun _=>#[]) >>= fun _=>letGo (#[]:Array Value).toList.reverse >>= fun _=>Builtin.List.listExtendWith (.ref S) (.ref I) .none) _ _ s;refine a_ (Yd hS rfl ?_);have hS₂:=Vs (Obj.mapSeq (fun _=>(#[]:Array Value))) hS rfl;have oth:∀b o,b≠S->s.heap.get? b=some o->(s.heap.update S (Obj.mapSeq (fun _=>(#[]:Array Value)))).get? b=some o :=
  fun b o hb e=>(Vo _ _ (Ne.symm hb)).trans e
 refine a_ (wpAny_letGo ?_);have nI:I≠S:=fun e=>hSf (by simp [e]);have nl:l≠S:=fun e=>hSf (by simp [e]);refine yc hh hne hsz hSf (hit.at fun o e=>oth _ o nI e) (hl.at fun o e=>oth _ o nl e) hS₂ fun s' acc' c' hm hS' hacc=>?_;exact hR s' acc' c' (Moved.trans (G:=fun a b=>b=a) (fun a b c h1 h2=>h2.trans h1) ((Moved.refl (G:=fun a b=>b=a) fun _=>rfl).then_heap (m_ _) fun b o hb e=>oth b o (fun h=>hb (h▸t_)) e) hm) hS' hacc
theorem mR {Q:Value->Shared->Prop}{I l:Addr}{items:Array Value}(hh:A.handled=none) (hne:l≠I) (hsz:items.size<=sizeLine) (hit:s.heap.IsRevIter I l ((items.size:Int) - 1)) (hl:s.heap.IsList l items)
  (hQ:∀s' c',Moved (s.heap.objs.size::[I]) (fun a b=>b=a) { s with heap:=s.heap.push { cls:=.type "list",data:=.seq #[]}} s' ->
   s'.heap.get? s.heap.objs.size=some { cls:=.type "list",dict:=none,data:=.seq items.reverse c',slots:=#[]}->Q (.ref s.heap.objs.size) s') :
  wpAny (model prog w) A (call (.type "list") [.ref I]) Q E s:=by
 have hIl:I<s.heap.objs.size:=by obtain⟨o,ho,_⟩:=hit;exact B_ ho
 have htl:l<s.heap.objs.size:=by obtain⟨o,ho,_⟩:=hl;exact B_ ho
 have hSf:s.heap.objs.size∉[I,l]:=fun hm=>by
  rcases p_.mp hm with e | e
  ·rw[<- e] at hIl;exact Vc _ hIl
  rw[<- i_.mp e] at htl;exact Vc _ htl
 refine callType_codes (Q₁:=fun obj s₁=>obj=.ref s.heap.objs.size/\s₁={ s with heap:=s.heap.push { cls:=.type "list",data:=.seq #[]}}) F.called_list (F.typeCall_list_1 _) F.entry_list_init
  (code_list_new _ ⟨rfl,rfl⟩) fun obj s₁ h₁=>?_
 obtain⟨rfl,rfl⟩:=h₁;have hS:(s.heap.push { cls:=.type "list",data:=.seq #[]}).get? s.heap.objs.size=some { cls:=.type "list",data:=.seq #[]}:=x_ _ rfl;refine⟨⟨_,hS,rfl⟩,F.args_list_init_2 _ _,Gf (A:=A.in1) hh hne hsz hSf (hit.at fun o e=>e_ _ e) (hl.at fun o e=>e_ _ e) hS fun s' acc' c' hm hS' hacc=>?_⟩;refine⟨rfl,hQ s' c' hm ?_⟩;rw[<- Am hacc];exact hS'
end
def Itv (K:Frag) (a:Addr) (n:Nat):It :=
 ⟨fun i H=>∃xs x,SqL K H a xs/\xs.length=n/\i<n/\xs[n - 1 - i]?=some x,fun i H x H'=>H'=H/\∀xs,SqL K H a xs->xs[n - 1 - i]?=some x,fun i _=>n<=i⟩
theorem An {P:Program}{w:World}{K:Frag}{tg:Expr}(a it:Addr) (n:Nat):Turn P w K tg (Itv K a n) [it] it (fun i h=>i<=n/\h.IsRevIter it a ((n:Int) - 1 - (i:Int))) where
 mem:=by simp
 obj:=fun i h st b hb=>by
  have e:b=it:=by simpa using hb
  subst e
  obtain⟨_,o,e,c,d⟩:=st
  exact⟨o,e,fun v z=>by rw[d] at z;cases z⟩
 keep:=fun i h h' st k=>⟨st.1,st.2.at fun o e=>k it (by simp) o e⟩
 item:=by
  intro X hP hw hK hc i pins s Z H E I hf st hg
  subst hP hw hK
  obtain⟨xs,x,hq,hn,hi,hx⟩:=hg
  obtain⟨its,rv,p,hz⟩:=I.list hq
  obtain⟨u,hu,ru⟩:=rv.get hx
  obtain⟨f0,f1,f2,f3,f4,f5⟩:=hf it (by simp)
  have e:(n:Int) - 1 - (i:Int)=((n - 1 - i:Nat):Int):=by omega
  obtain⟨_,st⟩:=st
  rw[e] at st
  refine wpAny_pyNext_rev_item st p.isList (x:=u) (by simpa using hu) fun h' st' sb=>?_
  have I1:Inv X pins Z H { s with heap:=h'}:=I.turned (t':=s.toks) (fun b o hb e=>(sb.2 b hb).trans e) f0 f1 f3 f4 f5
  obtain⟨o,e',c,d⟩:=id st'
  have e2:((n - 1 - i:Nat):Int) - 1=(n:Int) - 1 - ((i+1:Nat):Int):=by omega
  rw[e2] at st'
  exact⟨u,rfl,uU (s:={ s with heap:=h'}) e' c d (by decide) ⟨x,H,I1,ru,⟨rfl,fun ys hy=>by rw[I.list_inj hy hq];exact hx⟩,⟨hi,st'⟩,fun b hb=>(hf b hb).1⟩⟩
 done:=by
  intro X hP hw hK hc i pins s Z H E I hf st hg
  subst hP hw hK
  obtain⟨f0,f1,f2,f3,f4,f5⟩:=hf it (by simp)
  obtain⟨hle,st⟩:=st
  have hge:n<=i:=hg
  have e:(n:Int) - 1 - (i:Int) = -1:=by omega
  rw[e] at st
  exact wpAny_pyNext_rev_end (I.ok.hd hc) st fun h' eb=>⟨rfl,I.turned (t':=s.toks) (fun b o hb e=>eb b o hb e) f0 f1 f3 f4 f5⟩
 self:=fun _ _ _ _ _ st h=>wpAny_pyIter_revIter st.2 h
theorem jK:bootBuiltins "reversed"=some (.type "reversed"):=by decide +kernel
section
variable {X:Cx}{tg e:Expr}{p p1 p2 pos pos':Pos}
def UW (K:Frag) (te:TE):TI:=fun Z H R=>te Z H fun x H1=>∃a xs,x=.ref a/\SqL K H1 a xs/\R (Itv K a xs.length) H1
theorem Mv {te:TE}(hg:Gl X "reversed") (hm:X.mg "reversed"=none) (he:PE X e te)
  (hs:starEach [e] X.env=(false,eval e X.env)::starEach [] X.env:=by rfl) (hpl:(backTo pos (starEach [] X.env)).any (·.1)=false:=by rfl) :
  PI X tg (.Call (.Name "reversed" p) [e] [] pos) (UW X.K te):=by
 intro pins s Z H R I h;refine Vm (dq I hg hm jK ?_ (by decide) (by decide));refine Va ?_ hs hpl;rw[hs];show wpAny _ _ (spliced ((false,eval e X.env)::backTo pos (starEach [] X.env))) _ _ s;refine Vr (thn (he pins s Z H _ I h) fun u s2 ⟨x,H2,I2,r1,a,xs,ea,hq,q⟩=>?_);subst ea;cases r1;refine VD ?_;obtain⟨its,rv,hl,hz⟩:=I2.list hq;have hlen:=rv.length;refine call_reversed_list hl.isList ?_;have eI:((its.toArray.size:Nat):Int) - 1=(xs.length:Int) - 1:=by simp [hlen]
 rw[eI];have hI:(s2.heap.push (revObj a ((xs.length:Int) - 1))).IsRevIter s2.heap.objs.size a ((xs.length:Int) - 1):=⟨_,x_ _ rfl,rfl,rfl⟩;refine wpAny_pyIter_revIter hI ?_;refine⟨s2.heap.objs.size,[s2.heap.objs.size],_,_,H2,rfl,I2.kept (t':=s2.toks) fun b o e=>e_ _ e,An a s2.heap.objs.size xs.length,⟨Vx _,by simpa using hI⟩,fun b hb=>?_,q⟩;have e:b=s2.heap.objs.size:=by simpa using hb
 subst e;exact I2.fpOk (m_ _) (I2.hok.fresh (m_ _))
def reO (o:Option O3) (a:Addr) (H:Hp3) (R:List T->(Hp3->Prop)->Hp3->Prop):Prop:=match o with
 |some (.lst ts)=>R ts.reverse (cC a ts) H
 |_=>False
def Jh (te:TE3):TI3:=fun Z H R=>te Z H fun x H1=>match x with
 |.ref a=>reO (H1 a) a H1 R
 |_=>False
theorem Ao {K:Frag}{H:Hp}{a:Addr}{ts:List T}{xs:List V}(rs:xs.length=ts.length):lg K (Itv K a xs.length) ts.reverse (cC a ts) H:=fun H' H3' le sh st=>by
 obtain⟨ys,sq,rs'⟩:=sh.sqL st;have hl:=rs'.length;rw[rs];refine⟨fun i hi=>by rw[Vn] at hi;exact hi,fun i t e=>?_⟩;have hi:i<ts.length:=by have:=(VG.mp e).1;rw[Vn] at this;exact this
 rw[List.getElem?_reverse hi] at e;obtain⟨v,ev,rv⟩:=rs'.get e;refine⟨⟨ys,v,sq,hl.symm,hi,ev⟩,fun x H'' y=>?_⟩;obtain⟨e1,y⟩:=y;subst e1;have:=y ys sq;rw[ev] at this;cases this;exact⟨.refl,sh,rv⟩
theorem Mw {te:TE3}(hg:Gl X "reversed") (hm:X.mg "reversed"=none) (he:PE3 X e te)
  (hs:starEach [e] X.env=(false,eval e X.env)::starEach [] X.env:=by rfl) (hpl:(backTo pos (starEach [] X.env)).any (·.1)=false:=by rfl) :
  PI3 X tg (.Call (.Name "reversed" p) [e] [] pos) (Jh te):=by
 refine PI.imp (Mv hg hm he hs hpl) ?_;rintro Z H R ⟨Z3,H3,R3,ss,sh,h,k⟩;refine⟨Z3,H3,_,ss,sh,h,fun v H' t H3' le sh' r q=>?_⟩;cases t with
 |ref a =>
  have q':reO (H3' a) a H3' R3:=q
  cases e:H3' a with
  |none=>rw[e] at q';exact q'.elim
  |some o =>
   rw[e] at q'
   cases o with
   |lst ts =>
    obtain⟨xs,sq,rs⟩:=sh'.sqL (.inl e)
    exact⟨a,xs,r.ref,sq,k _ _ (cC a ts) H' H3' le sh' (Ao rs.length.symm) q'⟩
   |_=>exact q'.elim
 |_=>exact q.elim
theorem Mx (te:TE3) {Z:St3}{H:Hp3}{R:List T->(Hp3->Prop)->Hp3->Prop}:Jh te Z H R=te Z H fun x H1=>match x with
 |.ref a=>reO (H1 a) a H1 R
 |_=>False:=rfl
theorem Rq (ts:List T) (a:Addr) (H:Hp3) (R:List T->(Hp3->Prop)->Hp3->Prop):reO (some (.lst ts)) a H R=R ts.reverse (cC a ts) H:=rfl
def Mz (te:TE):TE:=fun Z H Q=>te Z H fun x H1=>∃p ys,x=.ref p/\SqL X.K H1 p ys/\∀l,H1 l=none->Q (.ref l) (upd H1 l (.lst ys.reverse))
theorem Aq {te:TE}(hc:X.calm=true) (hgt:Gl X "list") (hmt:X.mg "list"=none) (hgr:Gl X "reversed") (hmr:X.mg "reversed"=none) (ha:PE X e te)
  (he:starEach [e] X.env=(false,eval e X.env)::starEach [] X.env:=by rfl) (hpl:(backTo pos (starEach [] X.env)).any (·.1)=false:=by rfl) (hpl':(backTo pos' (starEach [] X.env)).any (·.1)=false:=by rfl) :
  PE X (.Call (.Name "list" p1) [.Call (.Name "reversed" p2) [e] [] pos'] [] pos) (Mz (X:=X) te):=by
 intro pins s Z H Q I h;refine Vm (dq I hgt hmt iW ?_ (by decide) (by decide));refine Va ?_ rfl hpl;show wpAny _ _ (spliced ((false,eval (.Call (.Name "reversed" p2) [e] [] pos') X.env)::backTo pos (starEach [] X.env))) _ _ s;refine Vr ?_;refine Vm (dq I hgr hmr jK ?_ (by decide) (by decide));refine Va ?_ he hpl';rw[he];show wpAny _ _ (spliced ((false,eval e X.env)::backTo pos' (starEach [] X.env))) _ _ s;refine Vr (thn (ha pins s Z H _ I h) fun u s1 ⟨x,H1,I1,r1,p,ys,hx,sq,q⟩=>?_);subst hx;cases r1;obtain⟨its,rv,hl,hz⟩:=I1.list sq;have hlen:=rv.length;have hsz:its.toArray.size<=sizeLine:=by simp only[l_];omega
 refine VD ?_;refine call_reversed_list hl.isList ?_;refine VD ?_;have hpl:p<s1.heap.objs.size:=by obtain⟨o,eo,_⟩:=hl.isList;exact B_ eo
 have hI0:(s1.heap.push (revObj p ((its.toArray.size:Int) - 1))).IsRevIter s1.heap.objs.size p ((its.toArray.size:Int) - 1):=⟨_,x_ _ rfl,rfl,rfl⟩;refine mR (s:={ s1 with heap:=s1.heap.push (revObj p ((its.toArray.size:Int) - 1))}) (I1.ok.hd hc) (U9 hpl) hsz hI0 (hl.isList.at fun o e=>e_ _ e) fun s' c' hm hS=>?_;generalize hz0:(s1.heap.push (revObj p ((its.toArray.size:Int) - 1))).objs.size=z at hm hS;have hz1:s1.heap.objs.size<z:=by rw[<- hz0];simp [Heap.push]
 have kp:∀b u,s1.heap.get? b=some u->s'.heap.get? b=some u:=fun b u eb=>hm.heap b u (fun hb=>by
  have:=B_ eb
  rcases p_.mp hb with e | e
  ·
   rw[e] at this;exact absurd (XX this hz1) (Vc _)
  ·
   rw[i_.mp e] at this;exact Vc _ this) (e_ _ (e_ _ eb))
 have e1:s'={ s1 with heap:=s'.heap,toks:=s'.toks}:=by
  obtain⟨a1,a2,a3,a4,a5⟩:=s';have:=hm.gens;have:=hm.drawn;have:=hm.os
  simp_all
 have I3:Inv X pins Z (upd H1 z (.lst ys.reverse)) { s1 with heap:=s'.heap,toks:=s'.toks} :=
  I1.laid (t':=s'.toks) kp (V5 hz1) ⟨by rw[Vn];exact hz,its.reverse,c',rv.reverse,by simpa using hS⟩
 rw[e1];exact⟨.ref z,_,I3,rfl,q _ (I1.hok.fresh (V5 hz1))⟩
def lrO (o:Option O3) (H:Hp3) (Q:VK3):Prop:=match o with
 |some (.lst xs)=>∀p,H p=none->Q (.ref p) (up3 H p (.lst xs.reverse))
 |_=>False
def vX (te:TE3):TE3:=fun Z H Q=>te Z H fun x H1=>match x with
 |.ref a=>lrO (H1 a) H1 Q
 |_=>False
theorem Ar {te:TE3}(hc:X.calm=true) (hgt:Gl X "list") (hmt:X.mg "list"=none) (hgr:Gl X "reversed") (hmr:X.mg "reversed"=none) (ha:PE3 X e te)
  (he:starEach [e] X.env=(false,eval e X.env)::starEach [] X.env:=by rfl) (hpl:(backTo pos (starEach [] X.env)).any (·.1)=false:=by rfl) (hpl':(backTo pos' (starEach [] X.env)).any (·.1)=false:=by rfl) :
  PE3 X (.Call (.Name "list" p1) [.Call (.Name "reversed" p2) [e] [] pos'] [] pos) (vX te):=by
 refine PE.imp (Aq hc hgt hmt hgr hmr ha he hpl hpl') ?_;rintro Z H Q ⟨Z3,H3,Q3,ss,sh,h,k⟩;refine⟨Z3,H3,_,ss,sh,h,fun v H' t H3' le sh' r q=>?_⟩;cases t with
 |ref a =>
  have q':lrO (H3' a) H3' Q3:=q
  cases e:H3' a with
  |none=>rw[e] at q';exact q'.elim
  |some o =>
   rw[e] at q'
   cases o with
   |lst ts =>
    obtain⟨xs,sq,rs⟩:=sh'.sqL (.inl e)
    exact⟨a,xs,r.ref,sq,fun l hl=>k _ _ _ _ (le.trans (aL hl)) (sh'.newLst hl rs.reverse) .ofRef (q' l (sh'.fresh hl))⟩
   |_=>exact q'.elim
 |_=>exact q.elim
theorem Gg (te:TE3) {Z:St3}{H:Hp3}{Q:VK3}:vX te Z H Q=te Z H fun x H1=>match x with
 |.ref a=>lrO (H1 a) H1 Q
 |_=>False:=rfl
theorem Rr (xs:List T) (H:Hp3) (Q:VK3):lrO (some (.lst xs)) H Q=∀p,H p=none->Q (.ref p) (up3 H p (.lst xs.reverse)):=rfl
variable {o:Expr}{to:TE3}{name:Str}{apos cpos:Pos}{m:T->List T->Hp3->VK3->Prop}{Ty id:String}
def Ji (Ty:String) (m:T->List T->Hp3->VK3->Prop) (to:TE3):TE3:=fun Z H Q=>to Z H fun x H1=>ty3 Ty x H1/\m x [] H1 Q
theorem MF (pa:PlainAttrs Ty) (slot:Slot Ty name id) (hty:typeOf (.builtin id)=pure (.type "method_descriptor")) (hm:tV X id m) (ho:PE3 X o to)
  (hbase:attributeBase o name X.env (eval o X.env)=eval o X.env:=by rfl) (hline:(apos.endLine==cpos.line)=true:=by rfl) :
  PE3 X (.Call (.Attribute o name apos) [] [] cpos) (Ji Ty m to):=by
 refine PE.imp (K1 pa slot hty hm ho hbase hline) ?_;rintro Z H Q ⟨Z3,H3,Q3,ss,sh,h,k⟩;exact⟨Z3,H3,_,ss,sh,h,fun x H1 tx H31 le1 sh1 rx q1=>⟨Ir sh1 rx q1.1,tx,[],H31,Q3,rx,.nil,sh1,q1.2,k.at le1⟩⟩
def Gh:V->List V->Hp->VK->Prop:=fun x vs H Q=>∃l xs i y,x=.ref l/\vs=[.int i,y]/\H l=some (.lst xs)/\0<=i/\i<=xs.length/\xs.length<sizeLine/\Q .non (upd H l (.lst (xs.take i.toNat++y::xs.drop i.toNat)))
theorem yd:MtR X "list.insert" Gh:=by
 intro pins s Z H x vs v us Q I rx rv h;obtain⟨l,xs,i,y,rfl,rfl,hH,h0,h1,hz,q⟩:=h;cases rx;obtain⟨u,u',rfl,ru,ru'⟩:=vals2 rv;obtain⟨t,rfl⟩:=ru;obtain⟨z,its,n,r,hl,e⟩:=I.lstM hH;have hsz:sizeLine=16777216:=rfl;have hf:¬(!Builtin.List.listFitsIndex i)=true:=by rw[fitsIndex_both (by omega) (by omega)];exact o_
 refine Yo F.slot_list_insert ⟨_,e,rfl⟩ F.entry_list_insert (F.args_list_insert_3 _ _ _) (AutoSeq1.list_insert_list_int_val_1 l its.toArray n i t u' hf (by rw[l_];omega)) ⟨e,?_⟩;refine⟨.non,_,I.lset (its':=its.take i.toNat++u'::its.drop i.toNat) hH e ?_ ((r.take _).append (.cons ru' (r.drop _))) ?_,rfl,q⟩
 ·dsimp only;rw[if_neg (by omega),l_,Nat.min_eq_left (by omega)];apply Array.toList_inj.mp;simp;exact WM (by simp)
 rw[b_,j_,Vv,V6];omega
def MJ (o:Option O3) (a:Addr) (i:Int) (t:T) (H:Hp3) (Q:VK3):Prop:=match o with
 |some (.lst xs)=>(0<=i/\i<=xs.length/\xs.length<sizeLine)/\Q .non (up3 H a (.lst (xs.take i.toNat++t::xs.drop i.toNat)))
 |_=>False
def Jj:T->List T->Hp3->VK3->Prop:=fun x ts H Q=>match x,ts with
 |.ref a,[.int i,t]=>MJ (H a) a i t H Q
 |_,_=>False
theorem Jk (a:Addr) (i:Int) (t:T) (H:Hp3) (Q:VK3):Jj (.ref a) [.int i,t] H Q=MJ (H a) a i t H Q:=rfl
theorem Av (xs:List T) (a:Addr) (i:Int) (t:T) (H:Hp3) (Q:VK3):MJ (some (.lst xs)) a i t H Q=((0<=i/\i<=xs.length/\xs.length<sizeLine)/\Q .non (up3 H a (.lst (xs.take i.toNat++t::xs.drop i.toNat)))):=rfl
theorem ye:tV X "list.insert" Jj:=by
 refine MtR.imp yd ?_;rintro x xs H Q ⟨tx,ts,H3,Q3,rx,rs,sh,h,k⟩;cases tx with
 |ref a =>
  cases ts with
  |nil=>exact h.elim
  |cons t1 ts =>
  cases ts with
  |nil=>cases t1 <;> exact h.elim
  |cons t2 ts =>
  cases ts with
  |cons _ _=>cases t1 <;> exact h.elim
  |nil =>
  cases t1 with
  |int i =>
   rw[Jk] at h;cases e:H3 a with
   |none=>rw[e] at h;exact h.elim
   |some o =>
   rw[e] at h;cases o with
   |lst ls=>rw[Av] at h;obtain⟨ys,hH,r⟩:=sh a _ e;obtain⟨⟨h1,h2,h3⟩,h'⟩:=h;obtain⟨v,v',rfl,rv,rv'⟩:=rs.two';refine⟨a,ys,i,v',rx.ref,by rw[rv.int],hH,h1,by rw[<- r.length];exact h2,by rw[<- r.length];exact h3,k _ _ _ _ (bF (by rw[hH];exact trivial)) (sh.wrL hH ((r.take _).append (.cons rv' (r.drop _)))) .ofNon h'⟩
   |_=>exact h.elim
  |_=>exact h.elim
 |_=>exact h.elim
def mxH (o:Option O3) (H:Hp3) (Q:VK3):Prop:=match o with
 |some (.lst xs)=>oq (ints3 xs) fun ns=>ns≠[]/\∀M,M∈ns->(∀a∈ns,a<=M)->Q (.int M) H
 |_=>False
def Aw:List T->Hp3->VK3->Prop:=fun ts H Q=>match ts with
 |[.ref a]=>mxH (H a) H Q
 |_=>False
theorem Ax (a:Addr) (H:Hp3) (Q:VK3):Aw [.ref a] H Q=mxH (H a) H Q:=rfl
theorem Jl (xs:List T) (H:Hp3) (Q:VK3):mxH (some (.lst xs)) H Q=oq (ints3 xs) fun ns=>ns≠[]/\∀M,M∈ns->(∀a∈ns,a<=M)->Q (.int M) H:=rfl
theorem Gi (hc:X.calm=true):fP X (.builtin "max") Aw:=by
 intro pins s Z H xs us Q I rv h;obtain⟨ts,H3,Q3,r,sh,h,k⟩:=h;cases ts with
 |nil=>exact h.elim
 |cons t ts =>
 cases ts with
 |cons _ _=>cases t <;> exact h.elim
 |nil =>
 cases t with
 |ref a =>
  rw[Ax] at h;obtain⟨v,rfl,rv'⟩:=r.one';obtain⟨u,rfl,ru⟩:=vals1 rv;rw[rv'.ref] at ru;cases ru;cases e:H3 a with
  |none=>rw[e] at h;exact h.elim
  |some o =>
  rw[e] at h;cases o with
  |lst ls =>
   rw[Jl] at h;obtain⟨ys,sq,rs⟩:=sh.sqL (.inl e);cases e2:ints3 ls with
   |none=>rw[e2] at h;exact h.elim
   |some ns =>
   rw[e2,iY] at h;obtain⟨hne,h⟩:=h;obtain⟨its,rvs,hl,_⟩:=I.list sq;have hi:=lw e2 rs rvs;have hall:AllInts its.toArray:=hi.allInts;obtain⟨zs,ez⟩:=hall.items;have hls:s.heap.IsList a (intItems zs):=by rw[<- ez];exact hl.isList
   have e1:=nums_intItems zs;rw[<- ez,show its.toArray.toList=its from rfl,hi.numsOf] at e1;have hz:0<zs.size:=by have:=Q_ List.length e1;simp at this;have:=List.length_pos_iff.mpr hne;omega
   refine max_intList (I.ok.hd hc) hls hz fun v h' tk hv hk=>?_;obtain⟨t,rfl⟩:=intItems_at hv;obtain⟨h1,h2⟩:=argBest_gt (numAt zs) (zs.size - 1);refine⟨.int _,H,I.kept hk,⟨t,rfl⟩,k _ _ _ _ .refl sh .ofInt (h _ ?_ fun a ha=>?_)⟩
   ·rw[e1,numAt_eq];exact getD_mem (by rw[d_,Vl];omega)
   rw[e1] at ha;obtain⟨j,hj,rfl⟩:=mem_getD ha;rw[d_,Vl] at hj;rw[<- numAt_eq];exact h2 j (by omega)
  |_=>exact h.elim
 |_=>cases h
end
theorem Ay {α:Type}(e1 e2 e3 f:α->T) (p:α->Bool) (as:List α) (rest:St3) {tt:TT3}{te:TE3}{still:Hp3->Prop}{fin:List T->Hp3->Prop}{v u w:Option T}{H:Hp3}(hst:still H) (hl:as.length<=sizeLine)
  (hc:∀a∈as,∀Q:Bool->Hp3->Prop,Q (p a) H->tt (some (e1 a)::some (e2 a)::some (e3 a)::rest) H Q)
  (ht:∀a∈as,p a=true->∀Q:VK3,Q (f a) H->te (some (e1 a)::some (e2 a)::some (e3 a)::rest) H Q) (hfin:fin ((as.filter p).map f) H) :
  cIter3 (qM 3 (iH (dX 0) (iH (dX 1) (iH (dX 2) vo)))) tt te still fin (as.map fun a=>.tup [e1 a,e2 a,e3 a]) [] (v::u::w::rest) H:=by
 refine gH (fun r ys Z H'=>∃(rs ds:List α) (v u w:Option T),Z=v::u::w::rest/\r=rs.map (fun a=>.tup [e1 a,e2 a,e3 a])/\ys=(ds.filter p).map f/\ds++rs=as/\H'=H) ⟨as,[],v,u,w,rfl,rfl,rfl,rfl,rfl⟩ ?_ ?_
 ·rintro ys Z H' ⟨rs,ds,v,u,w,rfl,hrs,rfl,hsp,rfl⟩;have hrs':rs=[]:=WK.mp hrs.symm;subst hrs';rw[S_] at hsp;subst hsp;exact⟨hst,by rw[d_];exact U8 (Vk _ _) hl,hfin⟩
 rintro x r ys Z H' N ⟨rs,ds,v,u,w,rfl,hrs,rfl,hsp,rfl⟩ hN;cases rs with
 |nil=>cases hrs
 |cons t rs =>
 injection hrs with a1 a2;subst a1 a2;refine⟨hst,rfl,?_⟩;show tt (some (e1 t)::some (e2 t)::some (e3 t)::rest) H' _;refine hc t (by rw[<- hsp];simp) _ ?_;cases hp:p t with
 |true=>rw[if_pos rfl];refine ht t (by rw[<- hsp];simp) hp _ ⟨?_,hN _ _ _ ⟨rs,ds++[t],_,_,_,rfl,rfl,by simp [hp],by rw[<- hsp];simp,rfl⟩⟩;have:=Q_ List.length hsp;simp only[b_,j_] at this;rw[d_];have:=Vk p ds;omega
 |false =>
 rw[if_neg o_];exact hN _ _ _ ⟨rs,ds++[t],_,_,_,rfl,rfl,by simp [hp],by rw[<- hsp];simp,rfl⟩
open L2 HT
section
variable {prog:Program}{w:World}{A:Around}{E:Value->Shared->Prop}{s:Shared}
theorem iI {t sl:Addr}{items:Array Value}{vl vu:Value}{lo hi:Option Int}{Q:Value->Shared->Prop}(ht:IsTup s.heap t items) (hs:s.heap.IsSliceOf sl vl vu .none) (pl:IsPart vl lo) (pu:IsPart vu hi)
  (hw:sIx items.size 0 lo=0/\sIx items.size items.size hi=items.size) (h:Q (.ref t) s):wpAny (model prog w) A (getItem (.ref t) (.ref sl)) Q E s:=by
 obtain⟨os,hos,hcs,hds⟩:=id hs;have hTs:s.TypeIs (.ref sl) "slice":=⟨os,hos,hcs⟩;unfold getItem;try with_reducible refine VN ?_
 first | refine a_ (h_ ?_) | skip
 refine a_ (wpAny_sequenceKey ht.typeIs (by decide) ?_);refine a_ (V2 (name:=Str.ofString "__getitem__") ht.typeIs Vd
  (Vw Vd ht.typeIs entry_tuple_getitem ?_ (args_tuple_getitem _ _)))
 show wpAny _ _ (Builtin.Tuple.tupleItemsOf (.ref t) >>= _) _ _ s;refine a_ (tupleItemsOf_ ht ?_);refine a_ (Xp hTs ?_);rw[if_pos (by decide)];refine a_ (eZ hs pl pu ?_);show wpAny _ _ (if (((sIx items.size 0 lo:Nat):Int)==0&&(1:Int)==1&&(sIx items.size items.size hi - sIx items.size 0 lo)==items.size)=true then _ else _) _ _ s;rw[if_pos (by rw[hw.1,hw.2];simp)];have hT:=ht.typeIs
 wp_walk
 exact⟨_,rfl,h_ h⟩
variable {X:Cx}
theorem Gj:SlR X (fun x lo hi H Q=>∃a xs,x=.ref a/\SqT X.K H a xs/\(HT.sIx xs.length 0 lo=0/\HT.sIx xs.length xs.length hi=xs.length)/\Q (.ref a) H):=by
 intro pins s Z H x v vl vu lo hi sl Q I rx hs pl pu h;obtain⟨a,xs,rfl,hx,hw,q⟩:=h;cases rx;obtain⟨its,r,ht,hz⟩:=I.tuple hx;have hlen:its.toArray.size=xs.length:=by rw[l_];exact r.length.symm
 refine⟨"tuple",_,Vd.lookup,ht.typeIs,?_⟩;exact iI ht hs pl pu (by rw[hlen];exact hw) ⟨.ref a,H,I,rfl,q⟩
def Az:T->Option Int->Option Int->Hp3->VK3->Prop:=fun x lo hi H Q=>match x with
 |.tup ts=>Q (.tup (cI ts lo hi)) H
 |_=>False
def Jm (te:TE3) (tl th:TO3):TE3:=fun Z H Q=>te Z H fun x H1=>tl Z H1 fun l H2=>th Z H2 fun u H3=>Az x l u H3 Q
theorem Ba (ts:List T) (lo hi:Option Int) (H:Hp3) (Q:VK3):Az (.tup ts) lo hi H Q=Q (.tup (cI ts lo hi)) H:=rfl
theorem MK (te:TE3) (tl th:TO3) (Z:St3) (H:Hp3) (Q:VK3):Jm te tl th Z H Q=te Z H fun x H1=>tl Z H1 fun l H2=>th Z H2 fun u H3=>Az x l u H3 Q:=rfl
theorem gZ {e:Expr}{lo hi:Option Expr}{te:TE3}{tl th:TO3}{p2 pos:Pos}(he:PE3 X e te) (hl:PO3 X lo tl) (hu:PO3 X hi th):PE3 X (.Subscript e (.Slice lo hi none p2) pos) (Jm te tl th):=by
 refine PE.imp (qy (sl_tup.or Gj) he hl hu) ?_;rintro Z H Q ⟨Z3,H3,Q3,ss,sh,h,k⟩;refine⟨Z3,H3,_,ss,sh,h,fun x H1 tx H31 le1 sh1 rx q1=>⟨Z3,H31,_,ss.mono le1,sh1,q1,fun l H2 H32 le2 sh2 q2=>⟨Z3,H32,_,ss.mono (le1.trans le2),sh2,q2,fun u H4 H34 le4 sh4 q4=>?_⟩⟩⟩;have k':=k.at (le1.trans (le2.trans le4));have rx':=rx.mono (le2.trans le4);cases tx with
 |tup ts =>
  rw[Ba] at q4;obtain⟨a,xs,rfl,sq,r⟩:=rx'.tup;by_cases hw:HT.sIx xs.length 0 l=0/\HT.sIx xs.length xs.length u=xs.length
  ·refine .inr ⟨a,xs,rfl,sq,hw,k' _ _ _ _ .refl sh4 (.ofTup sq r) ?_⟩;have e:cI ts l u=ts:=by unfold cI;rw[r.length,hw.1,hw.2,Nat.sub_zero,List.drop_zero,<- r.length,List.take_length]
   rw[e] at q4;exact q4
  exact .inl ⟨a,xs,rfl,sq,hw,fun p hp=>k' _ _ _ _ (aL hp) (sh4.new hp) (SimH.newTup (H3:=H34) hp (jZ r l u)) q4⟩
 |_=>exact q4.elim
end
theorem Bb (l : List Value) : ((List.range l.length).filterMap fun (k : Nat) => l.toArray[((l.length : Int) - 1 + (k : Int) * (-1)).toNat]?) = l.reverse:=by
 have e:(List.range l.length).map (fun (k:Nat)=>l.toArray[((l.length:Int) - 1+(k:Int)*(-1)).toNat]?)=l.reverse.map some:=by
  apply W5;intro i;rw[z_,z_];by_cases h:i<l.length
  ·rw[Vz h,List.getElem?_reverse h];have e1:((l.length:Int) - 1+(i:Int)*(-1)).toNat=l.length - 1 - i:=by omega
   have h2:l.length - 1 - i<l.length:=by omega
   simp only[Xv,e1,WW];rw[g_ h2];rfl
  rw[L_ (by simp;omega),L_ (by simp;omega)];rfl
 have e2:=Q_ (List.filterMap id) e;rw [List.filterMap_map,List.filterMap_map] at e2;have e3 : List.filterMap (id ∘ some) l.reverse = l.reverse:=List.filterMap_some;rw [e3] at e2;exact e2
section
variable {prog:Program}{w:World}{A:Around}{E:Value->Shared->Prop}{s:Shared}
theorem Gk (n:Nat):Builtin.Slice.sliceAdjust none none (-1) (n:Int)=((n:Int) - 1,-1):=by
 unfold Builtin.Slice.sliceAdjust;simp
theorem t7 (n:Nat):Builtin.Slice.slicePlaces ((n:Int) - 1) (-1) (-1)=n:=by
 unfold Builtin.Slice.slicePlaces;have h1:¬((-1:Int)>0):=by omega
 simp only[h1,U7,Int.neg_neg,Int.ediv_one];split <;> omega
theorem jx {sl:Addr}{vs:Value}{n:Nat}{Q:Int × Int × Nat->Shared->Prop}(hs:s.heap.IsSliceOf sl .none .none vs) (ps:IsPart vs (some (-1)))
  (h:Q ((n:Int) - 1,-1,n) s):wpAny (model prog w) A (Builtin.Slice.sliceApplied (.ref sl) (pure (n:Int))) Q E s:=by
 obtain⟨os,hos,hcs,hds⟩:=id hs;unfold Builtin.Slice.sliceApplied Builtin.Slice.sliceFields;refine a_ (a_ (Wq hos hds (x:=.none) rfl (a_ (Wq hos hds (x:=.none) rfl (a_ (Wq hos hds (x:=vs) rfl (h_ ?_)))))));refine a_ (iC ps ?_);show wpAny _ _ (if ((-1:Int)==0)=true then _ else _) _ _ s;rw[if_neg (by decide)];refine a_ (slicePart_none (a_ (slicePart_none (a_ (h_ ?_)))));show wpAny _ _ (match Builtin.Slice.sliceAdjust none none (-1) (n:Int) with | (lo,hi)=>pure (lo,(-1:Int),Builtin.Slice.slicePlaces lo hi (-1))) _ _ s;rw[Gk n];show wpAny _ _ (pure ((n:Int) - 1,(-1:Int),Builtin.Slice.slicePlaces ((n:Int) - 1) (-1) (-1))) _ _ s;rw[t7];exact h_ h
theorem iZ {t sl:Addr}{its:List Value}{vs:Value}{Q:Value->Shared->Prop}(ht:IsTup s.heap t its.toArray) (hs:s.heap.IsSliceOf sl .none .none vs) (ps:IsPart vs (some (-1)))
  (h:Q (.ref s.heap.objs.size) { s with heap:=s.heap.push { cls:=.type "tuple",data:=.seq its.reverse.toArray}}) (hsz:its.length<=sizeLine):wpAny (model prog w) A (getItem (.ref t) (.ref sl)) Q E s:=by
 obtain⟨os,hos,hcs,hds⟩:=id hs;have hTs:s.TypeIs (.ref sl) "slice":=⟨os,hos,hcs⟩;have htake:sizeOk (.seq its.reverse.toArray):=by show its.reverse.toArray.size<=sizeLine;rw[l_,Vn];exact hsz
 unfold getItem;try with_reducible refine VN ?_
 first | refine a_ (h_ ?_) | skip
 refine a_ (wpAny_sequenceKey ht.typeIs (by decide) ?_);refine a_ (V2 (name:=Str.ofString "__getitem__") ht.typeIs Vd
  (Vw Vd ht.typeIs entry_tuple_getitem ?_ (args_tuple_getitem _ _)))
 show wpAny _ _ (Builtin.Tuple.tupleItemsOf (.ref t) >>= _) _ _ s;refine a_ (tupleItemsOf_ ht ?_);refine a_ (Xp hTs ?_);rw[if_pos (by decide)];refine a_ (jx hs ps ?_);rw[l_];show wpAny _ _ (if (((its.length:Int) - 1)==0&&(-1:Int)==1&&its.length==its.toArray.size)=true then _ else _) _ _ s;rw[if_neg (by simp),Bb];first
  |exact a_ (m:=Builtin.Tuple.tupleExact _) (Vb (h_ ⟨_,rfl,h_ h⟩) htake)
  |exact a_ (m:=Builtin.Tuple.tupleExact _) (Vb (a_ (h_ (h_ ⟨_,rfl,h_ h⟩))) htake)
  |exact a_ (a_ (m:=Builtin.Tuple.tupleExact _) (Vb (h_ (h_ ⟨_,rfl,h_ h⟩)) htake))
  |exact a_ (a_ (m:=Builtin.Tuple.tupleExact _) (Vb (h_ ⟨_,rfl,h_ h⟩) htake))
variable {X:Cx}{e st:Expr}{p2 pos:Pos}
def Rt (K:Frag) (te:TE) (ts:TO):TE:=fun Z H Q=>te Z H fun x H1=>ts Z H1 fun o H2=>o=some (-1)/\∃a xs,x=.ref a/\SqT K H2 a xs/\∀p,H2 p=none->Q (.ref p) (upd H2 p (.tup xs.reverse))
theorem Gm {te:TE}{ts:TO}(he:PE X e te) (hs:PO X (some st) ts):PE X (.Subscript e (.Slice none none (some st) p2) pos) (Rt X.K te ts):=by
 intro pins s Z H Q I h;refine Subscript_ (thn (he pins s Z H _ I h) fun v s1 ⟨x,H1,I1,r1,q1⟩=>?_);refine wpAny_Slice ?_;rw[evalPart_none];refine h_ (h_ (thn (hs pins s1 Z H1 _ I1 q1) fun vs s3 ⟨o,H3,I3,ps,eo,a,xs,ex,hx,q⟩=>?_));subst eo ex;cases r1;have I4:Inv X pins Z H3 { s3 with heap:=s3.heap.push { cls:=.type "slice",data:=.fields #[.none,.none,vs]}}:=I3.kept (t':=s3.toks) fun b ob q=>e_ _ q;obtain⟨its,r,ht,hz⟩:=I4.tuple hx;have hlen:=r.length;show wpAny (model X.prog X.w) X.A (subscriptTail e (.Slice none none (some st) p2) (.ref a) (.ref s3.heap.objs.size)) (EP X pins Z Q) X.xe { s3 with heap:=s3.heap.push { cls:=.type "slice",data:=.fields #[.none,.none,vs]}};refine tail_any (T:="tuple") (ops:=[.ref a,.ref s3.heap.objs.size]) ht.typeIs Vd.lookup ?_ (by with_unfolding_all rfl);refine iZ ht (Heap.IsSliceOf.new ..) ps ?_ (by omega);refine⟨.ref (s3.heap.push { cls:=.type "slice",data:=.fields #[.none,.none,vs]}).objs.size,_,I4.laid (t':=s3.toks) (o:=.tup xs.reverse) (fun b ob q=>e_ _ q) (m_ _) ?_,rfl,q _ (I4.hok.fresh (m_ _))⟩;exact⟨by simpa using hz,its.reverse,r.reverse,Tup0.new _ _⟩
def rvT (x:T) (o:Option Int) (H:Hp3) (Q:VK3):Prop:=match x with
 |.tup ts=>o=some (-1)/\Q (.tup ts.reverse) H
 |_=>False
def Bc (te:TE3) (ts:TO3):TE3:=fun Z H Q=>te Z H fun x H1=>ts Z H1 fun o H2=>rvT x o H2 Q
theorem MN (te:TE3) (ts:TO3) {Z:St3}{H:Hp3}{Q:VK3}:Bc te ts Z H Q=te Z H fun x H1=>ts Z H1 fun o H2=>rvT x o H2 Q:=rfl
theorem Jo (xs:List T) (o:Option Int) {H:Hp3}{Q:VK3}:rvT (.tup xs) o H Q=(o=some (-1)/\Q (.tup xs.reverse) H):=rfl
theorem Gn {te:TE3}{ts:TO3}(he:PE3 X e te) (hs:PO3 X (some st) ts):PE3 X (.Subscript e (.Slice none none (some st) p2) pos) (Bc te ts):=by
 refine PE.imp (Gm he hs) ?_;rintro Z H Q ⟨Z3,H3,Q3,ss,sh,h,k⟩;refine⟨Z3,H3,_,ss,sh,h,fun x H1 tx H31 le1 sh1 rx q1=>⟨Z3,H31,_,ss.mono le1,sh1,q1,fun o H2 H32 le2 sh2 q2=>?_⟩⟩;cases tx with
 |tup ts=>rw[Jo] at q2;obtain⟨a,xs,rfl,sq,r⟩:=(rx.mono le2).tup;exact⟨q2.1,a,xs,rfl,sq,fun p hp=>k _ _ _ _ (le1.trans (le2.trans (aL hp))) (sh2.new hp) (SimH.newTup (H3:=H32) hp r.reverse) q2.2⟩
 |_=>exact q2.elim
end
theorem ud {acc:Array Value}{n:Nat}(h:ItemsOf (fun i v=>∃t,v=Value.int (0+(i:Int)*1) t) acc n):Vals ((List.range n).map fun (i:Nat)=>V.int (i:Int)) acc.toList:=by
 obtain⟨hs,hv⟩:=h;have key:∀(l:List Value) (k:Nat),(∀(j:Nat) (v:Value),l[j]?=some v->∃t,v=Value.int ((k:Int)+(j:Int)) t)->Vals ((List.range' k l.length).map fun (i:Nat)=>V.int (i:Int)) l:=fun l=>by
  induction l with
  |nil=>intro k _;exact .nil
  |cons v r ih =>
  intro k hl;rw[j_,List.range'_succ,A_];refine .cons ?_ (ih (k+1) fun j u hj=>?_)
  ·obtain⟨t,e⟩:=hl 0 v rfl;exact⟨t,by rw[e];congr 1⟩
  obtain⟨t,e⟩:=hl (j+1) u (by rw[Xj];exact hj);exact⟨t,by rw[e];congr 1;omega⟩
 have:=key acc.toList 0 fun j v hj=>by obtain⟨t,e⟩:=hv j v (by rw[<- Vy];exact hj);exact⟨t,by rw[e];congr 1;omega⟩
 rw[Vl,hs,<- List.range_eq_range'] at this;exact this
section
variable {X:Cx}{e:Expr}{p1 p2 pos pos':Pos}
def MP (te:TE):TE:=fun Z H Q=>te Z H fun x H1=>∃n:Nat,x=.int (n:Int)/\n<=1000/\∀l,H1 l=none->Q (.ref l) (upd H1 l (.lst ((List.range n).map fun (i:Nat)=>V.int (i:Int))))
theorem Bd {te:TE}(hc:X.calm=true) (hgt:Gl X "list") (hmt:X.mg "list"=none) (hgr:Gl X "range") (hmr:X.mg "range"=none) (hvt:bootBuiltins "list"=some (.type "list")) (ha:PE X e te)
  (he:starEach [e] X.env=(false,eval e X.env)::starEach [] X.env:=by rfl) (hpl:(backTo pos (starEach [] X.env)).any (·.1)=false:=by rfl) (hpl':(backTo pos' (starEach [] X.env)).any (·.1)=false:=by rfl) :
  PE X (.Call (.Name "list" p1) [.Call (.Name "range" p2) [e] [] pos'] [] pos) (MP te):=by
 intro pins s Z H Q I h;refine Vm (dq I hgt hmt hvt ?_ (by decide) (by decide));refine Va ?_ rfl hpl;show wpAny _ _ (spliced ((false,eval (.Call (.Name "range" p2) [e] [] pos') X.env)::backTo pos (starEach [] X.env))) _ _ s;refine Vr ?_;refine Vm (dq I hgr hmr boot_range ?_ (by decide) (by decide));refine Va ?_ he hpl';rw[he];show wpAny _ _ (spliced ((false,eval e X.env)::backTo pos' (starEach [] X.env))) _ _ s;refine Vr (thn (ha pins s Z H _ I h) fun u s1 ⟨x,H1,I1,r1,n,hx,hn,q⟩=>?_);subst hx;obtain⟨t,rfl⟩:=r1;refine VD ?_;refine call_range_1 ?_;refine VD ?_;have I2:Inv X pins Z H1 { s1 with heap:=s1.heap.push { cls:=.type "range",data:=.fields #[.int 0 s1.toks,.int (n:Int) t,.int 1 (s1.toks+1)]},toks:=s1.toks+1+1}:=I1.kept fun b o e=>e_ _ e;have hsz:Builtin.Range.rangeSize 0 (n:Int) 1=((n:Nat):Int):=by rw[rangeSize_one];split <;> omega
 refine call_list_range (I2.ok.hd hc) (IsRange.new ..) (small_one (by omega) (by omega) (by omega) (by omega)) hsz (by omega) fun h' tk acc' c' hk hg hit=>?_;have hv:=ud hit;refine⟨.ref _,_,I2.laid (t':=tk) (o:=.lst ((List.range n).map fun (i:Nat)=>V.int (i:Int))) hk (m_ _) ⟨by rw[d_,n_];show n<=16777216;omega,acc'.toList,c',hv,?_⟩,rfl,q _ (I2.hok.fresh (m_ _))⟩;rw[show acc'.toList.toArray=acc' by simp];exact hg
def lrq (x:T) (H:Hp3) (Q:VK3):Prop:=match x with
 |.int i=>(0<=i/\i<=1000)/\∀p,H p=none->Q (.ref p) (up3 H p (.lst ((List.range i.toNat).map fun (k:Nat)=>T.int (k:Int))))
 |_=>False
def vY (te:TE3):TE3:=fun Z H Q=>te Z H fun x H1=>lrq x H1 Q
theorem Gp (te:TE3) {Z:St3}{H:Hp3}{Q:VK3}:vY te Z H Q=te Z H fun x H1=>lrq x H1 Q:=rfl
theorem Jp (i:Int) {H:Hp3}{Q:VK3}:lrq (.int i) H Q=((0<=i/\i<=1000)/\∀p,H p=none->Q (.ref p) (up3 H p (.lst ((List.range i.toNat).map fun (k:Nat)=>T.int (k:Int))))):=rfl
theorem Be {K:Frag}{H:Hp}(l:List Nat):Reps K H (l.map fun (k:Nat)=>T.int (k:Int)) (l.map fun (k:Nat)=>V.int (k:Int)):=by
 induction l with
 |nil=>exact .nil
 |cons k r ih=>exact .cons .ofInt ih
theorem Bf {te:TE3}(hc:X.calm=true) (hgt:Gl X "list") (hmt:X.mg "list"=none) (hgr:Gl X "range") (hmr:X.mg "range"=none) (ha:PE3 X e te)
  (he:starEach [e] X.env=(false,eval e X.env)::starEach [] X.env:=by rfl) (hpl:(backTo pos (starEach [] X.env)).any (·.1)=false:=by rfl) (hpl':(backTo pos' (starEach [] X.env)).any (·.1)=false:=by rfl) :
  PE3 X (.Call (.Name "list" p1) [.Call (.Name "range" p2) [e] [] pos'] [] pos) (vY te):=by
 refine PE.imp (Bd hc hgt hmt hgr hmr iW ha he hpl hpl') ?_;rintro Z H Q ⟨Z3,H3,Q3,ss,sh,h,k⟩;refine⟨Z3,H3,_,ss,sh,h,fun v H' t H3' le sh' r q=>?_⟩;cases t with
 |int i=>rw[Jp] at q;rw[r.int];refine⟨i.toNat,by rw[Xc q.1.1],by omega,fun l hl=>k _ _ _ _ (le.trans (aL hl)) (sh'.newLst hl (Be _)) .ofRef (q.2 l (sh'.fresh hl))⟩
 |_=>exact q.elim
variable {st:Expr}
def Ru (K:Frag) (te:TE) (ts:TO):TE:=fun Z H Q=>te Z H fun x H1=>ts Z H1 fun o H2=>o=some (-1)/\∃a xs,x=.ref a/\SqL K H2 a xs/\∀p,H2 p=none->Q (.ref p) (upd H2 p (.lst xs.reverse))
theorem Gq {te:TE}{ts:TO}(he:PE X e te) (hs:PO X (some st) ts):PE X (.Subscript e (.Slice none none (some st) p2) pos) (Ru X.K te ts):=by
 intro pins s Z H Q I h;refine Subscript_ (thn (he pins s Z H _ I h) fun v s1 ⟨x,H1,I1,r1,q1⟩=>?_);refine wpAny_Slice ?_;rw[evalPart_none];refine h_ (h_ (thn (hs pins s1 Z H1 _ I1 q1) fun vs s3 ⟨o,H3,I3,ps,eo,a,xs,ex,hx,q⟩=>?_));subst eo ex;cases r1;have I4:Inv X pins Z H3 { s3 with heap:=s3.heap.push { cls:=.type "slice",data:=.fields #[.none,.none,vs]}}:=I3.kept (t':=s3.toks) fun b ob q=>e_ _ q;obtain⟨its,r,ht,hz⟩:=I4.list hx;have hlen:=r.length;show wpAny (model X.prog X.w) X.A (subscriptTail e (.Slice none none (some st) p2) (.ref a) (.ref s3.heap.objs.size)) (EP X pins Z Q) X.xe { s3 with heap:=s3.heap.push { cls:=.type "slice",data:=.fields #[.none,.none,vs]}};refine tail_any (T:="list") (ops:=[.ref a,.ref s3.heap.objs.size]) ht.isList.typeIs slot_list_getitem.lookup ?_ (by with_unfolding_all rfl);refine wpAny_getItem_list_slice ht.isList (Heap.IsSliceOf.new ..) .none .none ps (by simp) ?_ (by rw[l_] <;> omega);rw[PySem.W.krv_pick];refine⟨.ref (s3.heap.push { cls:=.type "slice",data:=.fields #[.none,.none,vs]}).objs.size,_,I4.laid (t':=s3.toks) (o:=.lst xs.reverse) (fun b ob q=>e_ _ q) (m_ _) ?_,rfl,q _ (I4.hok.fresh (m_ _))⟩;refine⟨by simpa using hz,its.reverse,0,r.reverse,?_⟩;rw[show its.toArray.toList.reverse.toArray=its.reverse.toArray by simp];exact x_ _ rfl
def rvH (o:Option O3) (H:Hp3) (Q:VK3):Prop:=match o with
 |some (.lst ts)=>∀p,H p=none->Q (.ref p) (up3 H p (.lst ts.reverse))
 |_=>False
def rvq (x:T) (o:Option Int) (H:Hp3) (Q:VK3):Prop:=match x with
 |.ref a=>o=some (-1)/\rvH (H a) H Q
 |_=>False
def Bg (te:TE3) (ts:TO3):TE3:=fun Z H Q=>te Z H fun x H1=>ts Z H1 fun o H2=>rvq x o H2 Q
theorem MT (te:TE3) (ts:TO3) {Z:St3}{H:Hp3}{Q:VK3}:Bg te ts Z H Q=te Z H fun x H1=>ts Z H1 fun o H2=>rvq x o H2 Q:=rfl
theorem Rv (a:Addr) (o:Option Int) {H:Hp3}{Q:VK3}:rvq (.ref a) o H Q=(o=some (-1)/\rvH (H a) H Q):=rfl
theorem Rw (ts:List T) {H:Hp3}{Q:VK3}:rvH (some (.lst ts)) H Q=∀p,H p=none->Q (.ref p) (up3 H p (.lst ts.reverse)):=rfl
theorem vZ {te:TE3}{ts:TO3}(he:PE3 X e te) (hs:PO3 X (some st) ts):PE3 X (.Subscript e (.Slice none none (some st) p2) pos) (Bg te ts):=by
 refine PE.imp (Gq he hs) ?_;rintro Z H Q ⟨Z3,H3,Q3,ss,sh,h,k⟩;refine⟨Z3,H3,_,ss,sh,h,fun x H1 tx H31 le1 sh1 rx q1=>⟨Z3,H31,_,ss.mono le1,sh1,q1,fun o H2 H32 le2 sh2 q2=>?_⟩⟩;cases tx with
 |ref a =>
  obtain⟨eo,q2⟩:=q2;cases e:H32 a with
  |none=>rw[e] at q2;exact q2.elim
  |some ob =>
  rw[e] at q2;cases ob with
  |lst ts=>obtain⟨xs,sq,r⟩:=sh2.sqL (.inl e);refine⟨eo,a,xs,rx.ref,sq,fun p hp=>k _ _ _ _ (le1.trans (le2.trans (aL hp))) (sh2.newLst hp r.reverse) .ofRef (q2 p (sh2.fresh hp))⟩
  |rol ts=>exact q2.elim
  |dct ts=>exact q2.elim
  |dcp ts=>exact q2.elim
  |exc _ _=>exact q2.elim
  |xdt _=>exact q2.elim
  |dci _=>exact q2.elim
  |dif _ _=>exact q2.elim
  |ins _ _=>exact q2.elim
 |_=>exact q2.elim
variable {prog:Program}{w:World}{A:Around}{E:Value->Shared->Prop}{s:Shared}{l:Addr}{xs:Array (Int × Tok)}
def isN:T->Bool
 |.non=>true
 |_=>false
def Rx:R3:=fun x y H Q=>match y with
 |.non=>Q (.bl (isN x)) H
 |_=>False
theorem U0 (x:T) (H:Hp3) (Q:VK3):Rx x .non H Q=Q (.bl (isN x)) H:=rfl
theorem Gr:isN .non=true:=rfl
theorem Gs (i:Int):isN (.int i)=false:=rfl
theorem Gu (x:Str):isN (.str x)=false:=rfl
theorem Gv (ts:List T):isN (.tup ts)=false:=rfl
theorem M3 (b:Bool):isN (.bl b)=false:=rfl
theorem Bh:dD X (compareOp .Is) Rx:=by
 refine OpR.imp Kz ?_;rintro x y H Q ⟨tx,ty,H3,Q3,rx,ry,sh,h,k⟩;cases ty with
 |non =>
  refine⟨ry.non,?_⟩;have e:decide (x=.non)=isN tx:=by
   cases tx with
   |non=>rw[rx.non];rfl
   |int i=>rw[rx.int];rfl
   |str i=>rw[rx.str];rfl
   |bl i=>rw[rx.bl];rfl
   |ref a=>rw[rx.ref];rfl
   |tup ts=>obtain⟨a,vs,rfl,_⟩:=rx.tup;rfl
   |ty n=>rw[rx.ty];rfl
  rw[e];exact k _ _ _ _ .refl sh .ofBl h
 |_=>exact h.elim
end
end L3
namespace L2
section
variable {X:Cx}{a b:Expr}{rest:List Expr}{ta tb:TE}{pos:Pos}
end
end L2
namespace L3
open L2
section
variable {X:Cx}{a b:Expr}{rest:List Expr}{ta tb:TE3}{pos:Pos}
end
end L3
namespace L2
section
variable {prog:Program}{w:World}{K:Type} [DecidableEq K] {knd:KeyKind prog w K}
end
end L2
namespace L3
open L2
section
variable {X:Cx}
variable {pins:List (Addr × Obj)}{Z:L2.St}{H:Hp}{s:Shared}{a:Addr}
theorem Inv.freeze {kvs:List (Key × V)}(I:Inv X pins Z H s) (e:H a=some (.dK kvs)):∃o,s.heap.get? a=some o/\Inv X pins Z (upd H a (.frz o (.dK kvs))) s:=by
 have z:=I.hok a _ e;obtain⟨z1,z2,vs,rel,o,es,ep,ho,ex,r⟩:=id (show ObjOk X.prog X.w H s.heap a (.dK kvs) from z);have ne:∀b u,H b=some u->(∀ks,u≠.dK ks)->b≠a:=fun b u q n w=>by subst w;rw[e] at q;cases q;exact n _ rfl
 refine⟨o,ho,?_⟩;have:=I.step (h':=s.heap) (g':=s.gens) (d':=s.drawn) (t':=s.toks) (H':=upd H a (.frz o (.dK kvs))) (ch:=[]) (fun _ z=>nomatch z) (fun b o _ _ _ q _=>q) (fun b o _ _ _ q _=>⟨_,q⟩)
  (fun b o _ _ n=>by rw[aP (fun w=>by subst w;rw[e] at n;cases n)];exact n) (fun b o _ q=>⟨_,q⟩)
  (fun b xs q=>by rw[aP (ne b _ q fun _=>nofun)];exact q) (fun b o u q=>by rw[aP (ne b _ q fun _=>nofun)];exact q)
  (fun b ps q=>⟨#[],by rw[aP (ne b _ q fun _=>nofun),Array.append_empty];exact q⟩) (fun _ q=>q) (fun b u q=>?_) I.bare
 ·exact this
 by_cases hb:b=a
 ·subst hb;rw[bU] at q;cases q;exact⟨ho,z1,z2,vs,rel,o,es,ep,ho,ex,r⟩
 rw[aP hb] at q;exact (I.hok b u q).stay (fun _ _ _ r=>r) (fun c r=>by rw[aP (ne c _ r fun _=>nofun)];exact r) fun c xs r=>by rw[aP (ne c _ r fun _=>nofun)];exact r
end
theorem Ry {P:Program}{w:World}{k:Key}{u:Value}(h:(bH P w).is k u=true):RelV (kV k) u:=by
 rcases bN h with ⟨i,t,e1,e2⟩ | ⟨y,t,e1,e2⟩
 ·subst e1 e2;exact⟨t,rfl⟩
 subst e1 e2;exact⟨t,rfl⟩
theorem iJ {α β:Type}{F:α->β->Prop}:∀{l₁:List α}{l₂:List β}{i:Nat}{x:α},Paired F l₁ l₂->l₁[i]?=some x->∃y,l₂[i]?=some y/\F x y
 |_,_,i,x,.nil,e=>by simp at e
 |_,_,0,x,.cons (b:=b) h t,e=>by simp at e;subst e;exact⟨b,rfl,h⟩
 |_,_,i+1,x,.cons h t,e=>by simpa using iJ t (by simpa using e)
def Iti (d:Addr) (o:Obj):It :=
 ⟨fun i H=>∃kvs kv,H d=some (.frz o (.dK kvs))/\kvs[i]?=some kv,
  fun i H v H'=>∃p k x,v=.ref p/\H p=none/\H'=upd H p (.tup [kV k,x])/\∀kvs,H d=some (.frz o (.dK kvs))->kvs[i]?=some (k,x),
  fun i H=>∃kvs,H d=some (.frz o (.dK kvs))/\kvs.length<=i⟩
theorem yf:entryFor table "dict_itemiterator.__iter__"=some Builtin.«dict_keyiterator.__iter__» :=
 entryFor_alias (id':="dict_keyiterator.__iter__") (by kernel_rfl) rfl (by decide +kernel) (by kernel_rfl)
theorem Bj {X:Cx}{pins:List (Addr × Obj)}{Z:L2.St}{H:Hp}{s:Shared}{d:Addr}{o:Obj}{kvs:List (Key × V)}{es:Array DictEntry}{ep:Nat}(I:Inv X pins Z H s) (e:H d=some (.frz o (.dK kvs))) (hd:o.data=.dict es ep) :
  ∃vs,KV kvs vs/\s.heap.DictAt (bH X.prog X.w) d vs ep/\vs.length=es.size:=by
 obtain⟨ho,_,_,vs,rel,o',es',ep',ho',ex,hd',hk,hp,hn⟩:=(show ObjOk X.prog X.w H s.heap d (.frz o (.dK kvs)) from I.hok d _ e);rw[ho] at ho';cases ho';rw[hd] at hd';cases hd';exact⟨vs,rel,⟨o,es,ho,ex,hd,hk,hp,hn⟩,by rw[<- hp.length];simp⟩
theorem ue {P:Program}{w:World}{K:Frag}{elts:List Expr}{x1:Nat}{pos:Pos}(d it:Addr) (o:Obj) (es:Array DictEntry) (ep:Nat) (hd:o.data=.dict es ep) :
  Turn P w K (.Tuple elts x1 pos) (Iti d o) [it] it (fun i h=>∃ok ov,IsItemIter h it d i es.size ep ok ov) where
 mem:=t_
 obj:=fun i h st c hc=>by
  obtain⟨ok,ov,he⟩:=st
  rw[i_.mp hc]
  exact⟨_,he,fun v z=>by cases z⟩
 keep:=fun i h h' st k=>by
  obtain⟨ok,ov,he⟩:=st
  exact⟨ok,ov,k it (by simp) _ he⟩
 item:=by
  intro X hP hw hK hc i pins s Z H E I hf st hg
  subst hP hw hK
  obtain⟨kvs,⟨k,x⟩,hq,hx⟩:=hg
  obtain⟨ok,ov,he⟩:=st
  obtain⟨vs,rel,hm,hsz0⟩:=Bj I hq hd
  obtain⟨⟨k',u⟩,hu,ek,ru⟩:∃q,vs[i]?=some q/\k=q.1/\RelV x q.2:=iJ rel hx
  subst ek
  rw[<- hsz0] at he
  refine wpAny_pyNext_items_item he hm hu fun key h' hk ho hT hsz kp=>?_
  refine⟨_,rfl,wpAny_letOwnedTupleGo_items ho fun h2' hz2' sb=>?_⟩
  have lt:∀{c o},s.heap.get? c=some o->s.heap.objs.size≠c:=fun q=>Nat.ne_of_gt (B_ q)
  have hTe:s.heap.objs.size≠it:=lt he
  have lt1:∀{c:Addr},c∈[it]->c≠s.heap.objs.size:=fun {c} hc=>by rw[i_.mp hc];exact Ne.symm hTe
  have kp2:∀c o,c∉[it]->s.heap.get? c=some o->h2'.get? c=some o:=fun c o nc q=>(sb.2 c fun z=>nc (z▸t_)).trans (kp c o (fun z=>nc (z▸t_)) q)
  have I1:Inv X pins Z (upd H s.heap.objs.size (.tup [kV k,x])) { s with heap:=s.heap.push { cls:=.type "tuple",data:=.seq #[key,u]},toks:=s.toks} :=
   I.laid (t':=s.toks) (fun b o q=>e_ _ q) (m_ _) (show ObjOk X.prog X.w _ _ _ (.tup [kV k,x]) from ⟨by show 2<=sizeLine;decide,[key,u],.cons (Ry hk) (.cons ru .nil),Tup0.new _ _⟩)
  have I2:Inv X pins Z (upd H s.heap.objs.size (.tup [kV k,x])) { s with heap:=h2'}:=vV (s:={ s with heap:=s.heap.push { cls:=.type "tuple",data:=.seq #[key,u]}}) (ch:=[it]) (t':=s.toks) I1 (fun c o nc q=>by
   by_cases z:c=s.heap.objs.size
   ·
    subst z
    have q':(s.heap.push { cls:=.type "tuple",data:=.seq #[key,u]}).get? s.heap.objs.size=some o:=q
    rw[x_ _ rfl] at q'
    cases q'
    exact (sb.2 _ hTe).trans hT
   ·
    have q':(s.heap.push { cls:=.type "tuple",data:=.seq #[key,u]}).get? c=some o:=q
    rw[Heap.get?_push_ne _ _ _ z] at q'
    exact kp2 c o nc q') fun c hc=>⟨by rw[aP (lt1 hc)];exact (hf c hc).1,(hf c hc).2⟩
  refine⟨.ref s.heap.objs.size,_,I2,rfl,⟨s.heap.objs.size,k,x,rfl,I.hok.fresh (m_ _),rfl,fun zs hq'=>by rw[hq] at hq';cases hq';exact hx⟩,⟨key,u,?_⟩,fun c hc=>by rw[aP (lt1 hc)];exact (hf c hc).1⟩
  rw[<- hsz0]
  exact hz2'
 done:=by
  intro X hP hw hK hc i pins s Z H E I hf st hg
  subst hP hw hK
  obtain⟨kvs,hq,hx⟩:=hg
  obtain⟨ok,ov,he⟩:=st
  obtain⟨vs,rel,hm,hsz0⟩:=Bj I hq hd
  have hl:=rel.length
  rw[<- hsz0] at he
  exact wpAny_pyNext_items_end (I.ok.hd hc) he hm (L_ (by omega)) fun h' eb=>⟨rfl,vV (ch:=[it]) (t':=s.toks) I (fun b o nb q=>eb b o (fun z=>nb (by simp [z])) q) hf⟩
 self:=fun A i s Q E st h=>by
  obtain⟨ok,ov,he⟩:=st
  have hT:s.TypeIs (.ref it) "dict_itemiterator":=⟨_,he,rfl⟩
  refine Yk hT PySem.F.slot_dict_itemiterator_iter (Vw PySem.F.slot_dict_itemiterator_iter hT yf ?_ (PySem.F.args_dict_itemiterator_iter_1 _))
  show wpAny _ _ (ret (.ref it)) _ _ s
  exact h_ ⟨_,rfl,"dict_itemiterator",_,hT,PySem.F.slot_dict_itemiterator_next.lookup,h⟩
section
variable {X:Cx}{elts:List Expr}{x1:Nat}{tpos pos apos cpos:Pos}{e:Expr}
def M4 (te:TE):TI:=fun Z H R=>te Z H fun x H1=>∃a kvs,x=.ref a/\H1 a=some (.dK kvs)/\∀o,R (Iti a o) (upd H1 a (.frz o (.dK kvs)))
theorem Bk {te:TE}(he:PE X e te) (hbase:attributeBase e "items" X.env (eval e X.env)=eval e X.env:=by rfl) (hline:(apos.endLine==cpos.line)=true:=by rfl) :
  PI X (.Tuple elts x1 tpos) (.Call (.Attribute e "items" apos) [] [] cpos) (M4 te):=by
 intro pins s Z H R I h;refine wpAny_Call_method0_late hbase hline (thn (he pins s Z H _ I h) fun v s1 ⟨x,H1,I1,r1,a,kvs,ea,hl,q⟩=>?_);subst ea;cases r1;obtain⟨z,hsys,vs,rel,dd⟩:=u5 I1.hok hl;obtain⟨o,ho,I2⟩:=Inv.freeze I1 hl;obtain⟨t1,t2,_⟩:=zp I1 (a:=a) (.inl ⟨kvs,.inl hl⟩);refine⟨"dict","dict.items",PySem.F.plainAttrs_dict,PySem.F.slot_dict_items,PySem.F.type_dict_items,t1,t2,Xq rfl (PySem.evalArgs_none (call_meetsIn PySem.F.slot_dict_items t1 PySem.F.entry_dict_items (PySem.F.args_dict_items_1 _) (meets_dict_items (bH X.prog X.w) a hsys) ⟨⟨vs,dd⟩,?_⟩))⟩;obtain⟨o',es,ep,ho',ex,hd',hk,hp,hn⟩:=id dd;rw[ho] at ho';cases ho';have hsz:es.size=vs.length:=by rw[<- hp.length];simp
 have I3:Inv X pins Z (upd H1 a (.frz o (.dK kvs))) { s1 with heap:=s1.heap.push { cls:=.type "dict_items",data:=.fields #[.ref a]}}:=I2.kept (t':=s1.toks) fun b o q=>e_ _ q;refine wpAny_pyIter_items (knd:=bH X.prog X.w) (d:=a) (kvs:=vs) (ep:=ep) ⟨_,x_ _ rfl,rfl,rfl⟩ ⟨o,es,e_ _ ho,ex,hd',hk,hp,hn⟩ ?_;refine⟨_,[_],_,Iti a o,_,rfl,I3.kept (t':=s1.toks) fun b o q=>e_ _ q,ue a _ o es ep hd',⟨.none,.none,?_⟩,fun c hc=>?_,q o⟩
 ·rw[hsz];exact x_ _ rfl
 rw[i_.mp hc];exact I3.fpOk (m_ _) (I3.hok.fresh (m_ _))
variable {o f:Expr}{td ty tx:TE}
def Rz (td ty tx:TE):TE:=fun Z H Q=>td Z H fun x H1=>∃a,x=.ref a/\IsD H1 a/\ty Z H1 fun y H2=>tx Z H2 fun z H3=>∃kvs k,H3 a=some (.dK kvs)/\y=kV k/\kvs.length<sizeLine /\
 (∀v,dR kvs k=some v->Q v H3)/\(dR kvs k=none->Q z (upd H3 a (.dK (putK kvs k z))))
theorem Gw (ho:PE X o td) (he:PE X e ty) (hf:PE X f tx) (m:M2 X o "setdefault" apos e f cpos):PE X (.Call (.Attribute o "setdefault" apos) [e,f] [] cpos) (Rz td ty tx):=by
 intro pins s Z H Q I h;refine wpAny_Call_method m.base m.few m.line PySem.F.plainAttrs_dict PySem.F.slot_dict_setdefault PySem.F.type_dict_setdefault (thn (ho pins s Z H _ I h) fun u s1 ⟨x,H1,I1,rx,a,ex,d,q1⟩=>?_);subst ex;obtain rfl:u=Value.ref a:=rx;obtain⟨t1,t2,_⟩:=zp I1 d;refine⟨t1,t2,?_⟩;rw[m.trees];refine Xq rfl (Calls.evalArgs_plain (Vr (thn (he pins s1 Z H1 _ I1 q1) fun iv s2 ⟨y,H2,I2,ry,q2⟩ =>
  Vr (thn (hf pins s2 Z H2 _ I2 q2) fun fv s3 ⟨z,H3,I3,rz,kvs,k,ea,ey,l,q3,q4⟩=>VD ?_))))
 subst ey;obtain⟨zl,hd,vs,rel,dd⟩:=u5 I3.hok ea;have rv:=rel.val k;refine call_meetsIn PySem.F.slot_dict_setdefault dd.typeIs PySem.F.entry_dict_setdefault (PySem.F.args_dict_setdefault_3 _ _ _) (kt_meets_setdefault (bH X.prog X.w) a (km ry) hd fv) ⟨vs,dd,by rw[<- rel.length];exact zl,fun v hv=>?_,fun hn h' dd' hs=>?_⟩
 ·cases hvv:dR kvs k with
  |none=>rw[hvv,hv] at rv;exact (show False from rv).elim
  |some w =>
  rw[hvv,hv] at rv;exact⟨w,H3,I3.tok _,rv,q3 w hvv⟩
 have hvv:dR kvs k=none:=by
  cases hvv:dR kvs k with
  |none=>rfl
  |some w=>rw[hvv,hn] at rv;exact (show False from rv).elim
 have he:∃q,h'.get? a=some q:=let ⟨q,_,_,hq,_⟩:=dd';⟨q,hq⟩;have hl:(putK kvs k z).length<=sizeLine:=by have:=eN kvs k z;omega
 exact⟨z,_,jW I3 (by rw[ea];exact True.intro) hs he (tR hl hd (rel.put k rz) dd'),rz,q4 hvv⟩
end
def cP (k:Int):List (Int × T)->Option T
 |[]=>none
 | (k',v)::r=>if k'=k then some v else cP k r
def uf (k:Int) (v:T) (kvs:List (Int × T)):List (Int × T) :=
 if (kvs.any fun kv=>decide (kv.1=k))=true then kvs.map (fun kv=>if kv.1=k then (kv.1,v) else kv) else kvs++[(k,v)]
theorem ie {K:Frag}{H:Hp}{k:Int}:∀{kvs:List (Int × T)}{vs:List (Key × V)}{t:T},RepI K H kvs vs->cP k kvs=some t->∃v,dR vs (Sum.inl k:Key)=some v/\Rep K H t v
 |[],_,_,_,e=>by cases e
 | (k',t')::r,_,t,.cons (b:=(kk,v')) ⟨e1,rv⟩ rr,e=>by
  simp only at e1 rv
  subst e1
  unfold cP at e
  by_cases hk:k'=k
  ·
   rw[if_pos hk] at e
   cases e
   exact⟨v',by rw[dU (by rw[hk])],rv⟩
  ·
   rw[if_neg hk] at e
   obtain⟨v,ev,q⟩:=ie rr e
   exact⟨v,by rw[dW (by intro z;exact hk (Sum.inl.inj z))];exact ev,q⟩
theorem fZ {K:Frag}{H:Hp}{k:Int}:∀{kvs:List (Int × T)}{vs:List (Key × V)},RepI K H kvs vs->(dR vs (Sum.inl k:Key)).isSome=(cP k kvs).isSome
 |[],_,.nil=>rfl
 | (k',t')::r,_,.cons (b:=(kk,v')) ⟨e1,rv⟩ rr=>by
  simp only at e1 rv
  subst e1
  unfold cP
  by_cases hk:k'=k
  ·
   rw[if_pos hk,dU (by rw[hk])];rfl
  ·
   rw[if_neg hk,dW (by intro z;exact hk (Sum.inl.inj z))]
   exact fZ rr
theorem Bm {K:Frag}{H:Hp}{k:Int}{t:T}{v:V}(rv:Rep K H t v) {kvs:List (Int × T)}{vs:List (Key × V)}(r:RepI K H kvs vs):RepI K H (uf k t kvs) (putK vs (Sum.inl k:Key) v):=by
 have e:∀{kvs:List (Int × T)} {vs:List (Key × V)},RepI K H kvs vs->(kvs.any fun kv=>decide (kv.1=k))=(vs.any fun kv=>decide (kv.1=(Sum.inl k:Key)))/\RepI K H (kvs.map (fun kv=>if kv.1=k then (kv.1,t) else kv)) (vs.map (fun kv=>if kv.1=(Sum.inl k:Key) then (kv.1,v) else kv)):=by
  intro kvs;induction kvs with
  |nil=>intro vs r;cases r;exact⟨rfl,.nil⟩
  |cons p l ih =>
  intro vs r;cases r with
  |cons q rr =>
  rename_i b l2;obtain⟨e1,e2⟩:=ih rr;obtain⟨q1,q2⟩:=q;obtain⟨bk,bv⟩:=b;simp only at q1 q2;subst q1;by_cases hk:p.1=k
  ·refine⟨by simp [hk],?_⟩;simp only[A_,hk,if_true];exact .cons ⟨rfl,rv⟩ e2
  have hk':¬(Sum.inl p.1:Key)=Sum.inl k:=fun z=>hk (Sum.inl.inj z);refine⟨by simp only[X8,hk,hk',Wl,Bool.false_or];exact e1,?_⟩;simp only[A_,hk,hk',U7];exact .cons ⟨rfl,q2⟩ e2
 obtain⟨e1,e2⟩:=e r;unfold uf putK;rw[e1];split
 ·exact e2
 exact Paired.snoc r ⟨rfl,rv⟩
section
variable {K:Frag}{H:Hp}{H3:Hp3}{a p:Addr}
theorem SimH.wrI {kv kv':List (Key × V)}{kvs:List (Int × T)}(s:SimH K H3 H) (hH:H a=some (.dK kv)) (r:RepI K H kvs kv'):SimH K (up3 H3 a (.dci kvs)) (upd H a (.dK kv')):=fun b o e=>by
 have le:TupLe K H (upd H a (.dK kv')):=bF (by rw[hH];exact trivial);by_cases hb:b=a
 ·subst hb;rw[aC] at e;cases e;exact⟨kv',bU,r.mono le⟩
 rw[aD hb] at e;exact (s b o e).stay le fun u q=>by rw[aP hb];exact q
theorem SimH.newI (s:SimH K H3 H) (hp:H p=none):SimH K (up3 H3 p (.dci [])) (upd H p (.dK [])):=fun a o e=>by
 by_cases ha:a=p
 ·subst ha;rw[aC] at e;cases e;exact⟨[],bU,.nil⟩
 rw[aD ha] at e;exact s.new hp a o e
theorem SimH.frzI {kv:List (Key × V)}{kvs:List (Int × T)}{o:Obj}(s:SimH K H3 H) (hH:H a=some (.dK kv)) (r:RepI K H kvs kv):SimH K (up3 H3 a (.dif o kvs)) (upd H a (.frz o (.dK kv))):=fun b u e=>by
 have le:TupLe K H (upd H a (.frz o (.dK kv))):=bF (by rw[hH];exact trivial);by_cases hb:b=a
 ·subst hb;rw[aC] at e;cases e;exact⟨kv,bU,r.mono le⟩
 rw[aD hb] at e;exact (s b u e).stay le fun u q=>by rw[aP hb];exact q
end
section
variable {X:Cx}{o i e f value k v:Expr}{td ty tv tx ti tk:TE3}{pos pos' apos cpos tpos:Pos}{elts:List Expr}{x1:Nat}{Z:St3}{H:Hp3}{Q:VK3}
def wg:TE3:=fun _ H Q=>∀p,H p=none->Q (.ref p) (up3 H p (.dci []))
theorem Bo:PE3 X (.Dict [] [] pos) wg:=by
 refine PE.imp qH ?_;rintro Z H Q ⟨Z3,H3,Q3,ss,sh,h,k⟩ p hp;exact k _ _ _ _ (aL hp) (sh.newI hp) .ofRef (h p (sh.fresh hp))
def d1i (y:T) (p:Addr) (v:T) (H:Hp3) (Q:VK3):Prop:=match y with
 |.int k=>H p=some (.dci [])/\Q (.ref p) (up3 H p (.dci [(k,v)]))
 |_=>False
def pM (tk tv:TE3):TE3:=fun Z H Q=>∀p,H p=none->tk Z (up3 H p (.dci [])) fun y H1=>tv Z H1 fun v H2=>d1i y p v H2 Q
theorem RB (x:Int) (p:Addr) (v:T):d1i (.int x) p v H Q=(H p=some (.dci [])/\Q (.ref p) (up3 H p (.dci [(x,v)]))):=rfl
theorem yg (hk:PE3 X k tk) (hv:PE3 X v tv):PE3 X (.Dict [some k] [v] pos) (pM tk tv):=by
 refine PE.imp (vd (qI hk hv u9) rfl rfl (by simp) (by show 1<=15;decide)) ?_;rintro Z H Q ⟨Z3,H3,Q3,ss,sh,h,k⟩ p hp;have le0:TupLe X.K H (upd H p (.dK [])):=aL hp;refine⟨Z3,up3 H3 p (.dci []),_,ss.mono le0,sh.newI hp,h p (sh.fresh hp),fun y H1 ty H31 le1 sh1 ry q1=>?_⟩;refine⟨Z3,H31,_,ss.mono (le0.trans le1),sh1,q1,fun z H2 tz H32 le2 sh2 rz q2=>?_⟩;cases ty with
 |int key =>
  have h':H32 p=some (.dci [])/\Q3 (.ref p) (up3 H32 p (.dci [(key,tz)])):=q2
  obtain⟨ws,hH,r⟩:=sh2 p _ h'.1
  cases r
  refine⟨hH,[(Sum.inl key,z)],by rw[(ry.mono le2).int];rfl,by show 1<=15;decide,?_⟩
  have e:iD [] [((Sum.inl key:Key),z)]=[((Sum.inl key:Key),z)]:=rfl
  rw[e]
  exact k _ _ _ _ (le0.trans (le1.trans (le2.trans (bF (by rw[hH];exact trivial))))) (sh2.wrI hH (.cons ⟨rfl,rz⟩ .nil)) .ofRef h'.2
 |_=>exact q2.elim
def dgI (o:Option O3) (k:Int) (H:Hp3) (Q:VK3):Prop:=match o with
 |some (.dci kvs)=>oq (cP k kvs) fun t=>Q t H
 |some (.dif _ kvs)=>oq (cP k kvs) fun t=>Q t H
 |_=>False
def RC:R3:=fun x y H Q=>match x,y with
 |.ref a,.int k=>dgI (H a) k H Q
 |_,_=>False
theorem U3 (a:Addr) (k:Int):RC (.ref a) (.int k) H Q=dgI (H a) k H Q:=rfl
theorem Jq (kvs:List (Int × T)) (k:Int):dgI (some (.dci kvs)) k H Q=oq (cP k kvs) fun t=>Q t H:=rfl
theorem Bp (o:Obj) (kvs:List (Int × T)) (k:Int):dgI (some (.dif o kvs)) k H Q=oq (cP k kvs) fun t=>Q t H:=rfl
theorem Bq {to:TE3}(hu:X.A.units+1<cLine) (ho:PE3 X o to) (hi:PE3 X i ti) (hs:Ew i:=by exact fun _ _=>rfl):PE3 X (.Subscript o i pos) (qL RC to ti):=by
 refine PE.imp (u6 hu ho hi hs) ?_;rintro Z H Q ⟨Z3,H3,Q3,ss,sh,h,k⟩;refine⟨Z3,H3,_,ss,sh,h,fun x H1 tx H31 le1 sh1 rx q1=>⟨Z3,H31,_,ss.mono le1,sh1,q1,fun y H2 ty H32 le2 sh2 ry q2=>?_⟩⟩;cases tx with
 |ref a =>
  cases ty with
  |int key =>
   have h':dgI (H32 a) key H32 Q3:=q2
   cases e:H32 a with
   |none=>rw[e] at h';exact h'.elim
   |some ob =>
    rw[e] at h'
    cases ob with
    |dci kvs =>
     rw[Jq] at h'
     obtain⟨vs,hH,r⟩:=sh2 a _ e
     cases el:cP key kvs with
     |none=>rw[el] at h';exact h'.elim
     |some t =>
      rw[el] at h'
      obtain⟨v,ev,rv⟩:=ie r el
      refine⟨a,v,rx.ref,?_,k.at (le1.trans le2) _ _ _ _ .refl sh2 rv h'⟩
      rw[ry.int,<- ev]
      exact DGet.k (k:=Sum.inl key) hH
    |dif oo kvs =>
     rw[Bp] at h'
     obtain⟨vs,hH,r⟩:=sh2 a _ e
     cases el:cP key kvs with
     |none=>rw[el] at h';exact h'.elim
     |some t =>
      rw[el] at h'
      obtain⟨v,ev,rv⟩:=ie r el
      refine⟨a,v,rx.ref,?_,k.at (le1.trans le2) _ _ _ _ .refl sh2 rv h'⟩
      rw[ry.int,<- ev]
      exact .inl ⟨vs,Sum.inl key,.inr ⟨_,hH⟩,rfl,rfl⟩
    |_=>exact h'.elim
  |_=>exact q2.elim
 |_=>exact q2.elim
def dpI (x y v:T) (H:Hp3) (Q:Hp3->Prop):Prop:=match x,y with
 |.ref a,.int k=>match H a with
  |some (.dci kvs)=>kvs.length<sizeLine/\Q (up3 H a (.dci (uf k v kvs)))
  |_=>False
 |_,_=>False
def Gx (td ty tv:TE3):TS3:=fun D Z H=>tv Z H fun v H1=>td Z H1 fun x H2=>ty Z H2 fun y H3=>dpI x y v H3 fun H4=>D.nx Z H4
def diI (neg:Bool) (y:T) (o:Option O3) (H:Hp3) (Q:VK3):Prop:=match y,o with
 |.int k,some (.dci kvs)=>Q (.bl (if neg then !(cP k kvs).isSome else (cP k kvs).isSome)) H
 |_,_=>False
def M5 (neg:Bool) (y x:T) (H:Hp3) (Q:VK3):Prop:=match x with
 |.ref a=>diI neg y (H a) H Q
 |_=>False
def Br (neg:Bool) (ti to:TE3):TE3:=fun Z H Q=>ti Z H fun y H1=>to Z H1 fun x H2=>M5 neg y x H2 Q
theorem M6 (neg:Bool) (y:T) (a:Addr):M5 neg y (.ref a) H Q=diI neg y (H a) H Q:=rfl
theorem RD (neg:Bool) (k:Int) (kvs:List (Int × T)):diI neg (.int k) (some (.dci kvs)) H Q=Q (.bl (if neg then !(cP k kvs).isSome else (cP k kvs).isSome)) H:=rfl
theorem Bs {neg:Bool}{H:Hp}{H3:Hp3}{x y:V}{tx ty:T}{Q3:VK3}(sh:SimH X.K H3 H) (rx:Rep X.K H tx x) (ry:Rep X.K H ty y) (q:M5 neg ty tx H3 Q3) :
  ∃a ov b,x=.ref a/\DGet H a y ov/\(if neg then !ov.isSome else ov.isSome)=b/\Q3 (.bl b) H3:=by
 cases tx with
 |ref a =>
  have h':diI neg ty (H3 a) H3 Q3:=q
  cases ty with
  |int k =>
   cases e:H3 a with
   |none=>rw[e] at h';exact h'.elim
   |some ob =>
    rw[e] at h'
    cases ob with
    |dci kvs =>
     obtain⟨ws,hH,r⟩:=sh a _ e
     refine⟨a,dR ws (Sum.inl k:Key),_,rx.ref,by rw[ry.int];exact DGet.k (k:=Sum.inl k) hH,rfl,?_⟩
     rw[fZ r]
     exact h'
    |_=>exact h'.elim
  |_=>exact h'.elim
 |_=>exact q.elim
theorem ug (hu:X.A.units+1<cLine) (hi:PE3 X i ti) (ho:PE3 X o td) (hm:behindInMarks .NotIn o=false:=by rfl):PT3 X (.Compare i [.NotIn] [o] pos) (jt (Br true ti td)):=by
 refine PT.imp (sX (nH hu hi ho) hm) ?_;rintro Z H Q ⟨Z3,H3,Q3,ss,sh,h,k⟩;refine⟨Z3,H3,_,ss,sh,h,fun y H1 ty H31 le1 sh1 ry q1=>⟨Z3,H31,_,ss.mono le1,sh1,q1,fun x H2 tx H32 le2 sh2 rx q2=>?_⟩⟩;obtain⟨a,ov,b,e,g,eb,q⟩:=Bs sh2 rx (ry.mono le2) q2;exact⟨a,ov,e,g,by rw[show (!ov.isSome)=b from eb];exact⟨b,rfl,k _ _ _ (le1.trans le2) sh2 q⟩⟩
def sdO (o:Option O3) (a:Addr) (k:Int) (v:T) (H:Hp3) (Q:VK3):Prop:=match o with
 |some (.dci kvs)=>kvs.length<sizeLine/\match cP k kvs with
  |some t=>Q t H
  |none=>Q v (up3 H a (.dci (uf k v kvs)))
 |_=>False
def sdq (x y v:T) (H:Hp3) (Q:VK3):Prop:=match x,y with
 |.ref a,.int k=>sdO (H a) a k v H Q
 |_,_=>False
def M7 (o:Option O3):Prop:=match o with
 |some (.dci _)=>True
 |_=>False
def RG (x:T) (H:Hp3):Prop:=match x with
 |.ref a=>M7 (H a)
 |_=>False
def Bt (td ty tv:TE3):TE3:=fun Z H Q=>td Z H fun x H1=>RG x H1/\ty Z H1 fun y H2=>tv Z H2 fun v H3=>sdq x y v H3 Q
theorem uh (a:Addr):RG (.ref a) H=M7 (H a):=rfl
theorem M8 (kvs:List (Int × T)):M7 (some (.dci kvs))=True:=rfl
theorem Jr (a:Addr) (k:Int) (v:T):sdq (.ref a) (.int k) v H Q=sdO (H a) a k v H Q:=rfl
theorem Js (kvs:List (Int × T)) (a:Addr) (k:Int) (v:T):sdO (some (.dci kvs)) a k v H Q=(kvs.length<sizeLine/\match cP k kvs with
  |some t=>Q t H
  |none=>Q v (up3 H a (.dci (uf k v kvs)))):=rfl
theorem Gy (ho:PE3 X o td) (he:PE3 X e ty) (hf:PE3 X f tv) (m:M2 X o "setdefault" apos e f cpos:=by exact⟨rfl,rfl,rfl,rfl⟩):PE3 X (.Call (.Attribute o "setdefault" apos) [e,f] [] cpos) (Bt td ty tv):=by
 refine PE.imp (Gw ho he hf m) ?_;rintro Z H Q ⟨Z3,H3,Q3,ss,sh,h,k⟩;refine⟨Z3,H3,_,ss,sh,h,fun x H1 tx H31 le1 sh1 rx q1=>?_⟩;obtain⟨d1,q1⟩:=q1;cases tx with
 |ref a =>
  cases e1:H31 a with
  |none=>rw[uh,e1] at d1;exact d1.elim
  |some ob =>
  rw[uh,e1] at d1;cases ob with
  |dci kvs0 =>
   obtain⟨vs0,hH0,_⟩:=sh1 a _ e1;refine⟨a,rx.ref,.inl ⟨vs0,.inl hH0⟩,Z3,H31,_,ss.mono le1,sh1,q1,fun y H2 ty H32 le2 sh2 ry q2=>⟨Z3,H32,_,ss.mono (le1.trans le2),sh2,q2,fun z H4 tz H34 le4 sh4 rz q4=>?_⟩⟩;cases ty with
   |int key =>
    rw[Jr] at q4;cases e:H34 a with
    |none=>rw[e] at q4;exact q4.elim
    |some ob =>
    rw[e] at q4;cases ob with
    |dci kvs =>
     rw[Js] at q4;obtain⟨vs,hH,r⟩:=sh4 a _ e;have le:=le1.trans (le2.trans le4);refine⟨vs,Sum.inl key,hH,(ry.mono le4).int,by rw[<- Xx r];exact q4.1,fun v hv=>?_,fun hn=>?_⟩
     ·have h0:=fZ (k:=key) r;cases el:cP key kvs with
      |none=>rw[el,hv] at h0;cases h0
      |some t =>
      rw[el] at q4;obtain⟨v',ev,rv⟩:=ie r el;rw[hv] at ev;cases ev;exact k _ _ _ _ le sh4 rv q4.2
     have h0:=fZ (k:=key) r;cases el:cP key kvs with
     |some t=>rw[el,hn] at h0;cases h0
     |none =>
     rw[el] at q4;have le5:TupLe X.K H4 (upd H4 a (.dK (putK vs (Sum.inl key:Key) z))):=bF (by rw[hH];exact trivial);exact k _ _ _ _ (le.trans le5) (sh4.wrI hH (Bm rz r)) (rz.mono le5) q4.2
    |_=>exact q4.elim
   |_=>exact q4.elim
  |_=>exact d1.elim
 |_=>exact d1.elim
def itT (kv:Int × T):T:=.tup [.int kv.1,kv.2]
def ul (a:Addr) (o:Obj) (kvs:List (Int × T)):Hp3->Prop:=fun H=>H a=some (.dif o kvs)
def itO (u:Option O3) (a:Addr) (H:Hp3) (R:List T->(Hp3->Prop)->Hp3->Prop):Prop:=match u with
 |some (.dci kvs)=>∀o,R (kvs.map itT) (ul a o kvs) (up3 H a (.dif o kvs))
 |_=>False
def itq (x:T) (H:Hp3) (R:List T->(Hp3->Prop)->Hp3->Prop):Prop:=match x with
 |.ref a=>itO (H a) a H R
 |_=>False
def wj (te:TE3):TI3:=fun Z H R=>te Z H fun x H1=>itq x H1 R
theorem Bu (te:TE3) {R:List T->(Hp3->Prop)->Hp3->Prop}:wj te Z H R=te Z H fun x H1=>itq x H1 R:=rfl
theorem Jt (a:Addr) {R:List T->(Hp3->Prop)->Hp3->Prop}:itq (.ref a) H R=itO (H a) a H R:=rfl
theorem Ju (kvs:List (Int × T)) (a:Addr) {R:List T->(Hp3->Prop)->Hp3->Prop}:itO (some (.dci kvs)) a H R=∀o,R (kvs.map itT) (ul a o kvs) (up3 H a (.dif o kvs)):=rfl
theorem um {K:Frag}{H:Hp}{a:Addr}{o:Obj}{kvs:List (Int × T)}:lg K (Iti a o) (kvs.map itT) (ul a o kvs) H:=fun H' H3' le sh st=>by
 obtain⟨vs,hH,r⟩:=sh a _ st;have hl:=Xx r;refine⟨fun i hi=>⟨vs,hH,by rw[d_] at hi;omega⟩,fun i t e=>?_⟩;rw[z_] at e;cases q:kvs[i]? with
 |none=>rw[q] at e;cases e
 |some kv =>
 rw[q] at e;cases e;obtain⟨⟨kk,v⟩,ev,e1,rv⟩:=iJ r q;simp only at e1 rv;subst e1;refine⟨⟨vs,_,hH,ev⟩,fun z H'' y=>?_⟩;obtain⟨p,k',x',rfl,hp,rfl,q1⟩:=y;have:=(q1 vs hH).symm.trans ev;cases this;exact⟨aL hp,sh.new hp,SimH.newTup (H3:=H3') hp (.cons .ofInt (.cons rv .nil))⟩
theorem Bv {te:TE3}(he:PE3 X e te) (hbase:attributeBase e "items" X.env (eval e X.env)=eval e X.env:=by rfl) (hline:(apos.endLine==cpos.line)=true:=by rfl) :
  PI3 X (.Tuple elts x1 tpos) (.Call (.Attribute e "items" apos) [] [] cpos) (wj te):=by
 refine PI.imp (Bk he hbase hline) ?_;rintro Z H R ⟨Z3,H3,R3,ss,sh,h,k⟩;refine⟨Z3,H3,_,ss,sh,h,fun v H' t H3' le sh' r q=>?_⟩;cases t with
 |ref a =>
  rw[Jt] at q;cases eo:H3' a with
  |none=>rw[eo] at q;exact q.elim
  |some ob =>
  rw[eo] at q;cases ob with
  |dci kvs=>rw[Ju] at q;obtain⟨vs,hH,rs⟩:=sh' a _ eo;exact⟨a,vs,r.ref,hH,fun o=>k _ _ _ _ _ (le.trans (bF (by rw[hH];exact trivial))) (sh'.frzI hH rs) um (q o)⟩
  |_=>exact q.elim
 |_=>exact q.elim
end
theorem nZ {K:Frag}{H:Hp}{f:Str}:∀{fs:List (Str × T)}{vs:List (Str × V)}{t:T},RepF K H fs vs->aN f fs=some t->∃v,vs.lookup f=some v/\Rep K H t v
 |[],_,_,_,e=>by cases e
 | (g,t')::r,_,t,.cons (b:=(g',v')) ⟨e1,rv⟩ rr,e=>by
  simp only at e1 rv
  subst e1
  unfold aN at e
  by_cases hk:g'=f
  ·
   rw[if_pos hk] at e
   cases e
   exact⟨v',by rw[V7,show (f==g')=true from W9.mpr hk.symm],rv⟩
  ·
   rw[if_neg hk] at e
   obtain⟨v,ev,q⟩:=nZ rr e
   exact⟨v,by rw[V7,show (f==g')=false from V9.mpr (Ne.symm hk)];exact ev,q⟩
theorem lF {K:Frag}{H:Hp}{f:Str}:∀{fs:List (Str × T)}{vs:List (Str × V)},RepF K H fs vs->aN f fs=none->vs.lookup f=none
 |[],_,.nil,_=>rfl
 | (g,t')::r,_,.cons (b:=(g',v')) ⟨e1,rv⟩ rr,e=>by
  simp only at e1 rv
  subst e1
  unfold aN at e
  by_cases hk:g'=f
  ·
   rw[if_pos hk] at e;cases e
  ·
   rw[if_neg hk] at e
   rw[V7,show (f==g')=false from V9.mpr (Ne.symm hk)]
   exact lF rr e
def dj (f:Str) (v:T):List (Str × T)->List (Str × T)
 |[]=>[(f,v)]
 | (g,x)::r=>if g=f then (g,v)::r else (g,x)::dj f v r
theorem qZ {K:Frag}{H:Hp}{f:Str}{t:T}{v:V}(rv:Rep K H t v):∀{fs:List (Str × T)}{vs:List (Str × V)},RepF K H fs vs->RepF K H (dj f t fs) (fL f v vs)
 |[],_,.nil=>.cons ⟨rfl,rv⟩ .nil
 | (g,t')::r,_,.cons (b:=(g',v')) ⟨e1,r1⟩ rr=>by
  simp only at e1 r1
  subst e1
  unfold dj fL
  by_cases hk:g'=f
  ·
   rw[if_pos hk,if_pos hk];exact .cons ⟨rfl,rv⟩ rr
  ·
   rw[if_neg hk,if_neg hk];exact .cons ⟨rfl,r1⟩ (qZ rv rr)
structure InsC (K:Frag) (C:Addr) (ns:List Str):Prop where
 cls:Cls K C
 no:∀n∈ns,NoAttr K C n
structure MtC (P:Program) (w:World) (K:Frag) (mg:Str->Option Value) (base:Heap) (C:Addr) (k:Nat) (m:Str) (ps:List Str) (sp:Sp3):Prop where
 cls:Cls K C
 ex:∃(f:Addr) (fd:FuncData),Meth K C m f/\Binds K fd ps []/\jG P w K mg base k f fd ps sp
structure MkC (P:Program) (w:World) (K:Frag) (mg:Str->Option Value) (base:Heap) (C:Addr) (k:Nat) (x:Str) (ps:List Str) (sp:Sp3):Prop where
 at_:mg x=some (.ref C)
 ex:∃(f:Addr) (fd:FuncData),Mk K C f/\Binds K fd ps []/\jG P w K mg base k f fd ps sp
structure GM (K:Frag) (C:Addr) (m qual:Str) (st:Stmt) (ps:List Str) (f:Addr) (fd:FuncData):Prop where
 cls:Cls K C
 fn:Fun K m qual st f fd
 b:Binds K fd ps []
 mt:Meth K C m f
structure GI (K:Frag) (mg:Str->Option Value) (C:Addr) (x qual:Str) (st:Stmt) (ps:List Str) (f:Addr) (fd:FuncData):Prop where
 mk_:Mk K C f
 fn:Fun K "__init__" qual st f fd
 b:Binds K fd ps []
 at_:mg x=some (.ref C)
theorem SimH.wrO {K:Frag}{H:Hp}{H3:Hp3}{a C dx:Addr}{fs:List (Str × T)}{vs vs':List (Str × V)}(s:SimH K H3 H) (hH:H a=some (.ins C dx vs)) (r:RepF K H fs vs'):SimH K (up3 H3 a (.ins C fs)) (upd H a (.ins C dx vs')):=fun b o e=>by
 have le:TupLe K H (upd H a (.ins C dx vs')):=bF (by rw[hH];exact trivial);by_cases hb:b=a
 ·subst hb;rw[aC] at e;cases e;exact⟨dx,vs',bU,r.mono le⟩
 rw[aD hb] at e;exact (s b o e).stay le fun u q=>by rw[aP hb];exact q
section
variable {X:Cx}{o e value:Expr}{es:List Expr}{ta tv:TE3}{t:TA3}{C:Addr}{f m x:Str}{ns ps:List Str}{sp:Sp3}{n:Nat}{pos pos' apos p:Pos}{H:Hp3}{Q:VK3}
def M9 (C:Addr) (f:Str) (u:Option O3) (H:Hp3) (Q:VK3):Prop:=match u with
 |some (.ins C' fs)=>C'=C/\oq (aN f fs) fun t=>Q t H
 |_=>False
def RJ (C:Addr) (f:Str) (x:T) (H:Hp3) (Q:VK3):Prop:=match x with
 |.ref a=>M9 C f (H a) H Q
 |_=>False
def Jv (C:Addr) (f:Str) (ta:TE3):TE3:=fun Z H Q=>ta Z H fun x H1=>RJ C f x H1 Q
theorem Bw (a:Addr):RJ C f (.ref a) H Q=M9 C f (H a) H Q:=rfl
theorem Nf (fs:List (Str × T)):M9 C f (some (.ins C fs)) H Q=oq (aN f fs) fun t=>Q t H:=propext ⟨fun h=>h.2,fun h=>⟨rfl,h⟩⟩
theorem gJ (c:InsC X.K C ns) (he:PE3 X e ta) (hf:f∈ns:=by simp) (hb:attributeBase e f X.env (eval e X.env)=eval e X.env:=by rfl):PE3 X (.Attribute e f pos) (Jv C f ta):=by
 refine PE.imp (KD he hb) ?_;rintro Z H Q ⟨Z3,H3,Q3,ss,sh,h,k⟩;refine⟨Z3,H3,_,ss,sh,h,fun v H' t H3' le sh' r q=>?_⟩;cases t with
 |ref a =>
  rw[Bw] at q;cases eo:H3' a with
  |none=>rw[eo] at q;exact q.elim
  |some ob =>
  rw[eo] at q;cases ob with
  |ins C' fs =>
   obtain⟨rfl,q1⟩:=(show C'=C/\oq (aN f fs) fun t=>Q3 t H3' from q);clear q;obtain⟨dx,vs,hH,rs⟩:=sh' a _ eo;cases el:aN f fs with
   |none=>rw[el] at q1;exact q1.elim
   |some t =>
   rw[el,iY] at q1;obtain⟨v',ev,rv⟩:=nZ rs el;exact⟨a,C',dx,vs,v',r.ref,hH,c.cls,c.no f hf,ev,k _ _ _ _ le sh' rv q1⟩
  |_=>exact q.elim
 |_=>exact q.elim
def sfO (C:Addr) (f:Str) (a:Addr) (y:T) (u:Option O3) (H:Hp3) (Q:Hp3->Prop):Prop:=match u with
 |some (.ins C' fs)=>C'=C/\fs.length<1000/\Q (up3 H a (.ins C (dj f y fs)))
 |_=>False
def sfq (C:Addr) (f:Str) (x y:T) (H:Hp3) (Q:Hp3->Prop):Prop:=match x with
 |.ref a=>sfO C f a y (H a) H Q
 |_=>False
def Jw (C:Addr) (f:Str) (ta tv:TE3):TS3:=fun D Z H=>tv Z H fun y H1=>ta Z H1 fun x H2=>sfq C f x y H2 fun H3=>D.nx Z H3
theorem Jx (a:Addr) (y:T) (Q:Hp3->Prop):sfq C f (.ref a) y H Q=sfO C f a y (H a) H Q:=rfl
theorem RK (a:Addr) (y:T) (fs:List (Str × T)) (Q:Hp3->Prop):sfO C f a y (some (.ins C fs)) H Q=(fs.length<1000/\Q (up3 H a (.ins C (dj f y fs)))):=propext ⟨fun h=>h.2,fun h=>⟨rfl,h⟩⟩
theorem pN (c:InsC X.K C ns) (ha:PE3 X o ta) (hv:PE3 X value tv) (hf:f∈ns:=by simp) (hs:swapsWith value (some (.Attribute o f pos')) pos.line X.env=pure false:=by rfl):PS3 X (.Assign [.Attribute o f pos'] value pos) (Jw C f ta tv):=by
 refine PS.imp (KH ha hv hs) ?_;rintro D Z H ⟨Z3,H3,D3,ss,sh,h,k1,_⟩;refine⟨Z3,H3,_,ss,sh,h,fun y H1 ty H31 le1 sh1 ry q1=>⟨Z3,H31,_,ss.mono le1,sh1,q1,fun x H2 tx H32 le2 sh2 rx q2=>?_⟩⟩;cases tx with
 |ref a =>
  rw[Jx] at q2;cases eo:H32 a with
  |none=>rw[eo] at q2;exact q2.elim
  |some ob =>
  rw[eo] at q2;cases ob with
  |ins C' fs=>obtain⟨rfl,hl,q⟩:=(show C'=C/\fs.length<1000/\D3.nx Z3 (up3 H32 a (.ins C (dj f ty fs))) from q2);obtain⟨dx,vs,hH,rs⟩:=sh2 a _ eo;have le5:TupLe X.K H2 (upd H2 a (.ins C' dx (fL f y vs))):=bF (by rw[hH];exact trivial);exact⟨a,C',dx,vs,rx.ref,hH,c.cls,c.no f hf,by rw[<- Xx rs];exact hl,k1 _ _ _ _ (le1.trans (le2.trans le5)) (ss.mono (le1.trans (le2.trans le5))) (sh2.wrO hH (qZ (ry.mono le2) rs)) q⟩
  |_=>exact q2.elim
 |_=>exact q2.elim
def mtO (C:Addr) (m:Str) (u:Option O3) (q:Prop):Prop:=match u with
 |some (.ins C' fs)=>C'=C/\aN m fs=none/\q
 |_=>False
def mtq (C:Addr) (m:Str) (x:T) (H:Hp3) (q:Prop):Prop:=match x with
 |.ref a=>mtO C m (H a) q
 |_=>False
def Bx (C:Addr) (m:Str) (sp:Sp3) (ta:TE3) (t:TA3):TE3:=fun Z H Q=>ta Z H fun x H1=>mtq C m x H1 (t Z H1 fun vs H2=>sp (x::vs) H2 Q)
theorem Jy (a:Addr) (q:Prop):mtq C m (.ref a) H q=mtO C m (H a) q:=rfl
theorem Jz (fs:List (Str × T)) (q:Prop):mtO C m (some (.ins C fs)) q=(aN m fs=none/\q):=propext ⟨fun h=>h.2,fun h=>⟨rfl,h⟩⟩
theorem pO {pl:Sem Bool}(M:MtC X.prog X.w X.K X.mg X.base C n m ps sp) (hr:Room n X.A) (he:PE3 X o ta) (ha:PA3 X (e::es) t)
  (hst:starEach (e::es) X.env=(false,eval e X.env)::starEach es X.env:=by rfl) (hpl:(backTo pos (starEach es X.env)).any (·.1)=false:=by rfl)
  (ht:eval (.Call (.Attribute o m apos) (e::es) [] pos) X.env=(do
   let ov <- eval o X.env
   standAt apos.atName
   let (f,first) <- holding [ov] (getMethod ov m pl)
   callWith pos f first (backTo pos (starEach (e::es) X.env)) (backToKw pos (keywordEach [] X.env))):=by rfl) :
  PE3 X (.Call (.Attribute o m apos) (e::es) [] pos) (Bx C m sp ta t):=by
 obtain⟨f,fd,hm,hb,F⟩:=M.ex;refine PE.imp (En (dvs:=[]) (E:=E0) he M.cls hm F hr hb .nil zr ha hst hpl ht) ?_;rintro Z H Q ⟨Z3,H3,Q3,ss,sh,h,k⟩;refine⟨Z3,H3,_,ss,sh,h,fun v H' t H3' le sh' r q=>?_⟩;cases t with
 |ref a =>
  rw[Jy] at q;cases eo:H3' a with
  |none=>rw[eo] at q;exact q.elim
  |some ob =>
  rw[eo] at q;cases ob with
  |ins C' fs=>obtain⟨rfl,hl,q⟩:=q;obtain⟨dx,vs,hH,rs⟩:=sh' a _ eo;refine⟨a,dx,vs,r.ref,hH,lF rs hl,Z3,H3',_,ss.mono le,sh',q,fun us H2 ts H32 le2 sh2 rr q2=>?_⟩;show qP X.K sp (v::(us++[])) H2 Q E0;rw[S_];exact⟨_,H32,Q3,.cons (r.mono le2) rr,sh2,q2,k.at (le.trans le2)⟩
  |_=>exact q.elim
 |_=>exact q.elim
def By (C:Addr) (sp:Sp3) (t:TA3):TE3:=fun Z H Q=>t Z H fun vs H1=>∀a,H1 a=none->sp (.ref a::vs) (up3 H1 a (.ins C [])) fun v H2=>v=.non/\Q (.ref a) H2
theorem Gz (M:MkC X.prog X.w X.K X.mg X.base C n x ps sp) (hr:Room (n+1) X.A) (hg:Gl X x) (ha:PA3 X (e::es) t) (hdb:(x==("__debug__":Str))=false:=by decide)
  (he:starEach (e::es) X.env=(false,eval e X.env)::starEach es X.env:=by rfl) (hpl:(backTo pos (starEach es X.env)).any (·.1)=false:=by rfl):PE3 X (.Call (.Name x p) (e::es) [] pos) (By C sp t):=by
 obtain⟨f,fd,hm,hb,F⟩:=M.ex;refine PE.imp (Eo (dvs:=[]) (E:=E0) hm F hr hg M.at_ hb .nil zr ha hdb he hpl) ?_;rintro Z H Q ⟨Z3,H3,Q3,ss,sh,h,k⟩;refine⟨Z3,H3,_,ss,sh,h,fun us H' ts H3' le sh' rr q=>fun a dx ha hdx hne=>?_⟩;show qP X.K sp (V.ref a::(us++[])) _ _ E0;rw[S_];have hp:upd H' dx (.own a) a=none:=by rw[aP (Ne.symm hne)];exact ha
 have le1:TupLe X.K H' (upd H' dx (.own a)):=aL hdx;have le2:TupLe X.K (upd H' dx (.own a)) (upd (upd H' dx (.own a)) a (.ins C dx [])):=aL hp;refine⟨T.ref a::ts,up3 H3' a (.ins C []),_,.cons .ofRef (rr.mono (le1.trans le2)),fun b ob eb=>?_,q a (sh'.fresh ha),fun v H2 t2 H32 le3 sh2 r2 q2=>⟨?_,?_⟩⟩
 ·by_cases hb:b=a
  ·subst hb;rw[aC] at eb;cases eb;exact⟨dx,[],bU,.nil⟩
  rw[aD hb] at eb;exact ((sh'.new hdx).new hp) b ob eb
 ·obtain⟨rfl,_⟩:=q2;exact r2.non
 exact k _ _ _ _ (le.trans (le1.trans (le2.trans le3))) sh2 .ofRef q2.2
def JB:R3:=fun x y H Q=>match y with
 |.non=>Q (.bl (!isN x)) H
 |_=>False
theorem RL (x:T) (H:Hp3) (Q:VK3):JB x .non H Q=Q (.bl (!isN x)) H:=rfl
theorem BJ:dD X (compareOp .IsNot) JB:=by
 refine OpR.imp Ef ?_;rintro x y H Q ⟨tx,ty,H3,Q3,rx,ry,sh,h,k⟩;cases ty with
 |non =>
  refine⟨ry.non,?_⟩;have e:decide (x=.non)=isN tx:=by
   cases tx with
   |non=>rw[rx.non];rfl
   |int i=>rw[rx.int];rfl
   |str i=>rw[rx.str];rfl
   |bl i=>rw[rx.bl];rfl
   |ref a=>rw[rx.ref];rfl
   |tup ts=>obtain⟨a,vs,rfl,_⟩:=rx.tup;rfl
   |ty n=>rw[rx.ty];rfl
  rw[e];exact k _ _ _ _ .refl sh .ofBl h
 |_=>exact h.elim
end
def Stb (b:Bool) (t:SetTable):Prop:=t.led=!b/\t.dummies=#[]/\t.place.toList.Pairwise (·<·)
theorem uo {xs:Array Nat}{j:Nat}(h:xs.toList.Pairwise (·<·)) {i k:Nat}(hik:i<=k) (hk:k<xs.size):xs.getD i j<=xs.getD k j:=by
 have hi:i<xs.size:=Nat.lt_of_le_of_lt hik hk;rcases Nat.lt_or_eq_of_le hik with e | rfl
 ·have:=VH.mp h i k (by simpa using hi) (by simpa using hk) e;simp only[Vp,K_ hi,K_ hk,Option.getD_some];simp only[XM] at this;omega
 exact m_ _
theorem BK {xs:Array Nat}{j:Nat}(h:xs.toList.Pairwise (·<·)):∀(f lo hi:Nat),lo<=hi->hi<=xs.size->hi - lo<=f->(∀i,i<lo->xs.getD i j<j)->(∀i,hi<=i->i<xs.size->j<=xs.getD i j) ->
  SetTable.below.go xs j f lo hi<=xs.size/\(∀i,i<SetTable.below.go xs j f lo hi->xs.getD i j<j)/\∀i,SetTable.below.go xs j f lo hi<=i->i<xs.size->j<=xs.getD i j
 |0,lo,hi,h1,h2,h3,h4,h5=>by
  obtain rfl:lo=hi:=by omega
  exact⟨h2,h4,h5⟩
 |f+1,lo,hi,h1,h2,h3,h4,h5=>by
  unfold SetTable.below.go
  by_cases c:lo<hi
  ·
   rw[if_pos c]
   dsimp only
   by_cases d:xs.getD ((lo+hi) / 2) j<j
   ·
    rw[if_pos d]
    exact BK h f _ _ (by omega) h2 (by omega) (fun i hi'=>Nat.lt_of_le_of_lt (uo h (k:=(lo+hi) / 2) (by omega) (by omega)) d) h5
   ·
    rw[if_neg d]
    exact BK h f _ _ (by omega) (by omega) (by omega) h4 fun i h6 h7=>U8 (XJ.mp d) (uo h h6 h7)
  ·
   rw[if_neg c]
   obtain rfl:lo=hi:=by omega
   exact⟨h2,h4,h5⟩
theorem pP {xs:Array Nat}{j:Nat}(h:xs.toList.Pairwise (·<·)):SetTable.below xs j<=xs.size/\(∀i,i<SetTable.below xs j->xs.getD i j<j)/\∀i,SetTable.below xs j<=i->i<xs.size->j<=xs.getD i j :=
 BK h _ _ _ (Vx _) (m_ _) (by omega) (fun i hi=>absurd hi (Ye _)) fun i h1 h2=>absurd h2 (by omega)
theorem GC {xs:Array Nat}(h:xs.toList.Pairwise (·<·)) {i:Nat}(hi:i<xs.size):SetTable.below xs (xs[i]+1)=i+1:=by
 obtain⟨h1,h2,h3⟩:=pP (j:=xs[i]+1) h;have e:∀k (hk:k<xs.size),xs.getD k (xs[i]+1)=xs[k]:=fun k hk=>by rw[Vp,K_ hk];rfl
 rcases Nat.lt_trichotomy (SetTable.below xs (xs[i]+1)) (i+1) with c | c | c
 ·have:=h3 i (by omega) hi;rw[e i hi] at this;omega
 ·exact c
 have h4:=h2 (i+1) c;rw[e (i+1) (by omega)] at h4;have:=VH.mp h i (i+1) (by simpa using hi) (by simp;omega) (Xd _);simp only[XM] at this;omega
theorem GD {xs:Array Nat}(h:xs.toList.Pairwise (·<·)):SetTable.below xs 0=0:=by
 obtain⟨_,h2,_⟩:=pP (j:=0) h;rcases Nat.eq_zero_or_pos (SetTable.below xs 0) with c | c
 ·exact c
 exact absurd (h2 0 c) (Ye _)
theorem GF {xs:Array Nat}{j:Nat}(h:xs.toList.Pairwise (·<·)) (hn:xs[SetTable.below xs j]?≠some j):(SetTable.insertAt xs (SetTable.below xs j) j).toList.Pairwise (·<·):=by
 obtain⟨h1,h2,h3⟩:=pP (j:=j) h;generalize SetTable.below xs j=p at *;have e:∀k (hk:k<xs.size),xs.getD k j=xs[k]:=fun k hk=>by rw[Vp,K_ hk];rfl
 have hd:∀b∈xs.toList.drop p,j<b:=fun b hb=>by obtain⟨i,hi,rfl⟩:=V_ hb;rw[V6,Vl] at hi;rw[List.getElem_drop,XM];have h4:=h3 (p+i) (by omega) (by omega);rw[e _ (by omega)] at h4;have h5:=h3 p (m_ _) (by omega);rw[e _ (by omega)] at h5;have h6:xs[p]'(by omega)≠j:=fun z=>hn (by rw[K_ (by omega),z]);have h7:=uo (j:=j) h (i:=p) (k:=p+i) (by omega) (by omega);rw[e _ (by omega),e _ (by omega)] at h7;omega
 rw[SetTable.toList_insertAt,List.pairwise_append];refine⟨h.sublist (List.take_sublist _ _),List.pairwise_cons.mpr ⟨hd,h.sublist (List.drop_sublist _ _)⟩,fun a ha b hb=>?_⟩;have ha':a<j:=by
  obtain⟨i,hi,rfl⟩:=V_ ha;rw[Vv,Vl] at hi;rw[List.getElem_take,XM];have:=h2 i (by omega)
  rwa [e _ (by omega)] at this
 rcases p_.mp hb with rfl | hb
 ·exact ha'
 exact XX ha' (hd b hb)
theorem RM (j:Nat):SetTable.has #[] j=false:=by unfold SetTable.has;rfl
theorem q8 {t:SetTable}{j:Nat}(hd:t.dummies=#[]):t.slot j≠.dummy/\(t.slot j=.empty->t.place[SetTable.below t.place j]?≠some j):=by
 unfold SetTable.slot;dsimp only;rw[hd,RM];cases c:t.place[SetTable.below t.place j]?==some j
 ·refine⟨by simp,fun _ z=>?_⟩;rw[z] at c;simp at c
 simp
theorem n8 {t:SetTable}{h:Int}(hd:t.dummies=#[]):∀(f:Nat) (p:SetTable.Probe),p.dummy=none->∀j d,SetTable.probe.go t (fun _=>h+1) h f p=some (.empty j d)->t.slot j=.empty/\d=none
 |0,_,_,_,_,e=>by cases e
 |f+1,p,hp,j,d,e=>by
  unfold SetTable.probe.go at e
  cases c:t.slot p.j with
  |empty =>
   rw[c] at e
   cases e
   exact⟨c,hp⟩
  |dummy=>exact absurd c (q8 hd).1
  |live i =>
   rw[c] at e
   dsimp only at e
   rw[if_neg (by simp only[W9];omega)] at e
   refine n8 hd f _ ?_ j d e
   unfold SetTable.advance
   split
   ·
    exact hp
   ·
    exact hp
theorem BL {t:SetTable}{h:Int}(hd:t.dummies=#[]) {j:Nat}{b:Bool}(e:t.freeSlot h=some (j,b)):t.slot j=.empty:=by
 unfold SetTable.freeSlot at e;split at e
 ·rename_i j' d e2;obtain⟨h1,rfl⟩:=n8 hd _ _ rfl _ _ e2;cases e;exact h1
 cases e
theorem Stb.stand {b:Bool}{t:SetTable}(h:Stb b t) (n:Nat):Stb b (t.standIn n):=⟨h.1,rfl,by
 show (Array.range n).toList.Pairwise (·<·)
 rw[Array.toList_range]
 exact List.pairwise_lt_range⟩
theorem Stb.or {b:Bool}{t:SetTable}(h:Stb b t) (n:Nat):Stb b (t.orStandIn n):=by
 unfold SetTable.orStandIn;split
 ·exact h
 exact h.stand n
theorem Stb.new {b:Bool}{t:SetTable}(ht:Stb b t) (es:Array (Int × Value)) (h:Int) (x:Value):Stb b (layNew t es h x).2.1:=by
 unfold layNew;split
 ·rename_i j d e;have hp:Stb b (t.put j).1:=by refine⟨ht.1,?_,GF ht.2.2 ((q8 ht.2.1).2 (BL ht.2.1 e))⟩;show (if SetTable.has t.dummies j then _ else t.dummies)=#[];rw[ht.2.1,RM];rfl
  exact hp.or _
 exact ht.stand _
theorem Stb.relay {b:Bool}{t:SetTable}(ht:Stb b t) (es:Array (Int × Value)) (n:Nat):Stb b (relayAll t es n).2.1:=by
 unfold relayAll;split
 ·rename_i t' q e;dsimp only;split
  ·unfold SetTable.relaid SetTable.laid at e;cases c:SetTable.layClean (SetTable.sizeAbove n - 1) (es.map (·.1)) with
   |none=>rw[c] at e;cases e
   |some owner =>
   rw [c] at e;cases e;refine ⟨ht.1,rfl,?_⟩;dsimp only;rw [Xz];refine List.Pairwise.filterMap _ (R:=(· < ·)) (fun a a' hl y hy y' hy' => ?_) List.pairwise_lt_range;cases e1 : owner.getD a none with
   |none=>rw[e1] at hy;cases hy
   |some z =>
   cases e2:owner.getD a' none with
   |none=>rw[e2] at hy';cases hy'
   |some z' =>
   rw[e1] at hy;rw[e2] at hy';cases hy;cases hy';exact hl
  exact ht.stand _
 exact ht.stand _
def ivl:Value->Int
 |.int n _=>n
 |_=>0
def ivs (es:List (Int × Value)):List Int:=es.map fun e=>ivl e.2
def SI (prog:Program) (w:World) (h:Heap) (a:Addr) (ks:List Int):Prop:=∃o es ep t,h.get? a=some o/\o.ExactSet/\o.data=.set es ep t/\ElemsOf (intKind prog w) es.toList/\(ivs es.toList).Nodup/\(∀k,k∈ivs es.toList↔k∈ks)/\es.size<=ks.length/\t.fits es.size=true/\Stb (w.params.followText "set-order") t
theorem SI.at' {prog:Program}{w:World}{h h':Heap}{a:Addr}{ks:List Int}(x:SI prog w h a ks) (k:∀o,h.get? a=some o->h'.get? a=some o):SI prog w h' a ks:=by
 obtain⟨o,es,ep,t,ho,r⟩:=x;exact⟨o,es,ep,t,k _ ho,r⟩
section
variable {prog:Program}{w:World}{A:Around}{E:Value->Shared->Prop}{s:Shared}
theorem q9 {a:Addr}{o:Obj}{es es':Array (Int × Value)}{ep:Nat}{t t':SetTable}{h:Heap}(ho:h.get? a=some o) (hd:o.data=.set es ep t):(h.update a (Obj.putSet es' t')).get? a=some { o with data:=.set es' (ep+1) t'}:=by
 have:=Vs (Obj.putSet es' t') ho (by rw[putSet_of es' t' hd];rfl);rw[putSet_of es' t' hd] at this;exact this
theorem add_int {a:Addr}{ks:List Int}{k:Int}{tk:Tok}{Q:Bool->Shared->Prop}(hS:SI prog w s.heap a ks) (room:ks.length+1<scanBound)
  (h:∀v h',Heap.SameBut a s.heap h'->SI prog w h' a (ks++[k])->Q v { s with heap:=h'}):wpAny (model prog w) A (setAddHashed a (.int k tk) ((intKind prog w).hash k)) Q E s:=by
 obtain⟨o,es,ep,t,ho,hex,hd,hel,nd,hm,hl,hf,tb⟩:=hS;have hkey:(intKind prog w).is k (.int k tk)=true:=intKind_is _ _ _ _;have hb:es.size<scanBound:=by omega
 have mem:∀e∈es.toList,∀k',(intKind prog w).is k' e.2=true↔ivl e.2=k':=fun e he k'=>by
  obtain⟨⟨k2,h2,_⟩,_⟩:=hel e he;obtain⟨t2,e2⟩:=Value.isInt_shape h2;rw[e2];constructor
  ·intro z;exact (intKind prog w).inj _ _ _ (intKind_is _ _ _ _) z
  rintro rfl;exact intKind_is _ _ _ _
 unfold setAddHashed setAddHashedIn;refine VN (a_ (XC ho hd hf ?_));dsimp only;rw[byScan_of (knd:=intKind prog w) rfl hb hel];simp only[↓reduceIte];unfold setAddByScan;refine a_ (a_ (wpAny_rule (a_ (wpAny_setScan_of hkey ho hd hf hel ?_))));cases hr:List.findIdx? (fun e=>(intKind prog w).is k e.2) es.toList with
 |some j=>dsimp only;obtain⟨hj,pj,_⟩:=List.findIdx?_eq_some_iff_getElem.mp hr;have e0:=(mem _ (Vh hj) k).mp pj;have hk:k∈ivs es.toList:=k_.mpr ⟨_,Vh hj,e0⟩;refine h_ (h_ (h _ s.heap (Heap.SameBut.refl a s.heap) ⟨o,es,ep,t,ho,hex,hd,hel,nd,fun k'=>?_,by rw[b_];omega,hf,tb⟩));rw[hm k',D_,i_];exact⟨.inl,fun z=>z.elim id fun e=>by rw[e];exact (hm k).mp hk⟩
 |none =>
 dsimp only;have hno:k∉ivs es.toList:=fun z=>by obtain⟨e,he,hp⟩:=k_.mp z;have:=List.findIdx?_eq_none_iff.mp hr e he;rw[(mem e he k).mpr hp] at this;cases this
 have gw:∀(b:Bool) {s1:Shared} {Q':Unit->Shared->Prop},Q' () s1->wpAny (model prog w) A (match b with | true=>rule "set.scan.the-table-gave-way" | false=>pure ()) Q' E s1:=fun b s1 Q' hq=>by
  cases b
  ·exact h_ hq
  exact wpAny_rule hq
 have pm:=layNew_perm t es ((intKind prog w).hash k) (.int k tk);have ft:=layNew_fits t es ((intKind prog w).hash k) (.int k tk);have tb1:=tb.new es ((intKind prog w).hash k) (.int k tk);generalize layNew t es ((intKind prog w).hash k) (.int k tk)=L at pm ft tb1 ⊢;obtain⟨es1,t1,wd,gv⟩:=L;dsimp only at pm ft tb1 ⊢;rw[Array.toList_push] at pm;have sz1:es1.size=es.size+1:=by rw[<- Vl,pm.length_eq,b_,Vl];rfl
 have good:∀es2:Array (Int × Value),es2.toList.Perm es1.toList->ElemsOf (intKind prog w) es2.toList/\(ivs es2.toList).Nodup/\(∀k',k'∈ivs es2.toList↔k'∈ks++[k])/\es2.size=es.size+1:=fun es2 p2=>by
  have p3:=p2.trans pm;have p4:=p3.map fun e=>ivl e.2;have p5:(ivs es2.toList).Perm (ivs es.toList++[k]):=by unfold ivs;rw[u_] at p4;exact p4
  refine⟨(hel.push hkey rfl).perm p3,p5.nodup_iff.mpr ?_,fun k'=>?_,?_⟩
  ·rw[XD];refine⟨nd,by simp,fun x hx y hy z=>?_⟩;rw[i_.mp hy] at z;exact hno (z▸hx)
  ·rw[p5.mem_iff,D_,D_,hm k']
  rw[<- Vl,p2.length_eq,Vl,sz1]
 have lk:(ks++[k]).length=ks.length+1:=by rw[b_];rfl
 refine a_ (gw _ ?_);have tail:wpAny (model prog w) A (do
   storeSet a es1 t1
   if (!wd&&t1.tooFull)=true then do
     (match (relayAll t1 es1 (SetTable.grown es1.size)).2.2 with | true=>rule "set.scan.the-table-gave-way" | false=>pure ())
     storeSet a (relayAll t1 es1 (SetTable.grown es1.size)).1 (relayAll t1 es1 (SetTable.grown es1.size)).2.1
     pure (some true)
    else pure (some true)) (fun r s'=>∃h',r=some true/\s'={ s with heap:=h'}/\Heap.SameBut a s.heap h'/\SI prog w h' a (ks++[k])) E s:=by
  refine a_ (wpAny_storeSet_of ho hd ?_ (fits_of_scanBound (by omega)))
  have o1:=q9 (es':=es1) (t':=t1) ho hd
  have sb1:=Heap.SameBut.update s.heap a (Obj.putSet es1 t1)
  split
  ·
   have p2:=relayAll_perm t1 es1 (SetTable.grown es1.size)
   have f2:=relayAll_fits t1 es1 (SetTable.grown es1.size)
   have tb2:=tb1.relay es1 (SetTable.grown es1.size)
   generalize relayAll t1 es1 (SetTable.grown es1.size)=R at p2 f2 tb2 ⊢
   obtain⟨es2,t2,g2⟩:=R
   dsimp only at p2 f2 tb2 ⊢
   obtain⟨q1,q2,q3,q4⟩:=good es2 p2
   refine a_ (gw _ (a_ (wpAny_storeSet_of o1 rfl ?_ (fits_of_scanBound (by omega)))))
   exact h_ ⟨_,rfl,rfl,sb1.trans (Heap.SameBut.update _ a _),_,es2,_,t2,q9 o1 rfl,hex,rfl,q1,q2,q3,by omega,f2,tb2⟩
  ·
   obtain⟨q1,q2,q3,q4⟩:=good es1 (.refl _)
   exact h_ ⟨_,rfl,rfl,sb1,_,es1,_,t1,o1,hex,rfl,q1,q2,q3,by omega,ft,tb1⟩
 have fin:∀(r:Option Bool) (s':Shared),(∃h',r=some true/\s'={ s with heap:=h'}/\Heap.SameBut a s.heap h'/\SI prog w h' a (ks++[k]))->wpAny (model prog w) A (match r with | some added=>pure added | none=>setAddHashedIn a (.int k tk) ((intKind prog w).hash k) 99999) Q E s':=by rintro r s' ⟨h',rfl,rfl,sb,hs⟩;exact h_ (h true h' sb hs)
 split
 ·refine a_ ?_;rw[hashByValue_scannable 8 (x:=.int k tk) rfl];refine h_ ?_;exact V0 tail fin fun _ _ e=>e
 refine a_ (h_ ?_);simp only[↓reduceIte];exact V0 tail fin fun _ _ e=>e
end
theorem Ng {prog:Program}{w:World}{A:Around}{R:Result->Shared->Prop}{J:Addr}{fp wr:List Addr}{n:Nat}{P:Nat->Value->Prop}{St:Nat->Heap->Prop}
  (W:Walks prog w A.in1 J fp wr n P St) (B:Addr) (nB:B∉fp) (xs:List Int) (hn:xs.length=n) (hv:∀i v,P i v->∃x t,xs[i]?=some x/\v=.int x t) (room:n+1<scanBound) :
  ∀(k i:Nat) (s:Shared),n - i=k->i<=n->St i s.heap->SI prog w s.heap B (xs.take i) ->
   (∀s',Moved (B::wr) (fun a b=>b=a) s s'->SI prog w s'.heap B xs->R (.ok (.ret .none)) s') ->
   codeAny (model prog w) A (.builtin "set.update.loop" ⟨[.ref B,.ref J],[]⟩) R s:=by
 have WS:=W.toS;have nW:B∉wr:=fun h=>nB (WS.sub _ h);have up:∀c∈wr,c∈B::wr:=fun c hc=>v_ _ hc;intro k;induction k with
 |zero =>
  intro i s hk hi st hB fin;have ei:i=n:=by omega
  subst ei;refine Wz PyProof.Rows.F.entry_set_update_loop ?_;rw[W6 WL _];show wpAny _ A.in1 (pyNext (.ref J) >>= _) _ _ s;refine a_ (WS.done s _ _ st fun s' mv=>?_);show wpAny _ A.in1 (ret Value.none) _ _ s';rw[<- hn,List.take_length] at hB;exact h_ (fin s' (mv.mono up) (hB.at' fun o e=>mv.heap B _ nW e))
 |succ k ih =>
 intro i s hk hi st hB fin;have lt:i<n:=by omega
 refine Wz PyProof.Rows.F.entry_set_update_loop ?_;rw[W6 WL _];show wpAny _ A.in1 (pyNext (.ref J) >>= _) _ _ s;refine a_ (WS.item i s _ _ lt st fun v s' pv st' mv=>?_);obtain⟨x,t,hx,rfl⟩:=hv i v pv;have hB':=hB.at' fun o e=>mv.heap B _ nW e;show wpAny _ A.in1 (holding [Value.int x t] (setAdd B (.int x t)) >>= _) _ _ s';refine a_ (VN ?_);unfold setAdd;refine VN ?_;refine a_ ((intKind prog w).pyHash (k:=x) (intKind_is _ _ _ _) ?_);have et:xs.take (i+1)=xs.take i++[x]:=by rw[List.take_add_one,hx];rfl
 refine add_int (s:={ s' with toks:=s'.toks+1}) hB' (by rw[Vv];omega) fun v h' sb hB2=>?_;rw[<- et] at hB2;refine h_ ⟨W_ WL _,ih (i+1) _ (by omega) lt (WS.frame _ s' _ _ st' (Nat.le_succ _) fun c hc o e=>?_) hB2 fun s'' mv2 hB4=>?_⟩
 ·rw[sb.2 c (fun z:c=B=>nB (by rw[<- z];exact hc))];exact e
 refine fin s'' (Moved.trans WS.gtrans ((mv.mono up).then_heap (Nat.le_succ _) fun c o hc e=>?_) mv2) hB4;rw[sb.2 c (fun z=>hc (by rw[z];exact t_))];exact e
@[reducible] def lG (w:World):Obj:={ cls:=.type "set",dict:=none,data:=.set #[] 0 (.fresh 0 0 (!w.params.followText "set-order"))}
section
variable {prog:Program}{w:World}{A:Around}{E:Value->Shared->Prop}{s:Shared}
theorem GJ {h:Heap}{a:Addr}(ho:h.get? a=some (lG w)):SI prog w h a []:=⟨_,_,_,_,ho,⟨rfl,rfl,rfl⟩,rfl,fun e he=>by simp at he,by simp [ivs],fun k=>by simp [ivs],m_ _,rfl,rfl,rfl,List.Pairwise.nil⟩
theorem BP (a:Value) {Q₁:Value->Shared->Prop}(h:Q₁ (.ref s.heap.objs.size) { s with heap:=s.heap.push (lG w)}):codeAny (model prog w) A (.call (.builtin "set.__new__") ⟨[.type "set",a],[]⟩) (wants Q₁ E) s:=by
 refine codeAny_of_tree ?_;show wpAny _ A.in1 (checkBuiltinCall "set.__new__" ⟨[.type "set",a],[]⟩ >>= fun _=>again (.builtin "set.__new__" ⟨[.type "set",a],[]⟩)) _ _ s;refine a_ (Wx (PySem.F.newCall_set_1 a) (h_ ⟨W_ F.plain_set_new _,Wz F.entry_set_new ?_⟩));rw[W6 F.plain_set_new _];unfold Builtin.«set.__new__» Builtin.Frozenset.newClass;have sub:=sub_set_self;obtain⟨hp,g,d,tk,os⟩:=s;dsimp only
 wp_walk
 refine X3 (h_ ?_);dsimp only;simp only[newObj];exact a_ (wpAny_alloc (h_ (h_ h)))
theorem yh {l:Addr}{its:Array Value}{xs:List Int}{Q:Value->Shared->Prop}(hh:A.handled=none) (hl:s.heap.IsList l its) (hx:xs.length=its.size)
  (hv:∀(i:Nat) (v:Value),its[i]?=some v->∃x t,xs[i]?=some x/\v=.int x t) (room:its.size+1<scanBound)
  (h:∀(h':Heap) (tk:Nat),SI prog w h' s.heap.objs.size xs->(∀b o,b<s.heap.objs.size->s.heap.get? b=some o->h'.get? b=some o)->Q (.ref s.heap.objs.size) { s with heap:=h',toks:=tk}) :
  wpAny (model prog w) A (call (.type "set") [.ref l]) Q E s:=by
 obtain⟨cc,tl,hmro⟩:=Wf.mro;have hmade:=Wf.made;have hsub:=Wf.sub;refine wpAny_call (codeAny_of_tree ?_);show wpAny _ _ (callAny (.type "set") _) _ _ _;refine h_ ⟨Code.quiet_builtin _ (by decide +kernel),Wz F.entry_type_call ?_⟩;rw[Around.under_plain (weight_type_call_type "set" [.ref l] []) rfl];have n1:=Wf.notType;have n2:=Wf.canCreate;have hct:=PySem.F.typeCall_set_1 (.ref l);repeat (any_goals (first | assumption | wp_step))
 refine W4 (BP (.ref l) (E:=E) (Q₁:=fun obj s1=>obj=.ref s.heap.objs.size/\s1={ s with heap:=s.heap.push (lG w)}) ⟨rfl,rfl⟩) fun r s1 hr=>?_;cases r with
 |error e=>exact hr
 |ok fl =>
 cases fl with
 |ret obj =>
  obtain⟨rfl,rfl⟩:=hr;have hB:(s.heap.push (lG w)).get? s.heap.objs.size=some (lG w):=x_ _ rfl;have hT:Shared.TypeIs { s with heap:=s.heap.push (lG w)} (.ref s.heap.objs.size) "set":=⟨_,hB,rfl⟩;have hli:=Wf.init.lookup;have hbi:=Wf.init.bind (.ref s.heap.objs.size);repeat (any_goals (first | assumption | wp_step))
  refine W4 (codeAny_call_builtin (R:=wants (fun r s2=>r=.none/\∃h' tk,s2={ s with heap:=h',toks:=tk}/\SI prog w h' s.heap.objs.size xs /\
    (∀b o,b<s.heap.objs.size->s.heap.get? b=some o->h'.get? b=some o)) E) Wf.init.plain F.entry_set_init (check_set_init_1 hT ?_)) fun r2 s2 hr2=>?_
  ·have hl1:(s.heap.push (lG w)).IsList l its:=hl.push _;obtain⟨ol,hol,hcl,nl,hdl⟩:=id hl;obtain⟨oc,od,oda,osl⟩:=ol;simp only at hcl hdl;subst hcl;subst hdl;have hol':(s.heap.push (lG w)).get? l=some { cls:=.type "list",dict:=od,data:=.seq its nl,slots:=osl}:=e_ _ hol;have t1:=PySem.F.sub_list_set;have t2:=PySem.F.sub_list_frozenset;have t3:(Value.type "list"==Value.type "dict")=false:=by decide
   unfold Builtin.«set.__init__» noKeywords Builtin.Frozenset.updateFrom;generalize hPI:pyIter=PI
   wp_walk
   subst hPI;refine wpAny_pyIter_list hl1 ?_;refine a_ (wpAny_runValue ?_);have lS:l<s.heap.objs.size:=B_ hol;have hh3:A.in1.in1.in1.handled=none:=by simp [hh]
   have eJ:(s.heap.push (lG w)).objs.size=s.heap.objs.size+1:=Ww ..;have nJ:l≠(s.heap.push (lG w)).objs.size:=by rw[eJ];exact U9 (Wj lS)
   have nB:s.heap.objs.size∉[(s.heap.push (lG w)).objs.size,l]:=by
    rw[eJ];intro z;simp only[p_,VP,Yc] at z;rcases z with z | z
    ·exact absurd z (U9 (Xd _))
    exact absurd z (Nat.ne_of_gt lS)
   refine Ng (Walks.list hh3 _ l nJ its) s.heap.objs.size nB xs hx hv room (its.size - 0) 0 _ (by omega) (Vx _) ⟨⟨_,x_ _ rfl,rfl,rfl⟩,hl1.push _⟩ (GJ (e_ _ hB)) ?_;intro s' mv hB';obtain⟨h',g',d',tk',os'⟩:=s';have eg:g'=s.gens:=mv.gens;have ed:d'=s.drawn:=mv.drawn;have eo:os'=s.os:=mv.os;subst eg ed eo;show wpAny _ _ _ _ _ _;refine h_ ?_;show wpAny _ _ (ret Value.none) _ _ _;refine h_ ⟨rfl,h',tk',rfl,hB',fun b o hb e=>mv.heap b o ?_ (e_ _ (e_ _ e))⟩;intro z;simp only[p_,VP,Yc] at z;rcases z with z | z
   ·exact absurd z (U9 hb)
   rw[eJ] at z;exact absurd z (U9 (Wj hb))
  cases r2 with
  |error e=>exact hr2
  |ok fl2 =>
  cases fl2 with
  |ret r =>
   obtain⟨rfl,h',tk,rfl,hB',kp⟩:=hr2;repeat (any_goals (first | assumption | wp_step))
   exact h _ _ hB' kp
  |_=>exact hr2.elim
 |_=>exact hr.elim
end
open PySem.W
theorem st_next:Slot "set_iterator" "__next__" "set_iterator.__next__":=.of (owner:="set_iterator") (n:="__next__") (by rw[We,Vt];kernel_rfl) (by decide +kernel) (by decide +kernel) (by decide +kernel)
 (by first | exact .inr (by decide +kernel) | exact .inl (by decide +kernel)) (by rw[Wm];kernel_rfl)
theorem wu:Slot "set_iterator" "__iter__" "set_iterator.__iter__":=.of (owner:="set_iterator") (n:="__iter__") (by rw[We,Vt];kernel_rfl) (by decide +kernel) (by decide +kernel) (by decide +kernel)
 (by first | exact .inr (by decide +kernel) | exact .inl (by decide +kernel)) (by rw[Wm];kernel_rfl)
theorem BR:Manifest.owners.lookup (String.ofList ['r','o','t','a','r','e','t','i','_','t','e','s'].reverse)=some Manifest.sig_set_iterator:=by kernel_rfl
theorem oh:entryFor table "set_iterator.__next__"=some Builtin.«set_iterator.__next__»:=entryFor_of_tree (by kernel_rfl)
theorem ou (a:Value):argsOk "set_iterator.__next__" ⟨[a],[]⟩:=by
 unfold argsOk;rw[Yp (id:="set_iterator.__next__") (n:=['_','_','t','x','e','n','_','_']) (o:=['r','o','t','a','r','e','t','i','_','t','e','s']) (by kernel_rfl) BR];kernel_rfl
theorem yj (a:Value):argsOk "set_iterator.__iter__" ⟨[a],[]⟩:=by
 unfold argsOk;rw[Yp (id:="set_iterator.__iter__") (n:=['_','_','r','e','t','i','_','_']) (o:=['r','o','t','a','r','e','t','i','_','t','e','s']) (by kernel_rfl) BR];kernel_rfl
theorem ym:entryFor table "set_iterator.__iter__"=some Builtin.«dict_keyiterator.__iter__» :=
 entryFor_alias (id':="dict_keyiterator.__iter__") (by kernel_rfl) (by first | rfl | decide +kernel | (unfold String.splitOn;simp +decide [String.splitOnAux])) (by decide +kernel) (by kernel_rfl)
theorem uq:entryFor table "set.__iter__"=some Builtin.«frozenset.__iter__» :=
 entryFor_alias (id':="frozenset.__iter__") (by kernel_rfl) (by first | rfl | decide +kernel | (unfold String.splitOn;simp +decide [String.splitOnAux])) (by decide +kernel) (by kernel_rfl)
@[reducible] def sbt (w:World):Bool:=w.params.followText "set-order"
@[reducible] def dwn (es:Array (Int × Value)) (t:SetTable):Bool:=!t.plain&&decide (es.size>1)
def Swy (w:World) (h:Heap) (J a tp:Addr) (vs:List Value) (i:Nat) (es:Array (Int × Value)) (ep:Nat) (t:SetTable) (first:Value):Prop :=
 (∃sl:Nat,first=.int sl 0/\sbt w=true/\(pickOrder (w.params.setOrder a ep) es).toList.map (·.2)=vs) \/
 (∃sl:Nat,first=.int sl 0/\sbt w=false/\dwn es t=false/\t.led=true/\t.place.toList.Pairwise (·<·)/\SetTable.below t.place sl=i/\es.toList.map (·.2)=vs) \/
 (∃pl:List Nat,first=.ref tp/\tp≠J/\h.IsTuple tp (pl.map fun p:Nat=>Value.int (p:Int) 0).toArray/\pl.length=vs.length/\∀(k p:Nat),pl[k]?=some p->(es[p]?).map (fun e=>e.2)=vs[k]?)
def Sww (w:World) (h:Heap) (J a tp:Addr) (vs:List Value) (i:Nat):Prop:=∃o es ep t oJ first,h.get? a=some o/\o.data=.set es ep t/\t.fits es.size=true/\es.size=vs.length/\h.get? J=some oJ/\oJ.cls=.type "set_iterator"/\oJ.data=.fields #[first,.int i 0,.ref a,.int vs.length 0,.int ep 0]/\Swy w h J a tp vs i es ep t first
section
variable {prog:Program}{w:World}{A:Around}{E:Value->Shared->Prop}{s:Shared}
theorem lH {h:Heap}{J a tp:Addr}{vs:List Value}{i sl:Nat}{o:Obj}{es:Array (Int × Value)}{ep:Nat}{t:SetTable}{Q:Option (Value × Nat)->Shared->Prop}(ho:s.heap.get? a=some o) (hd:o.data=.set es ep t) (hf:t.fits es.size=true) (hsz:es.size=vs.length) (hw:Swy w h J a tp vs i es ep t (.int sl 0))
  (h1:∀v sl',vs[i]?=some v->Swy w h J a tp vs (i+1) es ep t (.int (sl':Nat) 0)->Q (some (v,sl')) s) (h2:vs[i]?=none->Q none s):wpAny (model prog w) A (setNext a sl i ep) Q E s:=by
 unfold setNext;refine a_ (XC ho hd hf ?_);dsimp only;unfold setsByText;refine a_ (a_ (X3 (h_ ?_)));show wpAny _ _ (if sbt w=true then _ else _) _ _ _;rcases hw with ⟨sl,e,hb,hvs⟩ | ⟨sl,e,hb,hdr,hled,hris,hsl,hvs⟩ | ⟨pl,e,_⟩
 ·cases e;rw[if_pos hb,if_neg (by simp)];refine a_ ?_;unfold setWalk;refine a_ (XC ho hd hf ?_);dsimp only;unfold setsByText;refine a_ (a_ (X3 (h_ ?_)));show wpAny _ _ (if sbt w=true then _ else _) _ _ _;rw[if_pos hb];refine a_ (X3 (h_ (h_ ?_)));show Q (((pickOrder (w.params.setOrder a ep) es)[i]?).map fun e=>(e.2,sl)) s;have e2:vs[i]?=((pickOrder (w.params.setOrder a ep) es)[i]?).map (·.2):=by rw[<- hvs,z_,Vy]
  cases e3:(pickOrder (w.params.setOrder a ep) es)[i]? with
  |none=>exact h2 (by rw[e2,e3];rfl)
  |some x=>exact h1 x.2 sl (by rw[e2,e3];rfl) (.inl ⟨sl,rfl,hb,hvs⟩)
 ·cases e;rw[if_neg (by rw[hb];simp)];show wpAny _ _ (if dwn es t=true then _ else _) _ _ _;rw[if_neg (by rw[hdr];simp)];show wpAny _ _ ((if (!t.led&&!es.isEmpty)=true then _ else pure ()) >>= _) _ _ _;rw[if_neg (by rw[hled];simp)];refine a_ (h_ (h_ ?_));rw[hsl];have hps:t.place.size=es.size:=by simp only[SetTable.fits,Vf,W9] at hf;exact hf.1
  have e2:vs[i]?=(es[i]?).map (·.2):=by rw[<- hvs,z_,Vy]
  by_cases c:i<es.size
  ·have c':i<t.place.size:=by omega
   rw[K_ c,K_ c'];refine h1 _ _ (by rw[e2,K_ c];rfl) (.inr (.inl ⟨_,rfl,hb,hdr,hled,hris,GC hris c',hvs⟩))
  rw[WN (by omega)];exact h2 (by rw[e2,WN (by omega)];rfl)
 cases e
theorem j4 {h:Heap}{J:Addr}{oJ:Obj}{fs:Array Value}(hoJ:h.get? J=some oJ) (hd:oJ.data=.fields fs) (k:Nat) (x:Value):∃o',(h.update J (Obj.mapFields (·.setIfInBounds k x))).get? J=some o'/\o'.cls=oJ.cls/\o'.data=.fields (fs.setIfInBounds k x) :=
 ⟨_,Vs _ hoJ (Obj.isFreed_of_fields (WR hd _)),Obj.cls_mapFields ..,WR hd _⟩
theorem Swy.at' {w:World}{h h':Heap}{J a tp:Addr}{vs:List Value}{i:Nat}{es:Array (Int × Value)}{ep:Nat}{t:SetTable}{first:Value}(x:Swy w h J a tp vs i es ep t first) (k:∀o,tp≠J->h.get? tp=some o->h'.get? tp=some o):Swy w h' J a tp vs i es ep t first:=by
 rcases x with x | x | ⟨pl,e,hne,⟨o,ho,r⟩,x⟩
 ·exact .inl x
 ·exact .inr (.inl x)
 exact .inr (.inr ⟨pl,e,hne,⟨o,k o hne ho,r⟩,x⟩)
theorem GK {J a tp:Addr}{vs:List Value}{i:Nat}{v:Value}{Q:Option Value->Shared->Prop}(hJ:Sww w s.heap J a tp vs i) (hja:a≠J) (hv:vs[i]?=some v)
  (hQ:∀h',Sww w h' J a tp vs (i+1)->(∀b o,b≠J->s.heap.get? b=some o->h'.get? b=some o)->Q (some v) { s with heap:=h'}):wpAny (model prog w) A (pyNext (.ref J)) Q E s:=by
 obtain⟨o,es,ep,t,oJ,first,ho,hd,hf,hsz,hoJ,hc,hdJ,hw⟩:=hJ;have hT:s.TypeIs (.ref J) "set_iterator":=⟨oJ,hoJ,hc⟩;unfold pyNext;refine a_ (Yb (V2 (name:=Str.ofString "__next__") hT st_next (Vw st_next hT oh ?_ (ou _))));unfold Builtin.«set_iterator.__next__»;refine a_ (h_ (a_ (wpAny_fieldsOf hoJ hdJ ?_)));dsimp only;refine a_ (wpAny_setEntries_of ho hd hf ?_);rw[if_neg (by rw[hsz];simp)];have one:∀sl:Nat,first=.int sl 0->wpAny (model prog w) A.in1 (setNext a sl i ep >>= fun r=>match r with
   |some (x,next)=>setField (.ref J) 0 (rawInt next) >>= fun _=>setField (.ref J) 1 (rawInt ((i:Int)+1)) >>= fun _=>ret x
   |none=>setField (.ref J) 2 .none >>= fun _=>newExc (.type "StopIteration") [] >>= fun e=>raiseNew e) (fun fin s'=>∃v,fin=Fin.done (Flow.ret v)/\wpAny (model prog w) A (pure (some v)) Q E s') (fun e s'=>wpAny (model prog w) A (isInstance e (.type "StopIteration") >>= fun b=>if b=true then pure none else throw e) Q E s') s:=by
  rintro sl rfl
  refine a_ (lH (h:=s.heap) (J:=J) (tp:=tp) ho hd hf hsz hw (fun v' sl' e hw'=>?_) fun e=>by rw[hv] at e;cases e)
  rw[hv] at e
  cases e
  dsimp only
  refine a_ (Wn hoJ hdJ (by simp) ?_)
  obtain⟨o1,g1,c1,d1⟩:=j4 hoJ hdJ 0 (rawInt sl')
  refine a_ (Wn g1 d1 (by simp) ?_)
  obtain⟨o2,g2,c2,d2⟩:=j4 g1 d1 1 (rawInt ((i:Int)+1))
  have kp:∀b o,b≠J->s.heap.get? b=some o->((s.heap.update J (Obj.mapFields (·.setIfInBounds 0 (rawInt sl')))).update J (Obj.mapFields (·.setIfInBounds 1 (rawInt ((i:Int)+1))))).get? b=some o:=fun b o hb e=>by
   rw[VB _ _ _ _ hb,VB _ _ _ _ hb];exact e
  exact h_ ⟨_,rfl,h_ (hQ _ ⟨o,es,ep,t,o2,_,kp _ _ hja ho,hd,hf,hsz,g2,(c2.trans c1).trans hc,by rw[d2];rfl,hw'.at' fun o hn e=>kp _ _ hn e⟩ kp)⟩
 rcases id hw with ⟨sl,rfl,hb,hvs⟩ | ⟨sl,rfl,hb,hdr,hled,hris,hsl,hvs⟩ | ⟨pl,rfl,hne,htp,hpl,hes⟩
 ·exact one sl rfl
 ·exact one sl rfl
 dsimp only;obtain⟨ot,hot,hct,nt,hdt⟩:=id htp;refine a_ (wpAny_seqItems hot hdt ?_);obtain⟨p,hp⟩:∃p,pl[i]?=some p:=by
  have:i<pl.length:=by
   rcases Yl i vs.length with z | z
   ·omega
   rw[L_ z] at hv;cases hv
  exact⟨_,g_ this⟩
 have e1:((pl.map fun p:Nat=>Value.int (p:Int) 0).toArray)[((i:Nat):Int).toNat]?=some (.int (p:Int) 0):=by rw[Wa,WW,z_,hp];rfl
 dsimp only;rw[e1];dsimp only;have e2:=hes i p hp;rw[hv] at e2;cases e3:es[p]? with
 |none=>rw[e3] at e2;cases e2
 |some x =>
 rw[e3] at e2;cases e2;unfold setNextDrawn;refine a_ (a_ (XC ho hd hf ?_));dsimp only;rw[if_neg (by simp),Wa,e3];refine h_ (a_ (Wn hoJ hdJ (by simp) ?_));obtain⟨o1,g1,c1,d1⟩:=j4 hoJ hdJ 1 (rawInt ((i:Int)+1));have kp:∀b o,b≠J->s.heap.get? b=some o->(s.heap.update J (Obj.mapFields (·.setIfInBounds 1 (rawInt ((i:Int)+1))))).get? b=some o:=fun b o hb e=>by rw[VB _ _ _ _ hb];exact e
 exact h_ ⟨_,rfl,h_ (hQ _ ⟨o,es,ep,t,o1,_,kp _ _ hja ho,hd,hf,hsz,g1,c1.trans hc,by rw[d1];rfl,.inr (.inr ⟨pl,rfl,hne,⟨ot,kp _ _ hne hot,hct,nt,hdt⟩,hpl,hes⟩)⟩ kp)⟩
theorem pQ {J:Addr}{Q:Option Value->Shared->Prop}(hh:A.handled=none) (hQ:∀h',(∀b o,s.heap.get? b=some o->h'.get? b=some o)->Q none { s with heap:=h'}):wpAny (model prog w) A.in1 (newExc (.type "StopIteration") [] >>= fun e=>raiseNew e) (fun fin s'=>∃v,fin=Fin.done (Flow.ret v)/\wpAny (model prog w) A (pure (some v)) Q E s') (fun e s'=>wpAny (model prog w) A (isInstance e (.type "StopIteration") >>= fun b=>if b=true then pure none else throw e) Q E s') s:=by
 refine a_ ?_;simp only[newExc,newTuple];refine a_ (Vb ?_ (by size_fits));refine a_ (m:=firstArgMember _ _) (Wx (a:=Value.none) (by first | rfl | (simp only[firstArgMember];rfl)) ?_);refine Vb ?_ (by size_fits);simp only[raiseNew];refine a_ (wpAny_handled ?_);rw[show A.in1.handled=none from hh];refine a_ (h_ (wpAny_throw ?_));refine a_ (Xh (T:="StopIteration") (b:=true) ⟨_,x_ _ rfl,rfl⟩ isSubtype_stop ?_);exact h_ (hQ _ fun b o e=>e_ _ (e_ _ e))
theorem GP {J a tp:Addr}{vs:List Value}{Q:Option Value->Shared->Prop}(hh:A.handled=none) (hJ:Sww w s.heap J a tp vs vs.length)
  (hQ:∀h',(∀b o,b≠J->s.heap.get? b=some o->h'.get? b=some o)->Q none { s with heap:=h'}):wpAny (model prog w) A (pyNext (.ref J)) Q E s:=by
 obtain⟨o,es,ep,t,oJ,first,ho,hd,hf,hsz,hoJ,hc,hdJ,hw⟩:=hJ;have hT:s.TypeIs (.ref J) "set_iterator":=⟨oJ,hoJ,hc⟩;have hn:vs[vs.length]?=none:=L_ (m_ _);unfold pyNext;refine a_ (Yb (V2 (name:=Str.ofString "__next__") hT st_next (Vw st_next hT oh ?_ (ou _))));unfold Builtin.«set_iterator.__next__»;refine a_ (h_ (a_ (wpAny_fieldsOf hoJ hdJ ?_)));dsimp only;refine a_ (wpAny_setEntries_of ho hd hf ?_);rw[if_neg (by rw[hsz];simp)];rcases id hw with ⟨sl,rfl,_⟩ | ⟨sl,rfl,_⟩ | ⟨pl,rfl,hne,⟨ot,hot,hct,nt,hdt⟩,hpl,hes⟩
 ·dsimp only;refine a_ (lH (h:=s.heap) (J:=J) (tp:=tp) (i:=vs.length) ho hd hf hsz hw (fun v' sl' e _=>by rw[hn] at e;cases e) fun _=>?_);dsimp only;refine a_ (Wn hoJ hdJ (by simp) ?_);exact pQ (J:=J) hh fun h' k=>hQ h' fun b o hb e=>k b o (by rw[VB _ _ _ _ hb];exact e)
 ·dsimp only;refine a_ (lH (h:=s.heap) (J:=J) (tp:=tp) (i:=vs.length) ho hd hf hsz hw (fun v' sl' e _=>by rw[hn] at e;cases e) fun _=>?_);dsimp only;refine a_ (Wn hoJ hdJ (by simp) ?_);exact pQ (J:=J) hh fun h' k=>hQ h' fun b o hb e=>k b o (by rw[VB _ _ _ _ hb];exact e)
 dsimp only;refine a_ (wpAny_seqItems hot hdt ?_);have e1:((pl.map fun p:Nat=>Value.int (p:Int) 0).toArray)[((vs.length:Nat):Int).toNat]?=none:=by rw[Wa,WW,z_,L_ (by omega)];rfl
 dsimp only;rw[e1];dsimp only;refine a_ (Wn hoJ hdJ (by simp) ?_);obtain⟨o1,g1,c1,d1⟩:=j4 hoJ hdJ 0 (rawInt 0);refine a_ (Wn g1 d1 (by simp) ?_);exact pQ (J:=J) hh fun h' k=>hQ h' fun b o hb e=>k b o (by rw[VB _ _ _ _ hb,VB _ _ _ _ hb];exact e)
theorem GQ (hh:A.handled=none) {J a tp:Addr}(hja:a≠J) (vs:List Value):Walks prog w A J [J,a,tp] [J] vs.length (fun i v=>vs[i]?=some v) (fun i h=>Sww w h J a tp vs i) where
 sub:=fun b hb=>by simp at hb;simp [hb]
 frame:=fun i h h' st hk=>by
  obtain⟨o,es,ep,t,oJ,first,ho,hd,hf,hsz,hoJ,hc,hdJ,hw⟩:=st
  exact⟨o,es,ep,t,oJ,first,hk a (by simp) _ ho,hd,hf,hsz,hk J (by simp) _ hoJ,hc,hdJ,hw.at' fun o _ e=>hk tp (by simp) o e⟩
 item:=fun i s Q E hi st hQ=>GK st hja (g_ hi) fun h' st' kp=>hQ _ h' s.toks (g_ hi) st' fun b o hb e=>kp b o (by simpa using hb) e
 done:=fun s Q E st hQ=>GP hh st fun h' kp=>hQ h' s.toks fun b o hb e=>kp b o (by simpa using hb) e
 self:=fun i s Q E st hQ=>by
  obtain⟨o,es,ep,t,oJ,first,ho,hd,hf,hsz,hoJ,hc,hdJ,hw⟩:=st
  have hT:s.TypeIs (.ref J) "set_iterator":=⟨oJ,hoJ,hc⟩
  refine Yk hT wu (Vw wu hT ym ?_ (yj _))
  show wpAny _ _ (ret (.ref J)) _ _ s
  exact h_ ⟨_,rfl,"set_iterator",_,hT,st_next.lookup,hQ⟩
theorem iK {α:Type}:∀{l:List α}{i:Nat}(hi:i<l.length),(l[i]::l.eraseIdx i).Perm l
 |x::l,0,_=>.refl _
 |x::l,i+1,hi=>by
  have hi':i<l.length:=by simpa using hi
  show (l[i]::x::l.eraseIdx i).Perm (x::l)
  exact (List.Perm.swap _ _ _).trans ((iK hi').cons _)
theorem ur {src:Source}{n:Nat}{Q:Nat->Shared->Prop}(hn:n≠0) (h:∀i d,i<n->Q i { s with drawn:=d}):wpAny (model prog w) A (choose src n) Q E s:=fun Γ p hΓ=>by
 show Sem.wp _ Γ (.choose src n .pure) _ _ p s;rw[Sem.wp_choose];refine⟨hn,?_⟩;rw[Sem.wp_pure];exact h _ _ (Nat.mod_lt _ (Nat.pos_of_ne_zero hn))
theorem oA {α:Type}:∀(n:Nat) (xs:List α) (s:Shared) {Q:List α->Shared->Prop},xs.length=n->(∀ys d,ys.Perm xs->Q ys { s with drawn:=d})->wpAny (model prog w) A (drawOrder n xs) Q E s
 |0,xs,s,Q,hl,h=>by
  rw[Wb hl] at h ⊢
  exact h_ (h [] s.drawn .nil)
 |n+1,[],_,_,hl,_=>by cases hl
 |n+1,x::xs,s,Q,hl,h=>by
  show wpAny _ _ (choose .order (x::xs).length >>= fun i=>match (x::xs)[i]? with
   |some y=>drawOrder n ((x::xs).eraseIdx i) >>= fun r=>pure (y::r)
   |none=>unsupported "internal:drawOrder") _ _ _
  refine a_ (ur (by simp) fun i d hi=>?_)
  rw[g_ hi]
  dsimp only
  refine a_ (oA n _ _ (by rw[XN hi];omega) fun ys d' hp=>h_ (h _ d' ?_))
  exact (hp.cons _).trans (iK hi)
theorem ww {α:Type}(next:Nat->Nat):∀(f k:Nat) (left:List α) (out:Array α),left.length=f->(pickOrder.go next f k left out).toList.Perm (out.toList++left)
 |0,k,left,out,hl=>by
  rw[Wb hl,S_]
  exact .refl _
 |f+1,k,left,out,hl=>by
  have hi:next k%left.length<left.length:=Nat.mod_lt _ (by omega)
  unfold pickOrder.go
  rw[g_ hi]
  dsimp only
  refine (ww next f _ _ _ (by rw[XN hi];omega)).trans ?_
  rw[Array.toList_push,Vq]
  exact (iK hi).append_left _
end
open L2 PySem.W
section
variable {O:KeyOrd}{key:Nat->O.α}{n:Nat}
def Kw (O:KeyOrd) (key:Nat->O.α) (n:Nat) {α:Type}:KasT α->(α->Prop)->Prop
 |.ret a,Q=>Q a
 |.ask i j k,Q=>i<n/\j<n/\Kw O key n (k (O.blt (key i) (key j))) Q
theorem Kw.bind {α β:Type}{f:α->KasT β}{Q:β->Prop}:∀{t:KasT α},Kw O key n t (fun a=>Kw O key n (f a) Q)->Kw O key n (t.bind f) Q
 |.ret a,h=>h
 |.ask i j k,h=>⟨h.1,h.2.1,Kw.bind h.2.2⟩
theorem Kw.wp {α:Type}{cmp:Nat->Nat->(Bool->Shared->Prop)->Shared->Prop}{s:Shared}(hc:∀i j (C:Bool->Shared->Prop),i<n->j<n->C (O.blt (key i) (key j)) s->cmp i j C s) {Q:α->Prop}{R:α->Shared->Prop}(hq:∀a,Q a->R a s) :
  ∀{t:KasT α},Kw O key n t Q->t.kasWp cmp R s
 |.ret a,h=>hq a h
 |.ask i j k,h=>hc i j _ h.1 h.2.1 (Kw.wp hc hq h.2.2)
structure Pm (n:Nat) (p:Array Nat):Prop where
 pm:p.toList.Perm (List.range n)
 n1:1<=n
theorem Pm.sz {p:Array Nat}(h:Pm n p):p.size=n:=by
 have:=h.pm.length_eq;rw[n_] at this;simpa using this
theorem Pm.lt {p:Array Nat}(h:Pm n p) (i:Nat):p.getD i 0<n:=by
 rw[Vp];by_cases hi:i<p.size
 ·rw[K_ hi];exact I_.mp (h.pm.mem_iff.mp (by simp))
 rw[WN (by omega)];exact h.n1
theorem Pm.by {p q:Array Nat}(h:Pm n p) (e:q.Perm p):Pm n q:=⟨(Array.perm_iff_toList_perm.mp e).trans h.pm,h.n1⟩
def Ky (O:KeyOrd) (key:Nat->O.α) (p:Array Nat) (i:Nat):O.α:=key (p.getD i 0)
def Up (O:KeyOrd) (key:Nat->O.α) (p:Array Nat) (k:Nat):Prop:=∀i j,i<=j->j<k->O.kle (Ky O key p i) (Ky O key p j)
def Dn (O:KeyOrd) (key:Nat->O.α) (p:Array Nat) (k:Nat):Prop:=∀i j,i<=j->j<k->O.kle (Ky O key p j) (Ky O key p i)
theorem Ky.congr {p q:Array Nat}{i j:Nat}(h:p[i]?=q[j]?):Ky O key p i=Ky O key q j:=by unfold Ky;rw[Vp,Vp,h]
theorem Ky.mir {p:Array Nat}{i j:Nat}(hj:j<=p.size) (k:Nat):Ky O key (kas_rev p i j) k=if i<=k/\k<j then Ky O key p (i+j - 1 - k) else Ky O key p k:=by
 have e:=getElem?_mirror_all (i:=i) hj k;split at e <;> rename_i h
 ·rw[if_pos h];exact Ky.congr e
 rw[if_neg h];exact Ky.congr e
theorem Ky.mirEq {p:Array Nat}{i j:Nat}(hj:j<=p.size) (he:∀k,i<=k->k<j->Ky O key p k=Ky O key p (j - 1)) (k:Nat):Ky O key (kas_rev p i j) k=Ky O key p k:=by
 rw[Ky.mir hj];split
 ·rw[he _ (by omega) (by omega),he k (by omega) (by omega)]
 rfl
theorem Ky.bub {p:Array Nat}{s d:Nat}(hs:s<p.size) (hd:d<=s) (k:Nat):Ky O key (bubble p s d) k=if k=s - d then Ky O key p s else if s - d<k/\k<=s then Ky O key p (k - 1) else Ky O key p k:=by
 have e:=getElem?_bubble hs d hd k;by_cases h1:k=s - d
 ·rw[if_pos h1] at e ⊢;exact Ky.congr e
 rw[if_neg h1] at e ⊢;by_cases h2:s - d<k/\k<=s
 ·rw[if_pos h2] at e ⊢;exact Ky.congr e
 rw[if_neg h2] at e ⊢;exact Ky.congr e
theorem Pm.rev {p:Array Nat}(h:Pm n p) (i j:Nat):Pm n (kas_rev p i j):=h.by (mirror_perm _ _ _ _)
theorem Up.one {p:Array Nat}:Up O key p 1:=fun i j h1 h2=>by
 obtain rfl:i=j:=by omega
 exact WD _
theorem Up.more {p:Array Nat}{k:Nat}(hk:1<=k) (h:Up O key p k) (e:O.kle (Ky O key p (k - 1)) (Ky O key p k)):Up O key p (k+1):=fun i j h1 h2=>by
 by_cases hj:j<k
 ·exact h i j h1 hj
 obtain rfl:j=k:=by omega
 by_cases hi:i=j
 ·subst hi;exact WD _
 exact KeyOrd.kle_trans (h i (j - 1) (by omega) (by omega)) e
theorem Dn.more {p:Array Nat}{k:Nat}(hk:1<=k) (h:Dn O key p k) (e:O.kle (Ky O key p k) (Ky O key p (k - 1))):Dn O key p (k+1):=fun i j h1 h2=>by
 by_cases hj:j<k
 ·exact h i j h1 hj
 obtain rfl:j=k:=by omega
 by_cases hi:i=j
 ·subst hi;exact WD _
 exact KeyOrd.kle_trans e (h i (j - 1) (by omega) (by omega))
theorem ut {p:Array Nat}{Q:Nat->Prop}(hp:Pm n p):∀(f a:Nat),1<=a->Up O key p a->(∀m,a<=m->m<=a+f->Up O key p m->m=a+f\/O.klt (Ky O key p m) (Ky O key p (m - 1))->Q m)->Kw O key n (kas_asc p f a) Q
 |0,a,_,h,k=>k a (m_ _) (m_ _) h (.inl rfl)
 |f+1,a,ha,h,k=>by
  refine⟨hp.lt _,hp.lt _,?_⟩
  cases e:O.blt (key (p.getD a 0)) (key (p.getD (a - 1) 0)) with
  |true=>exact k a (m_ _) (by omega) h (.inr e)
  |false=>exact ut hp f (a+1) (by omega) (h.more ha e) fun m h1 h2 h3 h4=>k m (by omega) (by omega) h3 (h4.imp (fun q=>by omega) id)
theorem j5 {Q:Array Nat × Nat × Nat->Prop}:∀(f:Nat) (p:Array Nat) (a q:Nat),Pm n p->1<=a->a+f<=n->Dn O key p a->q+1<=a->(∀i,a - (q+1)<=i->i<a->Ky O key p i=Ky O key p (a - 1)) ->
  (∀p' m r,Pm n p'->a<=m->m<=a+f->Dn O key p' m->r+1<=m->(∀i,m - (r+1)<=i->i<m->Ky O key p' i=Ky O key p' (m - 1))->Q (p',m,r))->Kw O key n (kas_desc f p a q) Q
 |0,p,a,q,hp,_,_,h,hq,he,k=>k p a q hp (m_ _) (m_ _) h hq he
 |f+1,p,a,q,hp,ha,hn,h,hq,he,k=>by
  refine⟨hp.lt _,hp.lt _,?_⟩
  cases e:O.blt (key (p.getD a 0)) (key (p.getD (a - 1) 0)) with
  |true =>
   have sz:a<=p.size:=by rw[hp.sz];omega
   have one:∀p':Array Nat,∀i,a+1 - (0+1)<=i->i<a+1->Ky O key p' i=Ky O key p' (a+1 - 1):=fun p' i h1 h2=>by rw[show i=a+1 - 1 by omega]
   dsimp only
   rw[if_pos rfl]
   by_cases hq0:q>0
   ·
    rw[if_pos hq0]
    have ke:=Ky.mirEq (O:=O) (key:=key) (i:=a - (q+1)) sz he
    refine j5 f _ (a+1) 0 (hp.rev _ _) (by omega) (by omega) (Dn.more ha (fun i j h1 h2=>by rw[ke,ke];exact h i j h1 h2) (by rw[ke,ke];exact XF e)) (by omega) (one _) fun p' m r a1 a2 a3 a4 a5 a6=>k p' m r a1 (by omega) (by omega) a4 a5 a6
   ·
    rw[if_neg hq0]
    exact j5 f p (a+1) 0 hp (by omega) (by omega) (h.more ha (XF e)) (by omega) (one _) fun p' m r a1 a2 a3 a4 a5 a6=>k p' m r a1 (by omega) (by omega) a4 a5 a6
  |false =>
   dsimp only
   rw[if_neg o_]
   refine⟨hp.lt _,hp.lt _,?_⟩
   cases e2:O.blt (key (p.getD (a - 1) 0)) (key (p.getD a 0)) with
   |true=>exact k p a q hp (m_ _) (by omega) h hq he
   |false =>
    dsimp only
    rw[if_neg o_]
    have eq:Ky O key p a=Ky O key p (a - 1):=KeyOrd.kle_antisymm e2 e
    refine j5 f p (a+1) (q+1) hp (by omega) (by omega) (h.more ha (by rw[eq];exact WD _)) (by omega) (fun i h1 h2=>?_) fun p' m r a1 a2 a3 a4 a5 a6=>k p' m r a1 (by omega) (by omega) a4 a5 a6
    rw[show a+1 - 1=a by omega]
    by_cases hi:i=a
    ·
     rw[hi]
    ·
     rw[eq];exact he i (by omega) (by omega)
theorem wy {p:Array Nat}{a:Nat}{Q:Nat × Array Nat->Prop}(hp:Pm n p) (ha:1<=a) (hn:a<=n) (h:Dn O key p a) (k:∀m p',Pm n p'->1<=m->m<=n->Up O key p' m->Q (m,p')):Kw O key n (kas_tail3 a n p) Q:=by
 refine Kw.bind (ut (hp.rev 0 a) _ a ha (fun i j h1 h2=>?_) fun m h1 h2 h3 _=>k m _ (hp.rev 0 a) (by omega) (by omega) h3);have sz:a<=p.size:=by rw[hp.sz];exact hn
 rw[Ky.mir sz,Ky.mir sz,if_pos (by omega),if_pos (by omega)];exact h _ _ (by omega) (by omega)
theorem jL {p:Array Nat}{a:Nat}{Q:Nat × Array Nat->Prop}(hp:Pm n p) (hn:a+1<=n) (h:Dn O key p (a+1)) (k:∀m p',Pm n p'->1<=m->m<=n->Up O key p' m->Q (m,p')):Kw O key n (kas_descPart a n p) Q:=by
 refine Kw.bind (j5 _ p (a+1) 0 hp (by omega) (by omega) h (by omega) (fun i h1 h2=>by rw[show i=a+1 - 1 by omega]) fun p' m r a1 a2 a3 a4 a5 a6=>?_);dsimp only;have sz:m<=p'.size:=by rw[a1.sz];omega
 by_cases hr:r>0
 ·rw[if_pos hr];have ke:=Ky.mirEq (O:=O) (key:=key) (i:=m - (r+1)) sz a6;exact wy (a1.rev _ _) (by omega) (by omega) (fun i j h1 h2=>by rw[ke,ke];exact a4 i j h1 h2) k
 rw[if_neg hr];exact wy a1 (by omega) (by omega) a4 k
theorem BV {p:Array Nat}{Q:Nat × Array Nat->Prop}(hp:Pm n p) (k:∀m p',Pm n p'->1<=m->m<=n->Up O key p' m->Q (m,p')):Kw O key n (kas_count n p) Q:=by
 have n1:=hp.n1;refine Kw.bind (ut hp _ 1 (m_ _) Up.one fun m h1 h2 h3 h4=>?_);by_cases hm:m=n
 ·rw[if_pos (by simpa using hm)];exact k m p hp h1 (by omega) h3
 rw[if_neg (by simpa using hm)];have hlt:O.klt (Ky O key p m) (Ky O key p (m - 1)):=h4.resolve_left (by omega);by_cases h5:m>1
 ·rw[if_pos h5];refine⟨hp.lt _,hp.lt _,?_⟩;cases e:O.blt (key (p.getD 0 0)) (key (p.getD (m - 1) 0)) with
  |true=>exact k m p hp h1 (by omega) h3
  |false =>
  dsimp only;rw[if_neg o_];have sz:m<=p.size:=by rw[hp.sz];omega
  have all:∀i,0<=i->i<m->Ky O key p i=Ky O key p (m - 1):=fun i _ hi=>KeyOrd.kle_antisymm (h3 i (m - 1) (by omega) (by omega)) (KeyOrd.kle_trans e (h3 0 i (by omega) hi));have ke:=Ky.mirEq (O:=O) (key:=key) (i:=0) sz all;refine jL (hp.rev _ _) (by omega) (Dn.more h1 (fun i j q1 q2=>?_) ?_) k
  ·rw[ke,ke,all i (by omega) (by omega),all j (by omega) (by omega)];exact WD _
  rw[ke,ke];exact XF hlt
 rw[if_neg h5];obtain rfl:m=1:=by omega
 refine jL hp (by omega) (Dn.more (m_ _) (fun i j q1 q2=>?_) (XF hlt)) k;obtain rfl:i=j:=by omega
 exact WD _
theorem lJ {p:Array Nat}{k:Nat}{Q:Nat->Prop}(hp:Pm n p):∀(f l r:Nat),l<=r->r<=k->r - l<=f->(∀i,i<l->O.kle (Ky O key p i) (Ky O key p k))->(∀i,r<=i->i<k->O.klt (Ky O key p k) (Ky O key p i))->Up O key p k ->
  (∀l,l<=k->(∀i,i<l->O.kle (Ky O key p i) (Ky O key p k))->(∀i,l<=i->i<k->O.klt (Ky O key p k) (Ky O key p i))->Q l)->Kw O key n (kas_place p k f l r) Q
 |0,l,r,h1,h2,h3,lo,hi,_,q=>by
  obtain rfl:l=r:=by omega
  exact q l h2 lo hi
 |f+1,l,r,h1,h2,h3,lo,hi,hu,q=>by
  unfold kas_place
  by_cases h:l ≥ r
  ·
   obtain rfl:l=r:=by omega
   rw[if_pos h]
   exact q l h2 lo hi
  ·
   rw[if_neg h]
   refine⟨hp.lt _,hp.lt _,?_⟩
   cases e:O.blt (key (p.getD k 0)) (key (p.getD ((l+r) / 2) 0)) with
   |true=>exact lJ hp f l ((l+r) / 2) (by omega) (by omega) (by omega) lo (fun i a1 a2=>KeyOrd.klt_of_klt_of_kle e (hu _ i a1 a2)) hu q
   |false=>exact lJ hp f ((l+r) / 2+1) r (by omega) h2 (by omega) (fun i a1=>KeyOrd.kle_trans (hu i ((l+r) / 2) (by omega) (by omega)) e) hi hu q
theorem BW {Q:Array Nat->Prop}:∀(f:Nat) (p:Array Nat) (k:Nat),Pm n p->k+f=n->Up O key p k->(∀p',Pm n p'->Up O key p' n->Q p')->Kw O key n (kas_bin f p k) Q
 |0,p,k,hp,e,h,q=>by
  obtain rfl:k=n:=by omega
  exact q p hp h
 |f+1,p,k,hp,e,h,q=>by
  have sz:k<p.size:=by rw[hp.sz];omega
  refine Kw.bind (lJ hp k 0 k (Vx _) (m_ _) (by omega) (fun _ z=>absurd z (Ye _)) (fun _ z1 z2=>absurd z2 (by omega)) h fun l hl lo hi=>?_)
  refine BW f _ (k+1) (hp.by (bubble_perm _ _ _)) (by omega) (fun i j h1 h2=>?_) q
  rw[Ky.bub sz (by omega),Ky.bub sz (by omega),show k - (k - l)=l by omega]
  by_cases i1:i=l
  ·
   rw[if_pos i1]
   by_cases j1:j=l
   ·
    rw[if_pos j1];exact WD _
   ·
    rw[if_neg j1,if_pos (by omega)];exact XF (hi _ (by omega) (by omega))
  ·
   rw[if_neg i1]
   by_cases i2:l<i/\i<=k
   ·
    rw[if_pos i2,if_neg (by omega),if_pos (by omega)];exact h _ _ (by omega) (by omega)
   ·
    rw[if_neg i2]
    by_cases j1:j=l
    ·
     rw[if_pos j1];exact lo i (by omega)
    ·
     rw[if_neg j1]
     by_cases j2:l<j/\j<=k
     ·
      rw[if_pos j2];exact h _ _ (by omega) (by omega)
     ·
      rw[if_neg j2];exact h _ _ h1 (by omega)
theorem GR (n1:1<=n):Kw O key n (kas_sort n) fun p=>Pm n p/\Up O key p n:=by
 have p0:Pm n (List.toArray (List.range n)):=⟨.refl _,n1⟩;refine Kw.bind (BV p0 fun m p hp h1 h2 h3=>?_);dsimp only;by_cases h:m<n
 ·rw[if_pos h,show max m 1=m by omega];exact BW _ p m hp (by omega) h3 fun p' a b=>⟨a,b⟩
 rw[if_neg h];obtain rfl:m=n:=by omega
 exact⟨hp,h3⟩
variable {A:Around}{s:Shared}
variable {X:Cx}{pins:List (Addr × Obj)}{Z:L2.St}{H:Hp}
variable {P:Program}{w:World}{R:Result->Shared->Prop}{I S:Addr}{fp wr:List Addr}{V:Nat->Value->Prop}{St:Nat->Heap->Prop}{bt:Nat->Nat->Bool}{s0:Shared}
def Kpt (h h':Heap):Prop:=∀b o,h.get? b=some o->h'.get? b=some o
end
theorem yo:bootBuiltins "sorted"=some (.builtin "sorted"):=by decide +kernel
def Srt (O:KeyOrd) (key:Nat->O.α) (n:Nat) (ps:List Nat):Prop:=ps.Perm (List.range n)/\∀i j,i<=j->j<n->O.kle (key (ps.getD i 0)) (key (ps.getD j 0))
theorem Srt.of {O:KeyOrd}{key:Nat->O.α}{n:Nat}{p:Array Nat}(h:Pm n p) (u:Up O key p n):Srt O key n p.toList:=⟨h.pm,fun i j h1 h2=>by
 have:=u i j h1 h2;unfold Ky at this;rw[Vp,Vp] at this;rw[E_,E_,Vy,Vy];exact this⟩
section
variable {P:Program}{w:World}{A:Around}{E:Value->Shared->Prop}{s:Shared}{O:KeyOrd}{key:Nat->O.α}
theorem uv {a:Addr}{vs:List Value}{c:Nat}{R:PySem.Fin->Shared->Prop}(ho:s.heap.get? a=some (seqObj "list" vs.toArray c)) (h64:vs.length<64)
  (hk:2<=vs.length->∀h',(∀b o,b≠a->s.heap.get? b=some o->h'.get? b=some o)->wpAny (model P w) A (keyKind' vs.toArray) (fun κ s'=>s'={ s with heap:=h'}/\∀i j (C:Bool->Shared->Prop),i<vs.length->j<vs.length->C (O.blt (key i) (key j)) { s with heap:=h'}->kas_ask P w A κ vs i j C { s with heap:=h'}) (fun _ _=>False) { s with heap:=h'})
  (h:∀ps,Srt O key vs.length ps->R (.done (.ret .none)) { s with heap:=sortedHeap s.heap a vs (ps.map fun i=>vs.getD i Value.none).toArray}):wpAny (model P w) A (Builtin.«list.sort» ⟨[.ref a],[]⟩) R E s:=by
 have ha:a<s.heap.objs.size:=B_ ho;have hz:vs.length<=sizeLine:=by rw[sizeLine_eq];omega
 rw[list_sort_plain];refine a_ (listItems_at ho rfl ?_);refine a_ (listUpdate_at ho rfl ?_ (by rw[l_];omega) (Vx _));obtain⟨e1,ho1⟩:∃e1,(s.heap.update a (Obj.mapSeq fun _=>(#[]:Array Value))).get? a=some (seqObj "list" #[] e1):=⟨_,get?_update_seq ho fun _=>#[]⟩;refine a_ (seqEpoch_at ho1 rfl ?_);refine a_ (wpAny_newTuple ?_ hz);refine a_ (wpAny_newList ?_ (Vx _));refine VN ?_;have ho6:(((s.heap.update a (Obj.mapSeq fun _=>(#[]:Array Value))).push (seqObj "tuple" vs.toArray 0)).push (seqObj "list" #[] 0)).get? a=some (seqObj "list" #[] e1):=e_ _ (e_ _ ho1);show wpAny (model P w) A _ R E { s with heap:=((s.heap.update a (Obj.mapSeq fun _=>(#[]:Array Value))).push (seqObj "tuple" vs.toArray 0)).push (seqObj "list" #[] 0)};dsimp only;by_cases h2:vs.toArray.size<2
 ·rw[if_pos h2,if_pos h2];refine a_ (h_ ?_);rw[StateT.run_pure];refine a_ (h_ ?_);dsimp only;rw[l_] at h2;refine a_ (seqEpoch_at ho6 rfl ?_);have e:((vs.toArray.zip vs.toArray).map (·.2))=((List.range vs.length).map fun i=>vs.getD i Value.none).toArray:=by
   match vs,h2 with
   |[],_=>simp
   |[v],_=>simp [List.range_succ]
  show wpAny (model P w) A (Builtin.List.listUpdate (.ref a) (fun _=>(vs.toArray.zip vs.toArray).map (·.2)) >>= _) R E _;rw[e];refine a_ (listUpdate_at ho6 rfl ?_ (Vx _) (by rw[l_,d_,n_];omega));simp only[bne_self_eq_false,y_,U7];refine h_ (h (List.range vs.length) ⟨.refl _,fun i j h1 h3=>?_⟩);obtain rfl:i=j:=by omega
  exact WD _
 rw[if_neg h2,if_neg h2];rw[l_] at h2;refine a_ (V0 (hk (by omega) _ fun b o hb e=>e_ _ (e_ _ ((VB _ _ _ _ hb).trans e))) (fun κ s' hs=>?_) fun _ _ x=>x.elim);obtain⟨rfl,hc⟩:=hs;have kw:=GR (O:=O) (key:=key) (n:=vs.length) (by omega);refine a_ (V0 (kat_run (G:=fun p s'=>(Pm vs.length p/\Up O key p vs.length)/\s'={ s with heap:=((s.heap.update a (Obj.mapSeq fun _=>(#[]:Array Value))).push (seqObj "tuple" vs.toArray 0)).push (seqObj "list" #[] 0)}) (Q:=fun st' s'=>∃p:Array Nat,arrOf st'=p.map (kas_item (vs.toArray.zip vs.toArray))/\failedOf st'=none/\(Pm vs.length p/\Up O key p vs.length)/\s'={ s with heap:=((s.heap.update a (Obj.mapSeq fun _=>(#[]:Array Value))).push (seqObj "tuple" vs.toArray 0)).push (seqObj "list" #[] 0)}) rfl (by omega) h64 (fun p' st' s' a1 a2 a3 a4=>⟨p',a2,a3,a4.1,a4.2⟩) (kw.wp hc fun p hp=>⟨hp,rfl⟩)) ?_ fun _ _ e=>e);rintro⟨⟨⟩,st'⟩ s' ⟨p,har,hf,⟨hp,hu⟩,rfl⟩;dsimp only;rw[kat_snds rfl har];refine a_ (seqEpoch_at ho6 rfl ?_);refine a_ (listUpdate_at ho6 rfl ?_ (Vx _) (by rw[l_,d_,hp.pm.length_eq,n_];omega));rw[hf];simp only[bne_self_eq_false,y_,U7];exact h_ (h _ (.of hp hu))
end
open L2 PySem.W M
section
variable {X:Cx}{pins:List (Addr × Obj)}{Z:L2.St}{H:Hp}{s:Shared}
end
section
variable (O:KeyOrd)
variable {O}
end
section
variable {X:Cx}{pins:List (Addr × Obj)}{Z:L2.St}{H:Hp}{s:Shared}{H3:Hp3}{Q3:VK3}{Q:VK}
end
theorem GX {h:Heap}{vs:List Value}{out:Array Value}:Kpt h (sortedHeap (h.push (seqObj "list" vs.toArray 0)) h.objs.size vs out)/\∃c,(sortedHeap (h.push (seqObj "list" vs.toArray 0)) h.objs.size vs out).get? h.objs.size=some (seqObj "list" out c):=by
 have hoL:(h.push (seqObj "list" vs.toArray 0)).get? h.objs.size=some (seqObj "list" vs.toArray 0):=x_ _ rfl;refine⟨fun b o e=>?_,?_⟩
 ·have hb:b<h.objs.size:=B_ e;unfold sortedHeap;rw[VB _ _ _ _ (U9 hb)];refine e_ _ (e_ _ ?_);rw[VB _ _ _ _ (U9 hb)];exact e_ _ e
 unfold sortedHeap;exact⟨_,get?_update_seq (e_ _ (e_ _ (get?_update_seq hoL fun _=>#[]))) fun _=>out⟩
section
variable {P:Program}{w:World}{A:Around}{E:Value->Shared->Prop}{s:Shared}{O:KeyOrd}{key:Nat->O.α}
variable {X:Cx}{pins:List (Addr × Obj)}{Z:L2.St}{H:Hp}{H3:Hp3}{Q3:VK3}{Q:VK}
end
theorem wz:∀{vs:List Value},(∀v∈vs,∃n t,v=Value.int n t)->IntsAre vs (vs.map ivl)
 |[],_=>.nil
 |v::vs,h=>by
  obtain⟨n,t,rfl⟩:=h v (.head _)
  exact .cons n t (wz fun v hv=>h v (.tail _ hv))
def oE (vs:List Value) (ks:List Int):Prop:=IntsAre vs (vs.map ivl)/\(vs.map ivl).Nodup/\(∀k,k∈vs.map ivl↔k∈ks)/\vs.length<=ks.length
theorem uw {prog:Program}{w:World}{es:Array (Int × Value)}{vs:List Value}{ks:List Int}(hel:ElemsOf (intKind prog w) es.toList) (nd:(ivs es.toList).Nodup) (hm:∀k,k∈ivs es.toList↔k∈ks) (hl:es.size<=ks.length) (p:vs.Perm (es.toList.map (·.2))):oE vs ks/\es.size=vs.length:=by
 have p2:=p.map ivl;rw[Vg] at p2;have p3:(vs.map ivl).Perm (ivs es.toList):=p2;have e:es.size=vs.length:=by rw[p.length_eq,d_,Vl]
 refine⟨⟨wz fun v hv=>?_,p3.nodup_iff.mpr nd,fun k=>by rw[p3.mem_iff,hm],by omega⟩,e⟩;obtain⟨x,hx,rfl⟩:=k_.mp (p.mem_iff.mp hv);obtain⟨⟨k,hk,_⟩,_⟩:=hel x hx;obtain⟨t,e⟩:=Value.isInt_shape hk;exact⟨k,t,e⟩
section
variable {prog:Program}{w:World}{A:Around}{E:Value->Shared->Prop}{s:Shared}
theorem BX {a:Addr}{ks:List Int}{Q:Value->Shared->Prop}(hS:SI prog w s.heap a ks) (hr:ks.length<scanBound)
  (hQ:∀h' d J tp vs,Sww w h' J a tp vs 0->oE vs ks->Kpt s.heap h'->s.heap.objs.size<=J->(tp=a\/s.heap.objs.size<=tp)->Q (.ref J) { s with heap:=h',drawn:=d}):wpAny (model prog w) A (pyIter (.ref a)) Q E s:=by
 obtain⟨o,es,ep,t,ho,hex,hd,hel,nd,hm,hl,hf,tb⟩:=hS;have hT:s.TypeIs (.ref a) "set":=⟨o,ho,hex.1⟩;refine Yk hT PySem.F.slot_set_iter (Vw PySem.F.slot_set_iter hT uq ?_ (PySem.F.args_set_iter_1 _));unfold Builtin.«frozenset.__iter__» Builtin.Frozenset.slot0 slotArgs;simp only[List.isEmpty_nil,V4,y_,↓reduceIte,bind_assoc,Wd,bne_self_eq_false];unfold Builtin.Frozenset.addrOf Builtin.Frozenset.sizeOf;refine a_ (h_ (a_ (h_ (a_ (a_ (wpAny_setEntries_of ho hd hf (h_ ?_)))))));unfold setDrawn;refine a_ (a_ (XC ho hd hf ?_));dsimp only;unfold setsByText;refine a_ (a_ (X3 (h_ (h_ ?_))));show wpAny _ _ (if (!sbt w&&dwn es t)=true then _ else _) _ _ _;have plain:∀vs:List Value,oE vs ks/\es.size=vs.length->Swy w s.heap s.heap.objs.size a a vs 0 es ep t (.int ((0:Nat):Int) 0)->wpAny (model prog w) A.in1 (setEpoch a >>= fun e=>newFields "set_iterator" [rawInt 0,rawInt 0,.ref a,rawInt es.size,rawInt e] >>= fun r=>ret r) (fun fin s'=>∃v,fin=Fin.done (Flow.ret v)/\∃T' r,s'.TypeIs v T'/\typeLookup (.type T') "__next__"=pure (some r)/\Q v s') E s:=by rintro vs ⟨hi,hsz⟩ hw;refine a_ (wpAny_setEpoch_of ho hd hf ?_);unfold newFields;refine a_ (Vb (h_ ⟨_,rfl,"set_iterator",_,⟨_,x_ _ rfl,rfl⟩,st_next.lookup,?_⟩));refine hQ _ s.drawn _ a vs ⟨o,es,ep,t,_,_,e_ _ ho,hd,hf,hsz,x_ _ rfl,rfl,by rw[<- hsz];rfl,hw.at' fun o _ e=>e_ _ e⟩ hi (fun b o e=>e_ _ e) (m_ _) (.inl rfl)
 by_cases c:(!sbt w&&dwn es t)=true
 ·rw[if_pos c];refine a_ (oA es.size (List.range es.size) s n_ fun ys d hp=>?_);have hsl:sizeLine=16777216:=rfl;have hsb:scanBound=4096:=rfl;have hyl:ys.length=es.size:=by rw[hp.length_eq,n_]
  refine a_ (wpAny_newTuple ?_ (by rw[d_];omega));have ho1:=e_ (h:=s.heap) { cls:=.type "tuple",data:=.seq (ys.map fun (i:Nat)=>rawInt i).toArray} ho;refine a_ (wpAny_setEpoch_of (s:={ s with heap:=_,drawn:=d}) ho1 hd hf ?_);unfold newFields;refine a_ (Vb (h_ ⟨_,rfl,"set_iterator",_,⟨_,x_ _ rfl,rfl⟩,st_next.lookup,?_⟩));have pv:(ys.map fun p=>((es[p]?).map fun e=>e.2).getD .none).Perm (es.toList.map (·.2)):=by
   refine (hp.map _).trans (List.Perm.of_eq ?_);apply W5;intro i;rw[z_,z_];by_cases hi:i<es.size
   ·rw[Vz hi,Xv,Vy,K_ hi];rfl
   rw[L_ (by simpa using hi),Vy,WN (by omega)];rfl
  obtain⟨hi,hsz⟩:=uw hel nd hm hl pv;have hsp:s.heap.objs.size≠(s.heap.push { cls:=.type "tuple",data:=.seq (ys.map fun (i:Nat)=>rawInt i).toArray}).objs.size:=by rw[Ww];omega
  refine hQ _ d _ s.heap.objs.size _ ⟨o,es,ep,t,_,_,e_ _ ho1,hd,hf,hsz,x_ _ rfl,rfl,by rw[<- hsz];rfl,.inr (.inr ⟨ys,rfl,hsp,⟨_,e_ _ (x_ _ rfl),rfl,_,rfl⟩,by rw[d_],fun k p hk=>?_⟩)⟩ hi (fun b o e=>e_ _ (e_ _ e)) (by show s.heap.objs.size<=(s.heap.push _).objs.size;rw[Ww];exact Nat.le_succ _) (.inr (m_ _));rw[z_,hk,Xv];have hpl:p<es.size:=by have:=hp.mem_iff.mp (V3 hk);exact I_.mp this
  rw[K_ hpl];rfl
 rw[if_neg c];refine a_ (h_ ?_);cases hb:sbt w with
 |true=>refine plain _ (uw hel nd hm hl ?_) (.inl ⟨0,rfl,hb,rfl⟩);exact (ww (w.params.setOrder a ep) es.size 0 es.toList #[] (by simp)).map _
 |false =>
  have hdr:dwn es t=false:=by
   rw[hb] at c
   cases e:dwn es t with
   |false=>rfl
   |true=>rw[e] at c;exact absurd rfl c
  refine plain _ (uw hel nd hm hl (.refl _)) (.inr (.inl ⟨0,rfl,hb,hdr,?_,tb.2.2,GD tb.2.2,rfl⟩))
  rw[tb.1]
  show (!sbt w)=true
  rw[hb]
  rfl
variable {X:Cx}{tg e:Expr}
variable {Z:St3}{H:Hp3}
end
@[reducible] def Nh:KeyOrd:=⟨Int,fun a b=>decide (a<b),fun a=>by simp,fun a b c h1 h2=>by simp only[q_] at *;omega,fun a b c h=>by simp only[q_] at *;omega,fun a b h1 h2=>by simp only[Xi] at *;omega⟩
section
variable {X:Cx}{pins:List (Addr × Obj)}{Z:L2.St}{H:Hp}{s:Shared}{H3:Hp3}{Q3:VK3}{Q:VK}
theorem ints_get {its:List Value}{ns:List Int}(h:IntsAre its ns):∀i,i<its.length->∃t,its.getD i Value.none=Value.int (ns.getD i 0) t:=by
 induction h with
 |nil=>intro i hi;exact absurd hi (Ye _)
 |cons x t _ ih =>
 intro i hi;cases i with
 |zero=>exact⟨t,rfl⟩
 |succ i=>exact ih i (by simpa using hi)
theorem BZ {its:List Value}{ns:List Int}(h:IntsAre its ns):its.length=ns.length:=by
 induction h with
 |nil=>rfl
 |cons x t _ ih=>rw[j_,j_,ih]
theorem Ca {its:List Value}{ns:List Int}(h:IntsAre its ns):∀v∈its,∃x t,v=Value.int x t:=by
 induction h with
 |nil=>intro v hv;cases hv
 |cons x t _ ih =>
 intro v hv;rcases p_.mp hv with rfl | hv
 ·exact⟨x,t,rfl⟩
 exact ih v hv
variable {prog:Program}{w:World}{A:Around}{E:Value->Shared->Prop}
theorem Cd {r:Addr}{Q:Bool->Shared->Prop}(hT:s.TypeIs (.ref r) "set") (h:Q false s):wpAny (model prog w) A (Builtin.List.listLengthHint (.ref r)) Q E s:=by
 unfold Builtin.List.listLengthHint;refine a_ (Wr hT PySem.F.slot_set_len.lookup ?_);generalize hid:("set.__len__":String)=id0
 wp_delta
 rw[show splitId id0=some ("set","__len__") from by subst hid;decide +kernel];subst hid;refine a_ (Xh (T:="set") (b:=true) hT (by rw[Wm];kernel_rfl) ?_);refine wpAny_ite_split (fun z=>absurd z (by decide)) fun _=>?_;refine wpAny_ite_split (fun _=>?_) fun z=>absurd (by decide +kernel) z;exact a_ (Xp hT (h_ h))
theorem GZ {a S:Addr}{ks:List Int}{R:Result->Shared->Prop}{res:Value}(hh:A.handled=none) (hS:SI prog w s.heap a ks) (hr:ks.length<scanBound) (nS:S≠a) (hL:s.heap.get? S=some (seqObj "list" #[] 0))
  (hR:∀h' tk d vs c,(∀b o,b≠S->s.heap.get? b=some o->h'.get? b=some o)->h'.get? S=some (seqObj "list" vs.toArray c)->oE vs ks->R (.ok (.ret res)) { s with heap:=h',toks:=tk,drawn:=d}) :
  wpAny (model prog w) A.in1 (Builtin.List.listExtendWith (.ref S) (.ref a) res) (fun fin s'=>match fin with
   |.done f=>R (.ok f) s'
   |.again c'=>c'.quiet=true/\codeAny (model prog w) A c' R s') (fun e s'=>R (.error e) s') s:=by
 have hT:∀h':Heap,Kpt s.heap h'->∀d,Shared.TypeIs { s with heap:=h',drawn:=d} (.ref a) "set":=fun h' k d=>by
  obtain⟨o,es,ep,t,ho,hex,r⟩:=id hS
  exact⟨o,k _ _ ho,hex.1⟩
 have hsl:sizeLine=16777216:=rfl
 have hsb:scanBound=4096:=rfl
 have lS:S<s.heap.objs.size:=B_ hL
 unfold Builtin.List.listExtendWith
 refine a_ (Xp (T:="set") (hT s.heap (fun _ _ e=>e) s.drawn) ?_)
 have e1:Builtin.List.listSameRef (.ref S) (.ref a)=false:=by simp [Builtin.List.listSameRef,nS]
 have e2:(Value.type "set"==Value.type "list")=false:=by decide
 have e3:(Value.type "set"==Value.type "tuple")=false:=by decide
 simp only[e1,e2,e3,Bool.or_false,y_,U7]
 refine a_ (BX hS hr fun h1 d J tp vs st its kp hJ htp=>?_)
 have hja:a≠J:=by
  obtain⟨o,es,ep,t,ho,r⟩:=hS
  exact U9 (P_ (B_ ho) hJ)
 have W:=GQ (prog:=prog) (w:=w) (A:=A.in1) hh (J:=J) (a:=a) (tp:=tp) hja vs
 have nf:S∉[J,a,tp]:=fun z=>by
  simp only[p_,VP,Yc] at z
  rcases z with z | z | z
  ·
   exact U9 (P_ lS hJ) z
  ·
   exact nS z
  ·
   rcases htp with q | q
   ·
    exact nS (z.trans q)
   ·
    exact U9 (P_ lS q) z
 have key:∀(h:Heap) (c tk:Nat),Sww w h J a tp vs 0->(∀b o,b≠S->s.heap.get? b=some o->h.get? b=some o)->h.get? S=some (seqObj "list" #[] c)->codeAny (model prog w) A (.builtin "list.extend.loop" ⟨[.ref S,.ref J,res],[]⟩) R { s with heap:=h,toks:=tk,drawn:=d}:=by
  intro h c tk st kp hL
  refine codeAny_extend_loopS W.toS (by have:=its.2.2.2;omega) S nf res vs.length 0 _ #[] c rfl (Vx _) st hL (ItemsOf.nil _) fun s' acc c' mv hL' ha=>?_
  rw[Moved.eq_with mv]
  have ev:acc=vs.toArray:=by
   apply Array.ext_getElem?
   intro i
   by_cases hi:i<acc.size
   ·
    have:=ha.2 i _ (K_ hi)
    rw[K_ hi,WW,this]
   ·
    rw[WN (by omega),WW,L_ (by have:=ha.1;omega)]
  rw[ev] at hL'
  refine hR s'.heap s'.toks d vs c' (fun b o hb e=>mv.heap b o (fun z=>?_) (kp b o hb e)) hL' its
  rcases p_.mp z with z | z
  ·
   exact hb z
  ·
   exact U9 (P_ (B_ e) hJ) (i_.mp z)
 refine a_ (VN (Cd (hT h1 kp d) ?_))
 have hL1:=kp _ _ hL
 refine wpAny_ite_split (fun _=>?_) fun _=>h_ ⟨W_ PySem.F.plain_extend_loop _,key _ 0 _ st (fun b o _ e=>kp b o e) hL1⟩
 refine a_ (wpAny_rule (a_ ?_))
 show wpAny _ _ (updateSeq S (·.push .none) >>= fun _=>updateSeq S (·.pop)) _ _ _
 refine a_ (Yd hL1 rfl ?_)
 have hL2:=Vs (Obj.mapSeq (·.push Value.none)) hL1 rfl
 refine Yd (hz:=by seq_fits) hL2 rfl ?_
 have hL3:=Vs (Obj.mapSeq (·.pop)) hL2 rfl
 have oth:∀b o,b≠S->h1.get? b=some o->((h1.update S (Obj.mapSeq (·.push Value.none))).update S (Obj.mapSeq (·.pop))).get? b=some o:=fun b o hb e=>(Vo _ _ (Ne.symm hb)).trans ((Vo _ _ (Ne.symm hb)).trans e)
 exact h_ ⟨W_ PySem.F.plain_extend_loop _,key _ _ _ (W.frame 0 _ _ st fun b hb o e=>oth b o (fun z=>nf (z▸hb)) e) (fun b o hb e=>oth b o hb (kp b o e)) hL3⟩
theorem rm {a:Addr}{ks:List Int}{Q:List Value->Shared->Prop}(hh:A.handled=none) (hS:SI prog w s.heap a ks) (hr:ks.length<scanBound)
  (h:∀h' tk d vs,Kpt s.heap h'->s.heap.objs.size<h'.objs.size->oE vs ks->Q vs { s with heap:=h',toks:=tk,drawn:=d}):wpAny (model prog w) A (collect (.ref a)) Q E s:=by
 have lt:a<s.heap.objs.size:=by obtain⟨o,es,ep,t,ho,r⟩:=hS;exact B_ ho
 unfold collect;refine a_ (wpAny_runValue (Wz entry_proto_collect' ?_));refine a_ (m:=newList []) (wpAny_newList (h_ ⟨Code.quiet_builtin _ (by decide +kernel),Wz entry_list_iadd' ?_⟩))
 let st:Shared:={ s with heap:=s.heap.push (seqObj "list" #[] 0)}
 let G:Result->Shared->Prop:=fun q t=>∃h' tk d vs c,q=.ok (.ret (.ref s.heap.objs.size))/\t={ s with heap:=h',toks:=tk,drawn:=d}/\Kpt s.heap h'/\h'.get? s.heap.objs.size=some (seqObj "list" vs.toArray c)/\oE vs ks
 have key:=GZ (A:=A) (s:=st) (R:=G) (res:=.ref s.heap.objs.size) (S:=s.heap.objs.size) hh (hS.at' fun o e=>e_ _ e) hr (Nat.ne_of_gt lt) (x_ _ rfl) (fun h' tk d vs c hk hL its=>⟨h',tk,d,vs,c,rfl,rfl,fun b o e=>hk b o (U9 (B_ e)) (e_ _ e),hL,its⟩);have fin:∀q t,G q t->∃h' tk d vs c,q=.ok (.ret (.ref s.heap.objs.size))/\h'.get? s.heap.objs.size=some (seqObj "list" vs.toArray c)/\t={ s with heap:=h',toks:=tk,drawn:=d}/\Q vs t:=by rintro q t ⟨h',tk,d,vs,c,e1,rfl,kp,hL,its⟩;exact⟨h',tk,d,vs,c,e1,hL,rfl,h h' tk d vs kp (B_ hL) its⟩
 refine V0 (A:=A.in1) key (fun f t x=>?_) fun e t x=>?_
 ·cases f with
  |done f=>obtain⟨h',tk,d,vs,c,e1,hL,rfl,hq⟩:=fin _ _ x;cases e1;exact a_ (m:=load s.heap.objs.size) (wpAny_load hL (h_ hq))
  |again c0 =>
  refine⟨x.1,W4 x.2 fun q t y=>?_⟩;obtain⟨h',tk,d,vs,c,rfl,hL,rfl,hq⟩:=fin _ _ y;exact a_ (m:=load s.heap.objs.size) (wpAny_load hL (h_ hq))
 obtain⟨_,_,_,_,_,e1,_⟩:=fin _ _ x;cases e1
end
theorem G4:bootBuiltins "set"=some (.type "set"):=by decide +kernel
theorem Ni {X:Cx}{pins:List (Addr × Obj)}{Z:L2.St}{H:Hp}{s:Shared}(I:Inv X pins Z H s) (d:Drawn):Inv X pins Z H { s with drawn:=d}:=⟨I.ok,I.os,I.bare,I.base,I.loc,I.cell,I.free,I.freeC,I.pin,I.hok,I.len⟩
def Ris (ns us:List Int):Prop:=us.Pairwise (·<·)/\∀k,k∈us↔k∈ns
theorem wA:∀{its:List Value}{ns:List Int},IntsAre its ns->Vals (ns.map V.int) its
 |_,_,.nil=>.nil
 |_,_,.cons n t h=>.cons ⟨t,rfl⟩ (wA h)
theorem oG {its:List Value}{ns:List Int}(h:IntsAre its ns):∀{q:List Nat},(∀i∈q,i<its.length)->IntsAre (q.map fun i=>its.getD i Value.none) (q.map fun i=>ns.getD i 0)
 |[],_=>.nil
 |i::q,hq=>by
  obtain⟨t,e⟩:=ints_get h i (hq i (.head _))
  rw[A_,A_,e]
  exact .cons _ t (oG h fun j hj=>hq j (.tail _ hj))
theorem ux {ns:List Int}:(List.range ns.length).map (fun i=>ns.getD i 0)=ns:=by
 apply W5;intro i;rw[z_];by_cases hi:i<ns.length
 ·rw[Vz hi,g_ hi,Xv,E_,g_ hi];rfl
 rw[L_ (by simpa using hi),L_ (by omega)];rfl
section
variable {P:Program}{w:World}{A:Around}{E:Value->Shared->Prop}{s:Shared}{O:KeyOrd}
theorem G5 {x:Value}{Q:Value->Shared->Prop}(hx:∀A' E',A'.handled=A.handled->wpAny (model P w) A' (collect x) (fun vs s1=>∃key:Nat->O.α,vs.length<64 /\
   (2<=vs.length->∀h',Kpt s1.heap h'->wpAny (model P w) A.in1.in1 (keyKind' vs.toArray) (fun κ s'=>s'={ s1 with heap:=h'}/\∀i j (C:Bool->Shared->Prop),i<vs.length->j<vs.length->C (O.blt (key i) (key j)) { s1 with heap:=h'}->kas_ask P w A.in1.in1 κ vs i j C { s1 with heap:=h'}) (fun _ _=>False) { s1 with heap:=h'}) /\
   ∀ps h' c,Srt O key vs.length ps->Kpt s1.heap h'->h'.get? s1.heap.objs.size=some (seqObj "list" (ps.map fun i=>vs.getD i Value.none).toArray c)->Q (.ref s1.heap.objs.size) { s1 with heap:=h'}) E' s):wpAny (model P w) A (call (.builtin "sorted") [x]) Q E s:=by
 refine Calls.call_function_entry kind_sorted plain_sorted entry_sorted (args_sorted1 _) ?_;unfold Builtin.«sorted»;refine a_ (m:=checkCount "sorted" 1 1 _) (h_ ?_);refine a_ (V0 (hx _ _ rfl) (fun vs s1 hv=>?_) fun _ _ e=>e);obtain⟨key,h64,hk,h⟩:=hv;refine a_ (wpAny_newList ?_ (by rw[sizeLine_eq];omega));have hoL:(s1.heap.push (seqObj "list" vs.toArray 0)).get? s1.heap.objs.size=some (seqObj "list" vs.toArray 0):=x_ _ rfl;refine a_ (VN (Vw slot_list_sort ⟨_,hoL,rfl⟩ entry_list_sort (uv (O:=O) (key:=key) hoL h64 (fun h2 h' kp=>hk h2 h' fun b o e=>kp b o ?_ ?_) fun ps hs=>⟨_,rfl,?_⟩) (args_list_sort _)))
 ·exact U9 (B_ e)
 ·exact e_ _ e
 obtain⟨kp,c,hc⟩:=GX (h:=s1.heap) (vs:=vs) (out:=(ps.map fun i=>vs.getD i Value.none).toArray);exact h_ ⟨_,rfl,h ps _ c hs kp hc⟩
variable {X:Cx}{e:Expr}{te:TE}{p1 p2 pos pos':Pos}
def G6 (te:TE):TE:=fun Z H Q=>te Z H fun x H1=>∃p ns,x=.ref p/\SqL X.K H1 p (ns.map V.int)/\ns.length<64/\∀us,Ris ns us->∀q,H1 q=none->Q (.ref q) (upd H1 q (.lst (us.map V.int)))
theorem G7 {pins:List (Addr × Obj)}{Z:L2.St}{H:Hp}{s:Shared}{Q:VK}(I:Inv X pins Z H s) (hh:X.A.handled=none) {a:Addr}{ns:List Int}(hS:SI X.prog X.w s.heap a ns) (h64:ns.length<64) (h:∀us,Ris ns us->∀q,H q=none->Q (.ref q) (upd H q (.lst (us.map V.int)))) :
  wpAny (model X.prog X.w) X.A (call (.builtin "sorted") [.ref a]) (EP X pins Z Q) X.xe s:=by
 have hz:sizeLine=16777216:=rfl;have hb:scanBound=4096:=rfl;refine G5 (O:=Nh) fun A' E' hA=>rm (hA.trans hh) hS (by omega) fun h' tk d vs kp hge hi=>?_;obtain⟨ia,nd,hm,hl⟩:=hi;generalize vs.map ivl=ms at *;have l1:=BZ ia;refine⟨fun i=>(ms.getD i 0:Int),by omega,fun g2 g' kq=>?_,fun q g' c hs kq hc=>?_⟩
 ·refine kas_kind (T:=.type "int") (s:={ s with heap:=g',toks:=tk,drawn:=d}) g2 (fun v hv=>?_) rfl rfl ⟨rfl,fun i j C hi hj hC=>?_⟩
  ·obtain⟨x,t,rfl⟩:=Ca ia v hv;exact Looks.of_pure rfl
  obtain⟨t,e1⟩:=ints_get ia i hi;obtain⟨u,e2⟩:=ints_get ia j hj;unfold kas_ask;rw[e1,e2];exact kat_lt_int hC
 obtain⟨hp,hu⟩:=hs;have hlt:∀i∈q,i<vs.length:=fun i hi=>I_.mp (hp.mem_iff.mp hi);have hql:q.length=vs.length:=by rw[hp.length_eq,n_]
 have rz:=wA (oG ia hlt);have pm:(q.map fun i=>ms.getD i 0).Perm ms:=by have:=hp.map fun i=>ms.getD i 0;rw[l1,ux] at this;exact this
 have hf:H h'.objs.size=none:=I.hok.fresh (V5 hge);refine⟨.ref h'.objs.size,upd H h'.objs.size (.lst ((q.map fun i=>ms.getD i 0).map V.int)),(Ni I d).laid (t':=tk) (fun b o e=>kq b o (kp b o e)) (V5 hge) ⟨by rw[d_,d_];omega,_,c,rz,hc⟩,rfl,h _ ⟨?_,fun k=>by rw[pm.mem_iff,hm]⟩ _ hf⟩;have nd2:=pm.nodup_iff.mpr nd;rw[VH];intro i j hi hj hij;have h1:(q.map fun i=>ms.getD i 0)[i]≠(q.map fun i=>ms.getD i 0)[j]:=VH.mp nd2 i j hi hj hij;rw[d_] at hi hj;have h2:=hu i j (by omega) (by omega);rw[E_,g_ hi,E_,g_ hj] at h2;rw[List.getElem_map,List.getElem_map] at h1 ⊢;have h3:¬(ms.getD q[j] 0<ms.getD q[i] 0):=fun z=>by have:decide (ms.getD q[j] 0<ms.getD q[i] 0)=false:=h2;rw[O_ z] at this;cases this
 omega
theorem yp (hc:X.calm=true) (hgl:Gl X "sorted") (hml:X.mg "sorted"=none) (hgs:Gl X "set") (hms:X.mg "set"=none) (ha:PE X e te)
  (he:starEach [e] X.env=(false,eval e X.env)::starEach [] X.env:=by rfl) (hpl:(backTo pos (starEach [] X.env)).any (·.1)=false:=by rfl) (hpl':(backTo pos' (starEach [] X.env)).any (·.1)=false:=by rfl) :
  PE X (.Call (.Name "sorted" p1) [.Call (.Name "set" p2) [e] [] pos'] [] pos) (G6 (X:=X) te):=by
 intro pins s Z H Q I h;refine Vm (dq I hgl hml yo ?_ (by decide) (by decide));refine PyProof.Rows.callWith_builtin1 ?_ rfl hpl;show wpAny _ _ (spliced ((false,eval (.Call (.Name "set" p2) [e] [] pos') X.env)::backTo pos (starEach [] X.env))) _ _ s;refine Vr ?_;refine Vm (dq I hgs hms G4 ?_ (by decide) (by decide));refine Va ?_ he hpl';rw[he];show wpAny _ _ (spliced ((false,eval e X.env)::backTo pos' (starEach [] X.env))) _ _ s;refine Vr (thn (ha pins s Z H _ I h) fun u s1 ⟨x,H1,I1,r1,p,ns,hx,sq,h64,q⟩=>?_);subst hx;cases r1;obtain⟨its,rv,hl,hz⟩:=I1.list sq;have hlen:=rv.length;rw[d_] at hlen;have hb:scanBound=4096:=rfl;refine VD ?_;refine yh (xs:=ns) (I1.ok.hd hc) hl.isList (by simp [hlen]) (fun i v hv=>?_) (by simp;omega) fun h' tk hS kp=>?_
 ·have hv':its[i]?=some v:=by simpa using hv
  have hi:i<ns.length:=by have:=(VG.mp hv').1;omega
  obtain⟨u,hu,ru⟩:=rv.get (i:=i) (x:=V.int ns[i]) (by rw[z_,g_ hi];rfl);rw[hv'] at hu;cases hu;obtain⟨t,rfl⟩:=ru;exact⟨ns[i],t,g_ hi,rfl⟩
 refine VD ?_;have I2:Inv X pins Z H1 { s1 with heap:=h',toks:=tk}:=I1.kept fun b o eb=>kp b o (B_ eb) eb;exact G7 I2 (I1.ok.hd hc) hS h64 q
end
def yq (o:Option O3) (H:Hp3) (Q:VK3):Prop:=match o with
 |some (.lst ts)=>oq (ints3 ts) fun ns=>ns.length<64/\∀us,Ris ns us->∀q,H q=none->Q (.ref q) (up3 H q (.lst (us.map T.int)))
 |_=>False
def sls (x:T) (H:Hp3) (Q:VK3):Prop:=match x with
 |.ref a=>yq (H a) H Q
 |_=>False
def rA (te:TE3):TE3:=fun Z H Q=>te Z H fun x H1=>sls x H1 Q
theorem Ce (te:TE3) {Z:St3}{H:Hp3}{Q:VK3}:rA te Z H Q=te Z H fun x H1=>sls x H1 Q:=rfl
theorem RN (a:Addr) {H:Hp3}{Q:VK3}:sls (.ref a) H Q=yq (H a) H Q:=rfl
theorem Nj (ns:List Int) {H:Hp3}{Q:VK3}:yq (some (.lst (ns.map T.int))) H Q=(ns.length<64/\∀us,Ris ns us->∀q,H q=none->Q (.ref q) (up3 H q (.lst (us.map T.int)))):=by
 unfold yq;simp only[ju];rfl
theorem rB:∀{ts:List T}{ns:List Int},ints3 ts=some ns->ts=ns.map T.int
 |[],_,h=>by cases h;rfl
 |t::r,ns,h=>by
  cases t with
  |int i =>
   cases e:ints3 r with
   |none=>simp [ints3,e] at h
   |some l =>
    simp [ints3,e] at h
    rw[<- h,rB e]
    rfl
  |_=>simp [ints3] at h
theorem rC {K:Frag}{H:Hp}:∀{ns:List Int}{xs:List V},Reps K H (ns.map T.int) xs->xs=ns.map V.int
 |[],_,r=>r.inv0
 |n::ns,xs,r=>by
  obtain⟨v,r',rfl,q,b⟩:=r.inv
  rw[A_,<- rC b,q.int]
theorem lK {K:Frag}{H:Hp}:∀{ns:List Int},Reps K H (ns.map T.int) (ns.map V.int)
 |[]=>.nil
 |_::_=>.cons .ofInt lK
section
variable {X:Cx}{e:Expr}{p1 p2 pos pos':Pos}
theorem yr {te:TE3}(hc:X.calm=true) (hgl:Gl X "sorted") (hml:X.mg "sorted"=none) (hgs:Gl X "set") (hms:X.mg "set"=none) (ha:PE3 X e te)
  (he:starEach [e] X.env=(false,eval e X.env)::starEach [] X.env:=by rfl) (hpl:(backTo pos (starEach [] X.env)).any (·.1)=false:=by rfl) (hpl':(backTo pos' (starEach [] X.env)).any (·.1)=false:=by rfl) :
  PE3 X (.Call (.Name "sorted" p1) [.Call (.Name "set" p2) [e] [] pos'] [] pos) (rA te):=by
 refine PE.imp (yp hc hgl hml hgs hms ha he hpl hpl') ?_;rintro Z H Q ⟨Z3,H3,Q3,ss,sh,h,k⟩;refine⟨Z3,H3,_,ss,sh,h,fun v H' t H3' le sh' r q=>?_⟩;cases t with
 |ref a =>
  have q':yq (H3' a) H3' Q3:=q
  unfold yq at q'
  split at q'
  ·
   rename_i ts e1
   cases z:ints3 ts with
   |none=>rw[z] at q';exact q'.elim
   |some ns =>
    rw[z] at q'
    have e:=rB z
    subst e
    obtain⟨ys,e3,ry⟩:=sh' a _ e1
    rw[rC ry] at e3
    exact⟨a,ns,r.ref,.of e3,q'.1,fun us hu p hp=>k _ _ _ _ (le.trans (aL hp)) (sh'.newLst hp lK) .ofRef (q'.2 us hu p (sh'.fresh hp))⟩
  ·
   exact q'.elim
 |_=>exact q.elim
end
end L3
namespace M
open L2 L3
local macro_rules | `(tactic| walk_at "c") => `(tactic| try dsimp only [mL,List.replicate,A_,VJ,Xf,List.nil_append,Wg,Xj,Option.getD_some])
local macro_rules | `(tactic| walk_at "n") => `(tactic| (obtain ⟨e⟩:=‹Shut (_ = _)›; subst e; try dsimp only))
def nm0 : String := "ne_eq not_false_eq_true aD vm vp tC3 dX Io zB Ie Ii K9 qL Ij HY Qt Ia Lg Qx zF zE Il pA Ig Ih Uv Qv qU vz Uz zY fc Lk Ln Qy iY q_I UG lz Lp Lq zZ jw vL QB QC Iv QD QF Iw QG Iz IK QH QJ QK QL Lr QM Ls Lw QQ IV Lx QR QS q_D QT Ly QV QW Lz QX LC LK vM IW vN LQ QZ LR Ma Mf Q0 Q4 Q5 Q6 Q7 Q8 Q9 Fx Ra Rb Rc Rf Mg Rg Fy qX lA Mh Fz Mi aC Lf zL nQ vW decide_true decide_false Bool.not_true Bool.not_false at0 at1 at2 at3 List.eraseIdx_cons_zero Int.toNat_natCast vg List.length_map List.length_cons List.length_nil Nat.zero_add Bool.false_eq_true if_false if_true List.getElem?_cons_zero List.getElem?_cons_succ List.set_cons_zero List.set_cons_succ Rk Rm List.map_cons List.map_nil MT Rv Rw Rn Ro Mr Jf Jg Jk Av Ax Jl Cw JD Ji JG Cy Gp Jp Nk Nm Np Nq U0 Gr Gs Gu Gv M3 MN Jo MK Ba Ri Rj Ab Oc Jv Bw Nf Jw Jx RK Bx Jy Jz By wg pM RB U3 Jq Bp Gx Br M6 RD Bt uh M8 Jr Js Bu Jt Ju RL Ce RN Nj Ah Om FJ FN z8 FP z9 Rh FT Mx Rq Gg Rr"
local macro_rules | `(tactic| walk_at "") => do
 let ls <- ((nm0.splitOn " ").toArray.map String.toName).filterM fun n => do return !(<- Lean.Macro.resolveGlobalName n).isEmpty
 let ls <- ls.mapM fun n => let i:=Lean.mkIdent n; `(Lean.Parser.Tactic.simpLemma| $i:ident)
 `(tactic| ((try dsimp only [$[$ls:simpLemma],*]); try simp only [*,$[$ls:simpLemma],*]))
structure isNm (x:Str):Prop where
 lo:1<=x.length
 hi:x.length<=8
 az:∀c∈x.cps.toList,97<=c/\c<=122
structure Nms (ws:List Str):Prop where
 nm:∀x∈ws,isNm x
 nd:ws.Nodup
theorem Nms.nil:Nms []:=⟨fun _ h=>(nomatch h),XQ⟩
theorem Nms.snoc {ws:List Str}{x:Str}(n:Nms ws) (h:isNm x) (hx:x∉ws):Nms (ws++[x]) :=
 ⟨fun y hy=>(D_.mp hy).elim (n.nm y) fun z=>by rw[i_.mp z];exact h,jX n.nd hx⟩
structure Wk where
 tasks:List (Str × Int × List Str)
 orders:List (Str × Str)
 pairs:List (Str × Str × Str)
 row:List Str
def sT (xs:List Str):T:=.tup (xs.map T.str)
def tkT (t:Str × Int × List Str):T:=.tup [.str t.1,.int t.2.1,sT t.2.2]
def orT (o:Str × Str):T:=.tup [.str o.1,.str o.2]
def prT (p:Str × Str × Str):T:=.tup [.str p.1,.str p.2.1,.str p.2.2]
def Wk.enc (W:Wk):T:=.tup [.tup (W.tasks.map tkT),.tup (W.orders.map orT),.tup (W.pairs.map prT),sT W.row]
structure tkOk (t:Str × Int × List Str):Prop where
 nm:isNm t.1
 lo:1<=t.2.1
 hi:t.2.1<10^60
 ks:Nms t.2.2
 kl:t.2.2.length<=4
structure WkOk (W:Wk):Prop where
 t1:1<=W.tasks.length
 t8:W.tasks.length<=8
 tk:∀t∈W.tasks,tkOk t
 nd:(W.tasks.map (·.1)).Nodup
 os:W.orders.length<=28
 od:W.orders.Nodup
 oo:∀o∈W.orders,o.1≠o.2/\o.1∈W.tasks.map (·.1)/\o.2∈W.tasks.map (·.1)
 ps:W.pairs.length<=12
 pd:W.pairs.Nodup
 pp:∀p∈W.pairs,(p.1="with"\/p.1="apart")/\p.2.1≠p.2.2/\p.2.1∈W.tasks.map (·.1)/\p.2.2∈W.tasks.map (·.1)
 r1:1<=W.row.length
 r8:W.row.length<=8
 rn:∀x∈W.row,isNm x
theorem G8 {a b:Str × Str × Str}(h:prT a=prT b):a=b:=by
 obtain⟨a1,a2,a3⟩:=a;obtain⟨b1,b2,b3⟩:=b;simp only[prT,T.tup.injEq,WF,T.str.injEq,and_true] at h;rw[h.1,h.2.1,h.2.2]
theorem gK {α:Type}{f:α->T}(hf:∀{a b},f a=f b->a=b) {x:α}{xs:List α}:f x∈xs.map f↔x∈xs:=by
 rw[k_];exact⟨fun ⟨y,hy,e⟩=>hf e▸hy,fun h=>⟨x,h,rfl⟩⟩
theorem j6 {a b:Str}(h:T.str a=T.str b):a=b:=by injection h
theorem RP {α:Type}{f:α->T}(hf:∀{a b},f a=f b->a=b) {x:α}{xs:List α}:dJ true (f x) (xs.map f)=true↔x∉xs:=by
 unfold dJ;simp [gK hf]
theorem jb (xs:List Str):(xs.map T.str).all (pl 20)=true:=by rw[U_];intro t ht;obtain⟨x,_,rfl⟩:=k_.mp ht;rfl
theorem Cg (xs:List (Str × Str)):(xs.map orT).all (pl 20)=true:=by rw[U_];intro t ht;obtain⟨x,_,rfl⟩:=k_.mp ht;rfl
theorem Ci (xs:List (Str × Str × Str)):(xs.map prT).all (pl 20)=true:=by rw[U_];intro t ht;obtain⟨x,_,rfl⟩:=k_.mp ht;rfl
theorem Nk (W:Wk) (H:Hp3) (Q:VK3):qT W.enc (.int 0) H Q=Q (.tup (W.tasks.map tkT)) H:=rfl
theorem Nm (W:Wk) (H:Hp3) (Q:VK3):qT W.enc (.int 1) H Q=Q (.tup (W.orders.map orT)) H:=rfl
theorem Np (W:Wk) (H:Hp3) (Q:VK3):qT W.enc (.int 2) H Q=Q (.tup (W.pairs.map prT)) H:=rfl
theorem Nq (W:Wk) (H:Hp3) (Q:VK3):qT W.enc (.int 3) H Q=Q (.tup (W.row.map T.str)) H:=rfl
def pick:List Str->Int->List Str
 |[],_=>[]
 |x::r,b=>if b%2=1 then x::pick r (b / 2) else pick r (b / 2)
def tot:List Str->Int->Int
 |[],_=>0
 |_::r,b=>(if b%2=1 then 1 else 0)+2*tot r (b / 2)
def numOf:List Str->List Str->Int
 |[],_=>0
 |x::r,ss=>(if x∈ss then 1 else 0)+2*numOf r ss
theorem jc:∀(ws:List Str) (b:Int),∀x∈pick ws b,x∈ws
 |[],_,x,h=>by cases h
 |y::r,b,x,h=>by
  unfold pick at h
  split at h
  ·
   rcases p_.mp h with rfl | h
   ·
    exact t_
   ·
    exact v_ _ (jc r _ x h)
  ·
   exact v_ _ (jc r _ x h)
theorem jM:∀(ws ss ss':List Str),(∀x∈ws,x∈ss↔x∈ss')->numOf ws ss=numOf ws ss'
 |[],_,_,_=>rfl
 |y::r,ss,ss',h=>by
  have h1:=h y t_
  have h2:=jM r ss ss' fun x hx=>h x (v_ _ hx)
  simp only[numOf,h2,h1]
theorem lL:∀(ws:List Str) (b:Int),ws.Nodup->numOf ws (pick ws b)=tot ws b
 |[],_,_=>rfl
 |y::r,b,nd=>by
  rw[Vu] at nd
  have ih:=lL r (b / 2) nd.2
  have hy:y∉pick r (b / 2):=fun h=>nd.1 (jc r _ y h)
  by_cases hb:b%2=1
  ·
   have e:numOf r (y::pick r (b / 2))=numOf r (pick r (b / 2)):=jM r _ _ fun x hx=>by
    have:x≠y:=fun e=>nd.1 (e▸hx)
    simp [this]
   simp only[numOf,tot,pick,hb,if_true,e,ih,p_,true_or]
  ·
   simp only[numOf,tot,pick,hb,U7,hy,ih]
theorem Cj:∀(ws:List Str) (b:Int),0<=b->b<2^ws.length->tot ws b=b
 |[],b,h0,h1=>by simp at h1;simp only[tot];omega
 |y::r,b,h0,h1=>by
  have h2:b / 2<2^r.length:=by
   rw[j_,Ym] at h1
   omega
  have ih:=Cj r (b / 2) (by omega) h2
  simp only[tot,ih]
  split <;> omega
theorem lM:∀(A:List Str) (y:Str) (ss:List Str),numOf (A++[y]) ss=numOf A ss+2^A.length*(if y∈ss then 1 else 0)
 |[],y,ss=>by simp [numOf]
 |x::A,y,ss=>by
  have ih:=lM A y ss
  simp only[Xf,numOf,j_,ih,Ym]
  generalize (2:Int)^A.length=w
  generalize (if y∈ss then (1:Int) else 0)=z
  rw[Int.mul_add,<- Int.mul_assoc,Int.mul_comm 2 w]
  omega
theorem rD:∀(A B:List Str) (b:Int),pick (A++B) b=pick A b++pick B (b / 2^A.length)
 |[],B,b=>by simp [pick]
 |y::A,B,b=>by
  have ih:=rD A B (b / 2)
  have e:b / 2 / 2^A.length=b / 2^(A.length+1):=by
   rw[Ym,Int.mul_comm,Int.ediv_ediv_of_nonneg (by decide)]
  simp only[Xf,pick,j_,ih,e]
  split <;> simp
theorem pR (m n:Nat):Builtin.bitAnd (m:Int) (n:Int)=((m &&& n:Nat):Int):=by
 unfold Builtin.bitAnd;rfl
theorem Nr (m n:Nat):Builtin.bitOr (m:Int) (n:Int)=((m ||| n:Nat):Int):=by
 have h:∀z:Nat,decide ((0:Int)<=Builtin.bitNot (z:Int))=false:=fun z=>C_ (by unfold Builtin.bitNot;omega);have g:∀z:Int,Builtin.bitNot (Builtin.bitNot z)=z:=fun z=>by unfold Builtin.bitNot;omega
 unfold Builtin.bitOr Builtin.bitAnd;rw[h,h];simp only[g,Wa]
def bR:List Str->List Str->Nat
 |[],_=>0
 |x::r,ss=>(if x∈ss then 1 else 0)+2*bR r ss
theorem cu:∀(ns ss:List Str),numOf ns ss=((bR ns ss:Nat):Int)
 |[],_=>rfl
 |x::r,ss=>by
  have:=cu r ss
  simp only[numOf,bR,this]
  by_cases h:x∈ss <;> simp [h]
theorem G9 (b c a d:Nat) (hb:b<2) (hc:c<2):(b+2*a) &&& (c+2*d)=(if b=1/\c=1 then 1 else 0)+2*(a &&& d):=by
 have h1:((b+2*a) &&& (c+2*d)) / 2=(b+2*a) / 2 &&& (c+2*d) / 2:=Nat.and_div_two;have e1:(b+2*a) / 2=a:=by omega
 have e2:(c+2*d) / 2=d:=by omega
 rw[e1,e2] at h1;have h2:((b+2*a) &&& (c+2*d))%2=1↔(b+2*a)%2=1/\(c+2*d)%2=1:=Nat.and_mod_two_eq_one;by_cases h:b=1/\c=1
 ·rw[if_pos h];have:=h2.mpr ⟨by omega,by omega⟩;omega
 rw[if_neg h];have:¬((b+2*a) &&& (c+2*d))%2=1:=fun z=>h (by have:=h2.mp z;omega);omega
theorem Nt (b c a d:Nat) (hb:b<2) (hc:c<2):(b+2*a) ||| (c+2*d)=(if b=1\/c=1 then 1 else 0)+2*(a ||| d):=by
 have h1:((b+2*a) ||| (c+2*d)) / 2=(b+2*a) / 2 ||| (c+2*d) / 2:=Nat.or_div_two;have e1:(b+2*a) / 2=a:=by omega
 have e2:(c+2*d) / 2=d:=by omega
 rw[e1,e2] at h1;have h2:((b+2*a) ||| (c+2*d))%2=1↔(b+2*a)%2=1\/(c+2*d)%2=1:=Nat.or_mod_two_eq_one;by_cases h:b=1\/c=1
 ·rw[if_pos h];have:=h2.mpr (by omega);omega
 rw[if_neg h];have:¬((b+2*a) ||| (c+2*d))%2=1:=fun z=>h (by have:=h2.mp z;omega);omega
theorem j7 (p:Prop) [Decidable p]:(if p then 1 else 0)<2:=by split <;> decide
theorem lN:∀(ns A B:List Str),bR ns A &&& bR ns B=bR ns (A.filter fun x=>decide (x∈B))
 |[],_,_=>by simp [bR]
 |x::r,A,B=>by
  simp only[bR]
  rw[G9 _ _ _ _ (j7 _) (j7 _),lN r A B]
  by_cases h1:x∈A <;> by_cases h2:x∈B <;> simp [h1,h2]
theorem wB:∀(ns A B:List Str),bR ns A ||| bR ns B=bR ns (A++B)
 |[],_,_=>by simp [bR]
 |x::r,A,B=>by
  simp only[bR]
  rw[Nt _ _ _ _ (j7 _) (j7 _),wB r A B]
  by_cases h1:x∈A <;> by_cases h2:x∈B <;> simp [h1,h2]
theorem jd:∀(ns A B:List Str),bR ns A=bR ns B↔∀x∈ns,x∈A↔x∈B
 |[],_,_=>by simp [bR]
 |y::r,A,B=>by
  have ih:=jd r A B
  simp only[bR,p_,forall_eq_or_imp]
  rw[<- ih]
  by_cases h1:y∈A <;> by_cases h2:y∈B <;> simp only[h1,h2,if_true,U7,iff_true,iff_false,true_iff,false_iff,true_and,not_true,not_false_eq_true,false_and] <;> omega
theorem gM:∀ns:List Str,bR ns []=0
 |[]=>rfl
 |x::r=>by simp only[bR,VP,U7,gM r]
theorem yt (ns A:List Str):bR ns A=0↔∀x∈ns,x∉A:=by
 have:=jd ns A [];rw[gM] at this;rw[this];simp
theorem eQ (ns A B:List Str):(Builtin.bitAnd (numOf ns A) (numOf ns B)=numOf ns B)↔∀x∈ns,x∈B->x∈A:=by
 rw[cu,cu,pR,lN];constructor
 ·intro h x hx hB;have:=(jd ns _ _).mp (Int.ofNat.inj h) x hx;exact (F_.mp (this.mpr hB)).1
 intro h;refine Q_ Int.ofNat ((jd ns _ _).mpr fun x hx=>?_);rw[F_,q_];exact⟨fun z=>z.2,fun z=>⟨h x hx z,z⟩⟩
theorem pU (ns A B:List Str):(Builtin.bitAnd (numOf ns A) (numOf ns B)=0)↔∀x∈ns,¬(x∈A/\x∈B):=by
 rw[cu,cu,pR,lN];have e:((bR ns (A.filter fun x=>decide (x∈B)):Nat):Int)=0↔bR ns (A.filter fun x=>decide (x∈B))=0:=by omega
 rw[e,yt];constructor
 ·intro h x hx z;exact h x hx (F_.mpr ⟨z.1,O_ z.2⟩)
 intro h x hx z;have:=F_.mp z;exact h x hx ⟨this.1,VF this.2⟩
theorem Nu (ns A B:List Str):Builtin.bitOr (numOf ns A) (numOf ns B)=numOf ns (A++B):=by
 rw[cu,cu,cu,Nr,wB]
theorem Ck (ns A:List Str):0<=numOf ns A:=by rw[cu];exact WQ _
theorem rE:∀(ns A:List Str),numOf ns A<2^ns.length
 |[],_=>by simp [numOf]
 |x::r,A=>by
  have:=rE r A
  simp only[numOf,j_,Ym]
  split <;> omega
theorem rF:∀(ns:List Str) (A:List Str),ns.Nodup->pick ns (numOf ns A)=ns.filter fun x=>decide (x∈A)
 |[],_,_=>rfl
 |x::r,A,nd=>by
  rw[Vu] at nd
  have ih:=rF r A nd.2
  have n0:=Ck r A
  by_cases h:x∈A
  ·
   have e1:(1+2*numOf r A)%2=1:=by omega
   have e2:(1+2*numOf r A) / 2=numOf r A:=by omega
   simp only[numOf,h,if_true,pick,e1,e2,ih,X4,WP]
  ·
   have e1:¬(0+2*numOf r A)%2=1:=by omega
   have e2:(0+2*numOf r A) / 2=numOf r A:=by omega
   simp only[numOf,h,U7,pick,e1,e2,ih,X4,Wl,y_]
theorem Cm {ns:List Str}{n:Int}(nd:ns.Nodup) (h0:0<=n) (h1:n<2^ns.length):numOf ns (pick ns n)=n:=by rw[lL ns n nd,Cj ns n h0 h1]
universe u
variable {α:Type u}
inductive RT (R:α->α->Prop):α->α->Prop
 |refl {a:α}:RT R a a
 |step {a b c:α}:RT R a b->R b c->RT R a c
theorem RT.trans {R:α->α->Prop}{a b c:α}(h:RT R a b) (g:RT R b c):RT R a c:=by
 induction g with
 |refl=>exact h
 |step _ r ih=>exact .step ih r
theorem RT.flip {R:α->α->Prop}{a b:α}(h:RT R a b):RT (fun x y=>R y x) b a:=by
 induction h with
 |refl=>exact .refl
 |step _ r ih=>exact (RT.step (R:=fun x y=>R y x) .refl r).trans ih
theorem Ha {R:α->α->Prop}{a b:α}:RT (fun x y=>R y x) a b↔RT R b a:=⟨fun h=>h.flip,fun h=>h.flip⟩
theorem RQ {L:List (α × α)}{F:List α}{s x:α}(hs:s∈F) (hc:∀a b,(a,b)∈L->a∈F->b∈F) (h:RT (fun a b=>(a,b)∈L) s x):x∈F:=by
 induction h with
 |refl=>exact hs
 |step _ r ih=>exact hc _ _ r ih
theorem Cp [DecidableEq α]:∀{l m:List α},l.Nodup->(∀x∈l,x∈m)->l.length<=m.length:=by
 intro l;induction l with
 |nil=>intro m _ _;exact Vx _
 |cons a l ih =>
 intro m nd hs;rw[Vu] at nd;have ha:=hs a t_;have h:=ih (m:=m.erase a) nd.2 fun x hx=>by have hx':=hs x (v_ _ hx);have hne:x≠a:=fun e=>nd.1 (e▸hx);exact (List.mem_erase_of_ne hne).mpr hx'
 have e:=List.length_erase_of_mem ha;have p:0<m.length:=List.length_pos_of_mem ha;simp only[j_];omega
def mkS (l:List Nat):Str:=⟨l.toArray⟩
theorem dM (l:List Nat):(mkS l).cps.toList=l:=rfl
theorem dB (l:List Nat):(mkS l).length=l.length:=by show (l.toArray).size=_;simp
theorem Nv (x:Str):∃l,x=mkS l:=⟨x.cps.toList,by cases x;rfl⟩
theorem wC {a b:List Nat}(h:mkS a=mkS b):a=b:=by have:=Q_ (fun x=>x.cps.toList) h;exact this
theorem pW (a b:List Nat):mkS a++mkS b=mkS (a++b):=by
 show (⟨a.toArray++b.toArray⟩:Str)=⟨(a++b).toArray⟩;simp
theorem RV (l:List Nat) (k:Nat) (h:k<=l.length):Txt.slice (mkS l) none (some (k:Int))=mkS (l.take k):=by
 have e:=StrLaws.sliceText_to (x:=mkS l) (j:=(k:Int)) ⟨WQ k,by rw[dM];omega⟩;rw[dM,List.drop_zero,Int.sub_zero,Wa] at e;exact e
theorem Hb (l:List Nat) (k:Nat) (h:k<=l.length):Txt.slice (mkS l) (some (k:Int)) none=mkS (l.drop k):=by
 have e:=StrLaws.sliceText_from (x:=mkS l) (i:=(k:Int)) ⟨WQ k,by rw[dM];omega⟩;rw[dM,Wa,WM (by rw[V6];omega)] at e;exact e
def jR:List Nat:=[97,98,99,100,101,102,103,104,105,106,107,108,109,110,111,112,113,114,115,116,117,118,119,120,121,122]
theorem Cq:("abcdefghijklmnopqrstuvwxyz":Str)=mkS jR:=by decide +kernel
theorem Hc:∀i:_root_.Fin 26,jR[i.val]?=some (97+i.val):=by decide
theorem Cr (i:Int) (h0:0<=i) (h1:i<26):atI jR i=some (97+i.toNat):=by
 obtain⟨j,rfl⟩:=Int.eq_ofNat_of_zero_le h0;have hj:j<26:=by omega
 have:=Hc ⟨j,hj⟩;exact bC (by simpa using this)
theorem Hd:∀i:_root_.Fin 26,Builtin.Str.occurrences (mkS jR) (mkS [97+i.val]) 0 26 1=[i.val]:=by decide +kernel
theorem Nx (c:Nat) (h0:97<=c) (h1:c<=122):Builtin.Str.occurrences (mkS jR) (mkS [c]) 0 (mkS jR).length 1=[c - 97]:=by
 have:=Hd ⟨c - 97,by omega⟩;rw[show 97+(c - 97)=c by omega] at this;exact this
theorem JC {l:List Nat}(h1:1<=l.length) (h8:l.length<=8) (h:∀c∈l,97<=c/\c<=122):isNm (mkS l):=⟨by rw[dB];exact h1,by rw[dB];exact h8,by rw[dM];exact h⟩
end M
namespace L3
open L2
structure Shut (p:Prop):Prop where
 out:p
theorem aA {t u:TS3}{D:Ends3}{Z:St3}{H:Hp3}(h:∀R,Shut (R=u)->(vm t R) D Z H):(vm t u) D Z H:=h u ⟨rfl⟩
theorem yu {c:TT3}{tb:TS3}{D:Ends3}{Z:St3}{H:Hp3}(W:Nat->St3->Hp3->Prop) (h0:∃m,W m Z H) (h1:∀m Z H,W m Z H->∀(WI:Nat->St3->Hp3->Prop) (TB:TS3) (NX:St3->Hp3->Prop),Shut (WI=W)->Shut (TB=tb)->Shut (NX=D.nx) ->
  c Z H fun b H1=>if b=true then TB { D with nx:=fun Z' H'=>∃m',m'<m/\WI m' Z' H',ct:=fun Z' H'=>∃m',m'<m/\WI m' Z' H',bk:=D.nx} Z H1 else NX Z H1):ph c tb D Z H :=
 ⟨W,h0,fun m Z H w=>h1 m Z H w W tb D.nx ⟨rfl⟩ ⟨rfl⟩ ⟨rfl⟩⟩
theorem f9 {α:Type}(enc f:α->T) (p:α->Bool) (as:List α) (rest:St3) {tt:TT3}{te:TE3}{still:Hp3->Prop}{fin:List T->Hp3->Prop}{v:Option T}{H:Hp3}(hst:still H) (hl:as.length<=sizeLine)
  (hc:∀a∈as,∀Q:Bool->Hp3->Prop,Q (p a) H->tt (some (enc a)::rest) H Q)
  (ht:∀a∈as,p a=true->∀Q:VK3,Q (f a) H->te (some (enc a)::rest) H Q) (hfin:fin ((as.filter p).map f) H):cIter3 (dX 0) tt te still fin (as.map enc) [] (v::rest) H:=by
 refine gH (fun r ys Z H'=>∃(rs ds:List α) (v:Option T),Z=v::rest/\r=rs.map enc/\ys=(ds.filter p).map f/\ds++rs=as/\H'=H) ⟨as,[],v,rfl,rfl,rfl,rfl,rfl⟩ ?_ ?_
 ·rintro ys Z H' ⟨rs,ds,v,rfl,hrs,rfl,hsp,rfl⟩;have hrs':rs=[]:=WK.mp hrs.symm;subst hrs';rw[S_] at hsp;subst hsp;exact⟨hst,by rw[d_];exact U8 (Vk _ _) hl,hfin⟩
 rintro x r ys Z H' N ⟨rs,ds,v,rfl,hrs,rfl,hsp,rfl⟩ hN;cases rs with
 |nil=>cases hrs
 |cons t rs =>
 injection hrs with e1 e2;subst e1 e2;refine⟨hst,?_⟩;show tt (some (enc t)::rest) H' _;refine hc t (by rw[<- hsp];simp) _ ?_;cases hp:p t with
 |true=>rw[if_pos rfl];refine ht t (by rw[<- hsp];simp) hp _ ⟨?_,hN _ _ _ ⟨rs,ds++[t],_,rfl,rfl,by simp [hp],by rw[<- hsp];simp,rfl⟩⟩;have:=Q_ List.length hsp;simp only[b_,j_] at this;rw[d_];have:=Vk p ds;omega
 |false =>
 rw[if_neg o_];exact hN _ _ _ ⟨rs,ds++[t],_,rfl,rfl,by simp [hp],by rw[<- hsp];simp,rfl⟩
end L3
namespace M
open L2 L3
local macro_rules | `(tactic| walk_at "c") => `(tactic| try dsimp only [mL,List.replicate,A_,VJ,Xf,List.nil_append,Wg,Xj,Option.getD_some])
local macro_rules | `(tactic| walk_at "n") => `(tactic| (obtain ⟨e⟩:=‹Shut (_ = _)›; subst e; try dsimp only))
local macro_rules | `(tactic| walk_at "") => do
 let ls <- ((nm0.splitOn " ").toArray.map String.toName).filterM fun n => do return !(<- Lean.Macro.resolveGlobalName n).isEmpty
 let ls <- ls.mapM fun n => let i:=Lean.mkIdent n; `(Lean.Parser.Tactic.simpLemma| $i:ident)
 `(tactic| ((try dsimp only [$[$ls:simpLemma],*]); try simp only [*,$[$ls:simpLemma],*]))
def lkP (ws:List Str) (p:Str × Str × Str):List (Str × Str):=if p.1∈ws then [(p.2.1,p.2.2),(p.2.2,p.2.1)] else []
def lkW (ws:List Str) (W:Wk):List (Str × Str):=W.orders++W.pairs.flatMap (lkP ws)
def lkR (ws:List Str) (W:Wk) (a b:Str):Prop:=(a,b)∈lkW ws W
theorem Hf (ws:List Str) (p:Str × Str × Str):(lkP ws p).length<=2:=by unfold lkP;split <;> simp
theorem pX (ws:List Str):∀ps:List (Str × Str × Str),(ps.flatMap (lkP ws)).length<=2*ps.length
 |[]=>m_ _
 |p::r=>by
  have h1:=Hf ws p
  have h2:=pX ws r
  simp only[List.flatMap_cons,b_,j_]
  omega
theorem wD {ws:List Str}{W:Wk}(h:WkOk W):(lkW ws W).length<=52:=by
 have h1:=pX ws W.pairs;have h2:=h.os;have h3:=h.ps;unfold lkW;rw[b_];omega
def dF (F:List Str):List (Str × T):=F.map fun z=>(z,T.bl true)
theorem j8 (z:Str):∀F:List Str,(aN z (dF F)).isSome=decide (z∈F)
 |[]=>rfl
 |y::r=>by
  have ih:=j8 z r
  unfold dF at ih ⊢
  simp only[A_,aN]
  by_cases h:y=z
  ·
   simp [h]
  ·
   rw[if_neg h,ih]
   have h':¬z=y:=fun e=>h e.symm
   simp [h']
theorem Ny (z:Str) (F:List Str):((dF F).any fun kv=>decide (kv.1=z))=decide (z∈F):=by
 unfold dF;rw[List.any_map];induction F with
 |nil=>rfl
 |cons y r ih =>
 simp only[X8,Function.comp_apply,ih];by_cases h:y=z
 ·simp [h]
 have h':¬z=y:=fun e=>h e.symm;simp [h,h']
theorem Nz {z:Str}{F:List Str}(h:z∉F):put3 z (T.bl true) (dF F)=dF (F++[z]):=by
 unfold put3;rw[Ny,C_ h,if_neg o_];unfold dF;rw[u_];rfl
theorem NB (F:List Str):(dF F).length=F.length:=d_ _
theorem NK (z:Str):[(z,T.bl true)]=dF [z]:=rfl
theorem Cu {x:T}{ts:List T}{H:Hp3}{R:List T->(Hp3->Prop)->Hp3->Prop}(hx:(∃a,x=.ref a/\H a=some (.lst ts))\/x=.tup ts)
  (h:∀still:Hp3->Prop,(still=cM\/∃a,still=cC a ts/\H a=some (.lst ts))->R ts still H):xR x H R:=by
 rcases hx with ⟨a,rfl,e⟩ | rfl
 ·rw[Ml,e,lA];exact h _ (.inr ⟨a,rfl,e⟩)
 rw[Mj];exact h _ (.inl rfl)
def fj (W:Wk) (t:Str):List Str:=(W.tasks.map (·.1)).filter fun x=>@decide (RT (lkR ["with"] W) t x/\RT (lkR ["with"] W) x t) (Classical.propDecidable _)
def iM (W:Wk) (t:Str):List Str:=(W.tasks.map (·.1)).filter fun x=>@decide (RT (lkR ["with"] W) x t/\¬RT (lkR ["with"] W) t x) (Classical.propDecidable _)
def swp (o:Str × Str):Str × Str:=(o.2,o.1)
theorem NP {L:List (Str × Str)}{a b:Str}:RT (fun x y=>(x,y)∈L.map swp) a b↔RT (fun x y=>(x,y)∈L) b a:=by
 have e:(fun x y=>(x,y)∈L.map swp)=fun x y:Str=>(y,x)∈L:=by funext x y;refine propext ⟨fun h=>?_,fun h=>k_.mpr ⟨(y,x),h,rfl⟩⟩;obtain⟨o,ho,eo⟩:=k_.mp h;obtain⟨o1,o2⟩:=o;cases eo;exact ho
 rw[e];exact Ha
def RW (H:Hp3) (x:T) (ss:List Str):Prop:=x=sT ss\/∃a,x=.ref a/\H a=some (.lst (ss.map T.str))
theorem Hg {neg:Bool}{y:Str}{x:T}{ss:List Str}{H:Hp3}{Q:VK3}(h:RW H x ss) (q:Q (.bl (if neg then !decide (y∈ss) else decide (y∈ss))) H):tW neg (.str y) x H Q:=by
 have e:dJ neg (T.str y) (ss.map T.str)=(if neg then !decide (y∈ss) else decide (y∈ss)):=by unfold dJ;have:(T.str y∈ss.map T.str)↔y∈ss:=gK j6;simp only[this]
 rcases h with rfl | ⟨a,rfl,ha⟩
 ·show tW neg (.str y) (.tup (ss.map T.str)) H Q;rw[Iw,e];exact⟨rfl,jb ss,q⟩
 rw[Iz,ha,IK,e];exact⟨rfl,jb ss,q⟩
def jT (ks:List Str) (k:Str):Bool:=decide (ks=[])||decide (k∈ks)
def je (W:Wk) (t:Str):List Str:=(W.pairs.filter fun p=>decide (p.1=("apart":Str))&&decide (p.2.1=t)).map (·.2.2)
def okT (W:Wk) (kind:Str) (D S:List Str) (t:Str × Int × List Str):Bool :=
 !decide (t.1∈D)&&jT t.2.2 kind&&@decide (∀x∈fj W t.1,x∈S) (Classical.propDecidable _)&&@decide (∀x∈iM W t.1,x∈S++D) (Classical.propDecidable _)&&@decide (∀x∈je W t.1,x∉S) (Classical.propDecidable _)
def dh (ts:List (Str × Int × List Str)) (S:List Str):Int:=((ts.filter fun t=>decide (t.1∈S)).map (·.2.1)).sum
def uA (W:Wk) (beat:Int) (kind:Str) (D S:List Str):Bool:=(W.tasks.all fun t=>!decide (t.1∈S)||okT W kind D S t)&&decide (dh W.tasks S<=beat)
def ruT (W:Wk) (ns:List Str) (t:Str × Int × List Str):T:=.tup [.int (numOf ns [t.1]),.int t.2.1,sT t.2.2,.int (numOf ns (fj W t.1)),.int (numOf ns (iM W t.1)),.int (numOf ns (je W t.1))]
theorem uB (A:List (Str × Int × List Str)) (t:Str × Int × List Str) (S:List Str):dh (A++[t]) S=dh A S+if t.1∈S then t.2.1 else 0:=by
 unfold dh;rw[WT,u_,List.sum_append];by_cases h:t.1∈S <;> simp [h]
theorem wF {ns A:List Str}{x:Str}(hx:x∈ns):(Builtin.bitAnd (numOf ns A) (numOf ns [x])=numOf ns [x])↔x∈A:=by
 rw[eQ];constructor
 ·intro h;exact h x hx (by simp)
 intro h y _ hy;rw[i_.mp hy];exact h
end M
namespace L3
open L2
section
variable {X:Cx}
def ppH (o:Option O3) (a:Addr) (H:Hp3) (Q:VK3):Prop:=match o with
 |some (.lst xs)=>oq (xs[xs.length - 1]?) fun t=>Q t (up3 H a (.lst xs.dropLast))
 |_=>False
def Cv:T->List T->Hp3->VK3->Prop:=fun x ts H Q=>match x,ts with
 |.ref a,[]=>ppH (H a) a H Q
 |_,_=>False
theorem Cw (a:Addr) (H:Hp3) (Q:VK3):Cv (.ref a) [] H Q=ppH (H a) a H Q:=rfl
theorem JD (xs:List T) (a:Addr) (H:Hp3) (Q:VK3):ppH (some (.lst xs)) a H Q=oq (xs[xs.length - 1]?) fun t=>Q t (up3 H a (.lst xs.dropLast)):=rfl
theorem Reps.dropLast {K:Frag}{H:Hp}{ts:List T}{vs:List V}(r:Reps K H ts vs):Reps K H ts.dropLast vs.dropLast:=by
 rw[List.dropLast_eq_take,List.dropLast_eq_take,r.length];exact r.take _
theorem NQ:tV X "list.pop" Cv:=by
 refine MtR.imp K3 ?_;rintro x xs H Q ⟨tx,ts,H3,Q3,rx,rs,sh,h,k⟩;cases tx with
 |ref a =>
  cases ts with
  |cons _ _=>exact h.elim
  |nil =>
  rw[Cw] at h;cases e:H3 a with
  |none=>rw[e] at h;exact h.elim
  |some o =>
  rw[e] at h;cases o with
  |lst ls =>
   rw[JD] at h;obtain⟨ys,hH,r⟩:=sh a _ e;cases e2:ls[ls.length - 1]? with
   |none=>rw[e2] at h;exact h.elim
   |some t =>
   rw[e2,iY] at h;obtain⟨v,hv,rv⟩:=r.get e2;refine⟨a,ys,v,rx.ref,rs.inv0,hH,by rw[<- r.length];exact hv,k _ _ _ _ (bF (by rw[hH];exact trivial)) (sh.wrL hH r.dropLast) (rv.mono (bF (by rw[hH];exact trivial))) h⟩
  |_=>exact h.elim
 |_=>exact h.elim
def eqR (a b:Addr) (o u:Option O3) (H:Hp3) (Q:VK3):Prop:=match o,u with
 |some (.rol xs),some (.lst ys)=>a≠b/\xs.all (pl 20)=true/\ys.all (pl 20)=true/\Q (.bl (decide (xs=ys))) H
 |_,_=>False
def JF:R3:=fun x y H Q=>match x,y with
 |.ref a,.ref b=>eqR a b (H a) (H b) H Q
 |_,_=>False
theorem JG (a b:Addr) (H:Hp3) (Q:VK3):JF (.ref a) (.ref b) H Q=eqR a b (H a) (H b) H Q:=rfl
theorem Cy (a b:Addr) (xs ys:List T) (H:Hp3) (Q:VK3):eqR a b (some (.rol xs)) (some (.lst ys)) H Q=(a≠b/\xs.all (pl 20)=true/\ys.all (pl 20)=true/\Q (.bl (decide (xs=ys))) H):=rfl
theorem NT (hu:X.A.units+30<cLine):dD X (compareOp .Eq) JF:=by
 intro pins s Z H x y v u Q I rv ru h;obtain⟨tx,ty,H3,Q3,rx,ry,sh,h,k⟩:=h;cases tx with
 |ref a =>
  cases ty with
  |ref b =>
   rw[JG] at h;cases e1:H3 a with
   |none=>rw[e1] at h;exact h.elim
   |some o =>
   cases e2:H3 b with
   |none=>rw[e1,e2] at h;cases o <;> exact h.elim
   |some o2 =>
   rw[e1,e2] at h;cases o with
   |rol ts =>
    cases o2 with
    |lst us =>
     rw[Cy] at h;obtain⟨xs,g1,r⟩:=sh.sqL (.inr e1);obtain⟨ys,g2,r'⟩:=sh b _ e2;cases rx.ref;cases ry.ref;cases rv;cases ru;obtain⟨its,rv1,ht,_⟩:=I.list (X:=X) g1;obtain⟨its',rv2,ht',_⟩:=I.list (X:=X) (.of g2);have hl:its.length=ts.length:=by rw[<- rv1.length,<- r.length]
     have hl':its'.length=us.length:=by rw[<- rv2.length,<- r'.length]
     by_cases hsz:ts.length=us.length
     ·refine SeqAt.eq_listAt (e:=fun j=>decide (ts[j]?=us[j]?)) ht.isList ht'.isList (by simp;omega) (by omega) (gF I hu h.2.1 h.2.2.1 r r' rv1 rv2) ⟨.bl _,H,I,rfl,?_⟩;have e:=gG (ts:=ts) (us:=us);rw[<- hsz,Nat.min_self,beq_self_eq_true,X_] at e;rw[l_,hl,e];exact k _ _ _ _ .refl sh .ofBl h.2.2.2
     refine SeqAt.eq_list_lengthsAt ht.isList ht'.isList (by simp;omega) (by omega) ⟨.bl false,H,I,rfl,?_⟩;have e:decide (ts=us)=false:=C_ fun z=>hsz (by rw[z]);have q:=h.2.2.2;rw[e] at q;exact k _ _ _ _ .refl sh .ofBl q
    |_=>exact h.elim
   |_=>cases o2 <;> exact h.elim
  |_=>exact h.elim
 |_=>exact h.elim
end
end L3
namespace M
open L2 L3
local macro_rules | `(tactic| walk_at "c") => `(tactic| try dsimp only [mL,List.replicate,A_,VJ,Xf,List.nil_append,Wg,Xj,Option.getD_some])
local macro_rules | `(tactic| walk_at "n") => `(tactic| (obtain ⟨e⟩:=‹Shut (_ = _)›; subst e; try dsimp only))
local macro_rules | `(tactic| walk_at "") => do
 let ls <- ((nm0.splitOn " ").toArray.map String.toName).filterM fun n => do return !(<- Lean.Macro.resolveGlobalName n).isEmpty
 let ls <- ls.mapM fun n => let i:=Lean.mkIdent n; `(Lean.Parser.Tactic.simpLemma| $i:ident)
 `(tactic| ((try dsimp only [$[$ls:simpLemma],*]); try simp only [*,$[$ls:simpLemma],*]))
structure Box (p:Prop):Prop where
 out:p
structure Cl (H:Hp3) (a:Addr):Prop where
 ex:∃ns:List Int,H a=some (.lst (ns.map T.int))/\ns.length<=504
structure Drw (a:Addr) (H H':Hp3):Prop where
 cl:Cl H' a
 off:∀b,b≠a->H' b=H b
theorem Cl.refl {a:Addr}{H:Hp3}(D:Cl H a):Drw a H H:=⟨D,fun _ _=>rfl⟩
theorem Cl.ne {a p:Addr}{H:Hp3}(D:Cl H a) (hp:H p=none):p≠a:=fun e=>by obtain⟨ns,h,_⟩:=D.ex;rw[<- e,hp] at h;cases h
theorem Cl.new {a p:Addr}{H:Hp3}{u:O3}(D:Cl H a) (h:p≠a):Cl (up3 H p u) a:=by
 obtain⟨ns,e,r⟩:=D.ex;exact⟨ns,by rw[aD (Ne.symm h)];exact e,r⟩
def Kep (a:Addr) (H H':Hp3):Prop:=∀b o,H b=some o->b≠a->H' b=some o
theorem Kep.refl {a:Addr}{H:Hp3}:Kep a H H:=fun _ _ h _=>h
theorem Kep.drw {a:Addr}{H H1 H2:Hp3}(x:Kep a H H1) (y:Drw a H1 H2):Kep a H H2:=fun b o h h1=>by rw[y.off b h1];exact x b o h h1
theorem Kep.new {a p:Addr}{H H1:Hp3}{u:O3}(x:Kep a H H1) (hp:H1 p=none):Kep a H (up3 H1 p u):=fun b o h h1=>by
 have:=x b o h h1;rw[aD (aX this hp)];exact this
theorem Kep.at {a p:Addr}{H H1:Hp3}{u:O3}(x:Kep a H H1) (hp:H p=none):Kep a H (up3 H1 p u):=fun b o h h1=>by
 rw[aD (aX h hp)];exact x b o h h1
theorem Kep.sub {a:Addr}{H H1 H2:Hp3}(x:Kep a H H1) (s:Sub3 H1 H2):Kep a H H2:=fun b o h h1=>s b o (x b o h h1)
theorem eU {a:Addr}{H H':Hp3}{Q:VK3}{v:T}(D:Cl H' a) (k:Kep a H H') (q:∀H'',Drw a H H''->Q v H''):Fin3 Q v H':=by
 refine⟨fun b=>if b=a then H' b else H b,fun b o hb=>?_,q _ ⟨?_,fun b h1=>?_⟩⟩
 ·by_cases h:b=a
  ·simp only[h,if_true] at hb ⊢;exact hb
  simp only[h,U7] at hb;exact k b o hb h
 ·obtain⟨ns,e,r⟩:=D.ex;exact⟨ns,by simp only[if_true];exact e,r⟩
 simp only[h1,U7]
structure Wt (c:Addr) (H0 H:Hp3) (fs:List (Addr × O3)):Prop where
 cl:Cl H c
 kp:Kep c H0 H
 at':∀p∈fs,H p.1=some p.2/\p.1≠c
theorem Wt.drw {c:Addr}{H0 H H':Hp3}{fs:List (Addr × O3)}(w:Wt c H0 H fs) (d:Drw c H H'):Wt c H0 H' fs:=⟨d.cl,w.kp.drw d,fun p hp=>⟨by rw[d.off _ (w.at' p hp).2];exact (w.at' p hp).1,(w.at' p hp).2⟩⟩
theorem Wt.new {c p:Addr}{H0 H:Hp3}{fs:List (Addr × O3)}{o:O3}(w:Wt c H0 H fs) (hp:H p=none):Wt c H0 (up3 H p o) ((p,o)::fs):=⟨w.cl.new (w.cl.ne hp),w.kp.new hp,fun q hq=>by
 rcases p_.mp hq with rfl | hq
 ·exact⟨aC,w.cl.ne hp⟩
 exact⟨by rw[aD (aX (w.at' q hq).1 hp)];exact (w.at' q hq).1,(w.at' q hq).2⟩⟩
theorem Wt.hd {c p:Addr}{H0 H:Hp3}{o:O3}{fs:List (Addr × O3)}(w:Wt c H0 H ((p,o)::fs)):H p=some o:=(w.at' (p,o) t_).1
theorem Wt.tl {c:Addr}{q:Addr × O3}{H0 H:Hp3}{fs:List (Addr × O3)}(w:Wt c H0 H (q::fs)):Wt c H0 H fs:=⟨w.cl,w.kp,fun p hp=>w.at' p (v_ _ hp)⟩
theorem Wt.set {c p:Addr}{H0 H:Hp3}{o:O3}{fs:List (Addr × O3)}(w:Wt c H0 H ((p,o)::fs)) (hp0:H0 p=none) (hd:∀q∈fs,q.1≠p) (o':O3):Wt c H0 (up3 H p o') ((p,o')::fs) :=
 have hc:=(w.at' (p,o) t_).2
 ⟨w.cl.new hc,w.kp.at hp0,fun q hq=>by
  rcases p_.mp hq with rfl | hq
  ·
   exact⟨aC,hc⟩
  ·
   exact⟨by rw[aD (hd q hq)];exact (w.at' q (v_ _ hq)).1,(w.at' q (v_ _ hq)).2⟩⟩
theorem Wt.fresh {c p:Addr}{H0 H:Hp3}{fs:List (Addr × O3)}(w:Wt c H0 H fs) (hp:H p=none):H0 p=none:=by
 cases e:H0 p with
 |none=>rfl
 |some o=>rw[w.kp p o e (w.cl.ne hp)] at hp;cases hp
def JH:Sp3:=fun ts H Q=>∃(a:Addr) (ns:List Int),ts=[.ref a]/\H a=some (.rol (ns.map T.int))/\ns.length<=63/\∀(p:Addr) (H':Hp3),Sub3 H H'->H p=none->Cl H' p->Q (.ref p) H'
def jf:Sp3:=fun ts H Q=>∃(d:Addr) (m:Int),ts=[.ref d,.int m]/\0<m/\Cl H d/\∀(n:Int) (H':Hp3),0<=n->n<m->Drw d H H'->Q (.int n) H'
def RX:Sp3:=fun ts H Q=>∃(d:Addr) (m:Int),ts=[.ref d,.int m]/\0<m/\Cl H d/\∀(n:Int) (H':Hp3),0<=n->n<m->Drw d H H'->Q (.int n) H'
theorem fB {d p:Addr}{H H':Hp3}{Q:VK3}{o:O3}(D:Cl H' d) (k:Kep d H H') (hp:H' p=some o) (h0:H p=none) (hd:p≠d) (q:∀H1,Drw d H H1->H1 p=none->Q (.ref p) (up3 H1 p o)):Fin3 Q (.ref p) H':=by
 refine⟨up3 (fun b=>if b=d then H' b else H b) p o,fun b u hb=>?_,q _ ⟨?_,fun b h1=>?_⟩ ?_⟩
 ·by_cases e:b=p
  ·subst e;rw[aC] at hb;rw[hp];exact hb
  rw[aD e] at hb;by_cases h:b=d
  ·simp only[h,if_true] at hb ⊢;exact hb
  simp only[h,U7] at hb;exact k b u hb h
 ·obtain⟨ns,e,r⟩:=D.ex;exact⟨ns,by simp only[if_true];exact e,r⟩
 ·simp only[h1,U7]
 simp only[hd,U7];exact h0
theorem Wt.swap {c p q:Addr}{H0 H:Hp3}{o u:O3}(w:Wt c H0 H [(p,o),(q,u)]):Wt c H0 H [(q,u),(p,o)]:=⟨w.cl,w.kp,fun x hx=>w.at' x (by
 rcases p_.mp hx with rfl | hx
 ·
  simp
 ·
  rw[i_.mp hx];simp)⟩
def Hh:Sp3:=fun ts H Q=>∃(d a:Addr) (xs:List T),ts=[.ref d,.ref a]/\a≠d/\H a=some (.lst xs)/\xs.all (pl 20)=true/\xs.length<=60/\Cl H d/\∀(ys:List T) (H1:Hp3) (p:Addr),ys.Perm xs->Drw d H H1->H1 p=none->Q (.ref p) (up3 H1 p (.lst ys))
theorem Hi {α:Type}{xs:List α}{j:Nat}(h:j<xs.length):(xs[j]::xs.eraseIdx j).Perm xs:=by
 have e:xs=xs.take j++xs[j]::xs.drop (j+1):=by rw[<- Ws h];exact (WX j xs).symm
 rw[Xb];exact List.perm_middle.symm.trans (by rw[<- e])
theorem NZ {xs:List T}(h:xs.all (pl 20)=true) (j:Nat):(xs.eraseIdx j).all (pl 20)=true:=by
 rw[U_] at h ⊢;exact fun t ht=>h t (List.mem_of_mem_eraseIdx ht)
theorem gO (n:Nat):cZ 0 n=(List.range n).map fun (i:Nat)=>T.int (i:Int):=by
 unfold cZ;exact VR fun i _=>by rw[Int.zero_add]
theorem di {H H':Hp3}{p:Addr}(s:Sub3 H H') (hp:H' p=none):H p=none:=by
 cases e:H p with
 |none=>rfl
 |some o=>rw[s _ _ e] at hp;cases hp
theorem Cz (ns:List Int) (hl:ns.length<=63):∃cs:List Int,1<=cs.length/\cs.length<=63/\cI (ns.map T.int) none (some 63)++(List.replicate (if decide (ns.map T.int=[])=true then (1:Int) else 0).toNat [T.int 0]).flatten=cs.map T.int:=by
 have e:cI (ns.map T.int) none (some 63)=ns.map T.int:=by rw[show (63:Int)=((63:Nat):Int) from rfl,tX,WM (by rw[d_];exact hl)]
 rw[e];cases ns with
 |nil=>exact⟨[0],by decide,by decide,rfl⟩
 |cons n r=>exact⟨n::r,by simp,hl,by simp⟩
structure Nb (H0 H:Hp3) (pc pf:Addr) (cs fs:List Int):Prop where
 sb:Sub3 H0 H
 c:H pc=some (.lst (cs.map T.int))
 f:H pf=some (.lst (fs.map T.int))
 f0:H0 pf=none
 ne:pc≠pf
theorem Nb.new {H0 H:Hp3}{pc pf p:Addr}{cs fs:List Int}{o:O3}(x:Nb H0 H pc pf cs fs) (hp:H p=none):Nb H0 (up3 H p o) pc pf cs fs :=
 ⟨x.sb.trans (Sub3.new hp),by rw[aD (aX x.c hp)];exact x.c,by rw[aD (aX x.f hp)];exact x.f,x.f0,x.ne⟩
theorem Nb.put {H0 H:Hp3}{pc pf:Addr}{cs fs:List Int}(x:Nb H0 H pc pf cs fs) (z:Int):Nb H0 (up3 H pf (.lst (fs.map T.int++[T.int z]))) pc pf cs (fs++[z]) :=
 ⟨fun a u e=>by rw[aD (aX e x.f0)];exact x.sb a u e,by rw[aD x.ne];exact x.c,by rw[aC,u_];rfl,x.f0,x.ne⟩
theorem CG (ns:List Int) (n:Int):((ns++[n]).map T.int)[((ns++[n]).map T.int).length - 1]?=some (T.int n):=by simp
theorem yw (ns:List Int) (n:Int):((ns++[n]).map T.int).dropLast=ns.map T.int:=by simp
def RZ:Sp3:=fun ts H Q=>∃(d:Addr) (m:Nat),ts=[.ref d,.int (m:Int)]/\m<=8/\Cl H d/\∀(ls:List Int) (H1:Hp3) (p:Addr),ls.length=m->(∀l∈ls,1<=l/\l<10^60)->Drw d H H1->H1 p=none->Q (.ref p) (up3 H1 p (.lst (ls.map T.int)))
theorem t60:(10:Int)^Int.toNat 60=1000000000000000000000000000000000000000000000000000000000000:=by decide
theorem t58:(10:Int)^Int.toNat 58=10000000000000000000000000000000000000000000000000000000000:=by decide
theorem Sd:(10:Int)^60=1000000000000000000000000000000000000000000000000000000000000:=by decide
theorem pig:∀(ws:List Str) (f:Nat->Str),(∀i j,i<=ws.length->j<=ws.length->f i=f j->i=j)->(∀i,i<=ws.length->f i∈ws)->False
 |[],f,_,h=>by have:=h 0 (m_ _);simp at this
 |w::ws,f,inj,h=>by
  rw[j_] at inj h
  by_cases q:∃j,j<=ws.length+1/\f j=w
  ·
   obtain⟨j,hj,e⟩:=q
   refine pig ws (fun i=>if i<j then f i else f (i+1)) (fun a b ha hb hab=>?_) (fun i hi=>?_)
   ·
    try dsimp only at hab
    split at hab <;> split at hab
    ·
     exact inj a b (by omega) (by omega) hab
    ·
     have:=inj a (b+1) (by omega) (by omega) hab;omega
    ·
     have:=inj (a+1) b (by omega) (by omega) hab;omega
    ·
     have:=inj (a+1) (b+1) (by omega) (by omega) hab;omega
   ·
    show (if i<j then f i else f (i+1))∈ws
    split
    ·
     exact (p_.mp (h i (by omega))).resolve_left fun e2=>by have:=inj i j (by omega) hj (e2.trans e.symm);omega
    ·
     exact (p_.mp (h (i+1) (by omega))).resolve_left fun e2=>by have:=inj (i+1) j (by omega) hj (e2.trans e.symm);omega
  ·
   exact pig ws f (fun a b ha hb=>inj a b (by omega) (by omega)) fun i hi=>(p_.mp (h i (by omega))).resolve_left fun e=>q ⟨i,by omega,e⟩
def dg:Nat->Int->List Nat
 |0,_=>[]
 |n+1,l=>(97+(l%26).toNat)::dg n (l / 26)
theorem uC:∀(n:Nat) (l:Int),(dg n l).length=n
 |0,_=>rfl
 |n+1,l=>by rw[dg,j_,uC n]
theorem JK:∀(n:Nat) (l:Int),∀c∈dg n l,97<=c/\c<=122
 |0,_,_,h=>nomatch h
 |n+1,l,c,h=>by
  rw[dg] at h
  have:=VL l (show (0:Int)<26 by decide)
  rcases p_.mp h with rfl | h
  ·
   omega
  ·
   exact JK n _ c h
theorem N5 {n:Nat}{num:Int}{i j:Nat}(hi:i<=25) (hj:j<=25) (h:mkS (dg (n+1) (num+i))=mkS (dg (n+1) (num+j))):i=j:=by
 have e:=wC h;rw[dg,dg,WF] at e;have e1:=e.1;have a1:=VM (num+i) (show (26:Int)≠0 by decide);have a2:=VM (num+j) (show (26:Int)≠0 by decide);omega
def Sg:Sp3:=fun ts H Q=>∃(sz:Nat) (num:Int) (a:Addr) (ws:List Str),ts=[.int (sz:Int),.int num,.ref a]/\1<=sz/\sz<=8/\H a=some (.lst (ws.map T.str))/\ws.length<=8/\∀x,isNm x->x∉ws->Q (.str x) H
def nmK (l:List Nat) (a s i:Nat):Str:=mkS (l.take a++[97+(((s:Int)+(i:Int))%26).toNat]++l.drop (a+1))
theorem N6 {l:List Nat}{a s i:Nat}(h8:l.length<=8) (ha:a<l.length) (az:∀c∈l,97<=c/\c<=122):isNm (nmK l a s i):=by
 have hlen:(l.take a++[97+(((s:Int)+(i:Int))%26).toNat]++l.drop (a+1)).length=l.length:=by rw[b_,b_,Vv,V6,G_];omega
 refine JC (by rw[hlen];omega) (by rw[hlen];exact h8) fun c hc=>?_;rcases D_.mp hc with hc | hc
 ·rcases D_.mp hc with hc | hc
  ·exact az c (List.mem_of_mem_take hc)
  rw[i_.mp hc];have:=VL ((s:Int)+(i:Int)) (show (0:Int)<26 by decide);omega
 exact az c (List.mem_of_mem_drop hc)
theorem Hj {l:List Nat}{a s i j:Nat}(hi:i<26) (hj:j<26) (h:nmK l a s i=nmK l a s j):i=j:=by
 have e:=wC h;rw[Vq,Vq,List.append_cancel_left_eq,List.singleton_append,List.singleton_append,WF] at e;have e1:=e.1;have a1:=VM ((s:Int)+(i:Int)) (show (26:Int)≠0 by decide);have a2:=VM ((s:Int)+(j:Int)) (show (26:Int)≠0 by decide);omega
theorem Hk {l:List Nat}{a s m:Nat}(h8:l.length<=8) (ha:a<l.length) (az:∀c∈l,97<=c/\c<=122) (hm:m<=8):Nms ((List.range m).map (nmK l a s)):=by
 refine⟨fun x hx=>?_,?_⟩
 ·obtain⟨i,_,rfl⟩:=k_.mp hx;exact N6 h8 ha az
 rw[List.Nodup,Xz];refine Xa (fun {x y} hx hy hne he=>?_) (List.nodup_range (n:=m));have h1:=I_.mp hx;have h2:=I_.mp hy;exact hne (Hj (by omega) (by omega) he)
def N7:Sp3:=fun ts H Q=>∃(d:Addr) (m:Nat),ts=[.ref d,.int (m:Int)]/\1<=m/\m<=8/\Cl H d/\∀(ws:List Str) (H1:Hp3) (p:Addr),ws.length=m->Nms ws->Drw d H H1->H1 p=none->Q (.ref p) (up3 H1 p (.lst (ws.map T.str)))
structure Tb (H0 H:Hp3) (p:Addr) (m:Nat) (as:List Addr):Prop where
 sb:Sub3 H0 H
 l:as.length=m
 t:H p=some (.lst (as.map T.ref))
 r:∀a∈as,∃bs:List Bool,bs.length=m/\H a=some (.lst (bs.map T.bl))
 np:p∉as
 f0:H0 p=none
 fa:∀a∈as,H0 a=none
structure Rws (H0 H:Hp3) (m:Nat) (as:List Addr):Prop where
 sb:Sub3 H0 H
 r:∀a∈as,∃bs:List Bool,bs.length=m/\H a=some (.lst (bs.map T.bl))
 fa:∀a∈as,H0 a=none
theorem Rws.grow {H0 H:Hp3}{m:Nat}{as:List Addr}{q:Addr}{bs:List Bool}(x:Rws H0 H m as) (hb:bs.length=m) (hq:H q=none):Rws H0 (up3 H q (.lst (bs.map T.bl))) m (as++[q]):=by
 refine⟨x.sb.trans (Sub3.new hq),fun a ha=>?_,fun a ha=>?_⟩
 ·rcases D_.mp ha with h | h
  ·obtain⟨cs,h1,h2⟩:=x.r a h;exact⟨cs,h1,by rw[aD (aX h2 hq)];exact h2⟩
  rw[i_.mp h];exact⟨bs,hb,aC⟩
 rcases D_.mp ha with h | h
 ·exact x.fa a h
 rw[i_.mp h];exact di x.sb hq
theorem Tb.put {H0 H:Hp3}{p a:Addr}{m:Nat}{as:List Addr}{bs:List Bool}(x:Tb H0 H p m as) (ha:a∈as) (hb:bs.length=m):Tb H0 (up3 H a (.lst (bs.map T.bl))) p m as:=by
 have hpa:p≠a:=fun e=>x.np (e▸ha);refine⟨fun b u e=>by rw[aD (aX e (x.fa a ha))];exact x.sb b u e,x.l,by rw[aD hpa];exact x.t,fun b hb'=>?_,x.np,x.f0,x.fa⟩;by_cases e:b=a
 ·subst e;exact⟨bs,hb,aC⟩
 obtain⟨cs,h1,h2⟩:=x.r b hb';exact⟨cs,h1,by rw[aD e];exact h2⟩
theorem Tb.at' {H0 H:Hp3}{p:Addr}{m:Nat}{as:List Addr}(x:Tb H0 H p m as) {i:Nat}(hi:i<m):∃(a:Addr) (bs:List Bool),atI (as.map T.ref) (i:Int)=some (.ref a)/\a∈as/\bs.length=m/\H a=some (.lst (bs.map T.bl)):=by
 have hl:i<as.length:=by rw[x.l];exact hi
 obtain⟨bs,h1,h2⟩:=x.r _ (Vh hl);exact⟨as[i],bs,bC (by rw[z_,g_ hl];rfl),Vh hl,h1,h2⟩
theorem lO {bs:List Bool}{j:Nat}(h:j<bs.length):∃b,atI (bs.map T.bl) (j:Int)=some (.bl b):=⟨bs[j],bC (by rw[z_,g_ h];rfl)⟩
def Sh:Sp3:=fun ts H Q=>∃(m:Nat) (a:Addr) (es:List T),ts=[.int (m:Int),.ref a]/\m<=8/\H a=some (.lst es)/\es.all (pl 20)=true/\∀(p:Addr) (as:List Addr) (H':Hp3),Tb H H' p m as->Q (.ref p) H'
def bw (b:Bool):Str:=if b then "with" else "apart"
def pT3 (x:Bool × Nat × Nat):T:=.tup [.str (bw x.1),.int (x.2.1:Int),.int (x.2.2:Int)]
def row2 (b:Bool) (m i:Nat):List (Bool × Nat × Nat):=(List.range m).map fun j=>(b,i,j)
def enm (b:Bool) (m:Nat) (A:List Nat):List (Bool × Nat × Nat):=A.flatMap (row2 b m)
def full (m:Nat):List (Bool × Nat × Nat):=enm true m (List.range m)++enm false m (List.range m)
theorem Hl:∀m:_root_.Fin 9,(full m.val).Nodup:=by decide +kernel
theorem rG (b:Bool) (m:Nat) (A:List Nat) (i:Nat):enm b m (A++[i])=enm b m A++row2 b m i:=by simp [enm]
structure Tq (d:Addr) (H0 H:Hp3) (p:Addr) (m:Nat) (as:List Addr):Prop where
 l:as.length=m
 t:H p=some (.lst (as.map T.ref))
 r:∀a∈as,∃bs:List Bool,bs.length=m/\H a=some (.lst (bs.map T.bl))
 f0:H0 p=none
 fa:∀a∈as,H0 a=none
 nd:p≠d
 na:∀a∈as,a≠d
theorem Tq.drw {d:Addr}{H0 H H':Hp3}{p:Addr}{m:Nat}{as:List Addr}(x:Tq d H0 H p m as) (D:Drw d H H'):Tq d H0 H' p m as :=
 ⟨x.l,by rw[D.off _ x.nd];exact x.t,fun a ha=>by obtain⟨bs,h1,h2⟩:=x.r a ha;exact⟨bs,h1,by rw[D.off _ (x.na a ha)];exact h2⟩,x.f0,x.fa,x.nd,x.na⟩
theorem Tq.new {d q:Addr}{H0 H:Hp3}{p:Addr}{m:Nat}{as:List Addr}{o:O3}(x:Tq d H0 H p m as) (hq:H q=none):Tq d H0 (up3 H q o) p m as :=
 ⟨x.l,by rw[aD (aX x.t hq)];exact x.t,fun a ha=>by obtain⟨bs,h1,h2⟩:=x.r a ha;exact⟨bs,h1,by rw[aD (aX h2 hq)];exact h2⟩,x.f0,x.fa,x.nd,x.na⟩
theorem Tq.at' {d:Addr}{H0 H:Hp3}{p:Addr}{m:Nat}{as:List Addr}(x:Tq d H0 H p m as) {i:Nat}(hi:i<m):∃(a:Addr) (bs:List Bool),atI (as.map T.ref) (i:Int)=some (.ref a)/\a∈as/\bs.length=m/\H a=some (.lst (bs.map T.bl)):=by
 have hl:i<as.length:=by rw[x.l];exact hi
 obtain⟨bs,h1,h2⟩:=x.r _ (Vh hl);exact⟨as[i],bs,bC (by rw[z_,g_ hl];rfl),Vh hl,h1,h2⟩
structure PI (d:Addr) (H0 H:Hp3) (pp pe a:Addr) (ws:List Str) (ps:List (Bool × Nat × Nat)) (es:List T):Prop where
 w:Wt d H0 H [(pp,.lst (ps.map pT3)),(pe,.lst es),(a,.lst (ws.map T.str))]
 ne:pe≠pp
 na:a≠pp
 l12:ps.length<=12
 ea:es.all (pl 20)=true
 el:es.length<=28+2*ps.length
 ok:∀x∈ps,x.2.1≠x.2.2/\x.2.1<ws.length/\x.2.2<ws.length
theorem PI.drw {d:Addr}{H0 H H':Hp3}{pp pe a:Addr}{ws:List Str}{ps:List (Bool × Nat × Nat)}{es:List T}(x:PI d H0 H pp pe a ws ps es) (D:Drw d H H'):PI d H0 H' pp pe a ws ps es:={ x with w:=x.w.drw D}
theorem PI.add {d:Addr}{H0 H:Hp3}{pp pe a q:Addr}{ws:List Str}{ps:List (Bool × Nat × Nat)}{es fs:List T}{y:Bool × Nat × Nat}(x:PI d H0 H pp pe a ws ps es) (p0:H0 pp=none) (h12:ps.length<12) (hy:y.2.1≠y.2.2/\y.2.1<ws.length/\y.2.2<ws.length) {o:O3}{q0:Addr}
  (hq0:up3 H pp (.lst ((ps++[y]).map pT3)) q0=none) (hq:up3 (up3 H pp (.lst ((ps++[y]).map pT3))) q0 o q=none) (fa:fs.all (pl 20)=true) (fl:fs.length=2):PI d H0 (up3 (up3 (up3 H pp (.lst ((ps++[y]).map pT3))) q0 o) q (.lst (es++fs))) pp q a ws (ps++[y]) (es++fs):=by
 have w1:=x.w.set p0 (fun r hr=>by
  rcases p_.mp hr with rfl | hr
  ·
   exact x.ne
  ·
   rw[i_.mp hr];exact x.na) (.lst ((ps++[y]).map pT3))
 have w2:=(w1.new (o:=o) hq0).tl;have w3:=w2.new (o:=.lst (es++fs)) hq;refine⟨⟨w3.cl,w3.kp,fun r hr=>w3.at' r ?_⟩,Ne.symm (aX w2.hd hq),x.na,by rw[b_,G_];omega,by rw[List.all_append,x.ea,fa];rfl,by have:=x.el;rw[b_,b_,G_,fl];omega,fun z hz=>?_⟩
 ·simp only[p_,VP,Yc] at hr ⊢;rcases hr with h | h | h
  ·exact .inr (.inl h)
  ·exact .inl h
  exact .inr (.inr (.inr h))
 rcases D_.mp hz with h | h
 ·exact x.ok z h
 rw[i_.mp h];exact hy
theorem PI.add1 {d:Addr}{H0 H:Hp3}{pp pe a:Addr}{ws:List Str}{ps:List (Bool × Nat × Nat)}{es:List T}{y:Bool × Nat × Nat}(x:PI d H0 H pp pe a ws ps es) (p0:H0 pp=none) (h12:ps.length<12) (hy:y.2.1≠y.2.2/\y.2.1<ws.length/\y.2.2<ws.length):PI d H0 (up3 H pp (.lst ((ps++[y]).map pT3))) pp pe a ws (ps++[y]) es:=by
 refine⟨x.w.set p0 (fun r hr=>by
  rcases p_.mp hr with rfl | hr
  ·
   exact x.ne
  ·
   rw[i_.mp hr];exact x.na) _,x.ne,x.na,by rw[b_,G_];omega,x.ea,by have:=x.el;rw[b_,G_];omega,fun z hz=>?_⟩
 rcases D_.mp hz with h | h
 ·exact x.ok z h
 rw[i_.mp h];exact hy
theorem PI.sub {d:Addr}{H0 H H':Hp3}{pp pe a:Addr}{ws:List Str}{ps:List (Bool × Nat × Nat)}{es:List T}(x:PI d H0 H pp pe a ws ps es) (s:Sub3 H H'):PI d H0 H' pp pe a ws ps es:=by
 refine { x with w:=⟨?_,x.w.kp.sub s,fun q hq=>⟨s _ _ (x.w.at' q hq).1,(x.w.at' q hq).2⟩⟩};obtain⟨ns,h1,h2⟩:=x.w.cl.ex;exact⟨ns,s _ _ h1,h2⟩
theorem Tb.tq {d:Addr}{H0 H H':Hp3}{p:Addr}{m:Nat}{as:List Addr}(x:Tb H H' p m as) (c:Cl H d) (k:Kep d H0 H):Tq d H0 H' p m as:=by
 have nd:∀b,H b=none->b≠d:=fun b hb=>c.ne hb;have f0:∀b,H b=none->H0 b=none:=fun b hb=>by
  cases e:H0 b with
  |none=>rfl
  |some o=>rw[k b o e (nd b hb)] at hb;cases hb
 exact⟨x.l,x.t,x.r,f0 _ x.f0,fun a ha=>f0 a (x.fa a ha),nd _ x.f0,fun a ha=>nd a (x.fa a ha)⟩
theorem Tq.set {d q:Addr}{H0 H:Hp3}{p:Addr}{m:Nat}{as:List Addr}{o:O3}(x:Tq d H0 H p m as) (h1:p≠q) (h2:∀a∈as,a≠q):Tq d H0 (up3 H q o) p m as :=
 ⟨x.l,by rw[aD h1];exact x.t,fun a ha=>by obtain⟨bs,g1,g2⟩:=x.r a ha;exact⟨bs,g1,by rw[aD (h2 a ha)];exact g2⟩,x.f0,x.fa,x.nd,x.na⟩
theorem dZ {α β:Type}{f:α->β}:∀{ys xs:List β},ys.Perm xs->∀l:List α,xs=l.map f->∃l':List α,l'.Perm l/\ys=l'.map f:=by
 intro ys xs h;induction h with
 |nil=>intro l e;rw[WK.mp e.symm];exact⟨[],XR _,rfl⟩
 |cons x _ ih =>
  intro l e;cases l with
  |nil=>cases e
  |cons a r =>
  rw[A_,WF] at e;obtain⟨l',h1,h2⟩:=ih r e.2;exact⟨a::l',h1.cons a,by rw[A_,h2,e.1]⟩
 |swap x y t =>
  intro l e;cases l with
  |nil=>cases e
  |cons a r =>
  cases r with
  |nil=>rw[A_,WF] at e;cases e.2
  |cons b r =>
  rw[A_,A_,WF,WF] at e;exact⟨b::a::r,List.Perm.swap a b r,by rw[A_,A_,<- e.1,<- e.2.1,<- e.2.2]⟩
 |trans _ _ ih1 ih2 =>
 intro l e;obtain⟨l2,p2,e2⟩:=ih2 l e;obtain⟨l1,p1,e1⟩:=ih1 l2 e2;exact⟨l1,p1.trans p2,e1⟩
def nmP (ws:List Str) (x:Bool × Nat × Nat):Str × Str × Str:=(bw x.1,ws.getD x.2.1 "",ws.getD x.2.2 "")
theorem fC {ws:List Str}(h:ws.Nodup) {i j:Nat}(hi:i<ws.length) (hj:j<ws.length) (e:ws.getD i ""=ws.getD j ""):i=j:=by
 rw[E_,E_,g_ hi,g_ hj] at e;have e':ws[i]=ws[j]:=e;have pw:=VH.mp h;rcases Nat.lt_trichotomy i j with q | q | q
 ·exact absurd e' (pw i j hi hj q)
 ·exact q
 exact absurd e'.symm (pw j i hj hi q)
theorem N8 {ws:List Str}(h:ws.Nodup) {ps:List (Bool × Nat × Nat)}(nd:ps.Nodup) (ok:∀x∈ps,x.2.1≠x.2.2/\x.2.1<ws.length/\x.2.2<ws.length):(ps.map (nmP ws)).Nodup:=by
 rw[List.Nodup,Xz];refine Xa (fun {x y} hx hy hne he=>hne ?_) nd;have ox:=ok x hx;have oy:=ok y hy;obtain⟨b1,i1,j1⟩:=x;obtain⟨b2,i2,j2⟩:=y;simp only[nmP,Prod.mk.injEq] at he;have e1:i1=i2:=fC h ox.2.1 oy.2.1 he.2.1;have e2:j1=j2:=fC h ox.2.2 oy.2.2 he.2.2;have e3:b1=b2:=by have:=he.1;cases b1 <;> cases b2 <;> first | rfl | (exact absurd this (by decide +kernel))
 rw[e1,e2,e3]
theorem Oa {ws:List Str}(h:ws.Nodup) {x:Bool × Nat × Nat}(o:x.2.1≠x.2.2/\x.2.1<ws.length/\x.2.2<ws.length):((nmP ws x).1="with"\/(nmP ws x).1="apart")/\(nmP ws x).2.1≠(nmP ws x).2.2/\(nmP ws x).2.1∈ws/\(nmP ws x).2.2∈ws:=by
 have mem:∀i,i<ws.length->ws.getD i ""∈ws:=fun i hi=>by rw[E_,g_ hi];exact Vh hi
 refine⟨?_,fun e=>o.1 (fC h o.2.1 o.2.2 e),mem _ o.2.1,mem _ o.2.2⟩;obtain⟨b,i,j⟩:=x;cases b
 ·exact .inr rfl
 exact .inl rfl
theorem getD_at {ws:List Str}{i:Nat}(h:i<ws.length):atI (ws.map T.str) (i:Int)=some (.str (ws.getD i "")):=bC (by rw[z_,g_ h,E_,g_ h];rfl)
theorem uD {α:Type}{ps E:List α}{y:α}(h:ps.Sublist E):(ps++[y]).Sublist (E++[y]):=h.append (W7 _)
theorem uE {α:Type}{ps E:List α}{y:α}(h:ps.Sublist E):ps.Sublist (E++[y]):=h.trans (List.sublist_append_left _ _)
def Sq:Sp3:=fun ts H Q=>∃(d a o:Addr) (ws:List Str) (es:List T) (lots:Int),ts=[.ref d,.ref a,.ref o,.int lots]/\1<=lots/\lots<=100/\a≠d/\o≠d/\H a=some (.lst (ws.map T.str))/\Nms ws/\ws.length<=8/\H o=some (.lst es)/\es.all (pl 20)=true/\es.length<=28/\Cl H d /\
 ∀(prs:List (Str × Str × Str)) (p:Addr) (as:List Addr) (H':Hp3),prs.length<=12->prs.Nodup->(∀x∈prs,(x.1="with"\/x.1="apart")/\x.2.1≠x.2.2/\x.2.1∈ws/\x.2.2∈ws)->Cl H' d->Kep d H H'->Tq d H H' p ws.length as->Q (.tup [.tup (prs.map prT),.ref p]) H'
theorem Ss (ps:List (Bool × Nat × Nat)):(ps.map pT3).all (pl 20)=true:=by rw[U_];intro t ht;obtain⟨x,_,rfl⟩:=k_.mp ht;rfl
def Su:Sp3:=fun ts H Q=>∃(d a:Addr) (cm:Str) (ws:List Str),ts=[.ref d,.str cm,.ref a]/\a≠d/\H a=some (.lst (ws.map T.str))/\Nms ws/\ws.length<=8/\isNm cm/\Cl H d/\∀(ks:List Str) (H':Hp3),Nms ks->ks.length<=4->Drw d H H'->Q (.tup (ks.map T.str)) H'
theorem Nms.ins {ws:List Str}{i:Nat}{x:Str}(h:Nms ws) (hx:isNm x) (hn:x∉ws):Nms (ws.take i++x::ws.drop i):=by
 have hp:(ws.take i++x::ws.drop i).Perm (x::ws):=List.perm_middle.trans (by rw[WX]);refine⟨fun y hy=>?_,hp.nodup_iff.mpr (Vu.mpr ⟨hn,h.nd⟩)⟩;rcases p_.mp (hp.mem_iff.mp hy) with rfl | h'
 ·exact hx
 exact h.nm y h'
theorem CJ {ws:List Str}{i:Nat}{x y:Str}(h:y∈ws.take i++x::ws.drop i):y=x\/y∈ws:=by
 have hp:(ws.take i++x::ws.drop i).Perm (x::ws):=List.perm_middle.trans (by rw[WX]);exact p_.mp (hp.mem_iff.mp h)
theorem rH {m i:Nat}{A B:List Nat}(e:List.range m=A++i::B):i=A.length:=by
 have h:=Q_ (fun l=>l[A.length]?) e;simp only[R_ (m_ _),Nat.sub_self,Wg] at h;have hl:A.length<m:=by have:=Q_ List.length e;simp only[n_,b_,j_] at this;omega
 rw[Vz hl] at h;exact (U6 h).symm
theorem oH {m:Nat}{A B:List Nat}(e:List.range m=A++B):A=List.range A.length:=by
 have h:=Q_ (List.take A.length) e;rw[List.take_left',List.take_range] at h
 ·have hl:A.length<=m:=by have:=Q_ List.length e;simp only[n_,b_] at this;omega
  rw[Nat.min_eq_left hl] at h;exact h.symm
 rfl
structure KI (d:Addr) (H3 H0 H:Hp3) (pf pc r a t:Addr) (row ws:List Str) (m:Nat) (as:List Addr) (cs:List Str) (ks:List (List Str)):Prop where
 w:Wt d H3 H [(pf,.lst (ks.map sT)),(pc,.lst (cs.map T.str)),(r,.lst (row.map T.str)),(a,.lst (ws.map T.str))]
 tq:Tq d H0 H t m as
 nfc:pf≠pc
 nr:r≠pc/\r≠pf
 na:a≠pc/\a≠pf
 nt:t≠pc/\t≠pf
 ns:∀x∈as,x≠pc/\x≠pf
 c0:H3 pc=none
 f0:H3 pf=none
theorem KI.drw {d:Addr}{H3 H0 H H':Hp3}{pf pc r a t:Addr}{row ws:List Str}{m:Nat}{as:List Addr}{cs:List Str}{ks:List (List Str)}(x:KI d H3 H0 H pf pc r a t row ws m as cs ks) (D:Drw d H H'):KI d H3 H0 H' pf pc r a t row ws m as cs ks:={ x with w:=x.w.drw D,tq:=x.tq.drw D}
theorem KI.new {d q:Addr}{H3 H0 H:Hp3}{pf pc r a t:Addr}{row ws:List Str}{m:Nat}{as:List Addr}{cs:List Str}{ks:List (List Str)}{o:O3}(x:KI d H3 H0 H pf pc r a t row ws m as cs ks) (hq:H q=none):KI d H3 H0 (up3 H q o) pf pc r a t row ws m as cs ks:={ x with w:=(x.w.new hq).tl,tq:=x.tq.new hq}
theorem KI.putf {d:Addr}{H3 H0 H:Hp3}{pf pc r a t:Addr}{row ws:List Str}{m:Nat}{as:List Addr}{cs:List Str}{ks:List (List Str)}(x:KI d H3 H0 H pf pc r a t row ws m as cs ks) (ks':List (List Str)):KI d H3 H0 (up3 H pf (.lst (ks'.map sT))) pf pc r a t row ws m as cs ks' :=
 { x with
  w:=x.w.set x.f0 (fun q hq=>by
   simp only[p_,VP,Yc] at hq
   rcases hq with rfl | rfl | rfl
   ·
    exact Ne.symm x.nfc
   ·
    exact x.nr.2
   ·
    exact x.na.2) _
  tq:=x.tq.set x.nt.2 fun y hy=>(x.ns y hy).2}
theorem KI.putc {d:Addr}{H3 H0 H:Hp3}{pf pc r a t:Addr}{row ws:List Str}{m:Nat}{as:List Addr}{cs:List Str}{ks:List (List Str)}(x:KI d H3 H0 H pf pc r a t row ws m as cs ks) (cs':List Str):KI d H3 H0 (up3 H pc (.lst (cs'.map T.str))) pf pc r a t row ws m as cs' ks:=by
 refine { x with
  w:=⟨x.w.cl.new (x.w.at' (pc,.lst (cs.map T.str)) (by simp)).2,x.w.kp.at x.c0,fun q hq=>?_⟩
  tq:=x.tq.set x.nt.1 fun y hy=>(x.ns y hy).1}
 simp only[p_,VP,Yc] at hq;rcases hq with rfl | rfl | rfl | rfl
 ·exact⟨by rw[aD x.nfc];exact (x.w.at' (pf,.lst (ks.map sT)) (by simp)).1,(x.w.at' (pf,.lst (ks.map sT)) (by simp)).2⟩
 ·exact⟨aC,(x.w.at' (pc,.lst (cs.map T.str)) (by simp)).2⟩
 ·exact⟨by rw[aD x.nr.1];exact (x.w.at' (r,.lst (row.map T.str)) (by simp)).1,(x.w.at' (r,.lst (row.map T.str)) (by simp)).2⟩
 exact⟨by rw[aD x.na.1];exact (x.w.at' (a,.lst (ws.map T.str)) (by simp)).1,(x.w.at' (a,.lst (ws.map T.str)) (by simp)).2⟩
def Sv:Sp3:=fun ts H Q=>∃(d r a t:Addr) (row ws:List Str) (m:Nat) (H0:Hp3) (as:List Addr),ts=[.ref d,.ref r,.ref a,.ref t]/\r≠d/\a≠d/\H r=some (.lst (row.map T.str))/\1<=row.length/\row.length<=8/\(∀x∈row,isNm x)/\H a=some (.lst (ws.map T.str))/\Nms ws/\ws.length<=8/\Tq d H0 H t m as/\m<=8/\Cl H d /\
 ∀(ks:List (List Str)) (H1:Hp3) (p:Addr),ks.length=m->(∀k∈ks,Nms k/\k.length<=4)->Drw d H H1->H1 p=none->Q (.ref p) (up3 H1 p (.lst (ks.map sT)))
def tkD (ws:List Str) (ls:List Int) (kk:List (List Str)) (k:Nat):Str × Int × List Str:=(ws.getD k "",ls.getD k 0,kk.getD k [])
def oD (ws:List Str) (tv:List Nat) (x:Nat × Nat):Str × Str:=(ws.getD (tv.getD x.1 0) "",ws.getD (tv.getD x.2 0) "")
theorem getD_mem {α:Type}{l:List α}{d:α}{i:Nat}(h:i<l.length):l.getD i d∈l:=by
 rw[E_,g_ h];exact Vh h
theorem lQ {tv:List Nat}(h:tv.Nodup) {i j:Nat}(hi:i<tv.length) (hj:j<tv.length) (e:tv.getD i 0=tv.getD j 0):i=j:=by
 rw[E_,E_,g_ hi,g_ hj] at e;have e':tv[i]=tv[j]:=e;have pw:=VH.mp h;rcases Nat.lt_trichotomy i j with q | q | q
 ·exact absurd e' (pw i j hi hj q)
 ·exact q
 exact absurd e'.symm (pw j i hj hi q)
theorem Hm (ws:List Str) (ls:List Int) (kk:List (List Str)):((List.range ws.length).map (tkD ws ls kk)).map (·.1)=ws:=by
 apply W5;intro i;rw[z_,z_];by_cases h:i<ws.length
 ·rw[Vz h,g_ h];simp [tkD,E_,g_ h]
 rw[L_ (by simp;omega),L_ (by omega)];rfl
theorem Sw {ws:List Str}{ls:List Int}{kk:List (List Str)}{tv:List Nat}{os:List (Nat × Nat)}{prs:List (Str × Str × Str)}{row:List Str}(hws:Nms ws) (w1:1<=ws.length) (w8:ws.length<=8) (hll:ls.length=ws.length) (hlb:∀l∈ls,1<=l/\l<10^60) (hkk:kk.length=ws.length) (hkb:∀k∈kk,Nms k/\k.length<=4)
  (tvl:tv.length=ws.length) (tvn:tv.Nodup) (tvm:∀x∈tv,x<ws.length) (ol:os.length<=28) (ond:os.Nodup) (oin:∀x∈os,x.1<x.2/\x.2<ws.length) (p12:prs.length<=12) (pnd:prs.Nodup) (pok:∀x∈prs,(x.1="with"\/x.1="apart")/\x.2.1≠x.2.2/\x.2.1∈ws/\x.2.2∈ws)
  (r1:1<=row.length) (r8:row.length<=8) (rn:∀x∈row,isNm x):WkOk ⟨(List.range ws.length).map (tkD ws ls kk),os.map (oD ws tv),prs,row⟩:=by
 have e:=Hm ws ls kk;have tm:∀i,i<ws.length->tv.getD i 0<ws.length:=fun i hi=>tvm _ (getD_mem (by omega));refine⟨by show 1<=((List.range ws.length).map (tkD ws ls kk)).length;rw[d_,n_];exact w1,by show ((List.range ws.length).map (tkD ws ls kk)).length<=8;rw[d_,n_];exact w8,fun t ht=>?_,by show (((List.range ws.length).map (tkD ws ls kk)).map (·.1)).Nodup;rw[e];exact hws.nd,by show (os.map (oD ws tv)).length<=28;rw[d_];exact ol,?_,fun o ho=>?_,p12,pnd,fun q hq=>?_,r1,r8,rn⟩
 ·obtain⟨k,hk,rfl⟩:=k_.mp ht;have hk':=I_.mp hk;have hl:=hlb _ (getD_mem (d:=0) (show k<ls.length by omega));have hkd:=hkb _ (getD_mem (d:=[]) (show k<kk.length by omega));exact⟨hws.nm _ (getD_mem hk'),hl.1,hl.2,hkd.1,hkd.2⟩
 ·show (os.map (oD ws tv)).Nodup;rw[List.Nodup,Xz];refine Xa (fun {x y} hx hy hne he=>hne ?_) ond;have ox:=oin x hx;have oy:=oin y hy;obtain⟨i1,j1⟩:=x;obtain⟨i2,j2⟩:=y;simp only at ox oy;simp only[oD,Prod.mk.injEq] at he;have q1:=fC hws.nd (tm i1 (by omega)) (tm i2 (by omega)) he.1;have q2:=fC hws.nd (tm j1 (by omega)) (tm j2 (by omega)) he.2;rw[lQ tvn (by omega) (by omega) q1,lQ tvn (by omega) (by omega) q2]
 ·show _/\o.1∈((List.range ws.length).map (tkD ws ls kk)).map (·.1)/\o.2∈((List.range ws.length).map (tkD ws ls kk)).map (·.1);rw[e];obtain⟨x,hx,rfl⟩:=k_.mp ho;have ox:=oin x hx;refine⟨fun h=>?_,getD_mem (tm _ (by omega)),getD_mem (tm _ (by omega))⟩;have:=lQ tvn (by omega) (by omega) (fC hws.nd (tm _ (by omega)) (tm _ (by omega)) h);omega
 show _/\_/\q.2.1∈((List.range ws.length).map (tkD ws ls kk)).map (·.1)/\q.2.2∈((List.range ws.length).map (tkD ws ls kk)).map (·.1);rw[e];exact pok q hq
theorem Sx {ls:List Int}{i:Nat}(h:i<ls.length):atI (ls.map T.int) (i:Int)=some (.int (ls.getD i 0)):=bC (by rw[z_,g_ h,E_,g_ h];rfl)
theorem Sy {ls:List (List Str)}{i:Nat}(h:i<ls.length):atI (ls.map sT) (i:Int)=some (sT (ls.getD i [])):=bC (by rw[z_,g_ h,E_,g_ h];rfl)
theorem Wt.kep {c:Addr}{H0 H H':Hp3}{fs:List (Addr × O3)}(w:Wt c H0 H fs) (cl:Cl H' c) (kp:Kep c H H'):Wt c H0 H' fs:=⟨cl,fun b o h h1=>kp b o (w.kp b o h h1) h1,fun p hp=>⟨kp _ _ (w.at' p hp).1 (w.at' p hp).2,(w.at' p hp).2⟩⟩
def SJ:Sp3:=fun ts H Q=>∃(d:Addr) (most st:Int),ts=[.ref d,.int most,.int st]/\1<=most/\most<=8/\1<=st/\st<=8/\Cl H d/\∀(W:Wk) (H':Hp3),WkOk W->(W.tasks.length:Int)<=most->(W.row.length:Int)<=st->Drw d H H'->Q W.enc H'
def tri (m:Nat) (A:List Nat):List (Nat × Nat):=A.flatMap fun i=>(List.range' (i+1) (m - (i+1))).map fun j=>(i,j)
theorem Ob:∀m:_root_.Fin 9,(tri m.val (List.range m.val)).Nodup:=by decide +kernel
theorem wG:∀m:_root_.Fin 9,(tri m.val (List.range m.val)).length<=28:=by decide +kernel
theorem CK (m:Nat) (A:List Nat) (i:Nat):tri m (A++[i])=tri m A++(List.range' (i+1) (m - (i+1))).map fun j=>(i,j):=by simp [tri]
def oT (tv:List Nat) (x:Nat × Nat):T:=.tup [.int ((tv.getD x.1 0:Nat):Int),.int ((tv.getD x.2 0:Nat):Int)]
theorem SM (i m:Nat):cZ ((i:Int)+1) ((m:Int) - ((i:Int)+1)).toNat=(List.range' (i+1) (m - (i+1))).map fun (j:Nat)=>T.int (j:Int):=by
 rw[show ((m:Int) - ((i:Int)+1)).toNat=m - (i+1) by omega];generalize m - (i+1)=n;unfold cZ;rw[List.range'_eq_map_range,Vg];exact VR fun k _=>by show T.int _=T.int _;congr 1
theorem JL {tv:List Nat}{i:Nat}(h:i<tv.length):atI (tv.map fun (k:Nat)=>T.int (k:Int)) (i:Int)=some (.int ((tv.getD i 0:Nat):Int)):=bC (by rw[z_,g_ h,E_,g_ h];rfl)
theorem JM (tv:List Nat) (ps:List (Nat × Nat)):(ps.map (oT tv)).all (pl 20)=true:=by rw[U_];intro t ht;obtain⟨x,_,rfl⟩:=k_.mp ht;rfl
theorem SN (ks:List Nat):(ks.map fun (k:Nat)=>T.int (k:Int)).all (pl 20)=true:=by rw[U_];intro t ht;obtain⟨x,_,rfl⟩:=k_.mp ht;rfl
theorem Hn {m:Nat}{x:Nat × Nat}{A:List Nat}(hA:∀i∈A,i<m) (h:x∈tri m A):x.1<x.2/\x.2<m:=by
 obtain⟨i,hi,hx⟩:=List.mem_flatMap.mp h;obtain⟨j,hj,rfl⟩:=k_.mp hx;have:=List.mem_range'_1.mp hj;exact⟨by omega,by omega⟩
def fu (f:Str->Nat) (n:Str) (v:Nat):Str->Nat:=fun x=>if x=n then v else f x
def mu (m:Nat) (ns:List Str) (f:Str->Nat):Nat:=(ns.map fun n=>m - f n).sum
def ld (tk:List (Str × Int × List Str)) (ns:List Str):Int:=((tk.filter (fun t=>dJ false (.str t.1) (ns.map T.str))).map (·.2.1)).sum
theorem CN {a b:List Int}(h:a.Perm b):a.sum=b.sum:=by
 induction h with
 |nil=>rfl
 |cons x _ ih=>rw[Wh,Wh,ih]
 |swap x y l=>rw[Wh,Wh,Wh,Wh];omega
 |trans _ _ h1 h2=>exact h1.trans h2
theorem oK (ns:List Str) (f:Str->Nat) (m:Nat):(dealt ns f m).length=m:=by unfold dealt;rw[d_,n_]
def yx (k:Nat) (f:Str->Nat) (xs:List Str):Str->Nat:=xs.foldl (fun f n=>fu f n k) f
def fD (D:List (List Str)):Str->Nat:=D.zipIdx.foldl (fun f p=>yx p.2 f p.1) (fun _=>0)
theorem Ho (A:List (List Str)) (s:List Str):fD (A++[s])=yx A.length (fD A) s:=by
 unfold fD;rw[List.zipIdx_append,Yn];simp
structure Dok (W:Wk) (D:List (List Str)):Prop where
 rw:D.length<=W.row.length
 st:∀x∈D.flatten,x∈W.tasks.map (·.1)
 nd:D.flatten.Nodup
 al:∀n∈W.tasks.map (·.1),n∈D.flatten
theorem Dok.in {W:Wk}{D:List (List Str)}(h:Dok W D) {s:List Str}(hs:s∈D):s.Nodup/\∀n∈s,n∈W.tasks.map (·.1) :=
 ⟨(List.sublist_flatten_of_mem hs).nodup h.nd,fun n hn=>h.st n (V8.mpr ⟨s,hs,hn⟩)⟩
theorem Oc (ts:List T) (i:Int) (H:Hp3) (Q:VK3):ixH (some (.rol ts)) i H Q=oq (atI ts i) fun t=>Q t H:=rfl
def SQ:Sp3:=fun ts H Q=>∃tk:List (Str × Int × List Str),ts=[.tup (tk.map tkT)]/\tk.length<=8/\∀p,H p=none->Q (.ref p) (up3 H p (.lst ((tk.map (·.1)).map T.str)))
structure Fil (W:Wk) (beat:Int) (kind:Str) (D S:List Str):Prop where
 one:∀t∈W.tasks,t.1∈S->t.1∉D/\jT t.2.2 kind=true/\(∀x∈fj W t.1,x∈S)/\(∀x∈iM W t.1,x∈S\/x∈D)/\∀x∈je W t.1,x∉S
 ld:dh W.tasks S<=beat
theorem fil_iff {W:Wk}{beat:Int}{kind:Str}{D S:List Str}:uA W beat kind D S=true↔Fil W beat kind D S:=by
 unfold uA;rw[Vf,q_,U_];have key:∀t:Str × Int × List Str,(!decide (t.1∈S)||okT W kind D S t)=true↔(t.1∈S->t.1∉D/\jT t.2.2 kind=true/\(∀x∈fj W t.1,x∈S)/\(∀x∈iM W t.1,x∈S\/x∈D)/\∀x∈je W t.1,x∉S):=fun t=>by
  unfold okT;rw[Bool.or_eq_true,Bool.not_eq_true',Xi,Vf,Vf,Vf,Vf,Bool.not_eq_true',Xi,@q_ _ (Classical.propDecidable _),@q_ _ (Classical.propDecidable _),@q_ _ (Classical.propDecidable _)];constructor
  ·intro h hs;obtain⟨⟨⟨⟨h1,h2⟩,h3⟩,h4⟩,h5⟩:=h.resolve_left (fun z=>z hs);exact⟨h1,h2,h3,fun x hx=>D_.mp (h4 x hx),h5⟩
  intro h;by_cases hs:t.1∈S
  ·obtain⟨h1,h2,h3,h4,h5⟩:=h hs;exact .inr ⟨⟨⟨⟨h1,h2⟩,h3⟩,fun x hx=>D_.mpr (h4 x hx)⟩,h5⟩
  exact .inl hs
 exact⟨fun ⟨a,b⟩=>⟨fun t ht=>(key t).mp (a t ht),b⟩,fun h=>⟨fun t ht=>(key t).mpr (h.one t ht),h.ld⟩⟩
theorem rJ {ts:List (Str × Int × List Str)}{S S':List Str}(h:∀x,x∈S↔x∈S'):dh ts S=dh ts S':=by
 have e:(ts.filter fun t=>decide (t.1∈S))=ts.filter fun t=>decide (t.1∈S'):=V1 fun t _=>by rw[Wv];exact h t.1
 unfold dh;rw[e]
theorem Fil.congr {W:Wk}{beat:Int}{kind:Str}{D S D' S':List Str}(f:Fil W beat kind D S) (hD:∀x,x∈D↔x∈D') (hS:∀x,x∈S↔x∈S'):Fil W beat kind D' S' :=
 ⟨fun t ht hs=>by
  obtain⟨h1,h2,h3,h4,h5⟩:=f.one t ht ((hS _).mpr hs)
  exact⟨fun z=>h1 ((hD _).mpr z),h2,fun x hx=>(hS x).mp (h3 x hx),fun x hx=>(h4 x hx).imp (hS x).mp (hD x).mp,fun x hx z=>h5 x hx ((hS x).mpr z)⟩,by rw[<- rJ hS];exact f.ld⟩
def Fils (W:Wk) (beat:Int) (D:List (List Str)):Prop:=∀k s,D[k]?=some s->Fil W beat (W.row.getD k "") (D.take k).flatten s
theorem Fils.snoc {W:Wk}{beat:Int}{D:List (List Str)}{s:List Str}(h:Fils W beat D) (f:Fil W beat (W.row.getD D.length "") D.flatten s):Fils W beat (D++[s]):=fun k s' e=>by
 by_cases hk:k<D.length
 ·rw[Vj hk] at e;rw[Xn (by omega)];exact h k s' e
 rw[R_ (by omega)] at e;have h0:k - D.length=0:=by
  cases hz:k - D.length with
  |zero=>rfl
  |succ n=>rw[hz] at e;simp at e
 have hk':k=D.length:=by omega
 subst hk';rw[h0] at e;simp only[Wg,Option.some.injEq] at e;subst e;rw[List.take_left']
 ·exact f
 rfl
theorem Fils.nil {W:Wk}{beat:Int}:Fils W beat []:=fun k s e=>by simp at e
theorem uF {k:Nat}{n:Str}:∀{xs:List Str}{f:Str->Nat},n∉xs->yx k f xs n=f n
 |[],_,_=>rfl
 |x::r,f,h=>by
  rw[p_,not_or] at h
  show yx k (fu f x k) r n=f n
  rw[uF h.2]
  unfold fu
  rw[if_neg h.1]
theorem CP {k:Nat}{n:Str}:∀{xs:List Str}{f:Str->Nat},n∈xs->yx k f xs n=k
 |x::r,f,h=>by
  show yx k (fu f x k) r n=k
  by_cases hr:n∈r
  ·
   exact CP hr
  ·
   rw[uF hr]
   unfold fu
   rw[if_pos ((p_.mp h).resolve_right hr)]
theorem eV {D:List (List Str)}(nd:D.flatten.Nodup):∀{k:Nat}{s:List Str}{n:Str},D[k]?=some s->n∈s->fD D n=k:=by
 induction hl:D.length generalizing D with
 |zero=>intro k s n e;rw[Xk.mp hl] at e;simp at e
 |succ m ih =>
 intro k s n e hn;obtain⟨A,l,rfl⟩:∃A l,D=A++[l]:=by refine⟨D.dropLast,D.getLast (by intro z;rw[z] at hl;cases hl),(Xw _).symm⟩
 have hA:A.length=m:=by simp at hl;exact hl
 rw[Ho];rw[X6,List.flatten_singleton,XD] at nd;by_cases hk:k<A.length
 ·rw[Vj hk] at e;have hf:n∈A.flatten:=V8.mpr ⟨s,V3 e,hn⟩;rw[uF fun z=>nd.2.2 n hf n z rfl];exact ih nd.1 hA e hn
 rw[R_ (by omega)] at e;have h0:k - A.length=0:=by
  cases hz:k - A.length with
  |zero=>rfl
  |succ n=>rw[hz] at e;simp at e
 rw[h0] at e;simp only[Wg,Option.some.injEq] at e;subst e;rw[CP hn];omega
theorem jg {D:List (List Str)}{n:Str}(h:n∈D.flatten):∃(k:Nat) (s:List Str),D[k]?=some s/\n∈s:=by
 obtain⟨s,hs,hn⟩:=V8.mp h;obtain⟨k,hk⟩:=XS hs;exact⟨k,s,hk,hn⟩
theorem take_at {D:List (List Str)}{k:Nat}{n:Str}:n∈(D.take k).flatten↔∃(j:Nat) (s:List Str),j<k/\D[j]?=some s/\n∈s:=by
 constructor
 ·intro h;obtain⟨j,s,e,hn⟩:=jg h;rw[List.getElem?_take] at e;split at e
  ·exact⟨j,s,by assumption,e,hn⟩
  cases e
 rintro⟨j,s,hj,e,hn⟩;refine V8.mpr ⟨s,?_,hn⟩;refine V3 (i:=j) ?_;rw[List.getElem?_take,if_pos hj];exact e
theorem CQ {W:Wk}{a b:Str}(h:lkR ["with"] W a b):(a,b)∈W.orders\/∃p∈W.pairs,p.1="with"/\(p.2=(a,b)\/p.2=(b,a)):=by
 unfold lkR lkW at h;rcases D_.mp h with h | h
 ·exact .inl h
 obtain⟨p,hp,hm⟩:=List.mem_flatMap.mp h;unfold lkP at hm;split at hm
 ·rename_i hw;refine .inr ⟨p,hp,by simpa using hw,?_⟩;simp only[p_,Prod.mk.injEq,VP,Yc] at hm;rcases hm with ⟨rfl,rfl⟩ | ⟨rfl,rfl⟩
  ·exact .inl rfl
  exact .inr rfl
 cases hm
theorem Od {W:Wk}{a b:Str}(h:(a,b)∈W.orders):lkR ["with"] W a b:=Ve _ h
theorem Hq {W:Wk}{a b:Str}(h:(("with":Str),a,b)∈W.pairs):lkR ["with"] W a b/\lkR ["with"] W b a:=by
 have:∀q,q∈lkP ["with"] ("with",a,b)->q∈lkW ["with"] W:=fun q hq=>T_ _ (List.mem_flatMap.mpr ⟨_,h,hq⟩);constructor
 ·exact this _ (by unfold lkP;simp)
 exact this _ (by unfold lkP;simp)
structure Rgt (W:Wk) (beat:Int) (D:List (List Str)) (f:Str->Nat):Prop where
 ord:∀o∈W.orders,f o.1<=f o.2
 pai:∀p∈W.pairs,f p.2.1=f p.2.2↔p.1="with"
 kin:∀k s,D[k]?=some s->∀t∈W.tasks,t.1∈s->jT t.2.2 (W.row.getD k "")=true
 bea:∀s∈D,dh W.tasks s<=beat
theorem rK {W:Wk}{beat:Int}{D:List (List Str)}(hW:WkOk W) (h:Dok W D):Rgt W beat D (fD D)↔Fils W beat D:=by
 have at_:∀{n:Str},n∈W.tasks.map (·.1)->∃s,D[fD D n]?=some s/\n∈s:=fun hn=>by obtain⟨k,s,e,hs⟩:=jg (h.al _ hn);rw[eV h.nd e hs];exact⟨s,e,hs⟩
 constructor
 ·intro r k s e;have up:∀{a b:Str},RT (lkR ["with"] W) a b->fD D a<=fD D b:=fun z=>by
   induction z with
   |refl=>exact m_ _
   |step _ l ih =>
   refine U8 ih ?_;rcases CQ l with o | ⟨p,hp,hw,e | e⟩
   ·exact r.ord _ o
   ·have:=(r.pai p hp).mpr hw;rw[e] at this;exact Yi this
   have:=(r.pai p hp).mpr hw;rw[e] at this;exact Yi this.symm
  refine⟨fun t ht hs=>?_,r.bea s (V3 e)⟩;have ft:=eV h.nd e hs;refine⟨fun z=>?_,r.kin k s e t ht hs,fun x hx=>?_,fun x hx=>?_,fun x hx hxs=>?_⟩
  ·obtain⟨j,s',hj,e',hn⟩:=take_at.mp z;have:=eV h.nd e' hn;omega
  ·obtain⟨hxn,hr⟩:=F_.mp hx;rw[@q_ _ (Classical.propDecidable _)] at hr;have e1:=up hr.1;have e2:=up hr.2;obtain⟨s',e',hn⟩:=at_ hxn;rw[show fD D x=k by omega,e] at e';cases e';exact hn
  ·obtain⟨hxn,hr⟩:=F_.mp hx;rw[@q_ _ (Classical.propDecidable _)] at hr;have e1:=up hr.1;obtain⟨s',e',hn⟩:=at_ hxn;by_cases z:fD D x=k
   ·rw[z,e] at e';cases e';exact .inl hn
   exact .inr (take_at.mpr ⟨_,s',by omega,e',hn⟩)
  obtain⟨p,hp,rfl⟩:=k_.mp hx;obtain⟨hp,hw⟩:=F_.mp hp;rw[Vf,q_,q_] at hw;have e1:=(r.pai p hp).mp (by rw[hw.2,ft,eV h.nd e hxs]);rw[hw.1] at e1;exact absurd e1 (by decide)
 intro F;have fil:∀{t:Str × Int × List Str},t∈W.tasks->∃s,D[fD D t.1]?=some s/\t.1∈s/\Fil W beat (W.row.getD (fD D t.1) "") (D.take (fD D t.1)).flatten s:=fun ht=>by obtain⟨s,e,hs⟩:=at_ (k_.mpr ⟨_,ht,rfl⟩);exact⟨s,e,hs,F _ _ e⟩
 have up:∀{a b:Str},a∈W.tasks.map (·.1)->b∈W.tasks.map (·.1)->RT (lkR ["with"] W) a b->fD D a<=fD D b:=fun {a b} ha hb z=>by
  obtain⟨t,ht,rfl⟩:=k_.mp hb;obtain⟨s,e,hs,f⟩:=fil ht;obtain⟨_,_,f3,f4,_⟩:=f.one t ht hs;by_cases y:RT (lkR ["with"] W) t.1 a
  ·have:=f3 a (F_.mpr ⟨ha,@O_ _ (Classical.propDecidable _) ⟨y,z⟩⟩);exact Yi (eV h.nd e this)
  rcases f4 a (F_.mpr ⟨ha,@O_ _ (Classical.propDecidable _) ⟨z,y⟩⟩) with q | q
  ·exact Yi (eV h.nd e q)
  obtain⟨j,s',hj,e',hn⟩:=take_at.mp q;rw[eV h.nd e' hn];omega
 refine⟨fun o ho=>?_,fun p hp=>?_,fun k s e t ht hs=>((F k s e).one t ht hs).2.1,fun s hs=>?_⟩
 ·obtain⟨_,h1,h2⟩:=hW.oo o ho;exact up h1 h2 (.step .refl (Od ho))
 ·obtain⟨hw,_,h1,h2⟩:=hW.pp p hp;constructor
  ·intro e;refine hw.resolve_right fun ha=>?_;obtain⟨t,ht,et⟩:=k_.mp h1;obtain⟨s,e1,hs,f⟩:=fil ht;obtain⟨_,_,_,_,f5⟩:=f.one t ht hs;refine f5 p.2.2 (k_.mpr ⟨p,F_.mpr ⟨hp,by rw[Vf,q_,q_];exact⟨ha,et.symm⟩⟩,rfl⟩) ?_;obtain⟨s',e',hn⟩:=at_ h2;have e0:fD D p.2.2=fD D t.1:=by rw[et];exact e.symm
   rw[e0,e1] at e';cases e';exact hn
  intro hw';have hp':(("with":Str),p.2.1,p.2.2)∈W.pairs:=by rw[<- hw'];exact hp
  obtain⟨l1,l2⟩:=Hq hp';exact Nat.le_antisymm (up h1 h2 (.step .refl l1)) (up h2 h1 (.step .refl l2))
 obtain⟨k,hk⟩:=XS hs;exact (F k s hk).ld
theorem Hr {W:Wk}{beat:Int}:∀{D:List (List Str)},Fils W beat D->(∀s∈D,s.Nodup/\∀n∈s,n∈W.tasks.map (·.1))->D.flatten.Nodup:=by
 intro D;induction hl:D.length generalizing D with
 |zero=>intro _ _;rw[Xk.mp hl];exact XQ
 |succ m ih =>
 intro F hs;obtain⟨A,l,rfl⟩:∃A l,D=A++[l]:=by refine⟨D.dropLast,D.getLast (by intro z;rw[z] at hl;cases hl),(Xw _).symm⟩
 have hA:A.length=m:=by simp at hl;exact hl
 have FA:Fils W beat A:=fun k s e=>by
  have hk:k<A.length:=by
   rcases Yl k A.length with z | z
   ·exact z
   rw[L_ z] at e;cases e
  have:=F k s (by rw[Vj hk];exact e)
  rwa [Xn (by omega)] at this
 rw[X6,List.flatten_singleton,XD];have hl':=hs l (by simp);refine⟨ih hA FA fun s h=>hs s (Ve _ h),hl'.1,fun a ha b hb e=>?_⟩;subst e;obtain⟨t,ht,rfl⟩:=k_.mp (hl'.2 a hb);have f:=F A.length l (by rw[R_ (m_ _)];simp);rw[List.take_left' rfl] at f;exact (f.one t ht hb).1 ha
theorem Oe {row:List Str}{k:Nat}(h:k<row.length):atI (row.map T.str) (k:Int)=some (.str (row.getD k "")):=bC (by rw[z_,g_ h,E_,g_ h];rfl)
theorem oM:∀ns:List Str,pick ns 0=[]
 |[]=>rfl
 |n::r=>by
  have:=oM r
  unfold pick
  simpa using this
theorem wH:∀(ns:List Str) (b:Int),(pick ns b).Sublist ns
 |[],_=>W7 _
 |n::r,b=>by
  have:=wH r (b / 2)
  unfold pick
  split
  ·
   exact this.cons₂ n
  ·
   exact this.cons n
theorem jy {W:Wk}{ns:List Str}{f:Str->Nat}{m:Nat}(hW:WkOk W) (hp:ns.Perm (W.tasks.map (·.1))) (hm:m<=W.row.length) (hf:∀n,f n<m):Dok W (dealt ns f m):=by
 have mem:∀x,x∈(dealt ns f m).flatten↔x∈ns:=fun x=>by
  rw[V8];constructor
  ·rintro⟨s,hs,hx⟩;obtain⟨k,_,rfl⟩:=k_.mp hs;exact (F_.mp hx).1
  intro hx;exact⟨_,k_.mpr ⟨f x,I_.mpr (hf x),rfl⟩,F_.mpr ⟨hx,O_ rfl⟩⟩
 refine⟨by rw[oK];exact hm,fun x hx=>hp.mem_iff.mp ((mem x).mp hx),?_,fun x hx=>(mem x).mpr (hp.mem_iff.mpr hx)⟩;have nd:=hp.nodup_iff.mpr hW.nd;unfold dealt;have:∀l:List Nat,l.Nodup->((l.map fun k=>ns.filter fun n=>decide (f n=k)).flatten).Nodup:=by
  intro l;induction l with
  |nil=>intro _;exact XQ
  |cons k r ih =>
  intro hl;rw[Vu] at hl;rw[A_,Wi,XD];refine⟨List.filter_sublist.nodup nd,ih hl.2,fun a ha b hb e=>?_⟩;subst e;obtain⟨s,hs,hb⟩:=V8.mp hb;obtain⟨j,hj,rfl⟩:=k_.mp hs;have e1:=VF (F_.mp ha).2;have e2:=VF (F_.mp hb).2;exact hl.1 (by rw[<- e1,e2];exact hj)
 exact this _ List.nodup_range
def gre {α:Type}(has:α->α->Bool):List α->List α
 |[]=>[]
 |n::B=>if (gre has B).any (fun g=>has g n) then gre has B else gre has B++[n]
theorem pY {α:Type}{has:α->α->Bool}:∀(xs:List α),∀g∈gre has xs,g∈xs
 |[],g,h=>h
 |n::B,g,h=>by
  unfold gre at h
  split at h
  ·
   exact v_ _ (pY B g h)
  ·
   rcases D_.mp h with h | h
   ·
    exact v_ _ (pY B g h)
   ·
    rw[i_.mp h];exact t_
theorem wI {α:Type}{has:α->α->Bool}(hr:∀a,has a a=true):∀(xs:List α),∀b∈xs,∃g∈gre has xs,has g b=true
 |n::B,b,h=>by
  unfold gre
  rcases p_.mp h with rfl | h
  ·
   split
   ·
    rename_i hy
    obtain⟨g,hg,e⟩:=Wu.mp hy
    exact⟨g,hg,e⟩
   ·
    exact⟨b,by simp,hr b⟩
  ·
   obtain⟨g,hg,e⟩:=wI hr B b h
   split
   ·
    exact⟨g,hg,e⟩
   ·
    exact⟨g,Ve _ hg,e⟩
theorem yz (m:Nat):List.range (m+m)=List.range m++(List.range m).map (·+m):=by
 rw[List.range_add];congr 1;exact VR fun a _=>Nat.add_comm _ _
theorem wJ:∀(ws:List Str) (b:Int),(pick ws b).length<=ws.length
 |[],_=>m_ _
 |x::r,b=>by
  unfold pick
  have:=wJ r (b / 2)
  split
  ·
   rw[j_,j_];omega
  ·
   rw[j_];omega
def bG (b a:Nat):Bool:=decide (Builtin.bitAnd (b:Int) (a:Int)=(a:Int))
theorem fG (b a:Nat):bG b a=true↔b &&& a=a:=by
 unfold bG;rw[q_,pR];exact Int.ofNat_inj
theorem yC (a:Nat):bG a a=true:=(fG a a).mpr (Nat.and_self a)
def nm (W:Wk):List Str:=W.tasks.map (·.1)
def pk (W:Wk) (i:Nat):List Str:=pick (nm W) (i:Int)
def top2 (W:Wk):Nat:=2^W.tasks.length
theorem lR (W:Wk):(nm W).length=W.tasks.length:=d_ _
theorem d7 {W:Wk}(hW:WkOk W) {i:Nat}(h:i<top2 W):bR (nm W) (pk W i)=i:=by
 have h1:((i:Int))<2^(nm W).length:=by
  have e:((2^W.tasks.length:Nat):Int)=(2:Int)^W.tasks.length:=by push_cast;rfl
  rw[lR,<- e];exact Int.ofNat_lt.mpr h
 have:=Cm (ns:=nm W) hW.nd (WQ i) h1;rw[cu] at this;exact Int.ofNat.inj this
theorem j9 {W:Wk}(A:List Str):bR (nm W) A<top2 W:=by
 have:=rE (nm W) A;rw[cu,lR] at this;have e:((2^W.tasks.length:Nat):Int)=(2:Int)^W.tasks.length:=by push_cast;rfl
 rw[<- e] at this;exact Int.ofNat_lt.mp this
theorem SX {W:Wk}(hW:WkOk W) (A:List Str):pk W (bR (nm W) A)=(nm W).filter fun x=>decide (x∈A):=by
 unfold pk;rw[<- cu];exact rF _ _ hW.nd
theorem jz {W:Wk}(hW:WkOk W) {A:List Str}{x:Str}:x∈pk W (bR (nm W) A)↔x∈nm W/\x∈A:=by
 rw[SX hW,F_,q_]
theorem gP {W:Wk}{i:Nat}{x:Str}(h:x∈pk W i):x∈nm W:=jc _ _ x h
theorem S5 {W:Wk}(hW:WkOk W) (i:Nat):(pk W i).Nodup:=(wH _ _).nodup hW.nd
theorem gh:∀(ns A B:List Str),(∀x∈ns,x∈B↔x∉A)->bR ns A+bR ns B+1=2^ns.length
 |[],_,_,_=>rfl
 |x::r,A,B,h=>by
  have ih:=gh r A B fun y hy=>h y (v_ _ hy)
  have hx:=h x t_
  simp only[bR,j_,Nat.pow_succ]
  by_cases hA:x∈A
  ·
   rw[if_pos hA,if_neg (fun z=>hx.mp z hA)];omega
  ·
   rw[if_neg hA,if_pos (hx.mpr hA)];omega
theorem gQ:∀(ns A B:List Str),(∀x∈ns,¬(x∈A/\x∈B))->bR ns A+bR ns B=bR ns (A++B)
 |[],_,_,_=>rfl
 |x::r,A,B,h=>by
  have ih:=gQ r A B fun y hy=>h y (v_ _ hy)
  have hx:=h x t_
  simp only[bR,D_]
  by_cases hA:x∈A
  ·
   have hB:x∉B:=fun z=>hx ⟨hA,z⟩
   simp only[hA,hB,if_true,U7,Yc];omega
  ·
   by_cases hB:x∈B
   ·
    simp only[hA,hB,if_true,U7,or_true];omega
   ·
    simp only[hA,hB,U7,or_self];omega
theorem rM {W:Wk}{A B:List Str}:bG (bR (nm W) A) (bR (nm W) B)=true↔∀x∈nm W,x∈B->x∈A:=by
 unfold bG;rw[q_,<- cu,<- cu];exact eQ _ _ _
def rN (N:Nat):List Nat:=(List.range (N+1)).filter (bG N)
theorem Hs {N i:Nat}(h:bG N i=true):i<=N:=by
 have:=(fG N i).mp h;have:=Nat.and_le_left (n:=N) (m:=i);omega
theorem wK {N M:Nat}(h:N<M):(List.range M).filter (bG N)=rN N:=by
 obtain⟨k,rfl⟩:∃k,M=(N+1)+k:=⟨M - (N+1),by omega⟩;unfold rN;rw[List.range_add,WT];have:((List.range k).map fun x=>N+1+x).filter (bG N)=[]:=by rw[List.filter_eq_nil_iff];intro a ha;obtain⟨x,_,rfl⟩:=k_.mp ha;intro z;have:=Hs z;omega
 rw[this,S_]
theorem rO {N k i:Nat}(hi:i<2^k):bG N (i+2^k)=(bG N (2^k)&&bG N i):=by
 have hor:i+2^k=2^k ||| i:=by have:=Nat.two_pow_add_eq_or_of_lt hi 1;rw[Nat.mul_one] at this;omega
 rw[Vi,Vf,fG,fG,fG,hor];constructor
 ·intro h;have hb:∀j,(N &&& (2^k ||| i)).testBit j=(2^k ||| i).testBit j:=fun j=>by rw[h]
  refine⟨Nat.eq_of_testBit_eq fun j=>?_,Nat.eq_of_testBit_eq fun j=>?_⟩
  ·have:=hb j;rw[Nat.testBit_and,Nat.testBit_or] at this;rw[Nat.testBit_and];cases h1:(2^k).testBit j <;> simp_all
  have:=hb j;rw[Nat.testBit_and,Nat.testBit_or] at this;rw[Nat.testBit_and];cases h1:i.testBit j <;> simp_all
 rintro⟨h1,h2⟩;rw[Nat.and_or_distrib_left,h1,h2]
theorem CT {N k:Nat}:(List.range (2^(k+1))).filter (bG N)=(List.range (2^k)).filter (bG N)++if bG N (2^k)=true then ((List.range (2^k)).filter (bG N)).map (·+2^k) else []:=by
 rw[show 2^(k+1)=2^k+2^k by rw[Nat.pow_succ];omega,yz,WT];congr 1;rw[Yg];by_cases h:bG N (2^k)=true
 ·rw[if_pos h];congr 1;refine V1 fun i hi=>?_;show bG N (i+2^k)=bG N i;rw[rO (I_.mp hi),h,Yq]
 rw[if_neg h,List.filter_eq_nil_iff.mpr,VJ];intro i hi;show ¬bG N (i+2^k)=true;rw[rO (I_.mp hi),Vf];exact fun z=>h z.1
def fil (W:Wk) (beat:Int) (k d i:Nat):Bool:=uA W beat (W.row.getD k "") (pk W d) (pk W i)
def fls (W:Wk) (beat:Int) (k d:Nat):List Nat:=(List.range (top2 W)).filter (fil W beat k d)
theorem fls_mem {W:Wk}{beat:Int}{k d i:Nat}:i∈fls W beat k d↔i<top2 W/\Fil W beat (W.row.getD k "") (pk W d) (pk W i):=by
 unfold fls;rw[F_,I_];unfold fil;rw[fil_iff]
theorem Fil.apart {W:Wk}{beat:Int}{kind:Str}{D S:List Str}(f:Fil W beat kind D S) {x:Str}(hx:x∈nm W) (hs:x∈S):x∉D:=by
 obtain⟨t,ht,rfl⟩:=k_.mp hx;exact (f.one t ht hs).1
theorem yD {W:Wk}{beat:Int}{k d:Nat}(hW:WkOk W) (hd:d<top2 W):(rN (top2 W - 1 - d)).filter (fil W beat k d)=fls W beat k d:=by
 have hN:top2 W - 1 - d<top2 W:=by omega
 rw[<- wK hN];unfold fls;rw[List.filter_filter];refine V1 fun i hi=>?_;have hi':=I_.mp hi;cases h:fil W beat k d i with
 |false=>rfl
 |true =>
 rw[Yq];have f:Fil W beat (W.row.getD k "") (pk W d) (pk W i):=fil_iff.mp h;have e1:top2 W - 1 - d=bR (nm W) ((nm W).filter fun x=>decide (x∉pk W d)):=by
  have:=gh (nm W) (pk W d) ((nm W).filter fun x=>decide (x∉pk W d)) fun x hx=>by rw[F_,q_];exact⟨fun z=>z.2,fun z=>⟨hx,z⟩⟩
  rw[d7 hW hd,lR] at this;unfold top2;omega
 rw[e1,show i=bR (nm W) (pk W i) from (d7 hW hi').symm];rw[rM];intro x hx hs;rw[F_,q_];exact⟨hx,f.apart hx hs⟩
inductive Frw (W:Wk) (beat:Int):List Nat->Nat->Prop
 |nil:Frw W beat [] 0
 |snoc {fs:List Nat} {d f:Nat}:Frw W beat fs d->fs.length<W.row.length->f∈fls W beat fs.length d->Frw W beat (fs++[f]) (d+f)
theorem Ht (W:Wk):pk W 0=[]:=oM _
theorem Frw.ok {W:Wk}{beat:Int}{fs:List Nat}{d:Nat}(hW:WkOk W) (r:Frw W beat fs d):d<top2 W/\fs.length<=W.row.length/\(∀x,x∈pk W d↔x∈(fs.map (pk W)).flatten)/\Fils W beat (fs.map (pk W))/\∀f∈fs,f<top2 W:=by
 induction r with
 |nil=>exact⟨Nat.pow_pos (by decide),Vx _,fun x=>by rw[Ht];rfl,Fils.nil,fun _ h=>(nomatch h)⟩
 |@snoc fs d f r hl hf ih =>
 obtain⟨hd,_,hm,hF,hb⟩:=ih;obtain⟨hft,F⟩:=fls_mem.mp hf;have e:d+f=bR (nm W) (pk W d++pk W f):=by rw[<- gQ _ _ _ fun x hx z=>F.apart hx z.2 z.1,d7 hW hd,d7 hW hft]
 refine⟨by rw[e];exact j9 _,by rw[b_];exact hl,fun x=>?_,?_,fun g hg=>?_⟩
 ·rw[e,jz hW,u_,X6,D_,D_,<- hm x];simp only[A_,VJ,Wi,List.flatten_nil,S_];exact⟨fun z=>z.2,fun z=>⟨z.elim gP gP,z⟩⟩
 ·rw[u_];refine hF.snoc ?_;rw[d_];exact F.congr hm fun x=>Iff.rfl
 rcases D_.mp hg with hg | hg
 ·exact hb g hg
 rw[i_.mp hg];exact hft
theorem Frw.of {W:Wk}{beat:Int}(hW:WkOk W):∀{D:List (List Str)},D.length<=W.row.length->(∀s∈D,∀n∈s,n∈nm W)->Fils W beat D->Frw W beat (D.map (bR (nm W))) (bR (nm W) D.flatten):=by
 intro D;induction hl:D.length generalizing D with
 |zero=>intro _ _ _;rw[Xk.mp hl,VJ,List.flatten_nil,gM];exact .nil
 |succ m ih =>
 intro hr hs F;obtain⟨A,l,rfl⟩:∃A l,D=A++[l]:=⟨D.dropLast,D.getLast (by intro z;rw[z] at hl;cases hl),(Xw _).symm⟩;have hA:A.length=m:=by simp at hl;exact hl
 have FA:Fils W beat A:=fun k s e=>by
  have hk:k<A.length:=by
   rcases Yl k A.length with z | z
   ·exact z
   rw[L_ z] at e;cases e
  have:=F k s (by rw[Vj hk];exact e)
  rwa [Xn (by omega)] at this
 have r:=ih hA (by omega) (fun s h=>hs s (Ve _ h)) FA;have f:=F A.length l (by rw[R_ (m_ _)];simp);rw[List.take_left' rfl] at f;have hln:=hs l (by simp);have hAn:∀n∈A.flatten,n∈nm W:=fun n hn=>by obtain⟨s,h,hn⟩:=V8.mp hn;exact hs s (Ve _ h) n hn
 have:=Frw.snoc r (by rw[d_];omega) (f:=bR (nm W) l) (fls_mem.mpr ⟨j9 _,by
  rw[d_]
  exact f.congr (fun x=>by rw[jz hW];exact⟨fun z=>⟨hAn x z,z⟩,fun z=>z.2⟩) fun x=>by rw[jz hW];exact⟨fun z=>⟨hln x z,z⟩,fun z=>z.2⟩⟩)
 rw[gQ _ _ _ fun x hx z=>f.apart hx z.2 z.1] at this;rw[u_,X6];simpa using this
theorem oN {W:Wk}(hW:WkOk W):∀x∈nm W,x∈pk W (top2 W - 1):=fun x hx=>by
 have h1:bR (nm W) (nm W)=top2 W - 1:=by
  have:=gh (nm W) (nm W) [] fun y hy=>by simp [hy]
  rw[gM,lR] at this;unfold top2;omega
 rw[<- h1,jz hW];exact⟨hx,hx⟩
theorem jA {W:Wk}{A:List Str}(h:∀x∈nm W,x∈A):bR (nm W) A=top2 W - 1:=by
 have:=gh (nm W) A [] fun y hy=>by simp [h y hy]
 rw[gM,lR] at this;unfold top2;omega
theorem Frw.dok {W:Wk}{beat:Int}{fs:List Nat}(hW:WkOk W) (r:Frw W beat fs (top2 W - 1)):Dok W (fs.map (pk W))/\Fils W beat (fs.map (pk W)):=by
 obtain⟨_,hl,hm,hF,_⟩:=r.ok hW;have hs:∀s∈fs.map (pk W),s.Nodup/\∀n∈s,n∈W.tasks.map (·.1):=fun s h=>by obtain⟨i,_,rfl⟩:=k_.mp h;exact⟨S5 hW i,fun n hn=>gP hn⟩
 refine⟨⟨by rw[d_];exact hl,fun x hx=>?_,Hr hF hs,fun n hn=>(hm n).mp (oN hW n hn)⟩,hF⟩;obtain⟨s,h,hn⟩:=V8.mp hx;exact (hs s h).2 x hn
theorem Frw.ofD {W:Wk}{beat:Int}{D:List (List Str)}(hW:WkOk W) (h:Dok W D) (F:Fils W beat D):Frw W beat (D.map (bR (nm W))) (top2 W - 1):=by
 have:=Frw.of hW h.rw (fun s hs=>(h.in hs).2) F
 rwa [jA h.al] at this
def bA (i:Nat):T:=.int (i:Int)
def wkF (W:Wk) (beat:Int) (p:Addr):List (Str × T):=[("works",W.enc),("beat",.int beat),("rules",.ref p),("whole",.int ((top2 W:Int) - 1))]
structure Wlk (C:Addr) (W:Wk) (beat:Int) (H:Hp3) (a:Addr):Prop where
 ex:∃p,H a=some (.ins C (wkF W beat p))/\H p=some (.lst (W.tasks.map (ruT W (W.tasks.map (·.1)))))
theorem Wlk.sub {C:Addr}{W:Wk}{beat:Int}{H H':Hp3}{a:Addr}(h:Wlk C W beat H a) (s:Sub3 H H'):Wlk C W beat H' a:=by
 obtain⟨p,h1,h2⟩:=h.ex;exact⟨p,s _ _ h1,s _ _ h2⟩
theorem rP {W:Wk}{beat:Int}{p:Addr}:aN "works" (wkF W beat p)=some W.enc:=rfl
theorem Hu {W:Wk}{beat:Int}{p:Addr}:aN "beat" (wkF W beat p)=some (.int beat):=by unfold wkF aN;rw[if_neg (by decide +kernel)];unfold aN;rw[if_pos rfl]
theorem CV {W:Wk}{beat:Int}{p:Addr}:aN "rules" (wkF W beat p)=some (.ref p):=by unfold wkF aN;rw[if_neg (by decide +kernel)];unfold aN;rw[if_neg (by decide +kernel)];unfold aN;rw[if_pos rfl]
theorem rQ {W:Wk}{beat:Int}{p:Addr}:aN "whole" (wkF W beat p)=some (.int ((top2 W:Int) - 1)):=by unfold wkF aN;rw[if_neg (by decide +kernel)];unfold aN;rw[if_neg (by decide +kernel)];unfold aN;rw[if_neg (by decide +kernel)];unfold aN;rw[if_pos rfl]
theorem CW {W:Wk}{beat:Int}{p:Addr}{m:Str}(h:m∉(["works","beat","rules","whole"]:List Str)):aN m (wkF W beat p)=none:=by
 simp only[p_,VP,Yc,not_or] at h;unfold wkF;simp only[aN];rw[if_neg (Ne.symm h.1),if_neg (Ne.symm h.2.1),if_neg (Ne.symm h.2.2.1),if_neg (Ne.symm h.2.2.2)]
theorem S6 {W:Wk}(hW:WkOk W) {i:Nat}(h:i<top2 W):numOf (W.tasks.map (·.1)) (pk W i)=(i:Int):=by
 rw[cu];exact Q_ Int.ofNat (d7 hW h)
theorem pZ {W:Wk}(hW:WkOk W):top2 W<=256:=W8 (n:=2) (by decide) hW.t8
theorem lU (W:Wk):0<top2 W:=Nat.pow_pos (by decide)
def JN:Sp3:=fun ts H Q=>∃N:Nat,ts=[.int (N:Int)]/\N<256/\∀p,H p=none->Q (.ref p) (up3 H p (.lst ((rN N).map bA)))
def S7 (C:Addr):Sp3:=fun ts H Q=>∃(a:Addr) (W:Wk) (beat:Int),ts=[.ref a,W.enc,.int beat]/\WkOk W/\H a=some (.ins C [])/\∀H',(∀b o,b≠a->H b=some o->H' b=some o)->Wlk C W beat H' a->Q .non H'
def S8 (C:Addr):Sp3:=fun ts H Q=>∃(a:Addr) (W:Wk) (beat:Int) (k d:Nat),ts=[.ref a,.int (k:Int),.int (d:Int)]/\WkOk W/\Wlk C W beat H a/\k<W.row.length/\d<top2 W/\∀p,H p=none->Q (.ref p) (up3 H p (.lst ((fls W beat k d).map bA)))
def S9 (C:Addr):Sp3:=fun ts H Q=>∃(a:Addr) (W:Wk) (beat:Int) (fs:List Nat),ts=[.ref a,.tup (fs.map bA)]/\WkOk W/\Wlk C W beat H a/\fs.length<=8/\(∀f∈fs,f<top2 W)/\Q (.tup ((fs.map (pk W)).map sT)) H
section
variable {α:Type}
def dm (k:Nat):List (Nat × α)->Option α
 |[]=>none
 | (k',v)::r=>if k'=k then some v else dm k r
def putN (k:Nat) (v:α) (E:List (Nat × α)):List (Nat × α) :=
 if (E.any fun e=>decide (e.1=k))=true then E.map (fun e=>if e.1=k then (e.1,v) else e) else E++[(k,v)]
def dI (enc:α->T) (E:List (Nat × α)):List (Int × T):=E.map fun e=>((e.1:Int),enc e.2)
theorem Og (enc:α->T) (E:List (Nat × α)):(dI enc E).length=E.length:=d_ _
theorem p7 (enc:α->T) (k:Nat):∀E:List (Nat × α),cP (k:Int) (dI enc E)=(dm k E).map enc
 |[]=>rfl
 | (k',v)::r=>by
  have ih:=p7 enc k r
  unfold dI at ih ⊢
  rw[A_]
  unfold cP dm
  by_cases h:k'=k
  ·
   rw[if_pos h,if_pos (show ((k':Nat):Int)=(k:Int) by rw[h])];rfl
  ·
   rw[if_neg h,if_neg (show ¬((k':Nat):Int)=(k:Int) by omega),ih]
theorem Oh (enc:α->T) (k:Nat) (v:α) (E:List (Nat × α)):uf (k:Int) (enc v) (dI enc E)=dI enc (putN k v E):=by
 have e1:((dI enc E).any fun kv=>decide (kv.1=(k:Int)))=E.any fun e=>decide (e.1=k):=by unfold dI;rw[List.any_map];congr 1;funext e;show decide ((e.1:Int)=(k:Int))=decide (e.1=k);rw[Wv];omega
 unfold uf putN;rw[e1];split
 ·unfold dI;rw[Vg,Vg];refine VR fun e _=>?_;show (if (e.1:Int)=(k:Int) then ((e.1:Int),enc v) else ((e.1:Int),enc e.2))=_;show _=((((if e.1=k then (e.1,v) else e).1:Nat):Int),enc (if e.1=k then (e.1,v) else e).2);by_cases h:e.1=k
  ·rw[if_pos h,if_pos (by rw[h])]
  rw[if_neg h,if_neg (by omega)]
 unfold dI;rw[u_];rfl
theorem ig {k:Nat}{v:α}:∀{E:List (Nat × α)},dm k E=some v->(k,v)∈E
 | (k',v')::r,h=>by
  unfold dm at h
  by_cases e:k'=k
  ·
   rw[if_pos e] at h;cases h;subst e;exact t_
  ·
   rw[if_neg e] at h;exact v_ _ (ig h)
theorem lV {k:Nat}:∀{E:List (Nat × α)},dm k E=none->∀e∈E,e.1≠k
 | (k',v')::r,h,e,he=>by
  unfold dm at h
  by_cases z:k'=k
  ·
   rw[if_pos z] at h;cases h
  ·
   rw[if_neg z] at h
   rcases p_.mp he with rfl | he
   ·
    exact z
   ·
    exact lV h e he
theorem yE (k:Nat) (v:α) (E:List (Nat × α)):(putN k v E).map (·.1)=if k∈E.map (·.1) then E.map (·.1) else E.map (·.1)++[k]:=by
 have e1:(E.any fun e=>decide (e.1=k))=decide (k∈E.map (·.1)):=by rw[Vi,Wu,q_,k_];exact⟨fun ⟨e,h,z⟩=>⟨e,h,VF z⟩,fun ⟨e,h,z⟩=>⟨e,h,O_ z⟩⟩
 unfold putN;rw[e1];by_cases h:k∈E.map (·.1)
 ·rw[if_pos h,if_pos (O_ h),Vg];refine VR fun e _=>?_;show (if e.1=k then (e.1,v) else e).1=e.1;split <;> rfl
 rw[if_neg h,if_neg (Ge h),u_];rfl
theorem rR {k:Nat}{v:α}{E:List (Nat × α)}{e:Nat × α}(h:e∈putN k v E):e=(k,v)\/(e∈E/\e.1≠k)\/(e∈E/\k∉E.map (·.1)):=by
 unfold putN at h;split at h
 ·obtain⟨x,hx,rfl⟩:=k_.mp h;by_cases z:x.1=k
  ·rw[if_pos z,z];exact .inl rfl
  rw[if_neg z];exact .inr (.inl ⟨hx,z⟩)
 rename_i hn;rcases D_.mp h with h | h
 ·refine .inr (.inr ⟨h,fun z=>hn ?_⟩);obtain⟨x,hx,e⟩:=k_.mp z;exact Wu.mpr ⟨x,hx,O_ e⟩
 exact .inl (i_.mp h)
theorem CZ (k:Nat) (v:α) (E:List (Nat × α)):(k,v)∈putN k v E:=by
 unfold putN;split
 ·rename_i h;obtain⟨x,hx,e⟩:=Wu.mp h;refine k_.mpr ⟨x,hx,?_⟩;have:=VF e;rw[if_pos this,this]
 exact T_ _ (i_.mpr rfl)
theorem Dc {k:Nat}{v:α}{E:List (Nat × α)}{e:Nat × α}(h:e∈E) (hk:e.1≠k):e∈putN k v E:=by
 unfold putN;split
 ·exact k_.mpr ⟨e,h,if_neg hk⟩
 exact Ve _ h
theorem wL {k:Nat}{v:α}{E:List (Nat × α)}(h:(E.map (·.1)).Nodup):((putN k v E).map (·.1)).Nodup:=by
 rw[yE];split
 ·exact h
 rename_i z;exact jX h z
theorem wM {k:Nat}{v:α}:∀{E:List (Nat × α)},(E.map (·.1)).Nodup->(k,v)∈E->dm k E=some v
 | (k',v')::r,nd,h=>by
  rw[A_,Vu] at nd
  unfold dm
  rcases p_.mp h with e | h
  ·
   cases e;rw[if_pos rfl]
  ·
   rw[if_neg (fun z=>nd.1 (by rw[z];exact k_.mpr ⟨_,h,rfl⟩))]
   exact wM nd.2 h
end
abbrev Ev:=List (Nat × Int × List Nat)
def ldN (W:Wk) (i:Nat):Int:=dh W.tasks (pk W i)
def stp (W:Wk) (d:Nat) (v:Int × List Nat) (B:Ev) (f:Nat):Ev:=match dm (d+f) B with
 |none=>putN (d+f) (v.1+ldN W f^2,v.2++[f]) B
 |some u=>if v.1+ldN W f^2<u.1 then putN (d+f) (v.1+ldN W f^2,v.2++[f]) B else B
theorem Frw.inv {W:Wk}{beat:Int}{gs:List Nat}{d:Nat}(r:Frw W beat gs d) {k:Nat}(hl:gs.length=k+1):∃fs d' f,gs=fs++[f]/\d=d'+f/\Frw W beat fs d'/\fs.length=k/\f∈fls W beat k d':=by
 cases r with
 |nil=>cases hl
 |@snoc fs d' f r h1 h2 =>
  have:fs.length=k:=by rw[b_] at hl;simp at hl;exact hl
  exact⟨fs,d',f,rfl,rfl,r,this,by rw[<- this];exact h2⟩
theorem Frw.nil0 {W:Wk}{beat:Int}{gs:List Nat}{d:Nat}(r:Frw W beat gs d) (h:gs=[]):d=0:=by
 cases r with
 |nil=>rfl
 |@snoc fs d' f r h1 h2=>exact absurd h (by simp)
theorem Hv {W:Wk}{beat:Int}{k d f:Nat}(hW:WkOk W) (hd:d<top2 W) (hf:f∈fls W beat k d):d+f<top2 W:=by
 obtain⟨hft,F⟩:=fls_mem.mp hf;have e:d+f=bR (nm W) (pk W d++pk W f):=by rw[<- gQ _ _ _ fun x hx z=>F.apart hx z.2 z.1,d7 hW hd,d7 hW hft]
 rw[e];exact j9 _
theorem Wlk.frz {C:Addr}{W:Wk}{beat:Int}{H:Hp3}{a q:Addr}{o:O3}{E:List (Int × T)}(h:Wlk C W beat H a) (hq:H q=some (.dci E)):Wlk C W beat (up3 H q o) a:=by
 obtain⟨p,h1,h2⟩:=h.ex;exact⟨p,by rw[aD (ne3 h1 hq (by simp))];exact h1,by rw[aD (ne3 h2 hq (by simp))];exact h2⟩
def Kb1 (pb:Addr) (H H':Hp3):Prop:=∀b u,b≠pb->H b=some u->H' b=some u
theorem Kb1.new {pb p:Addr}{H H':Hp3}{o:O3}(k:Kb1 pb H H') (hp:H' p=none):Kb1 pb H (up3 H' p o):=fun b u hb h=>by rw[aD (aX (k b u hb h) hp)];exact k b u hb h
theorem Kb1.put {pb:Addr}{H H':Hp3}{o:O3}(k:Kb1 pb H H'):Kb1 pb H (up3 H' pb o):=fun b u hb h=>by rw[aD hb];exact k b u hb h
theorem Kb1.wlk {C:Addr}{W:Wk}{beat:Int}{pb a:Addr}{H H':Hp3}(k:Kb1 pb H H') (hp:H pb=none) (h:Wlk C W beat H a):Wlk C W beat H' a:=by
 obtain⟨p,h1,h2⟩:=h.ex;exact⟨p,k _ _ (aX h1 hp) h1,k _ _ (aX h2 hp) h2⟩
structure Hol (W:Wk) (f:Str->Nat):Prop where
 ord:∀o∈W.orders,f o.1<=f o.2
 pai:∀p∈W.pairs,f p.2.1=f p.2.2↔p.1="with"
 kin:∀t∈W.tasks,jT t.2.2 (W.row.getD (f t.1) "")=true
theorem Hol.congr {W:Wk}{f g:Str->Nat}(hW:WkOk W) (h:Hol W f) (e:∀n∈nm W,f n=g n):Hol W g :=
 ⟨fun o ho=>by
  have q:=hW.oo o ho
  rw[<- e _ q.2.1,<- e _ q.2.2];exact h.ord o ho,fun p hp=>by
  have q:=hW.pp p hp
  rw[<- e _ q.2.2.1,<- e _ q.2.2.2];exact h.pai p hp,fun t ht=>by
  rw[<- e _ (k_.mpr ⟨t,ht,rfl⟩)];exact h.kin t ht⟩
def ldF (ts:List (Str × Int × List Str)) (f:Str->Nat) (k:Nat):Int:=((ts.filter fun t=>decide (f t.1=k)).map (·.2.1)).sum
def lds (W:Wk) (f:Str->Nat) (m:Nat):List Int:=(List.range m).map (ldF W.tasks f)
theorem yF {ts:List (Str × Int × List Str)}{f g:Str->Nat}(e:∀t∈ts,f t.1=g t.1) (k:Nat):ldF ts f k=ldF ts g k:=by
 have:(ts.filter fun t=>decide (f t.1=k))=ts.filter fun t=>decide (g t.1=k):=V1 fun t ht=>by rw[e t ht]
 unfold ldF;rw[this]
theorem yG {W:Wk}{f g:Str->Nat}(e:∀n∈nm W,f n=g n) (m:Nat):lds W f m=lds W g m :=
 VR fun k _=>yF (fun t ht=>e _ (k_.mpr ⟨t,ht,rfl⟩)) k
theorem Dd (A:List (Str × Int × List Str)) (t:Str × Int × List Str) (f:Str->Nat) (k:Nat):ldF (A++[t]) f k=ldF A f k+if f t.1=k then t.2.1 else 0:=by
 unfold ldF;rw[WT,u_,List.sum_append];by_cases h:f t.1=k <;> simp [h]
theorem De {ns:List Str}{f:Str->Nat}{m k:Nat}(hk:k<m):(dealt ns f m)[k]?=some (ns.filter fun n=>decide (f n=k)):=by
 unfold dealt;rw[z_,Vz hk];rfl
theorem Df {W:Wk}{f:Str->Nat}{m:Nat}(hW:WkOk W) (hm:m<=W.row.length) (hf:∀n,f n<m):∀n∈nm W,fD (dealt (nm W) f m) n=f n:=fun n hn =>
 eV (jy hW (XR _) hm hf).nd (De (hf n)) (F_.mpr ⟨hn,O_ rfl⟩)
theorem uG {W:Wk}{f:Str->Nat}{k:Nat}:dh W.tasks ((nm W).filter fun n=>decide (f n=k))=ldF W.tasks f k:=by
 have e:(W.tasks.filter fun t=>decide (t.1∈(nm W).filter fun n=>decide (f n=k)))=W.tasks.filter fun t=>decide (f t.1=k):=V1 fun t ht=>by rw[Wv,F_,q_];exact⟨fun z=>z.2,fun z=>⟨k_.mpr ⟨t,ht,rfl⟩,z⟩⟩
 unfold dh ldF;rw[e]
theorem Dg {W:Wk}{beat:Int}{f:Str->Nat}{m:Nat}(hW:WkOk W) (hm:m<=W.row.length) (hf:∀n,f n<m) (h:Hol W f) (hb:∀l∈lds W f m,l<=beat):Fils W beat (dealt (nm W) f m):=by
 have ok:Dok W (dealt (nm W) f m):=jy (W:=W) hW (XR _) hm hf;have e:=Df hW hm hf;have h2:=h.congr hW (g:=fD (dealt (nm W) f m)) fun n hn=>(e n hn).symm;refine (rK hW ok).mp ⟨h2.ord,h2.pai,fun k s ek t ht hs=>?_,fun s hs=>?_⟩
 ·have:=eV ok.nd ek hs;have:=h2.kin t ht
  rwa [eV ok.nd ek hs] at this
 obtain⟨k,hk,rfl⟩:=k_.mp hs;show dh W.tasks ((nm W).filter fun n=>decide (f n=k))<=beat
 rw[uG];exact hb _ (k_.mpr ⟨k,hk,rfl⟩)
def gfl (W:Wk) (beat:Int) (k d:Nat):List Nat:=(gre bG (fls W beat k d)).reverse
theorem p8 {W:Wk}{beat:Int}{k d f:Nat}(h:f∈gfl W beat k d):f∈fls W beat k d:=pY _ _ (List.mem_reverse.mp h)
theorem Hw {W:Wk}{beat:Int}{k d f:Nat}(h:f∈fls W beat k d):∃g∈gfl W beat k d,bG g f=true:=by
 obtain⟨g,hg,e⟩:=wI yC _ f h;exact⟨g,List.mem_reverse.mpr hg,e⟩
theorem Dh {W:Wk}{t x:Str}(h:x∈fj W t) (ht:t∈nm W):t∈fj W x:=by
 unfold fj at h ⊢;rw[F_,@q_ _ (Classical.propDecidable _)] at h ⊢;exact⟨ht,h.2.2,h.2.1⟩
theorem Frw.grp {W:Wk}{beat:Int}{fs:List Nat}{d:Nat}(hW:WkOk W) (r:Frw W beat fs d) {t x:Str}(ht:t∈pk W d) (hx:x∈fj W t):x∈pk W d:=by
 obtain⟨_,_,hm,hF,_⟩:=r.ok hW;obtain⟨s,hs,hts⟩:=V8.mp ((hm t).mp ht);obtain⟨j,hj⟩:=XS hs;obtain⟨u,hu,eu⟩:=k_.mp (gP ht);have f:=(hF j s hj).one u hu (by rw[eu];exact hts);exact (hm x).mpr (V8.mpr ⟨s,hs,f.2.2.1 x (by rw[eu];exact hx)⟩)
theorem uH {ts:List (Str × Int × List Str)}{S S':List Str}(hp:∀t∈ts,0<=t.2.1) (h:∀x∈S',x∈S):dh ts S'<=dh ts S:=by
 unfold dh;induction ts with
 |nil=>exact Int.le_refl _
 |cons t r ih =>
  have i:=ih fun u hu=>hp u (v_ _ hu)
  have h0:=hp t t_
  rw[X4,X4]
  by_cases h1:t.1∈S'
  ·
   rw[if_pos (O_ h1),if_pos (O_ (h _ h1)),A_,A_,Wh,Wh]
   omega
  ·
   rw[if_neg (Ge h1)]
   by_cases h2:t.1∈S
   ·
    rw[if_pos (O_ h2),A_,Wh];omega
   ·
    rw[if_neg (Ge h2)];exact i
theorem Fil.more {W:Wk}{beat:Int}{kind:Str}{D S D':List Str}(hW:WkOk W) (f:Fil W beat kind D S) (hD:∀x∈D,x∈D') (hg:∀t x,t∈D'->x∈fj W t->x∈D'):Fil W beat kind D' (S.filter fun x=>decide (x∉D')) :=
 ⟨fun t ht hs=>by
  rw[F_,q_] at hs
  obtain⟨h1,h2,h3,h4,h5⟩:=f.one t ht hs.1
  refine⟨hs.2,h2,fun x hx=>?_,fun x hx=>?_,fun x hx z=>h5 x hx (F_.mp z).1⟩
  ·
   rw[F_,q_]
   exact⟨h3 x hx,fun z=>hs.2 (hg x t.1 z (Dh hx (k_.mpr ⟨t,ht,rfl⟩)))⟩
  ·
   by_cases z:x∈D'
   ·
    exact .inr z
   ·
    exact .inl (F_.mpr ⟨(h4 x hx).resolve_right fun q=>z (hD x q),O_ z⟩),
  X5 (uH (fun t ht=>by have:=(hW.tk t ht).lo;omega) fun x hx=>(F_.mp hx).1) f.ld⟩
abbrev Wy:=List (Nat × List Nat)
def iu (d:Nat) (v:List Nat) (B:Wy) (f:Nat):Wy:=match dm (d+f) B with
 |none=>putN (d+f) (v++[f]) B
 |some _=>B
def wbh (W:Wk) (beat:Int) (k:Nat) (E:Wy):Wy:=E.foldl (fun B e=>(gfl W beat k e.1).foldl (iu e.1 e.2) B) []
def wys (W:Wk) (beat:Int):Nat->Wy
 |0=>[(0,[])]
 |k+1=>wbh W beat k (wys W beat k)
structure Wtb (W:Wk) (beat:Int) (k:Nat) (E:Wy):Prop where
 nd:(E.map (·.1)).Nodup
 ok:∀e∈E,Frw W beat e.2 e.1/\e.2.length=k
 al:∀fs d,Frw W beat fs d->fs.length=k->∃e∈E,∀x∈pk W d,x∈pk W e.1
structure WtI (W:Wk) (beat:Int) (k:Nat) (sub:Nat->Nat->Prop) (B:Wy):Prop where
 nd:(B.map (·.1)).Nodup
 ok:∀e∈B,Frw W beat e.2 e.1/\e.2.length=k+1
 al:∀d f,sub d f->∃e∈B,e.1=d+f
theorem WtI.step {W:Wk}{beat:Int}{k:Nat}{sub:Nat->Nat->Prop}{B:Wy}{d:Nat}{v:List Nat}{f:Nat}(h:WtI W beat k sub B) (hr:Frw W beat v d) (hl:v.length=k) (hk:k<W.row.length) (hf:f∈fls W beat k d) :
  WtI W beat k (fun d' f'=>sub d' f'\/(d'=d/\f'=f)) (iu d v B f):=by
 have new:Frw W beat (v++[f]) (d+f)/\(v++[f]).length=k+1 :=
  ⟨.snoc hr (by omega) (by rw[hl];exact hf),by rw[b_,hl];rfl⟩
 unfold iu;cases e:dm (d+f) B with
 |none =>
  refine⟨wL h.nd,fun x hx=>?_,fun d' f' hs=>?_⟩
  ·rcases rR hx with rfl | ⟨hx,_⟩ | ⟨hx,_⟩
   ·exact new
   ·exact h.ok x hx
   exact h.ok x hx
  rcases hs with hs | ⟨rfl,rfl⟩
  ·obtain⟨x,hx,e1⟩:=h.al d' f' hs;exact⟨x,Dc hx (lV e x hx),e1⟩
  exact⟨_,CZ _ _ _,rfl⟩
 |some u =>
 refine⟨h.nd,h.ok,fun d' f' hs=>?_⟩;rcases hs with hs | ⟨rfl,rfl⟩
 ·exact h.al d' f' hs
 exact⟨_,ig e,rfl⟩
theorem WtI.inner {W:Wk}{beat:Int}{k:Nat}{sub:Nat->Nat->Prop}{B:Wy}{d:Nat}{v:List Nat}(hr:Frw W beat v d) (hl:v.length=k) (hk:k<W.row.length) :
  ∀{xs:List Nat},(∀f∈xs,f∈fls W beat k d)->WtI W beat k sub B->WtI W beat k (fun d' f'=>sub d' f'\/(d'=d/\f'∈xs)) (xs.foldl (iu d v) B):=by
 intro xs;induction xs generalizing sub B with
 |nil=>intro _ h;exact⟨h.nd,h.ok,fun d' f' hs=>h.al d' f' (hs.resolve_right fun z=>nomatch z.2)⟩
 |cons f r ih =>
 intro hx h;have h1:=ih (fun g hg=>hx g (v_ _ hg)) (h.step hr hl hk (hx f t_));refine⟨h1.nd,h1.ok,fun d' f' hs=>h1.al d' f' ?_⟩;rcases hs with hs | ⟨e1,e3⟩
 ·exact .inl (.inl hs)
 rcases p_.mp e3 with e3 | e3
 ·exact .inl (.inr ⟨e1,e3⟩)
 exact .inr ⟨e1,e3⟩
theorem WtI.outer {W:Wk}{beat:Int}{k:Nat}(hk:k<W.row.length):∀{xs:Wy}{sub:Nat->Nat->Prop}{B:Wy},(∀e∈xs,Frw W beat e.2 e.1/\e.2.length=k)->WtI W beat k sub B ->
  WtI W beat k (fun d f=>sub d f\/((∃v,(d,v)∈xs)/\f∈gfl W beat k d)) (xs.foldl (fun B e=>(gfl W beat k e.1).foldl (iu e.1 e.2) B) B)
 |[],_,_,_,h=>⟨h.nd,h.ok,fun d f hs=>h.al d f (hs.resolve_right fun z=>z.1.elim fun _ q=>nomatch q)⟩
 |e::r,sub,B,hx,h=>by
  obtain⟨h1,h2⟩:=hx e t_
  have q:=WtI.outer hk (xs:=r) (fun x hxr=>hx x (v_ _ hxr)) (WtI.inner (xs:=gfl W beat k e.1) h1 h2 hk (fun f hf=>p8 hf) h)
  refine⟨q.nd,q.ok,fun d f hs=>q.al d f ?_⟩
  rcases hs with hs | ⟨⟨v,e1⟩,e2⟩
  ·
   exact .inl (.inl hs)
  ·
   rcases p_.mp e1 with z | z
   ·
    rw[<- z] at *
    exact .inl (.inr ⟨rfl,e2⟩)
   ·
    exact .inr ⟨⟨v,z⟩,e2⟩
theorem Di {W:Wk}{beat:Int}{k d f:Nat}(hW:WkOk W) (hd:d<top2 W) (hf:f∈fls W beat k d) {x:Str}:x∈pk W (d+f)↔x∈pk W d\/x∈pk W f:=by
 obtain⟨hft,F⟩:=fls_mem.mp hf;have e:d+f=bR (nm W) (pk W d++pk W f):=by rw[<- gQ _ _ _ fun x hx z=>F.apart hx z.2 z.1,d7 hW hd,d7 hW hft]
 rw[e,jz hW,D_];exact⟨fun z=>z.2,fun z=>⟨z.elim gP gP,z⟩⟩
theorem Dj {W:Wk}{beat:Int}{k:Nat}{E:Wy}(hW:WkOk W) (h:Wtb W beat k E) (hk:k<W.row.length):Wtb W beat (k+1) (wbh W beat k E):=by
 have q:=WtI.outer (W:=W) (beat:=beat) hk (xs:=E) (sub:=fun _ _=>False) (B:=[]) h.ok ⟨XQ,fun _ z=>(nomatch z),fun _ _ z=>z.elim⟩;refine⟨q.nd,q.ok,fun fs d r hl=>?_⟩;obtain⟨gs,d',f,rfl,rfl,r',hl',hf⟩:=r.inv hl;obtain⟨e,he,e1⟩:=h.al gs d' r' hl';have re:=(h.ok e he).1;have hde:=(re.ok hW).1;obtain⟨hft,F⟩:=fls_mem.mp hf;have F':=F.more hW e1 fun t x ht hx=>re.grp hW ht hx;have hf':bR (nm W) ((pk W f).filter fun x=>decide (x∉pk W e.1))∈fls W beat k e.1:=fls_mem.mpr ⟨j9 _,F'.congr (fun x=>Iff.rfl) fun x=>by rw[jz hW];exact⟨fun z=>⟨gP (F_.mp z).1,z⟩,fun z=>z.2⟩⟩;obtain⟨g,hg,eg⟩:=Hw hf';have hgf:=p8 hg;obtain⟨x,hx,x1⟩:=q.al e.1 g (.inr ⟨⟨e.2,he⟩,hg⟩);have hgt:=(fls_mem.mp hgf).1;refine⟨x,hx,fun y hy=>?_⟩;rw[x1,Di hW hde hgf];rcases (Di hW (r'.ok hW).1 hf).mp hy with z | z
 ·exact .inl (e1 y z)
 by_cases c:y∈pk W e.1
 ·exact .inl c
 refine .inr ?_;rw[<- d7 hW hgt,rM] at eg;exact eg y (gP z) (F_.mpr ⟨z,O_ c⟩)
theorem wtb {W:Wk}{beat:Int}(hW:WkOk W):∀{k:Nat},k<=W.row.length->Wtb W beat k (wys W beat k)
 |0,_=>⟨by simp [wys],fun e he=>by rw[i_.mp he];exact⟨.nil,rfl⟩,fun fs d r hl=>by
   refine⟨(0,[]),i_.mpr rfl,fun x hx=>?_⟩
   rw[r.nil0 (Xk.mp hl)] at hx
   exact hx⟩
 |k+1,h=>Dj hW (wtb hW (by omega)) (by omega)
structure WOk (W:Wk) (n:Nat) (E:Wy):Prop where
 nd:(E.map (·.1)).Nodup
 lt:∀e∈E,e.1<top2 W/\e.2.length<=n/\∀f∈e.2,f<top2 W
theorem WOk.len {W:Wk}{n:Nat}{E:Wy}(h:WOk W n E):E.length<=top2 W:=by
 have:=Cp (l:=E.map (·.1)) (m:=List.range (top2 W)) h.nd fun x hx=>by obtain⟨e,he,rfl⟩:=k_.mp hx;exact I_.mpr (h.lt e he).1
 rwa [d_,n_] at this
theorem WOk.stp {W:Wk}{beat:Int}{k n d f:Nat}{v:List Nat}{B:Wy}(hW:WkOk W) (h:WOk W (n+1) B) (hd:d<top2 W) (hv:v.length<=n) (hvt:∀f∈v,f<top2 W) (hf:f∈fls W beat k d):WOk W (n+1) (iu d v B f):=by
 unfold iu;split
 ·refine⟨wL h.nd,fun x hx=>?_⟩;rcases rR hx with rfl | ⟨hx,_⟩ | ⟨hx,_⟩
  ·refine⟨Hv hW hd hf,by rw[b_];simp;exact hv,fun g hg=>?_⟩;rcases D_.mp hg with hg | hg
   ·exact hvt g hg
   rw[i_.mp hg];exact (fls_mem.mp hf).1
  ·exact h.lt x hx
  exact h.lt x hx
 exact h
theorem Wtb.wok {W:Wk}{beat:Int}{k:Nat}{E:Wy}(hW:WkOk W) (h:Wtb W beat k E):WOk W k E:=⟨h.nd,fun e he=>by
 obtain⟨r,hl⟩:=h.ok e he;obtain⟨h1,_,_,_,h5⟩:=r.ok hW;exact⟨h1,by omega,h5⟩⟩
theorem Hx {W:Wk}{beat:Int}(hW:WkOk W) {m:Nat}(hm:m<=W.row.length):(dm (top2 W - 1) (wys W beat m)).isSome=true↔∃fs,Frw W beat fs (top2 W - 1)/\fs.length=m:=by
 have T:=wtb (beat:=beat) hW hm;constructor
 ·intro h;obtain⟨v,e⟩:=Option.isSome_iff_exists.mp h;have:=T.ok _ (ig e);exact⟨v,this.1,this.2⟩
 rintro⟨fs,r,hl⟩;obtain⟨e,he,h⟩:=T.al fs _ r hl;have e1:e.1=top2 W - 1:=by rw[<- d7 hW ((T.ok e he).1.ok hW).1];exact jA fun x hx=>h x (oN hW x hx)
 have:=wM T.nd (show (e.1,e.2)∈wys W beat m from he);rw[e1] at this;rw[this];rfl
def wyT (v:List Nat):T:=.tup (v.map bA)
def wyE (e:Nat × List Nat):T:=.tup [.int (e.1:Int),wyT e.2]
theorem Tc (E:Wy):(dI wyT E).map itT=E.map wyE:=by unfold dI;rw[Vg];rfl
def wbF (W:Wk) (beat:Int) (k:Nat) (B:Wy) (e:Nat × List Nat):Wy:=(gfl W beat k e.1).foldl (iu e.1 e.2) B
def Td:Sp3:=fun ts H Q=>∃(a:Addr) (fs:List Nat),ts=[.ref a]/\H a=some (.lst (fs.map bA))/\fs.length<=256/\∀p,H p=none->Q (.ref p) (up3 H p (.lst ((gre bG fs).reverse.map bA)))
theorem qb {α:Type}(has:α->α->Bool):∀xs:List α,(gre has xs).length<=xs.length
 |[]=>m_ _
 |n::B=>by
  have:=qb has B
  unfold gre
  split
  ·
   rw[j_];omega
  ·
   rw[b_,j_];simp only[j_,Wd];omega
def Te (C:Addr):Sp3:=fun ts H Q=>∃(a:Addr) (W:Wk) (beat:Int) (k d:Nat),ts=[.ref a,.int (k:Int),.int (d:Int)]/\WkOk W/\Wlk C W beat H a/\k<W.row.length/\d<top2 W/\∀p,H p=none->Q (.ref p) (up3 H p (.lst ((gfl W beat k d).map bA)))
def Tf (C:Addr):Sp3:=fun ts H Q=>∃(a q:Addr) (W:Wk) (beat:Int) (k n:Nat) (E:Wy),ts=[.ref a,.int (k:Int),.ref q]/\WkOk W/\Wlk C W beat H a/\k<W.row.length/\n<=8/\WOk W n E/\H q=some (.dci (dI wyT E))/\∀o p,H p=none->Q (.ref p) (up3 (up3 H q (.dif o (dI wyT E))) p (.dci (dI wyT (wbh W beat k E))))
def dtT (W:Wk) (beat:Int) (m:Nat):T:=match dm (top2 W - 1) (wys W beat m) with
 |none=>.non
 |some v=>.tup ((v.map (pk W)).map sT)
def Tg:Sp3:=fun ts H Q=>∃(W:Wk) (beat:Int) (m:Nat),ts=[W.enc,.int beat,.int (m:Int)]/\WkOk W/\m<=W.row.length/\Q (dtT W beat m) H
def Can (W:Wk) (m:Nat) (b:Int):Prop:=∃f:Str->Nat,(∀n,f n<m)/\Hol W f/\∀l∈lds W f m,l<=b
theorem Hy {W:Wk}{beat:Int}{m:Nat}{fs:List Nat}(hW:WkOk W) (r:Frw W beat fs (top2 W - 1)) (hl:fs.length=m):Can W m beat:=by
 obtain⟨ok,F⟩:=r.dok hW;have R:=(rK hW ok).mpr F;have lt:∀n∈nm W,fD (fs.map (pk W)) n<m:=fun n hn=>by
  obtain⟨k,s,e,hs⟩:=jg (ok.al n hn);rw[eV ok.nd e hs];have:k<(fs.map (pk W)).length:=by
   rcases Yl k (fs.map (pk W)).length with z | z
   ·exact z
   rw[L_ z] at e;cases e
  rwa [d_,hl] at this
 have H0:Hol W (fD (fs.map (pk W))):=⟨R.ord,R.pai,fun t ht=>by
  obtain⟨k,s,e,hs⟩:=jg (ok.al t.1 (k_.mpr ⟨t,ht,rfl⟩))
  rw[eV ok.nd e hs]
  exact R.kin k s e t ht hs⟩
 have m1:0<m:=by obtain⟨t,ht⟩:∃t,t∈W.tasks:=List.exists_mem_of_length_pos (by have:=hW.t1;omega);have:=lt t.1 (k_.mpr ⟨t,ht,rfl⟩);omega
 have eq:∀n∈nm W,fD (fs.map (pk W)) n=if n∈nm W then fD (fs.map (pk W)) n else 0:=fun n hn=>by rw[if_pos hn]
 refine⟨fun n=>if n∈nm W then fD (fs.map (pk W)) n else 0,fun n=>?_,H0.congr hW eq,fun l hl2=>?_⟩
 ·show (if n∈nm W then fD (fs.map (pk W)) n else 0)<m;split
  ·exact lt n (by assumption)
  exact m1
 rw[<- yG eq] at hl2;obtain⟨k,hk,rfl⟩:=k_.mp hl2;have hk':k<(fs.map (pk W)).length:=by rw[d_,hl];exact I_.mp hk
 have es:=g_ hk';refine X5 (Int.le_of_eq ?_) (R.bea _ (Vh hk'));unfold ldF dh;congr 2;refine V1 fun t ht=>?_;rw[Wv];have hn:t.1∈nm W:=k_.mpr ⟨t,ht,rfl⟩;constructor
 ·intro z;obtain⟨k2,s2,e2,hs2⟩:=jg (ok.al t.1 hn);rw[eV ok.nd e2 hs2] at z;subst z;rw[es] at e2;cases e2;exact hs2
 intro z;exact eV ok.nd es z
theorem Dk {W:Wk}{beat:Int}{m:Nat}(hW:WkOk W) (hm:m<=W.row.length):(dtT W beat m=.non/\¬Can W m beat)\/((∃xs,dtT W beat m=.tup xs)/\Can W m beat):=by
 have h:=Hx (beat:=beat) hW hm;unfold dtT;cases e:dm (top2 W - 1) (wys W beat m) with
 |none=>refine .inl ⟨rfl,fun ⟨f,h1,h2,h3⟩=>?_⟩;have:=h.mpr ⟨_,Frw.ofD hW (jy (W:=W) hW (XR _) hm h1) (Dg hW hm h1 h2 h3),by rw[d_,oK]⟩;rw[e] at this;cases this
 |some v =>
 obtain⟨fs,r,hl⟩:=h.mp (by rw[e];rfl);exact .inr ⟨⟨_,rfl⟩,Hy hW r hl⟩
def alS (l:List Int) (t:Str × Int × List Str):List Int:=l++l.map (·+t.2.1)
def alD (ts:List (Str × Int × List Str)):List Int:=ts.foldl alS [0]
theorem jh (A:List (Str × Int × List Str)) (t:Str × Int × List Str):alD (A++[t])=alS (alD A) t:=by unfold alD;rw[Yn];rfl
theorem snoc_ind {α:Type}{C:List α->Prop}(h0:C []) (h1:∀A t,C A->C (A++[t])) (l:List α):C l:=by
 have:∀l:List α,C l.reverse:=fun l=>by
  induction l with
  |nil=>exact h0
  |cons x r ih=>rw[Yj];exact h1 _ _ ih
 simpa using this l.reverse
theorem qd (ts:List (Str × Int × List Str)):(alD ts).length=2^ts.length:=by
 refine snoc_ind (C:=fun ts=>(alD ts).length=2^ts.length) rfl (fun A t ih=>?_) ts;rw[jh];unfold alS;rw[b_,d_,ih,b_,G_,Nat.pow_succ];omega
theorem Oi (ts:List (Str × Int × List Str)) (f:Str->Nat) (k:Nat):ldF ts f k∈alD ts:=by
 refine snoc_ind (C:=fun ts=>ldF ts f k∈alD ts) (i_.mpr rfl) (fun A t ih=>?_) ts;rw[jh,Dd];unfold alS;split
 ·exact T_ _ (k_.mpr ⟨_,ih,rfl⟩)
 rw[Int.add_zero];exact Ve _ ih
theorem kh:∀{l:List Int},l≠[]->∃M∈l,∀x∈l,x<=M
 |[],h=>absurd rfl h
 |[x],_=>⟨x,.head _,fun y hy=>by rw[i_.mp hy];exact Int.le_refl _⟩
 |x::y::r,_=>by
  obtain⟨M,h1,h2⟩:=kh (l:=y::r) (by simp)
  by_cases c:M<=x
  ·
   exact⟨x,.head _,fun z hz=>by
    rcases p_.mp hz with rfl | hz
    ·
     exact Int.le_refl _
    ·
     exact X5 (h2 z hz) c⟩
  ·
   exact⟨M,.tail _ h1,fun z hz=>by
    rcases p_.mp hz with rfl | hz
    ·
     omega
    ·
     exact h2 z hz⟩
def Lb (W:Wk) (m:Nat) (t:T):Prop:=(t=.non/\∀b,¬Can W m b)\/∃b,t=.int b/\Can W m b/\∀c,Can W m c->b<=c
theorem Can.mono {W:Wk}{m:Nat}{b c:Int}(h:Can W m b) (hc:b<=c):Can W m c:=by
 obtain⟨f,h1,h2,h3⟩:=h;exact⟨f,h1,h2,fun l hl=>X5 (h3 l hl) hc⟩
theorem Dl {W:Wk}{m:Nat}{c:Int}{us:List Int}(hu:∀k,k∈us↔k∈alD W.tasks) (h:Can W m c):∃i,∃hi:i<us.length,Can W m us[i]/\us[i]<=c:=by
 obtain⟨f,h1,h2,h3⟩:=h;have hne:lds W f m≠[]:=fun z=>by have:=Q_ List.length z;unfold lds at this;rw[d_,n_] at this;have h4:=h1 "";rw[this] at h4;cases h4
 obtain⟨M,hM,hx⟩:=kh hne;obtain⟨k,_,e⟩:=k_.mp hM;have:M∈us:=(hu M).mpr (by rw[<- e];exact Oi _ _ _);obtain⟨i,hi,rfl⟩:=V_ this;exact⟨i,hi,⟨f,h1,h2,hx⟩,h3 _ hM⟩
theorem uI {us:List Int}(h:us.Pairwise (·<·)) {i j:Nat}(hi:i<us.length) (hj:j<us.length) (e:i<=j):us[i]<=us[j]:=by
 rcases Nat.lt_or_eq_of_le e with z | z
 ·exact Int.le_of_lt (VH.mp h i j hi hj z)
 subst z;exact Int.le_refl _
theorem Hz {W:Wk}{m:Nat}{us:List Int}(hr:Ris (alD W.tasks) us) {j:Nat}(hj:j+1=us.length) (h:¬Can W m (us[j]'(by omega))):Lb W m .non:=.inl ⟨rfl,fun b hb=>by
 obtain⟨i,hi,h1,_⟩:=Dl hr.2 hb;exact h (h1.mono (uI hr.1 hi (by omega) (by omega)))⟩
theorem HB {W:Wk}{m:Nat}{us:List Int}(hr:Ris (alD W.tasks) us) {lo:Nat}(hl:lo<us.length) (h:Can W m us[lo]) (hn:∀i (hi:i<us.length),i<lo->¬Can W m us[i]):Lb W m (.int us[lo]):=.inr ⟨_,rfl,h,fun c hc=>by
 obtain⟨i,hi,h1,h2⟩:=Dl hr.2 hc;rcases Yl i lo with z | z
 ·exact absurd h1 (hn i hi z)
 exact X5 (uI hr.1 hl hi z) h2⟩
def Th:Sp3:=fun ts H Q=>∃(W:Wk),ts=[W.enc]/\WkOk W/\W.tasks.length<=5/\∀(H':Hp3) (p:Addr) (us:List Int),Sub3 H H'->Ris (alD W.tasks) us->H' p=some (.lst (us.map T.int))->Q (.ref p) H'
def Oj:Sp3:=fun ts H Q=>∃(W:Wk) (m:Nat),ts=[W.enc,.int (m:Int)]/\WkOk W/\W.tasks.length<=5/\m<=W.row.length/\∀(H':Hp3) (t:T),Sub3 H H'->Lb W m t->Q t H'
variable {f:Str->Str}{W W2:Wk}
theorem ji {α β:Type}{g:α->β}:∀{l:List α},(∀a∈l,∀b∈l,g a=g b->a=b)->l.Nodup->(l.map g).Nodup
 |[],_,_=>XQ
 |a::l,hf,h=>by
  rw[Vu] at h
  rw[A_,Vu]
  refine⟨fun hm=>?_,ji (fun x hx y hy=>hf x (v_ _ hx) y (v_ _ hy)) h.2⟩
  obtain⟨b,hb,e⟩:=k_.mp hm
  exact h.1 (hf _ (v_ _ hb) _ t_ e▸hb)
def Wk.turn (W:Wk):Wk:=⟨W.tasks,W.orders.map fun o=>(o.2,o.1),W.pairs,W.row.reverse⟩
theorem WkOk.turn (h:WkOk W):WkOk W.turn:=by
 obtain⟨a1,a2,a3,a4,a5,a6,a7,a8,a9,a10,a11,a12,a13⟩:=h;refine⟨a1,a2,a3,a4,by simpa [Wk.turn] using a5,?_,fun o ho=>?_,a8,a9,a10,by simpa [Wk.turn] using a11,by simpa [Wk.turn] using a12,fun x hx=>a13 x (by simpa [Wk.turn] using hx)⟩
 ·exact ji (fun a _ b _ e=>Prod.ext (Q_ Prod.snd e) (Q_ Prod.fst e)) a6
 obtain⟨u,hu,rfl⟩:=k_.mp ho;obtain⟨b1,b2,b3⟩:=a7 u hu;exact⟨Ne.symm b1,b3,b2⟩
theorem Dm {W:Wk}{f:Str->Nat}{m:Nat}(h:f ""<m):lds W f m≠[]:=fun z=>by
 have:=Q_ List.length z;unfold lds at this;rw[d_,n_] at this;rw[this] at h;cases h
def swO (f:Str->Str) (u:Bool × Str × Str × Str):Str × Str × Str:=if u.1=true then (u.2.1,f u.2.2.2,f u.2.2.1) else (u.2.1,f u.2.2.1,f u.2.2.2)
structure Oth (f:Str->Str) (W W2:Wk):Prop where
 inj:∀a∈nm W,∀b∈nm W,f a=f b->a=b
 nmf:∀a∈nm W,isNm (f a)
 tk:W2.tasks.Perm (W.tasks.map fun t=>(f t.1,t.2.1,t.2.2.reverse))
 os:W2.orders.Perm (W.orders.map fun o=>(f o.1,f o.2))
 ps:∃us:List (Bool × Str × Str × Str),(us.map (·.2)).Perm W.pairs/\W2.pairs=us.map (swO f)/\∀u∈us,u.1=true->(u.2.1,u.2.2.2,u.2.2.1)∉W.pairs
 rw:W2.row=W.row
variable {f:Str->Str}{W W2:Wk}
theorem Oth.nms (t:Oth f W W2):(nm W2).Perm ((nm W).map f):=by
 have:=t.tk.map (·.1);unfold nm;rw[Vg] at this ⊢;exact this
theorem Oth.mem' (t:Oth f W W2) {a:Str}(h:a∈nm W):f a∈nm W2:=t.nms.mem_iff.mpr (k_.mpr ⟨a,h,rfl⟩)
theorem Oth.ok (t:Oth f W W2) (hW:WkOk W):WkOk W2:=by
 have nmi:∀{a b:Str},a∈nm W->b∈nm W->a≠b->f a≠f b:=fun ha hb n e=>n (t.inj _ ha _ hb e);obtain⟨us,u1,u2,u3⟩:=t.ps;have upp:∀u∈us,u.2∈W.pairs:=fun u hu=>u1.mem_iff.mp (k_.mpr ⟨u,hu,rfl⟩);refine⟨?_,?_,fun x hx=>?_,t.nms.nodup_iff.mpr (ji t.inj hW.nd),?_,?_,fun x hx=>?_,?_,?_,fun x hx=>?_,by rw[t.rw];exact hW.r1,by rw[t.rw];exact hW.r8,by rw[t.rw];exact hW.rn⟩
 ·rw[t.tk.length_eq,d_];exact hW.t1
 ·rw[t.tk.length_eq,d_];exact hW.t8
 ·obtain⟨u,hu,rfl⟩:=k_.mp (t.tk.mem_iff.mp hx);have h:=hW.tk u hu;refine⟨t.nmf _ (k_.mpr ⟨u,hu,rfl⟩),h.lo,h.hi,?_,?_⟩
  ·exact⟨fun x hx=>h.ks.nm x (List.mem_reverse.mp hx),(List.reverse_perm _).nodup_iff.mpr h.ks.nd⟩
  show u.2.2.reverse.length<=_;rw[Vn];exact h.kl
 ·rw[t.os.length_eq,d_];exact hW.os
 ·refine t.os.nodup_iff.mpr (ji (fun a ha b hb e=>?_) hW.od);have h1:=hW.oo a ha;have h2:=hW.oo b hb;injection e with e1 e2;exact Prod.ext (t.inj _ h1.2.1 _ h2.2.1 e1) (t.inj _ h1.2.2 _ h2.2.2 e2)
 ·obtain⟨u,hu,rfl⟩:=k_.mp (t.os.mem_iff.mp hx);have h1:=hW.oo u hu;exact⟨nmi h1.2.1 h1.2.2 h1.1,t.mem' h1.2.1,t.mem' h1.2.2⟩
 ·rw[u2,d_,<- d_ (f:=(·.2)),u1.length_eq];exact hW.ps
 ·rw[u2];have nd:(us.map (·.2)).Nodup:=u1.nodup_iff.mpr hW.pd;unfold List.Nodup at nd ⊢;rw[Xz] at nd ⊢;refine Xa (fun {a b} ha hb n e=>n ?_) nd;have h1:=hW.pp _ (upp a ha);have h2:=hW.pp _ (upp b hb);obtain⟨ba,wa,xa,ya⟩:=a;obtain⟨bb,wb,xb,yb⟩:=b;have g1:=u3 _ ha;have g2:=u3 _ hb;have m1:=upp _ ha;have m2:=upp _ hb;unfold swO at e;dsimp only at *;cases ba <;> cases bb <;> simp only[y_,if_true,U7,Prod.mk.injEq] at e <;> obtain⟨e1,e2,e3⟩:=e <;> subst e1
  ·rw[t.inj _ h1.2.2.1 _ h2.2.2.1 e2,t.inj _ h1.2.2.2 _ h2.2.2.2 e3]
  ·rw[t.inj _ h1.2.2.1 _ h2.2.2.2 e2,t.inj _ h1.2.2.2 _ h2.2.2.1 e3] at m1;exact absurd m1 (g2 rfl)
  ·rw[<- t.inj _ h1.2.2.1 _ h2.2.2.2 e3,<- t.inj _ h1.2.2.2 _ h2.2.2.1 e2] at m2;exact absurd m2 (g1 rfl)
  rw[t.inj _ h1.2.2.1 _ h2.2.2.1 e3,t.inj _ h1.2.2.2 _ h2.2.2.2 e2]
 rw[u2] at hx;obtain⟨u,hu,rfl⟩:=k_.mp hx;have h1:=hW.pp _ (upp u hu);unfold swO;split
 ·exact⟨h1.1,nmi h1.2.2.2 h1.2.2.1 (Ne.symm h1.2.1),t.mem' h1.2.2.2,t.mem' h1.2.2.1⟩
 exact⟨h1.1,nmi h1.2.2.1 h1.2.2.2 h1.2.1,t.mem' h1.2.2.1,t.mem' h1.2.2.2⟩
theorem rT (ks:List Str) (k:Str):jT ks.reverse k=jT ks k:=by
 unfold jT;congr 1
 ·rw[Wv];simp
 rw[Wv,List.mem_reverse]
theorem Oth.hol (t:Oth f W W2) (hW:WkOk W) {g h:Str->Nat}(e:∀n∈nm W,g (f n)=h n):Hol W2 g↔Hol W h:=by
 obtain⟨us,u1,u2,u3⟩:=t.ps;have upp:∀u∈us,u.2∈W.pairs:=fun u hu=>u1.mem_iff.mp (k_.mpr ⟨u,hu,rfl⟩);have key:∀u∈us,((g (swO f u).2.1=g (swO f u).2.2↔(swO f u).1="with")↔(h u.2.2.1=h u.2.2.2↔u.2.1="with")):=fun u hu=>by
  have h1:=hW.pp _ (upp u hu);unfold swO;split
  ·show (g (f u.2.2.2)=g (f u.2.2.1)↔u.2.1="with")↔_;rw[e _ h1.2.2.1,e _ h1.2.2.2,eq_comm]
  show (g (f u.2.2.1)=g (f u.2.2.2)↔u.2.1="with")↔_;rw[e _ h1.2.2.1,e _ h1.2.2.2]
 constructor
 ·intro H;refine⟨fun o ho=>?_,fun p hp=>?_,fun x hx=>?_⟩
  ·have h1:=hW.oo o ho;have:=H.ord _ (t.os.mem_iff.mpr (k_.mpr ⟨o,ho,rfl⟩));dsimp only at this
   rwa [e _ h1.2.1,e _ h1.2.2] at this
  ·obtain⟨u,hu,rfl⟩:=k_.mp (u1.mem_iff.mpr hp);exact (key u hu).mp (H.pai _ (by rw[u2];exact k_.mpr ⟨u,hu,rfl⟩))
  have:=H.kin _ (t.tk.mem_iff.mpr (k_.mpr ⟨x,hx,rfl⟩));dsimp only at this
  rwa [rT,t.rw,e _ (k_.mpr ⟨x,hx,rfl⟩)] at this
 intro H;refine⟨fun o ho=>?_,fun p hp=>?_,fun x hx=>?_⟩
 ·obtain⟨o,ho2,rfl⟩:=k_.mp (t.os.mem_iff.mp ho);have h1:=hW.oo o ho2;dsimp only;rw[e _ h1.2.1,e _ h1.2.2];exact H.ord o ho2
 ·rw[u2] at hp;obtain⟨u,hu,rfl⟩:=k_.mp hp;exact (key u hu).mpr (H.pai _ (upp u hu))
 obtain⟨x,hx2,rfl⟩:=k_.mp (t.tk.mem_iff.mp hx);dsimp only;rw[rT,t.rw,e _ (k_.mpr ⟨x,hx2,rfl⟩)];exact H.kin x hx2
theorem Oth.lds (t:Oth f W W2) {g h:Str->Nat}(e:∀n∈nm W,g (f n)=h n) (m:Nat):lds W2 g m=lds W h m:=by
 unfold M.lds;refine VR fun k _=>?_;unfold ldF;have p:=(t.tk.filter fun t=>decide (g t.1=k)).map (·.2.1);rw[CN p,Yg,Vg];congr 1;show (W.tasks.filter _).map _=_;rw[show (W.tasks.filter ((fun t:Str × Int × List Str=>decide (g t.1=k)) ∘ fun t=>(f t.1,t.2.1,t.2.2.reverse)))=W.tasks.filter fun t=>decide (h t.1=k) from V1 fun x hx=>by
  show decide (g (f x.1)=k)=_
  rw[e _ (k_.mpr ⟨x,hx,rfl⟩)]]
 rfl
theorem Oth.can (t:Oth f W W2) (hW:WkOk W) {m:Nat}{b:Int}:Can W2 m b↔Can W m b:=by
 constructor
 ·rintro⟨g,h1,h2,h3⟩;exact⟨fun n=>g (f n),fun n=>h1 _,(t.hol hW fun _ _=>rfl).mp h2,by rw[<- t.lds (g:=g) fun _ _=>rfl];exact h3⟩
 rintro⟨h,h1,h2,h3⟩
 classical
 let g:Str->Nat:=fun x=>if z:∃n,n∈nm W/\f n=x then h (Classical.choose z) else h ""
 have e:∀n∈nm W,g (f n)=h n:=fun n hn=>by have z:∃n',n'∈nm W/\f n'=f n:=⟨n,hn,rfl⟩;show (if z:∃n',n'∈nm W/\f n'=f n then h (Classical.choose z) else h "")=h n;rw[dif_pos z];have:=Classical.choose_spec z;rw[t.inj _ this.1 _ hn this.2]
 refine⟨g,fun n=>?_,(t.hol hW e).mpr h2,by rw[t.lds e];exact h3⟩;show (if z:∃n',n'∈nm W/\f n'=n then h (Classical.choose z) else h "")<m;split
 ·exact h1 _
 exact h1 _
theorem rW {m:Nat}{t:T}(h:∀b,Can W2 m b↔Can W m b) (x:Lb W2 m t):Lb W m t:=by
 rcases x with ⟨e,hn⟩ | ⟨b,e,h1,h2⟩
 ·exact .inl ⟨e,fun b z=>hn b ((h b).mpr z)⟩
 exact .inr ⟨b,e,(h b).mp h1,fun c z=>h2 c ((h c).mpr z)⟩
theorem Lb.uniq {m:Nat}{t u:T}(h:Lb W m t) (h':Lb W m u):t=u:=by
 rcases h with ⟨rfl,hn⟩ | ⟨b,rfl,h1,h2⟩ <;> rcases h' with ⟨rfl,hn'⟩ | ⟨c,rfl,h3,h4⟩
 ·rfl
 ·exact absurd h3 (hn c)
 ·exact absurd h1 (hn' b)
 rw[Int.le_antisymm (h2 c h3) (h4 b h1)]
theorem rY {b:Int}(h:Can W W.row.length b):Can W.turn W.row.length b:=by
 obtain⟨g,h1,h2,h3⟩:=h;refine⟨fun n=>W.row.length - 1 - g n,fun n=>by have:=h1 n;show W.row.length - 1 - g n<_;omega,⟨fun o ho=>?_,fun p hp=>?_,fun t ht=>?_⟩,fun l hl=>?_⟩
 ·obtain⟨u,hu,rfl⟩:=k_.mp ho;have:=h2.ord u hu;have:=h1 u.1;have:=h1 u.2;show W.row.length - 1 - g u.2<=W.row.length - 1 - g u.1;omega
 ·rw[<- h2.pai p hp];have:=h1 p.2.1;have:=h1 p.2.2;show W.row.length - 1 - g p.2.1=W.row.length - 1 - g p.2.2↔_;omega
 ·have:=h2.kin t ht;have h4:=h1 t.1;rw[<- this];show jT t.2.2 (W.row.reverse.getD (W.row.length - 1 - g t.1) "")=_;congr 1;rw[E_,E_,List.getElem?_reverse (by omega)];congr 2;omega
 obtain⟨k,hk,rfl⟩:=k_.mp hl;have hk':=I_.mp hk;refine h3 _ (k_.mpr ⟨W.row.length - 1 - k,I_.mpr (by omega),?_⟩);unfold ldF;congr 2;refine V1 fun x _=>?_;rw[Wv];have:=h1 x.1;show g x.1=W.row.length - 1 - k↔W.row.length - 1 - g x.1=k;omega
theorem yH (W:Wk):W.turn.turn=W:=by
 obtain⟨a,b,c,d⟩:=W;unfold Wk.turn;simp only[Vg,List.reverse_reverse];congr 1;exact List.map_id b
theorem yI {b:Int}:Can W.turn W.row.length b↔Can W W.row.length b:=by
 refine⟨fun h=>?_,rY⟩;have e:W.turn.row.length=W.row.length:=Vn;rw[<- e] at h;have:=rY h
 rwa [yH,e] at this
def Wk.lng (W:Wk) (k:Int):Wk:=⟨W.tasks.map fun t=>(t.1,t.2.1*k,t.2.2),W.orders,W.pairs,W.row⟩
theorem Ol (k:Int):nm (W.lng k)=nm W:=by unfold nm Wk.lng;rw[Vg];rfl
theorem WkOk.lng (hW:WkOk W) {k:Int}(k1:1<=k) (hk:∀t∈W.tasks,t.2.1*k<10^60):WkOk (W.lng k):=by
 have e:(W.lng k).tasks.map (·.1)=W.tasks.map (·.1):=Ol k;have el:(W.lng k).tasks.length=W.tasks.length:=d_ ..;refine⟨by rw[el];exact hW.t1,by rw[el];exact hW.t8,fun x hx=>?_,by rw[e];exact hW.nd,hW.os,hW.od,by rw[e];exact hW.oo,hW.ps,hW.pd,by rw[e];exact hW.pp,hW.r1,hW.r8,hW.rn⟩;obtain⟨u,hu,rfl⟩:=k_.mp hx;have h:=hW.tk u hu;have h0:1<=u.2.1:=h.lo;exact⟨h.nm,X5 (show (1:Int)<=1*1 by decide) (Int.mul_le_mul h0 k1 (by decide) (by omega)),hk u hu,h.ks,h.kl⟩
theorem wN {g:Str->Nat}{m:Nat}{k:Int}:M.lds (W.lng k) g m=(M.lds W g m).map (·*k):=by
 unfold M.lds;rw[Vg];refine VR fun j _=>?_;show M.ldF (W.tasks.map fun t=>(t.1,t.2.1*k,t.2.2)) g j=M.ldF W.tasks g j*k;unfold ldF;rw[Yg,Vg];show ((W.tasks.filter fun t=>decide (g t.1=j)).map fun t=>t.2.1*k).sum=_;generalize W.tasks.filter (fun t=>decide (g t.1=j))=ts;induction ts with
 |nil=>simp
 |cons x r ih=>rw[A_,A_,Wh,Wh,ih,Int.add_mul]
theorem hol_lng {g:Str->Nat}{k:Int}:Hol (W.lng k) g↔Hol W g:=by
 constructor
 ·exact fun h=>⟨h.ord,h.pai,fun t ht=>h.kin (t.1,t.2.1*k,t.2.2) (k_.mpr ⟨t,ht,rfl⟩)⟩
 refine fun h=>⟨h.ord,h.pai,fun t ht=>?_⟩;obtain⟨u,hu,rfl⟩:=k_.mp ht;exact h.kin u hu
theorem Do {m:Nat}{k:Int}(k1:1<=k) {t:T}(h:Lb W m t):Lb (W.lng k) m (match t with
  |.int b=>.int (b*k)
  |x=>x):=by
 rcases h with ⟨rfl,hn⟩ | ⟨b,rfl,⟨g,h1,h2,h3⟩,h4⟩
 ·
  refine .inl ⟨rfl,fun b ⟨g,h1,h2,h3⟩=>?_⟩
  obtain⟨M,_,hM⟩:=kh (Dm (W:=W) (h1 ""))
  exact hn M ⟨g,h1,hol_lng.mp h2,hM⟩
 ·
  refine .inr ⟨b*k,rfl,⟨g,h1,hol_lng.mpr h2,fun l hl=>?_⟩,fun c ⟨g',g1,g2,g3⟩=>?_⟩
  ·
   rw[wN] at hl
   obtain⟨x,hx,rfl⟩:=k_.mp hl
   exact Xl (h3 x hx) (by omega)
  ·
   obtain⟨M,hM,hx⟩:=kh (Dm (W:=W) (g1 ""))
   have:=h4 M ⟨g',g1,hol_lng.mp g2,hx⟩
   refine X5 (Xl this (by omega)) (g3 _ ?_)
   rw[wN]
   exact k_.mpr ⟨M,hM,rfl⟩
structure Few (W W2:Wk):Prop where
 tk:W2.tasks=W.tasks
 os:W2.orders.Sublist W.orders
 ps:W2.pairs.Sublist W.pairs
 rw:W2.row=W.row
theorem Few.ok (x:Few W W2) (hW:WkOk W):WkOk W2:=by
 obtain⟨a1,a2,a3,a4⟩:=x;refine⟨by rw[a1];exact hW.t1,by rw[a1];exact hW.t8,by rw[a1];exact hW.tk,by rw[a1];exact hW.nd,U8 a2.length_le hW.os,hW.od.sublist a2,fun o ho=>by rw[a1];exact hW.oo o (a2.subset ho),U8 a3.length_le hW.ps,hW.pd.sublist a3,fun p hp=>by rw[a1];exact hW.pp p (a3.subset hp),by rw[a4];exact hW.r1,by rw[a4];exact hW.r8,by rw[a4];exact hW.rn⟩
theorem Few.can (x:Few W W2) {m:Nat}{b:Int}(h:Can W m b):Can W2 m b:=by
 obtain⟨g,h1,h2,h3⟩:=h;refine⟨g,h1,⟨fun o ho=>h2.ord o (x.os.subset ho),fun p hp=>h2.pai p (x.ps.subset hp),fun t ht=>?_⟩,?_⟩
 ·rw[x.rw];rw[x.tk] at ht;exact h2.kin t ht
 unfold M.lds at h3 ⊢;rw[x.tk];exact h3
theorem Few.lb (x:Few W W2) {m:Nat}{t u:T}(h:Lb W m t) (h':Lb W2 m u):t=.non\/∃b c,t=.int b/\u=.int c/\c<=b:=by
 rcases h with ⟨rfl,_⟩ | ⟨b,rfl,h1,_⟩
 ·exact .inl rfl
 rcases h' with ⟨rfl,hn⟩ | ⟨c,rfl,_,h4⟩
 ·exact absurd (x.can h1) (hn b)
 exact .inr ⟨b,c,rfl,rfl,h4 b (x.can h1)⟩
theorem Om (g:kW) (W:Wk) (Z:St3) (H:Hp3) (Q:St3->Hp3->Prop):qM 4 g W.enc Z H Q=(True/\g [.tup (W.tasks.map tkT),.tup (W.orders.map orT),.tup (W.pairs.map prT),.tup (W.row.map T.str)] Z H Q):=propext ⟨fun h=>⟨trivial,h.2⟩,fun h=>⟨rfl,h.2⟩⟩
theorem uJ {α β:Type}(f:α->β):∀(l:List α) (i:Nat),(l.eraseIdx i).map f=(l.map f).eraseIdx i
 |[],_=>rfl
 |_::_,0=>rfl
 |x::l,i+1=>by rw[List.eraseIdx_cons_succ,A_,A_,List.eraseIdx_cons_succ,uJ f l i]
def oF (ns ws:List Str) (n:Str):Str:=ws.getD (ns.idxOf n) ""
def dS (ns:List Str) (f:Str->Str):List (Str × T):=ns.map fun n=>(n,T.str (f n))
theorem wO {f:Str->Str}{n:Str}:∀{ns:List Str},n∈ns->aN n (dS ns f)=some (T.str (f n))
 |x::r,h=>by
  unfold dS
  rw[A_]
  unfold aN
  by_cases e:x=n
  ·
   rw[if_pos e,e]
  ·
   rw[if_neg e]
   exact wO (ns:=r) ((p_.mp h).resolve_left (Ne.symm e))
theorem Oo {ns:List Str}{f:Str->Str}{n:Str}(h:n∉ns):put3 n (T.str (f n)) (dS ns f)=dS (ns++[n]) f:=by
 unfold put3 dS;rw[if_neg (by
  intro e
  rw[Wu] at e
  obtain⟨x,hx,e⟩:=e
  obtain⟨y,hy,rfl⟩:=k_.mp hx
  exact h (VF e▸hy)),u_]
 rfl
theorem wQ {ns ws:List Str}(nd:ns.Nodup) (hl:ws.length=ns.length) {k:Nat}(hk:k<ns.length):ws[k]?=some (oF ns ws ns[k]):=by
 unfold oF;rw[nd.idxOf_getElem k hk,E_,g_ (by omega)];rfl
theorem Oq {ns ws:List Str}(nd:ns.Nodup) (hl:ws.length=ns.length) (nw:ws.Nodup):∀a∈ns,∀b∈ns,oF ns ws a=oF ns ws b->a=b:=fun a ha b hb e=>by
 obtain⟨i,hi,rfl⟩:=V_ ha;obtain⟨j,hj,rfl⟩:=V_ hb;have h1:=wQ nd hl hi;have h2:=wQ nd hl hj;rw[e,<- h2] at h1;have:=(List.getElem?_inj (by omega) nw).mp h1;subst this;rfl
theorem HD (xs:List (Str × Int × List Str)):(xs.map tkT).all (pl 20)=true:=by
 rw[U_];intro t ht;obtain⟨x,_,rfl⟩:=k_.mp ht;show ([T.str x.1,T.int x.2.1,.tup (x.2.2.map T.str)]:List T).all (pl 19)=true;rw[List.all_cons,List.all_cons,List.all_cons];show (true&&(true&&((x.2.2.map T.str).all (pl 18)&&true)))=true;rw[show (x.2.2.map T.str).all (pl 18)=true from by rw[U_];intro t ht;obtain⟨y,_,rfl⟩:=k_.mp ht;rfl];rfl
def Ot:Sp3:=fun ts H Q=>∃(d:Addr) (x:T) (xs:List T),ts=[.ref d,x]/\((∃a,x=.ref a/\H a=some (.lst xs))\/x=.tup xs)/\xs.all (pl 20)=true/\xs.length<=60/\Cl H d/\∀(ys:List T) (H1:Hp3) (p:Addr),ys.Perm xs->Drw d H H1->H1 p=none->Q (.ref p) (up3 H1 p (.lst ys))
def Ti:Sp3:=fun ts H Q=>∃(W:Wk),ts=[W.enc]/\WkOk W/\W.tasks.length<=5/\∀(ts:List T),ts.length=W.row.length->(∀(i:Nat) (t:T),ts[i]?=some t->Lb W (i+1) t)->Q (.tup ts) H
def Tj:Sp3:=fun ts H Q=>∃W:Wk,ts=[W.enc]/\WkOk W/\Q W.turn.enc H
def JP:Sp3:=fun ts H Q=>∃(W:Wk) (k:Int),ts=[W.enc,.int k]/\WkOk W/\1<=k/\k<=9/\Q (W.lng k).enc H
def Tn:Sp3:=fun ts H Q=>∃(d:Addr) (W:Wk),ts=[.ref d,W.enc]/\WkOk W/\Cl H d/\∀(W2:Wk) (H':Hp3),Few W W2->Drw d H H'->Q W2.enc H'
def Tp:Sp3:=fun ts H Q=>∃(d:Addr) (W:Wk),ts=[.ref d,W.enc]/\WkOk W/\Cl H d/\∀(f:Str->Str) (W2:Wk) (H':Hp3),Oth f W W2->Drw d H H'->Q W2.enc H'
theorem HF {P:Program}{w:World}{K:Frag}{mg:Str->Option Value}{base:Heap}{k:Nat}{x:Str}{st:Stmt}{ps:List Str}{sp sp':Sp3}(D:Cal P w K mg base k x st ps sp) (h:∀ts H Q,sp' ts H Q->sp ts H Q):Cal P w K mg base k x st ps sp':=by
 obtain⟨f,fd,g,F⟩:=D.ex;refine⟨f,fd,g,FnOk.imp F fun vs H Q E q=>?_⟩;obtain⟨ts,H3,Q3,r,sh,q,k⟩:=q;exact⟨ts,H3,Q3,r,sh,h _ _ _ q,k⟩
theorem Dp {P:Program}{w:World}{K:Frag}{mg:Str->Option Value}{base:Heap}{k:Nat}{x:Str}{st:Stmt}{ps:List Str}(D:Cal P w K mg base k x st ps Ot):Cal P w K mg base k x st ps Hh:=HF D fun ts H Q ⟨d,a,xs,e,h1,h2,h3,h4,hC,q⟩=>⟨d,_,xs,e,.inl ⟨a,rfl,h2⟩,h3,h4,hC,q⟩
section
variable {P:Program}{w:World}{K:Frag}{mg:Str->Option Value}{base:Heap}
abbrev oO:List Str:=["_law_script","_law_cells","_law_found","_law_cell","_law_k","_law_number"]
theorem sc_numbers:FnScope oO ["_law_script"] (au (top 36)):=bh
theorem uK {f:Addr}{fd:FuncData}(g:G3 K mg "_law_numbers" (top 36) ["_law_script"] f fd) (B:Bl mg):Cal P w K mg base 1 "_law_numbers" (top 36) ["_law_script"] JH:=by
 refine⟨f,fd,g,?_⟩;refine fn3 g.fn sc_numbers (fun ts H Q h=>?_) (fun cdv A outer s H E ts H3 Q hr h=>?_)
 ·obtain⟨a,ns,rfl,_⟩:=h;rfl
 have hu30:=Room.u30 hr;obtain⟨a,ns,rfl,ha,hl,k⟩:=h;refine⟨_,(ak (aF (i:=1) sc_numbers.nd (aH aR (iV (v3 0) dC (cG ao)) (aH Mt (bV (aa ao aj)) (bc Fv rfl B.int_ Lj (aa (fV (NT hu30) (v3 0) (bV aj)) aj)))))
   (ak (aF (i:=2) sc_numbers.nd (bV aj))
   (ak (bQ (aU (cY hu30) (aH dG (aK ix3 (v3 1) ao) ao) ao) (ak (bx H_ rfl (cj (aH aR (bV (aa (aH eO (aK ix3 (v3 1) ao) ao) aj)) (iV (v3 1) (cG ao) dC))) (aB (i:=3) sc_numbers.nd) (aq (bx H_ rfl (aQ rfl B.range_ (aa ao aj)) (aB (i:=4) sc_numbers.nd) (ak (bI (cN J_ M_ N_ bu (v3 2) (aa (aH dG (v3 3) (aH fW ao ao)) aj)))
      (aq (aF (i:=3) sc_numbers.nd (aH eO (v3 3) (aH fW ao ao))))))))
    (aq (aM (vZ (v3 2) (cG (lE ao)))))) aY)
   (ak (aF (i:=5) sc_numbers.nd (aH dG (aH eO (aK ix3 (v3 1) ao) ao) ao))
   (ak (bx H_ rfl (aQ rfl B.range_ (aa ao aj)) (aB (i:=4) sc_numbers.nd) (ak (aF (i:=3) sc_numbers.nd (aH dG (aK ix3 (v3 1) (aH dG (v3 4) (aW bW rfl B.len_ bZ (aa (v3 1) aj)))) ao))
    (ak (aF (i:=5) sc_numbers.nd (aH dG (aH aR (aH aR (aH dY (v3 5) (v3 5)) (aH dY ao (v3 3))) (v3 4)) ao))
    (aq (bI (cN J_ M_ N_ bu (v3 2) (aa (aH eO (aH dG (aH dY (v3 5) (aH aR (v3 5) ao)) ao) ao) aj)))))))
   (aq (aM (vZ (v3 2) (cG (lE ao)))))))))),?_⟩
 rw[show aO oO [T.ref a]=[some (T.ref a),none,none,none,none,none] from rfl];have hsz:sizeLine=16777216:=rfl;have k':=Box.mk k;clear k;refine aA fun R0 hR0=>?_;walk_at "";refine fun p1 hp1=>⟨by decide,fun p2 hp2=>⟨by omega,fun p3 hp3=>?_⟩⟩;have h2:=(b8 hp2);have h3:=(b8 hp3);have h3':=(b8 h3.2);have na1:a≠p1:=aX ha hp1;have na2:a≠p2:=aX ha h2.2;have na3:a≠p3:=aX ha h3'.2;have hpl:(ns.map T.int).all (pl 20)=true:=by rw[U_];intro t ht;obtain⟨x,_,rfl⟩:=k_.mp ht;rfl
 have n32:p2≠p3:=Ne.symm h3.1;have n31:p1≠p3:=Ne.symm h3'.1;have n21:p1≠p2:=Ne.symm h2.1;walk_at "";obtain⟨cs,c1,c63,ecs⟩:=Cz ns hl;refine⟨trivial,trivial,rfl,⟨by split <;> decide,by split <;> decide,by split <;> decide⟩,fun p4 hp4=>?_⟩;have h4:=b8 hp4;have h4':=b8 h4.2;have h4'':=b8 h4'.2;rw[aD (Ne.symm h4''.1),aD n31,aD n21,aC,jw,ecs];have hcl:(cI (ns.map T.int) none (some 63)).length+(List.replicate (if decide (ns.map T.int=[])=true then (1:Int) else 0).toNat [T.int 0]).flatten.length<=16777216:=by have:=Q_ List.length ecs;rw[b_,d_] at this;omega
 refine⟨hcl,fun pc hpc=>?_⟩;have hS:Sub3 H3 (up3 (up3 (up3 (up3 H3 p1 (.lst (cI (ns.map T.int) none (some 63)))) p2 (.lst [T.int 0])) p3 (.lst [])) p4 (.lst (List.replicate (if decide (ns.map T.int=[])=true then (1:Int) else 0).toNat [T.int 0]).flatten)) :=
  (((Sub3.new hp1).trans (Sub3.new hp2)).trans (Sub3.new hp3)).trans (Sub3.new hp4)
 have hS2:=hS.trans (Sub3.new (o:=.lst (cs.map T.int)) hpc);have gc:∀H:Hp3,up3 H pc (.lst (cs.map T.int)) pc=some (.lst (cs.map T.int)):=fun _=>aC;have gc:=gc (up3 (up3 (up3 (up3 H3 p1 (.lst (cI (ns.map T.int) none (some 63)))) p2 (.lst [T.int 0])) p3 (.lst [])) p4 (.lst (List.replicate (if decide (ns.map T.int=[])=true then (1:Int) else 0).toNat [T.int 0]).flatten));generalize up3 (up3 (up3 (up3 (up3 H3 p1 (.lst (cI (ns.map T.int) none (some 63)))) p2 (.lst [T.int 0])) p3 (.lst [])) p4 (.lst (List.replicate (if decide (ns.map T.int=[])=true then (1:Int) else 0).toNat [T.int 0]).flatten)) pc (.lst (cs.map T.int))=H5 at hS2 gc;clear hS hcl ecs hpc hp4 h4 h4' h4'' hp3 h3 h3' hp2 h2 hp1 n32 n31 n21 na1 na2 na3 hpl ha hl;walk_at "n";refine aA fun R1 hR1=>?_;walk_at "";refine⟨by omega,fun pf hpf=>?_⟩;have nb:Nb H3 (up3 H5 pf (.lst [])) pc pf cs []:=⟨hS2.trans (Sub3.new hpf),by rw[aD (aX gc hpf)];exact gc,aC,by
  cases e:H3 pf with
  |none=>rfl
  |some o=>exact absurd (hpf.symm.trans (hS2 _ _ e)) (by simp),aX gc hpf⟩
 generalize up3 H5 pf (.lst [])=H6 at nb;clear hS2 gc hpf;walk_at "n";cases cs with
 |nil=>simp at c1
 |cons c0 cr =>
 refine aA fun R2 hR2=>?_;have gc:=nb.c;rw[A_] at gc;walk_at "";refine⟨by decide,?_⟩;by_cases hev:c0%2=0
 ·rw[O_ hev,if_pos rfl];clear hR2;refine⟨⟨by decide,by decide +kernel⟩,by decide,fun q1 hq1=>?_⟩;have nb1:=nb.new (o:=.lst [T.int (c0 / 2)]) hq1;have gq:up3 H6 q1 (.lst [T.int (c0 / 2)]) q1=some (.lst [T.int (c0 / 2)]):=aC;have gc1:=nb1.c;generalize up3 H6 q1 (.lst [T.int (c0 / 2)])=H7 at nb1 gq gc1;clear nb gc hq1;rw[gc1,IV];intro q2 hq2;rw[show (1:Int)=((1:Nat):Int) from rfl,lB,A_,List.drop_one,List.tail_cons];have nb2:=nb1.new (o:=.lst (cr.map T.int)) hq2;have gq1:up3 H7 q2 (.lst (cr.map T.int)) q1=_ := upa gq hq2;have gq2:up3 H7 q2 (.lst (cr.map T.int)) q2=some (.lst (cr.map T.int)):=aC;generalize up3 H7 q2 (.lst (cr.map T.int))=H8 at nb2 gq1 gq2;clear nb1 gq gc1 hq2;rw[j_] at c63;rw[zZ,gq1,gq2,jw];refine⟨by rw[d_,G_];omega,fun q3 hq3=>?_⟩;have nb3:=nb2.new (o:=.lst ([T.int (c0 / 2)]++cr.map T.int)) hq3;have gq3:up3 H8 q3 (.lst ([T.int (c0 / 2)]++cr.map T.int)) q3=some (.lst ([T.int (c0 / 2)]++cr.map T.int)):=aC;have n3f:q3≠pf:=Ne.symm (aX nb2.f hq3);rw[show [T.int (c0 / 2)]++cr.map T.int=((c0 / 2)::cr).map T.int from rfl] at *;generalize up3 H8 q3 (.lst (((c0 / 2)::cr).map T.int))=H9 at nb3 gq3;clear nb2 gq1 gq2 hq3;have xl:((c0 / 2)::cr).length<=63:=by rw[j_];exact c63
  generalize (c0 / 2)::cr=xs at *;walk_at "";refine aV T.int xs (fun A Z H=>∃(fs:List Int) (v3 v4:Option T),Z=[some (.ref a),some (.ref pc),some (.ref pf),v3,v4,none]/\Nb H3 H pc pf (c0::cr) fs/\H q3=some (.lst (xs.map T.int))/\fs.length=8*A.length) ⟨[],_,_,rfl,nb3,gq3,rfl⟩ ?_ ?_
  ·rintro Z H ⟨fs,v3,v4,rfl,nb,g3,hf⟩;refine⟨.inl g3,?_⟩;have gf:=nb.f;clear nb3 gq3;walk_at "";refine⟨by first | trivial | rfl,fun p hp=>Fin3.of Sub3.refl (k'.out p _ (nb.sb.trans (Sub3.new hp)) (di nb.sb hp) ⟨fs.reverse,by rw[aC,Xm],by rw[Vn];omega⟩)⟩
  rintro A c B Z H N e ⟨fs,v3,v4,rfl,nb,g3,hf⟩ hN;refine⟨.inl g3,?_⟩;have hA:A.length+1<=63:=by have:=Q_ List.length e;simp only[b_,j_] at this;omega
  have hN':=Box.mk hN;clear hN e nb3 gq3 k';walk_at "";refine⟨trivial,by decide,by decide,?_⟩;have rl:(cZ 0 (Int.toNat 8)).length=8:=by unfold cZ;rw[d_,n_];rfl
  generalize cZ 0 (Int.toNat 8)=ts0 at rl;refine j0 (fun r Z H=>∃(fs:List Int) (c:Int) (v4:Option T),Z=[some (.ref a),some (.ref pc),some (.ref pf),some (.int c),v4,none]/\Nb H3 H pc pf (c0::cr) fs/\H q3=some (.lst (xs.map T.int))/\fs.length+r.length=8*(A.length+1)) ⟨fs,c,_,rfl,nb,g3,by omega⟩ ?_ ?_
  ·rintro Z H ⟨fs,c,v4,rfl,nb,g3,hf⟩;rw[Wd] at hf;exact⟨trivial,hN'.out _ _ ⟨fs,_,_,rfl,nb,g3,by rw[b_,G_];omega⟩⟩
  rintro x r Z H N2 ⟨fs,c,v4,rfl,nb,g3,hf⟩ hN2;refine⟨trivial,?_⟩;rw[j_] at hf;have hM:=Box.mk hN2;have gf:=nb.f;clear hN2 hN';walk_at "";refine⟨⟨trivial,trivial⟩,⟨by decide,by decide,by decide⟩,by decide,by omega,⟨by decide,by decide,by decide⟩,⟨by decide,by decide +kernel⟩,?_⟩;exact hM.out _ _ ⟨_,_,_,rfl,nb.put _,by rw[aD n3f];exact g3,by rw[b_,G_];omega⟩
 rw[C_ hev,if_neg o_];walk_at "n";refine aA fun R3 hR3=>?_;walk_at "";refine⟨⟨by decide,by decide +kernel⟩,by decide,?_⟩;have m0:=VM (c0 / 2) (show (2147483629:Int)≠0 by decide);have m1:=VL (c0 / 2) (show (0:Int)<2147483629 by decide);generalize c0 / 2%2147483629=nbr at m0 m1;walk_at "n";refine aA fun R4 hR4=>?_;walk_at "";refine⟨by first | trivial | decide,by decide,by decide,?_⟩;rw[show cZ 0 (Int.toNat 504)=(List.range 504).map (fun (i:Nat)=>T.int (i:Int)) from gO 504];refine aV (fun (i:Nat)=>T.int (i:Int)) (List.range 504) (fun A Z H=>∃(fs:List Int) (v3 v4:Option T) (nbr:Int),Z=[some (.ref a),some (.ref pc),some (.ref pf),v3,v4,some (.int nbr)]/\Nb H3 H pc pf (c0::cr) fs/\fs.length=A.length/\0<=nbr/\nbr<2147483629) ⟨[],_,_,nbr,rfl,nb,rfl,m0,m1⟩ ?_ ?_
 ·rintro Z H ⟨fs,v3,v4,nbr,rfl,nb,hf,_,_⟩;refine⟨trivial,?_⟩;rw[n_] at hf;walk_at "n";have gf:=nb.f;walk_at "";refine⟨by first | trivial | rfl,fun p hp=>Fin3.of Sub3.refl (k'.out p _ (nb.sb.trans (Sub3.new hp)) (di nb.sb hp) ⟨fs.reverse,by rw[aC,Xm],by rw[Vn];omega⟩)⟩
 rintro A c B Z H N e ⟨fs,v3,v4,nbr,rfl,nb,hf,m0,m1⟩ hN;refine⟨trivial,?_⟩;have hA:A.length+1<=504:=by have:=Q_ List.length e;simp only[b_,j_,n_] at this;omega
 have hN':=Box.mk hN;have gc:=nb.c;obtain⟨z,_,hz⟩:=vP (c0::cr) ((c:Int)%((c0::cr).length:Int)) (VM _ (by rw[j_];omega)) (VL _ (by rw[j_];omega));have hz':atI ((c0::cr).map T.int) ((c:Int)%((c0::cr).length:Int))=some (T.int z):=by rw[pI,hz];rfl
 generalize c0::cr=cs at *;clear hN e hz hR4 k';refine aA fun R5 hR5=>?_;have cl:(0:Int)<(cs.length:Int):=by omega
 walk_at "";refine⟨by first | trivial | omega,by decide,?_⟩;have z0:=VM z (show (2147483647:Int)≠0 by decide);have z1:=VL z (show (0:Int)<2147483647 by decide);generalize z%2147483647=z' at z0 z1;walk_at "n";refine aA fun R6 hR6=>?_;walk_at "";refine⟨.inl ⟨by omega,by omega⟩,.inl ⟨by decide,by decide⟩,by decide,?_⟩;have y0:=VM (nbr*nbr+69621*z'+(c:Int)) (show (2147483629:Int)≠0 by decide);have y1:=VL (nbr*nbr+69621*z'+(c:Int)) (show (0:Int)<2147483629 by decide);generalize (nbr*nbr+69621*z'+(c:Int))%2147483629=y at y0 y1;walk_at "n";have gf:=nb.f;walk_at "";refine⟨⟨trivial,trivial⟩,.inl ⟨by omega,by omega⟩,by decide,⟨by decide,by decide +kernel⟩,by omega,?_⟩;exact hN'.out _ _ ⟨_,_,_,_,rfl,nb.put _,by rw[b_,b_,G_,G_];omega,y0,y1⟩
abbrev lW:List Str:=["_law_deck","_law_most"]
theorem HH:FnScope lW lW (au (top 37)):=bh
theorem HJ {f:Addr}{fd:FuncData}(g:G3 K mg "_law_draw" (top 37) lW f fd) (B:Bl mg):Cal P w K mg base 1 "_law_draw" (top 37) lW jf:=by
 refine⟨f,fd,g,?_⟩;refine fn3 g.fn HH (fun ts H Q h=>?_) (fun cdv A outer s H E ts H3 Q hr h=>?_)
 ·obtain⟨d,m,rfl,_⟩:=h;rfl
 have hu30:=Room.u30 hr;obtain⟨d,m,rfl,hm,hC,k⟩:=h;refine⟨_,(ak (bQ (aU (cY hu30) (v3 0) (bV aj)) (aq (aM ao)) aY)
   (aq (aM (aH dG (MF J_ PySem.F.slot_list_pop PySem.F.type_list_pop NQ (v3 0)) (v3 1))))),?_⟩
 rw[show aO lW [T.ref d,T.int m]=[some (T.ref d),some (T.int m)] from rfl];have hsz:sizeLine=16777216:=rfl;obtain⟨ns,hd,hl⟩:=hC.ex;walk_at "";refine⟨by omega,fun p hp=>?_⟩;have npd:d≠p:=aX hd hp;have hpl:(ns.map T.int).all (pl 20)=true:=by rw[U_];intro t ht;obtain⟨x,_,rfl⟩:=k_.mp ht;rfl
 have k':=Box.mk k;clear k;walk_at "";refine⟨by first | trivial | exact npd,by first | trivial | exact hpl,by first | trivial | rfl,?_⟩;rcases List.eq_nil_or_concat ns with rfl | ⟨r,n,rfl⟩
 ·simp only[VJ,vW,if_true];exact eU (a:=d) (H:=H3) (hC.new (Ne.symm npd)) (Kep.refl.new hp) fun H'' hD=>k'.out 0 H'' (Int.le_refl _) hm hD
 rw[C_ (by simp),if_neg o_];rw[List.concat_eq_append] at *;have e1:=CG r n;have e2:=yw r n;have hd2:up3 H3 p (.lst []) d=some (.lst ((r++[n]).map T.int)):=by rw[aD npd];exact hd
 generalize hg:up3 H3 p (.lst [])=H4 at hd2;clear hpl;walk_at "";refine⟨⟨trivial,trivial⟩,?_⟩;rw[show (List.map T.int (r++[n]))[(r++[n]).length - 1]?=some (T.int n) by simp,iY];walk_at "";refine⟨by first | trivial | exact hm,eU (a:=d) (H:=H3) ⟨r,aC,by rw[b_,G_] at hl;omega⟩ (fun b o hb h1=>?_) fun H'' hD=>k'.out _ H'' (VM _ (by omega)) (VL _ hm) hD⟩;rw[aD h1,<- hg,aD (aX hb hp)];exact hb
abbrev wR:List Str:=["_law_deck","_law_most","_law_total","_law_k"]
theorem sc_great:FnScope wR ["_law_deck","_law_most"] (au (top 38)):=bh
theorem Dq {f:Addr}{fd:FuncData}(g:G3 K mg "_law_great" (top 38) ["_law_deck","_law_most"] f fd) (B:Bl mg) (F_draw:Cal P w K mg base 1 "_law_draw" (top 37) ["_law_deck","_law_most"] jf):Cal P w K mg base 2 "_law_great" (top 38) ["_law_deck","_law_most"] RX:=by
 refine⟨f,fd,g,?_⟩;refine fn3 g.fn sc_great (fun ts H Q h=>?_) (fun cdv A outer s H E ts H3 Q hr h=>?_)
 ·obtain⟨d,m,rfl,_⟩:=h;rfl
 obtain⟨d,m,rfl,hm,hC,k⟩:=h;refine⟨_,(ak (aF (i:=2) sc_great.nd ao)
   (ak (bx H_ rfl (aQ rfl B.range_ (aa ao aj)) (aB (i:=3) sc_great.nd) (aq (aF (i:=2) sc_great.nd (aH aR (aH dY (v3 2) (aH fW ao ao)) (aJ F_draw hr rfl (aa (v3 0) (aa (aH fW ao ao) aj)))))))
   (aq (aM (aH dG (v3 2) (v3 1)))))),?_⟩
 rw[show aO wR [T.ref d,T.int m]=[some (T.ref d),some (T.int m),none,none] from rfl];have k':=Box.mk k;clear k;refine aA fun R0 hR0=>?_;walk_at "";walk_at "n";refine aA fun R1 hR1=>?_;walk_at "";refine⟨by first | trivial | decide,by decide,by decide,?_⟩;generalize cZ 0 (Int.toNat 6)=ts0;refine j0 (fun r Z H=>∃(t:Int) (v3:Option T),Z=[some (.ref d),some (.int m),some (.int t),v3]/\Cl H d/\Kep d H3 H) ⟨_,_,rfl,hC,Kep.refl⟩ ?_ ?_
 ·rintro Z H ⟨t,v3,rfl,hc,hk⟩;refine⟨trivial,?_⟩;walk_at "n";walk_at "";refine⟨by first | trivial | exact hm,eU hc hk fun H'' hD=>k'.out _ H'' (VM _ (by omega)) (VL _ hm) hD⟩
 rintro x r Z H N ⟨t,v3,rfl,hc,hk⟩ hN;refine⟨trivial,?_⟩;have hN':=Box.mk hN;clear hN hR1 k';walk_at "";refine⟨⟨by decide,by decide,by decide⟩,.inr ⟨by decide,by decide⟩,⟨by decide,by decide,by decide⟩,d,10^Int.toNat 12,rfl,by decide,hc,fun n H5 n0 n1 hD=>?_⟩;exact hN'.out _ _ ⟨_,_,rfl,hD.cl,hk.drw hD⟩
abbrev Dr:List Str:=["_law_deck","_law_things","_law_left","_law_found"]
theorem sc_turn:FnScope Dr ["_law_deck","_law_things"] (au (top 41)):=bh
theorem HN {f:Addr}{fd:FuncData}(g:G3 K mg "_law_turn" (top 41) ["_law_deck","_law_things"] f fd) (B:Bl mg) (F_draw:Cal P w K mg base 1 "_law_draw" (top 37) ["_law_deck","_law_most"] jf):Cal P w K mg base 2 "_law_turn" (top 41) ["_law_deck","_law_things"] Ot:=by
 refine⟨f,fd,g,?_⟩;refine fn3 g.fn sc_turn (fun ts H Q h=>?_) (fun cdv A outer s H E ts H3 Q hr h=>?_)
 ·obtain⟨d,x0,xs,rfl,_⟩:=h;rfl
 have hu30:=Room.u30 hr;obtain⟨d,x0,xs,rfl,ha,hp20,hl,hC,k⟩:=h;refine⟨_,(ak (aF (i:=2) sc_turn.nd (bc pG rfl B.list_ iW (aa (v3 1) aj)))
   (ak (aF (i:=3) sc_turn.nd (bV aj))
   (ak (iT H_ (aU (iU hu30) (v3 2) (bV aj)) (aq (bI (cN J_ M_ N_ bu (v3 3) (aa (cN J_ PySem.F.slot_list_pop PySem.F.type_list_pop zW (v3 2) (aa (aJ F_draw hr rfl (aa (v3 0) (aa (aW bW rfl B.len_ bZ (aa (v3 2) aj)) aj))) aj)) aj)))))
   (aq (aM (v3 3)))))),?_⟩
 rw[show aO Dr [T.ref d,x0]=[some (T.ref d),some (x0),none,none] from rfl];have hsz:sizeLine=16777216:=rfl;have k':=Box.mk k;clear k;have w0:Wt d H3 H3 []:=⟨hC,Kep.refl,(fun _ h=>nomatch h)⟩;refine aA fun R0 hR0=>?_;walk_at "";have fst:∀(Qc:VK3),(∀p,H3 p=none->Qc (.ref p) (up3 H3 p (.lst xs)))->pF [x0] H3 Qc:=fun Qc hq=>by
  rcases ha with ⟨a,rfl,ha⟩ | rfl
  ·rw[vM,ha,IW];exact hq
  rw[vN];exact hq
 refine fst _ fun pl_ hpl_=>?_;clear fst ha;try dsimp only
 have l0:=w0.fresh hpl_;have w1:=w0.new (o:=.lst xs) hpl_;generalize up3 H3 pl_ (.lst xs)=H4 at w1;clear w0 hpl_;walk_at "n";refine aA fun R1 hR1=>?_;walk_at "";refine⟨by omega,fun pf hpf=>?_⟩;have f0:=w1.fresh hpf;have nfl:pf≠pl_:=Ne.symm (aX w1.hd hpf);have w2:=w1.new (o:=.lst []) hpf;generalize up3 H4 pf (.lst [])=H5 at w2;clear w1 hpf;walk_at "n";refine aA fun R2 hR2=>?_;show ph _ _ _ _ _;refine yu (fun m Z H=>∃(ls fs:List T),m=ls.length/\Z=[some (.ref d),some x0,some (.ref pl_),some (.ref pf)]/\Wt d H3 H [(pf,.lst fs),(pl_,.lst ls)]/\(fs++ls).Perm xs/\ls.all (pl 20)=true) ⟨_,xs,[],rfl,rfl,w2,XR _,hp20⟩ ?_;intro m Z H hI WI TB NX hWI hTB hNX;obtain⟨ls,fs,rfl,rfl,w,hperm,hls⟩:=hI;have hlen:=hperm.length_eq;rw[b_] at hlen;have gl:=w.tl.hd;have gf:=w.hd;clear w2;walk_at "";refine⟨by omega,fun pe hpe=>?_⟩;have w3:=w.new (o:=.lst []) hpe;have gl3:=w3.tl.tl.hd;have nle:pl_≠pe:=aX gl hpe;walk_at "";refine⟨trivial,trivial,rfl,?_⟩;have npd:pf≠d:=(w.at' _ t_).2;have gf3:=w3.tl.hd;generalize up3 H pe (.lst [])=H6 at w3 gl3 gf3;clear w gl gf hpe nle;cases ls with
 |nil=>rw[if_neg (by simp)];clear hTB hWI;obtain⟨hNX⟩:=hNX;subst hNX;walk_at "n";walk_at "";rw[S_] at hperm;exact fB w3.cl w3.kp gf3 f0 npd fun H1 hD h1=>k'.out fs H1 pf hperm hD h1
 |cons t r =>
 rw[if_pos (by simp)];clear hNX hR2 k';obtain⟨hTB⟩:=hTB;subst hTB;have w3':=w3.tl;clear w3;walk_at "";refine⟨⟨trivial,trivial⟩,⟨trivial,trivial⟩,d,_,rfl,by omega,w3'.cl,fun n H7 n0 n1 hD=>?_⟩;have w4:=w3'.drw hD;have gl4:=w4.tl.hd;have gf4:=w4.hd;clear w3' gl3 gf3 hD;obtain⟨j,rfl⟩:∃j:Nat,n=(j:Int):=⟨n.toNat,by omega⟩;have hj:j<(t::r).length:=by rw[j_];omega
 have ej:=vO hj;have ex:=g_ hj;have pe:=Hi hj;have le:=XN hj;generalize (t::r)[j]=x at ex pe;have hal:=NZ hls j;have w5:=(w4.swap.set l0 (fun q hq=>by rw[i_.mp hq];exact nfl) (.lst ((t::r).eraseIdx j))).swap.set f0 (fun q hq=>by rw[i_.mp hq];exact Ne.symm nfl) (.lst (fs++[x]));have hfl:fs.length<60:=by rw[j_] at hlen;omega
 have nfl':=Ne.symm nfl;have hpm:(fs++[x]++(t::r).eraseIdx j).Perm xs:=by refine List.Perm.trans ?_ hperm;rw[Vq];exact (XR fs).append pe
 have hlr:=Box.mk (show (t::r).length=r.length+1 from rfl);have le':=Box.mk le;generalize hls':(t::r)=ls at *;clear w4 hls hperm pe hls' le;walk_at "";exact⟨by omega,(ls.eraseIdx j).length,by have:=hlr.out;have:=le'.out;omega,by rw[hWI.out];exact⟨_,fs++[x],rfl,rfl,w5,hpm,hal⟩⟩
abbrev gm:List Str:=["_law_deck","_law_common","_law_names_here","_law_found","_law_name"]
theorem sc_some_kinds:FnScope gm ["_law_deck","_law_common","_law_names_here"] (au (top 45)):=bh
theorem mU {f:Addr}{fd:FuncData}(g:G3 K mg "_law_some_kinds" (top 45) ["_law_deck","_law_common","_law_names_here"] f fd) (B:Bl mg) (F_turn:Cal P w K mg base 2 "_law_turn" (top 41) ["_law_deck","_law_things"] Hh) (F_draw:Cal P w K mg base 1 "_law_draw" (top 37) ["_law_deck","_law_most"] jf):Cal P w K mg base 3 "_law_some_kinds" (top 45) ["_law_deck","_law_common","_law_names_here"] Su:=by
 refine⟨f,fd,g,?_⟩;refine fn3 g.fn sc_some_kinds (fun ts H Q h=>?_) (fun cdv A outer s H E ts H3 Q hr h=>?_)
 ·obtain⟨d,a,cm,ws,rfl,_⟩:=h;rfl
 have hu30:=Room.u30 hr;obtain⟨d,a,cm,ws,rfl,nad,ha,hws,w8,hcm,hC,k⟩:=h;refine⟨_,(ak (aF (i:=3) sc_some_kinds.nd (bV (aa (v3 1) aj)))
   (ak (bx H_ rfl (cj (aJ F_turn hr rfl (aa (v3 0) (aa (bz rfl (bB (n0:=(au (top 45)).names) (N:=gm) (N':=["_law_name","_law_common"]) (nt:=1) (cap:=[1]) rfl rfl (by decide +kernel)) (cj (v3 2)) (fun cl pins s H C0 fp=>⟨(aB (i:=0) (show List.Nodup [("_law_name":Str),("_law_common":Str)] by decide +kernel)),(gY (aU (iU hu30) (v3 0) (v3 1))),(v3 0)⟩)) aj)))) (aB (i:=4) sc_some_kinds.nd) (aq (bQ (PW3.pt (cU (aU vD (aW bW rfl B.len_ bZ (aa (v3 3) aj)) ao) (cT (aU (cY hu30) (aJ F_draw hr rfl (aa (v3 0) (aa ao aj))) ao)))) (aq (bI (cN J_ PySem.F.slot_list_insert PySem.F.type_list_insert ye (v3 3) (aa (aJ F_draw hr rfl (aa (v3 0) (aa (aH aR (aW bW rfl B.len_ bZ (aa (v3 3) aj)) ao) aj))) (aa (v3 4) aj))))) aY)))
   (aq (aM (bc bY rfl B.tuple_ bK (aa (v3 3) aj)))))),?_⟩
 rw[show aO gm [T.ref d,T.str cm,T.ref a]=[some (T.ref d),some (T.str cm),some (T.ref a),none,none] from rfl];have hsz:sizeLine=16777216:=rfl;have k':=Box.mk k;clear k;have w0:Wt d H3 H3 [(a,.lst (ws.map T.str))]:=⟨hC,Kep.refl,fun q hq=>by rw[i_.mp hq];exact⟨ha,nad⟩⟩;clear hC;refine aA fun R0 hR0=>?_;walk_at "";refine⟨by decide,fun pf hpf=>?_⟩;have f0:=w0.fresh hpf;have nfa:a≠pf:=aX ha hpf;have w1:=w0.new (o:=.lst [T.str cm]) hpf;generalize up3 H3 pf (.lst [T.str cm])=H4 at w1;clear w0 hpf ha;walk_at "n";refine aA fun R1 hR1=>?_;have gA:=w1.tl.hd;walk_at "";walk_at "c";refine f9 T.str T.str (fun x=>!decide (x=cm)) ws [some (.str cm)] (.inl gA) (by omega) (fun x hx Q' hq=>?_) (fun x hx _ Q' hq=>hq) (fun q hq=>?_)
 ·have hq':=Box.mk hq;clear k' hq hR1;walk_at "";first | exact hq'.out | trivial
 have w2:=w1.new (o:=.lst ((ws.filter fun x=>!decide (x=cm)).map T.str)) hq;have gq:=w2.hd;generalize up3 H4 q (.lst ((ws.filter fun x=>!decide (x=cm)).map T.str))=H5 at w2 gq;clear w1 hq gA;refine⟨d,q,(ws.filter fun x=>!decide (x=cm)).map T.str,rfl,(w2.at' _ t_).2,gq,jb _,by rw[d_];have:=Vk (fun x=>!decide (x=cm)) ws;omega,w2.cl,fun ys H6 q2 hperm hD hq2=>?_⟩;obtain⟨fs,hp',rfl⟩:=dZ hperm _ rfl;have fnm:Nms fs:=⟨fun x hx=>hws.nm x (F_.mp (hp'.mem_iff.mp hx)).1,hp'.nodup_iff.mpr (hws.nd.filter _)⟩;have fcm:cm∉fs:=fun h=>by have:=(F_.mp (hp'.mem_iff.mp h)).2;simp at this
 have fl:fs.length<=8:=by rw[hp'.length_eq];have:=Vk (fun x=>!decide (x=cm)) ws;omega
 have w3:=(w2.drw hD).tl.new (o:=.lst (fs.map T.str)) hq2;have gq2:=w3.hd;have nfq:pf≠q2:=aX (w2.drw hD).tl.hd hq2;generalize up3 H6 q2 (.lst (fs.map T.str))=H7 at w3 gq2;clear w2 hD hq2 gq hperm hp';try dsimp only
 walk_at "";have w4:Wt d H3 H7 [(pf,.lst ([cm].map T.str)),(q2,.lst (fs.map T.str))]:=⟨w3.cl,w3.kp,fun x hx=>by
  rcases p_.mp hx with rfl | hx
  ·
   exact w3.at' _ (by simp)
  ·
   rw[i_.mp hx];exact w3.at' _ t_⟩
 clear w3 gq2;refine aV T.str fs (fun A Z H=>∃(ks:List Str) (v4:Option T),Z=[some (.ref d),some (.str cm),some (.ref a),some (.ref pf),v4]/\Nms ks/\ks.length<=4/\(∀x∈ks,x=cm\/x∈A)/\Wt d H3 H [(pf,.lst (ks.map T.str)),(q2,.lst (fs.map T.str))]) ⟨[cm],_,rfl,⟨fun x hx=>by rw[i_.mp hx];exact hcm,by simp⟩,by simp,fun x hx=>.inl (i_.mp hx),w4⟩ ?_ ?_
 ·rintro Z H ⟨ks,v4,rfl,hk,k4,_,w⟩;refine⟨.inl w.tl.hd,?_⟩;have g:=w.hd;walk_at "n";clear w4;try dsimp only
  walk_at "";exact eU w.cl w.kp fun H'' hD=>k'.out ks H'' hk k4 hD
 rintro A x B Z H N e ⟨ks,v4,rfl,hk,k4,hin,w⟩ hN;refine⟨.inl w.tl.hd,?_⟩;have hx:isNm x:=fnm.nm x (by rw[e];simp);have hnx:x∉ks:=fun h=>by
  rcases hin x h with h | h
  ·exact fcm (by rw[<- h,e];simp)
  have nd:=fnm.nd;rw[e,XD] at nd;exact nd.2.2 x h x t_ rfl
 have hN':=Box.mk hN;have hin':=Box.mk hin;clear hN hin e k' hR1 w4;have g:=w.hd;walk_at "";have stay:∀H6,Wt d H3 H6 [(pf,.lst (ks.map T.str)),(q2,.lst (fs.map T.str))]->N [some (.ref d),some (.str cm),some (.ref a),some (.ref pf),some (.str x)] H6:=fun H6 w'=>hN'.out _ _ ⟨ks,_,rfl,hk,k4,fun y hy=>(hin'.out y hy).imp id fun h=>Ve _ h,w'⟩;have stay':=Box.mk stay;clear stay;split
 ·rename_i h4;have h4':ks.length<4:=by have:=VF h4;omega
  refine⟨d,2,rfl,by decide,w.cl,fun n1 H8 p0 p1 hD1=>?_⟩;have w5:=w.drw hD1;have g5:=w5.hd;clear w g hD1;walk_at "";split
  ·refine⟨⟨trivial,trivial⟩,d,_,rfl,by omega,w5.cl,fun n2 H9 r0 r1 hD2=>?_⟩;have w6:=w5.drw hD2;have g6:=w6.hd;clear w5 g5 hD2;walk_at "";have em:(ks.map T.str).take n2.toNat++T.str x::(ks.map T.str).drop n2.toNat=(ks.take n2.toNat++x::ks.drop n2.toNat).map T.str:=by rw[u_,A_,List.map_take,List.map_drop]
   rw[em];refine⟨⟨by first | trivial | omega,by first | trivial | omega,by first | trivial | omega⟩,hN'.out _ _ ⟨ks.take n2.toNat++x::ks.drop n2.toNat,_,rfl,hk.ins hx hnx,?_,fun y hy=>?_,w6.set f0 (fun q hq=>by rw[i_.mp hq];exact Ne.symm nfq) _⟩⟩
   ·rw[b_,j_,Vv,V6];omega
   rcases CJ hy with rfl | h
   ·exact .inr (T_ _ (i_.mpr rfl))
   exact (hin'.out y h).imp id fun h=>Ve _ h
  exact stay'.out _ w5
 exact stay'.out _ w
abbrev qe:List Str:=["_law_deck","_law_row","_law_names_here","_law_table","_law_many","_law_commons","_law_found","_law_i","_law_first"]
theorem sc_kinds:FnScope qe ["_law_deck","_law_row","_law_names_here","_law_table"] (au (top 46)):=bh
theorem Ds {f:Addr}{fd:FuncData}(g:G3 K mg "_law_kinds" (top 46) ["_law_deck","_law_row","_law_names_here","_law_table"] f fd) (B:Bl mg) (F_draw:Cal P w K mg base 1 "_law_draw" (top 37) ["_law_deck","_law_most"] jf) (F_some_kinds:Cal P w K mg base 3 "_law_some_kinds" (top 45) ["_law_deck","_law_common","_law_names_here"] Su):Cal P w K mg base 4 "_law_kinds" (top 46) ["_law_deck","_law_row","_law_names_here","_law_table"] Sv:=by
 refine⟨f,fd,g,?_⟩;refine fn3 g.fn sc_kinds (fun ts H Q h=>?_) (fun cdv A outer s H E ts H3 Q hr h=>?_)
 ·obtain⟨d,r,a,t,row,ws,m,H0,as,rfl,_⟩:=h;rfl
 have hu30:=Room.u30 hr;obtain⟨d,r,a,t,row,ws,m,H0,as,rfl,nrd,nad,hr',r1,r8,hrow,ha,hws,w8,tq,m8,hC,k⟩:=h;refine⟨_,(ak (aF (i:=4) sc_kinds.nd (aW bW rfl B.len_ bZ (aa (v3 3) aj)))
   (ak (aF (i:=5) sc_kinds.nd (bV aj))
   (ak (aF (i:=6) sc_kinds.nd (bV aj))
   (ak (bx H_ rfl (aQ rfl B.range_ (aa (v3 4) aj)) (aB (i:=7) sc_kinds.nd) (ak (aF (i:=8) sc_kinds.nd (aK ix3 (bz rfl (bB (n0:=(au (top 46)).names) (N:=qe) (N':=["_law_j","_law_i","_law_table"]) (nt:=1) (cap:=[7,3]) rfl rfl (by decide +kernel)) (aQ rfl B.range_ (aa (v3 4) aj)) (fun cl pins s H C0 fp=>⟨(aB (i:=0) (show List.Nodup [("_law_j":Str),("_law_i":Str),("_law_table":Str)] by decide +kernel)),(gY (PW3.pt (vh (aU (cY hu30) (v3 0) (v3 1)) (o8 (PW3.pt (cU (dw (aK ix3 (aK ix3 (v3 2) (v3 1)) (v3 0))) (cT (dw (aK ix3 (aK ix3 (v3 2) (v3 0)) (v3 1)))))))))),(v3 0)⟩)) ao))
    (ak (bQ (aU (cY hu30) (v3 8) (v3 7)) (aq (bI (cN J_ M_ N_ bu (v3 5) (aa (aK ix3 (v3 1) (aJ F_draw hr rfl (aa (v3 0) (aa (aW bW rfl B.len_ bZ (aa (v3 1) aj)) aj)))) aj)))) (aq (bI (cN J_ M_ N_ bu (v3 5) (aa (aK ix3 (v3 5) (v3 8)) aj)))))
    (aq (bQ (aU (cY hu30) (aJ F_draw hr rfl (aa (v3 0) (aa ao aj))) ao) (aq (bI (cN J_ M_ N_ bu (v3 6) (aa (aJ F_some_kinds hr rfl (aa (v3 0) (aa (aK ix3 (v3 5) (v3 7)) (aa (v3 2) aj)))) aj)))) (aq (bI (cN J_ M_ N_ bu (v3 6) (aa (bf aj) aj)))))))))
   (aq (aM (v3 6))))))),?_⟩
 rw[show aO qe [T.ref d,T.ref r,T.ref a,T.ref t]=[some (T.ref d),some (T.ref r),some (T.ref a),some (T.ref t),none,none,none,none,none] from rfl];have hsz:sizeLine=16777216:=rfl;have k':=Box.mk k;clear k;have gt:=tq.t;have tl:as.length=m:=tq.l;have w0:Wt d H3 H3 [(r,.lst (row.map T.str)),(a,.lst (ws.map T.str))]:=⟨hC,Kep.refl,fun q hq=>by
  rcases p_.mp hq with rfl | hq
  ·
   exact⟨hr',nrd⟩
  ·
   rw[i_.mp hq];exact⟨ha,nad⟩⟩
 clear hC;have rg:cZ 0 m=(List.range m).map fun (i:Nat)=>T.int (i:Int):=gO _;refine aA fun R0 hR0=>?_;walk_at "";walk_at "n";refine aA fun R1 hR1=>?_;walk_at "";refine⟨by omega,fun pc hpc=>?_⟩;have c0:=w0.fresh hpc;have nrc:r≠pc:=aX hr' hpc;have nac:a≠pc:=aX ha hpc;have ntc:t≠pc:=aX gt hpc;have nsc:∀x∈as,x≠pc:=fun x hx=>by obtain⟨bs,_,h2⟩:=tq.r x hx;exact aX h2 hpc
 have w1:=w0.new (o:=.lst []) hpc;have tq1:=tq.new (o:=.lst []) hpc;generalize up3 H3 pc (.lst [])=H4 at w1 tq1;clear hpc gt;walk_at "n";refine aA fun R2 hR2=>?_;walk_at "";refine⟨by omega,fun pf hpf=>?_⟩;have ki:KI d H3 H0 (up3 H4 pf (.lst [])) pf pc r a t row ws m as [] [] :=
  ⟨w1.new hpf,tq1.new hpf,Ne.symm (aX w1.hd hpf),⟨nrc,aX w1.tl.hd hpf⟩,⟨nac,aX w1.tl.tl.hd hpf⟩,⟨ntc,aX tq1.t hpf⟩,fun x hx=>⟨nsc x hx,by obtain⟨bs,_,h2⟩:=tq1.r x hx;exact aX h2 hpf⟩,c0,w1.fresh hpf⟩
 generalize up3 H4 pf (.lst [])=H5 at ki;clear w1 tq1 hpf nrc nac ntc nsc c0 tq;walk_at "n";refine aA fun R3 hR3=>?_;walk_at "";refine⟨by first | trivial | omega,by omega,by omega,?_⟩;try rw[rg]
 refine aV (fun (i:Nat)=>T.int (i:Int)) (List.range m) (fun A Z H=>∃(cs:List Str) (ks:List (List Str)) (v7 v8:Option T),Z=[some (.ref d),some (.ref r),some (.ref a),some (.ref t),some (.int (m:Int)),some (.ref pc),some (.ref pf),v7,v8]/\KI d H3 H0 H pf pc r a t row ws m as cs ks/\cs.length=A.length/\ks.length=A.length/\(∀c∈cs,isNm c)/\(∀k∈ks,Nms k/\k.length<=4)) ⟨[],[],_,_,rfl,ki,rfl,rfl,(fun _ h=>nomatch h),(fun _ h=>nomatch h)⟩ ?_ ?_
 ·rintro Z H ⟨cs,ks,v7,v8,rfl,ki,hcl,hkl,hc,hk⟩;refine⟨trivial,?_⟩;rw[n_] at hkl;walk_at "n";walk_at "";exact fB ki.w.cl ki.w.kp ki.w.hd ki.f0 (ki.w.at' _ t_).2 fun H1 hD h1=>k'.out ks H1 pf hkl hk hD h1
 rintro A i B Z H N e ⟨cs,ks,v7,v8,rfl,ki,hcl,hkl,hc,hk⟩ hN;refine⟨trivial,?_⟩;have hi:i<m:=I_.mp (by rw[e];simp);have hiA:=Box.mk (rH e);have hN':=Box.mk hN;have hcl':=Box.mk hcl;have hkl':=Box.mk hkl;clear hN e k' hR3 hcl hkl;refine aA fun R4 hR4=>?_;walk_at "";refine⟨by first | trivial | omega,by omega,by omega,?_⟩;try rw[rg]
 walk_at "c";refine cz (fun (j:Nat)=>T.int (j:Int)) (List.range m) (fun A2 ys Z H'=>∃(js:List Nat) (v:Option T),Z=[v,some (.int (i:Int)),some (.ref t)]/\ys=js.map (fun (j:Nat)=>T.int (j:Int))/\js.length<=A2.length/\H=H'/\((js=[]/\i∉A2)\/∃f rest,js=f::rest/\f<=i)) ⟨[],_,rfl,rfl,m_ _,rfl,.inl ⟨rfl,by simp⟩⟩ ?_ ?_;rotate_left
 ·rintro A2 j B2 ys Z H' N2 e2 ⟨js,v,rfl,rfl,hjl,rfl,hjs⟩ hN2;refine⟨trivial,?_⟩;have hj:j<m:=I_.mp (by rw[e2];simp);have hjA:=rH e2;have hpr:=oH e2;have hA2:A2.length<8:=by omega
  have app:N2 (js.map (fun (j:Nat)=>T.int (j:Int))++[T.int (j:Int)]) [some (T.int (j:Int)),some (.int (i:Int)),some (.ref t)] H:=hN2 _ _ _ ⟨js++[j],_,rfl,by rw[u_];rfl,by rw[b_,b_];simp only[G_];omega,rfl,.inr (by
   rcases hjs with ⟨rfl,hni⟩ | ⟨f,rest,rfl,hf⟩
   ·
    refine⟨j,[],rfl,?_⟩
    rw[hpr,I_,<- hjA] at hni
    omega
   ·
    exact⟨f,rest++[j],rfl,hf⟩)⟩
  have skip:j≠i->N2 (js.map (fun (j:Nat)=>T.int (j:Int))) [some (T.int (j:Int)),some (.int (i:Int)),some (.ref t)] H:=fun hne=>hN2 _ _ _ ⟨js,_,rfl,rfl,by rw[b_];simp only[G_];omega,rfl,by
   rcases hjs with ⟨rfl,hni⟩ | h
   ·
    exact .inl ⟨rfl,fun h=>by
     rcases D_.mp h with h | h
     ·
      exact hni h
     ·
      exact hne (i_.mp h).symm⟩
   ·
    exact .inr h⟩
  have app':=Box.mk app;have skip':=Box.mk skip;have gt:=ki.tq.t;obtain⟨ri,bi,gi,hri,li,gri⟩:=ki.tq.at' hi;obtain⟨rj,bj,gj,hrj,lj,grj⟩:=ki.tq.at' hj;obtain⟨x1,gx1⟩:=lO (show j<bi.length by omega);obtain⟨x2,gx2⟩:=lO (show i<bj.length by omega);have hjl':js.length<8:=by omega
  clear li lj app skip hN2 hN' hjs hjA hpr e2 hR4 hjl rg;walk_at "";by_cases hji:(j:Int)=(i:Int)
  ·rw[O_ hji,if_pos rfl];exact⟨by omega,app'.out⟩
  rw[C_ hji,if_neg o_];have sk:=skip'.out (fun h=>hji (by rw[h]));split
  ·split
   ·exact⟨by omega,app'.out⟩
   exact sk
  exact sk
 rintro ys Z H' ⟨js,v,rfl,rfl,hjl,rfl,hjs⟩;rw[n_] at hjl;refine⟨trivial,by rw[d_];omega,fun q hq=>?_⟩;obtain⟨f,rest,rfl,hf⟩:∃f rest,js=f::rest/\f<=i:=hjs.resolve_left fun h=>h.2 (I_.mpr hi);have ki2:=ki.new (o:=.lst ((f::rest).map fun (j:Nat)=>T.int (j:Int))) hq;generalize up3 H q (.lst ((f::rest).map fun (j:Nat)=>T.int (j:Int)))=H6 at ki2;clear ki hq hjs hjl;rw[A_,at0,iY];walk_at "n";refine aA fun R5 hR5=>?_;have il:cs.length=i:=hcl'.out.trans hiA.out.symm;have key:∀(c:Str) (H7:Hp3),isNm c->KI d H3 H0 H7 pf pc r a t row ws m as (cs++[c]) ks->R5 { nx:=N,rt:=Fin3 Q,bk:=R3 { nx:=fun x H'=>Fin3 Q T.non H',rt:=Fin3 Q},ct:=N} [some (T.ref d),some (T.ref r),some (T.ref a),some (T.ref t),some (T.int (m:Int)),some (T.ref pc),some (T.ref pf),some (T.int (i:Int)),some (T.int (f:Int))] H7:=fun c H7 hcn ki7=>by
  walk_at "n";clear ki2;have hcs:∀x∈cs++[c],isNm x:=fun x hx=>by
   rcases D_.mp hx with h | h
   ·exact hc x h
   rw[i_.mp h];exact hcn
  have gci:atI ((cs++[c]).map T.str) (i:Int)=some (.str c):=bC (by rw[<- il];simp);have il':=Box.mk il;clear il;walk_at "";refine⟨d,3,rfl,by decide,ki7.w.cl,fun n H8 p0 p1 hD=>?_⟩;have ki8:=ki7.drw hD;have gf:=ki8.w.hd;have gc:=ki8.w.tl.hd;have gA:=ki8.w.tl.tl.tl.hd;have kl:ks.length<8:=by rw[hkl'.out,<- hiA.out];omega
  clear ki7 hD;walk_at "";split
  ·refine⟨⟨trivial,trivial⟩,d,a,c,ws,rfl,nad,gA,hws,w8,hcn,ki8.w.cl,fun k1 H9 hk1 hk4 hD9=>?_⟩;have ki9:=ki8.drw hD9;have gf9:=ki9.w.hd;clear ki8 hD9 gf gc gA;try dsimp only
   walk_at "";have em:ks.map sT++[T.tup (k1.map T.str)]=(ks++[k1]).map sT:=by rw[u_];rfl
   rw[em];refine⟨by omega,hN'.out _ _ ⟨cs++[c],ks++[k1],_,_,rfl,ki9.putf _,by rw[b_,b_,hcl'.out];rfl,by rw[b_,b_,hkl'.out];rfl,hcs,fun k hk'=>?_⟩⟩;rcases D_.mp hk' with h | h
   ·exact hk k h
   rw[i_.mp h];exact⟨hk1,hk4⟩
  have em:ks.map sT++[T.tup []]=(ks++[[]]).map sT:=by rw[u_];rfl
  rw[em];refine⟨⟨trivial,trivial⟩,by first | trivial | omega,by omega,hN'.out _ _ ⟨cs++[c],ks++[[]],_,_,rfl,ki8.putf _,by rw[b_,b_,hcl'.out];rfl,by rw[b_,b_,hkl'.out];rfl,hcs,fun k hk'=>?_⟩⟩;rcases D_.mp hk' with h | h
  ·exact hk k h
  rw[i_.mp h];exact⟨Nms.nil,by decide⟩
 have key':=Box.mk key;have gc:=ki2.w.tl.hd;have gr:=ki2.w.tl.tl.hd;have cl8:cs.length<8:=by omega
 clear key hR5;walk_at "";by_cases hfi:(f:Int)=(i:Int)
 ·rw[O_ hfi,if_pos rfl];refine⟨⟨trivial,trivial⟩,d,_,rfl,by omega,ki2.w.cl,fun n H7 p0 p1 hD=>?_⟩;have ki3:=ki2.drw hD;have gr3:=ki3.w.tl.tl.hd;have gc3:=ki3.w.tl.hd;clear ki2 hD gc gr;obtain⟨z,hz,ez⟩:=vP row n p0 (by omega);have ez':atI (row.map T.str) n=some (T.str z):=by rw[pI,ez];rfl
  clear ez;have em:cs.map T.str++[T.str z]=(cs++[z]).map T.str:=by rw[u_];rfl
  walk_at "";have fin:=key'.out z _ (hrow z hz) (ki3.putc _);rw[hfi] at fin;exact⟨by omega,fin⟩
 rw[C_ hfi,if_neg o_];have hfl:f<cs.length:=by omega
 have gz:atI (cs.map T.str) (f:Int)=some (T.str cs[f]):=bC (by rw[z_,g_ hfl];rfl);have hz:=hc _ (Vh hfl);generalize cs[f]=z at gz hz;have em:cs.map T.str++[T.str z]=(cs++[z]).map T.str:=by rw[u_];rfl
 rw[gz,iY,em];exact⟨⟨trivial,trivial⟩,by omega,key'.out z _ hz (ki2.putc _)⟩
abbrev jB:List Str:=["_law_many","_law_edges","_law_table","_law_k","_law_i","_law_j"]
theorem sc_chained:FnScope jB ["_law_many","_law_edges"] (au (top 43)):=bh
theorem uL {f:Addr}{fd:FuncData}(g:G3 K mg "_law_chained" (top 43) ["_law_many","_law_edges"] f fd) (B:Bl mg):Cal P w K mg base 1 "_law_chained" (top 43) ["_law_many","_law_edges"] Sh:=by
 refine⟨f,fd,g,?_⟩;refine fn3 g.fn sc_chained (fun ts H Q h=>?_) (fun cdv A outer s H E ts H3 Q hr h=>?_)
 ·obtain⟨m,a,es,rfl,_⟩:=h;rfl
 have hu31:=Room.u31 hr;obtain⟨m,a,es,rfl,m8,ha,hes,k⟩:=h;refine⟨_,(ak (jY (i:=2) rfl sc_chained.nd (bB (n0:=(au (top 43)).names) (N:=jB) (N':=["_law_i","_law_edges","_law_many"]) (nt:=1) (cap:=[1,0]) rfl rfl (by decide +kernel)) (aQ rfl B.range_ (aa (v3 0) aj)) (fun cl pins s H C0 fp=>⟨(aB (i:=0) (show List.Nodup [("_law_i":Str),("_law_edges":Str),("_law_many":Str)] by decide +kernel)),bD,(bz rfl (Fw (n00:=(au (top 43)).names) (N:=["_law_i","_law_edges","_law_many"]) (N':=["_law_j","_law_edges","_law_i"]) (nt:=1) (cap:=[1,0]) rfl rfl rfl (by decide +kernel)) (aQ rfl B.range_ (aa (v3 2) aj)) (fun cl pins s H C0 fp=>⟨(aB (i:=0) (show List.Nodup [("_law_j":Str),("_law_edges":Str),("_law_i":Str)] by decide +kernel)),bD,(fV (zQ hu31) (bf (aa (v3 2) (aa (v3 0) aj))) (v3 1) rfl)⟩))⟩))
   (ak (bx H_ rfl (aQ rfl B.range_ (aa (v3 0) aj)) (aB (i:=3) sc_chained.nd) (aq (bx H_ rfl (aQ rfl B.range_ (aa (v3 0) aj)) (aB (i:=4) sc_chained.nd) (aq (bx H_ rfl (aQ rfl B.range_ (aa (v3 0) aj)) (aB (i:=5) sc_chained.nd) (aq (o9 (zA (aK ix3 (aK ix3 (v3 2) (v3 4)) (v3 5)) (kZ (zz (aK ix3 (aK ix3 (v3 2) (v3 4)) (v3 3)) (kZ (aK ix3 (aK ix3 (v3 2) (v3 3)) (v3 5)))))) (Ld (aK ix3 (v3 2) (v3 4)) (v3 5) xQ))))))))
   (aq (aM (v3 2))))),?_⟩
 rw[show aO jB [T.int (m:Int),T.ref a]=[some (T.int (m:Int)),some (T.ref a),none,none,none,none] from rfl];have hsz:sizeLine=16777216:=rfl;have k':=Box.mk k;clear k;have rg:cZ 0 m=(List.range m).map fun (i:Nat)=>T.int (i:Int):=gO m;refine aA fun R0 hR0=>?_;walk_at "";refine⟨by first | trivial | omega,by omega,by omega,?_⟩;try rw[rg]
 walk_at "c";refine cz (fun (i:Nat)=>T.int (i:Int)) (List.range m) (fun A ys Z H=>∃(as:List Addr) (v:Option T),Z=[v,some (.ref a),some (.int (m:Int))]/\ys=as.map T.ref/\as.length=A.length/\Rws H3 H m as) ⟨[],_,rfl,rfl,rfl,Sub3.refl,(fun _ h=>nomatch h),(fun _ h=>nomatch h)⟩ ?_ ?_;rotate_left
 ·rintro A i B ys Z H N e ⟨as,v,rfl,rfl,hl,hx⟩ hN;refine⟨trivial,?_⟩;have hA:A.length<8:=by have:=Q_ List.length e;simp only[b_,j_,n_] at this;omega
  have hN':=Box.mk hN;have ha':=hx.sb _ _ ha;clear hN e k' hR0 ha;walk_at "";refine⟨by first | trivial | omega,by omega,by omega,?_⟩;try rw[rg]
  walk_at "c";refine cH (fun (j:Nat)=>T.int (j:Int)) (fun j=>.bl (dJ false (.tup [.int (i:Int),.int (j:Int)]) es)) (List.range m) [some (.ref a),some (.int (i:Int))] trivial (by rw[n_];omega) (fun j hj Q' hq=>?_) (fun q hq=>?_)
  ·clear hN' rg;walk_at "";exact⟨by decide,rfl,trivial,trivial⟩
  rw[show (List.range m).map (fun (j:Nat)=>T.bl (dJ false (.tup [.int (i:Int),.int (j:Int)]) es))=((List.range m).map fun (j:Nat)=>dJ false (.tup [.int (i:Int),.int (j:Int)]) es).map T.bl by rw[Vg];rfl];refine⟨by first | omega | (rw[d_,hl];omega),hN'.out _ _ _ ⟨as++[q],_,rfl,by rw[u_];rfl,by rw[b_,b_,hl];rfl,hx.grow (by rw[d_,n_]) hq⟩⟩
 rintro ys Z H ⟨as,v,rfl,rfl,hl,hx⟩;rw[n_] at hl;refine⟨trivial,by rw[d_];omega,fun p hp=>?_⟩;have tb:Tb H3 (up3 H p (.lst (as.map T.ref))) p m as:=by
  refine⟨hx.sb.trans (Sub3.new hp),hl,aC,fun b hb=>?_,fun hin=>?_,di hx.sb hp,hx.fa⟩
  ·obtain⟨bs,h1,h2⟩:=hx.r b hb;exact⟨bs,h1,by rw[aD (aX h2 hp)];exact h2⟩
  obtain⟨bs,_,h2⟩:=hx.r p hin;rw[h2] at hp;cases hp
 generalize up3 H p (.lst (as.map T.ref))=H4 at tb;clear hx hp;walk_at "n";refine aA fun R1 hR1=>?_;walk_at "";refine⟨by first | trivial | omega,by omega,by omega,?_⟩;try rw[rg]
 refine aV (fun (i:Nat)=>T.int (i:Int)) (List.range m) (fun _ Z H=>∃(v3 v4 v5:Option T),Z=[some (.int (m:Int)),some (.ref a),some (.ref p),v3,v4,v5]/\Tb H3 H p m as) ⟨_,_,_,rfl,tb⟩ ?_ ?_
 ·rintro Z H ⟨v3,v4,v5,rfl,tb⟩;refine⟨trivial,?_⟩;walk_at "n";walk_at "";exact Fin3.of Sub3.refl (k'.out p as H tb)
 rintro A1 kk B1 Z H N1 e1 ⟨v3,v4,v5,rfl,tb⟩ hN1;refine⟨trivial,?_⟩;have hk:kk<m:=I_.mp (by rw[e1];simp);have hM1:=Box.mk hN1;clear hN1 e1 hR1 k' ha;walk_at "";refine⟨by first | trivial | omega,by omega,by omega,?_⟩;try rw[rg]
 refine aV (fun (i:Nat)=>T.int (i:Int)) (List.range m) (fun _ Z H=>∃(v4 v5:Option T),Z=[some (.int (m:Int)),some (.ref a),some (.ref p),some (.int (kk:Int)),v4,v5]/\Tb H3 H p m as) ⟨_,_,rfl,tb⟩ ?_ ?_
 ·rintro Z H ⟨v4,v5,rfl,tb⟩;exact⟨trivial,hM1.out _ _ ⟨_,_,_,rfl,tb⟩⟩
 rintro A2 ii B2 Z H N2 e2 ⟨v4,v5,rfl,tb⟩ hN2;refine⟨trivial,?_⟩;have hii:ii<m:=I_.mp (by rw[e2];simp);have hM2:=Box.mk hN2;clear hN2 e2 hM1;walk_at "";refine⟨by first | trivial | omega,by omega,by omega,?_⟩;try rw[rg]
 refine aV (fun (i:Nat)=>T.int (i:Int)) (List.range m) (fun _ Z H=>∃(v5:Option T),Z=[some (.int (m:Int)),some (.ref a),some (.ref p),some (.int (kk:Int)),some (.int (ii:Int)),v5]/\Tb H3 H p m as) ⟨_,rfl,tb⟩ ?_ ?_
 ·rintro Z H ⟨v5,rfl,tb⟩;exact⟨trivial,hM2.out _ _ ⟨_,_,rfl,tb⟩⟩
 rintro A3 jj B3 Z H N3 e3 ⟨v5,rfl,tb⟩ hN3;refine⟨trivial,?_⟩;have hjj:jj<m:=I_.mp (by rw[e3];simp);have hM3:=Box.mk hN3;clear hN3 e3 hM2 rg;have gt:=tb.t;obtain⟨ri,bi,gi,hri,li,gri⟩:=tb.at' hii;obtain⟨rk,bk,gk,hrk,lk,grk⟩:=tb.at' hk;obtain⟨x1,gx1⟩:=lO (show jj<bi.length by omega);obtain⟨x2,gx2⟩:=lO (show kk<bi.length by omega);obtain⟨x3,gx3⟩:=lO (show jj<bk.length by omega);have li':=Box.mk li;clear li lk;have fin:∀b:Bool,oq (ixN bi.length (jj:Int)) fun j=>N3 [some (T.int (m:Int)),some (T.ref a),some (T.ref p),some (T.int (kk:Int)),some (T.int (ii:Int)),some (T.int (jj:Int))] (up3 H ri (O3.lst ((List.map T.bl bi).set j (T.bl b)))):=fun b=>by rw[vO (by have:=li'.out;omega),iY,<- List.map_set];exact hM3.out _ _ ⟨_,rfl,tb.put hri (by rw[List.length_set];exact li'.out)⟩
 have fin':=Box.mk fin;clear fin;walk_at "";split
 ·exact fin'.out true
 split
 ·exact fin'.out x3
 exact fin'.out false
abbrev qg:List Str:=["_law_deck","_law_names_here","_law_orders","_law_lots","_law_many","_law_pairs_here","_law_edges","_law_i","_law_j","_law_table"]
theorem sc_pairs:FnScope qg ["_law_deck","_law_names_here","_law_orders","_law_lots"] (au (top 44)):=bh
theorem Dt {f:Addr}{fd:FuncData}(g:G3 K mg "_law_pairs" (top 44) ["_law_deck","_law_names_here","_law_orders","_law_lots"] f fd) (B:Bl mg) (F_turn:Cal P w K mg base 2 "_law_turn" (top 41) ["_law_deck","_law_things"] Hh) (F_draw:Cal P w K mg base 1 "_law_draw" (top 37) ["_law_deck","_law_most"] jf) (F_chained:Cal P w K mg base 1 "_law_chained" (top 43) ["_law_many","_law_edges"] Sh):Cal P w K mg base 3 "_law_pairs" (top 44) ["_law_deck","_law_names_here","_law_orders","_law_lots"] Sq:=by
 refine⟨f,fd,g,?_⟩;refine fn3 g.fn sc_pairs (fun ts H Q h=>?_) (fun cdv A outer s H E ts H3 Q hr h=>?_)
 ·obtain⟨d,a,o,ws,es,lots,rfl,_⟩:=h;rfl
 have hu30:=Room.u30 hr;obtain⟨d,a,o,ws,es,lots,rfl,l1,l100,nad,nod,ha,hws,w8,ho,hes,e28,hC,k⟩:=h;refine⟨_,(ak (aF (i:=4) sc_pairs.nd (aW bW rfl B.len_ bZ (aa (v3 1) aj)))
   (ak (aF (i:=5) sc_pairs.nd (bV aj))
   (ak (aF (i:=6) sc_pairs.nd (bc pG rfl B.list_ iW (aa (v3 2) aj)))
   (ak (bx H_ rfl (aQ rfl B.range_ (aa (v3 4) aj)) (aB (i:=7) sc_pairs.nd) (aq (bx H_ rfl (aQ rfl B.range_ (aa (v3 4) aj)) (aB (i:=8) sc_pairs.nd) (aq (bQ (PW3.pt (cU (aU (iU hu30) (v3 7) (v3 8)) (cU (aU (cY hu30) (aJ F_draw hr rfl (aa (v3 0) (aa (aH dY ao (v3 3)) aj))) ao) (cT (aU vD (aW bW rfl B.len_ bZ (aa (v3 5) aj)) ao))))) (ak (bI (cN J_ M_ N_ bu (v3 5) (aa (bf (aa fU (aa (v3 7) (aa (v3 8) aj)))) aj)))
      (aq (aF (i:=6) sc_pairs.nd (aH aR (v3 6) (bV (aa (bf (aa (v3 7) (aa (v3 8) aj))) (aa (bf (aa (v3 8) (aa (v3 7) aj))) aj))))))) aY)))))
   (ak (aF (i:=9) sc_pairs.nd (aJ F_chained hr rfl (aa (v3 4) (aa (v3 6) aj))))
   (ak (bx H_ rfl (aQ rfl B.range_ (aa (v3 4) aj)) (aB (i:=7) sc_pairs.nd) (aq (bx H_ rfl (aQ rfl B.range_ (aa (v3 4) aj)) (aB (i:=8) sc_pairs.nd) (aq (bQ (PW3.pt (cU (aU (iU hu30) (v3 7) (v3 8)) (cU (aU (cY hu30) (aJ F_draw hr rfl (aa (v3 0) (aa (v3 3) aj))) ao) (cU (kY (PW3.pt (cU (dw (aK ix3 (aK ix3 (v3 9) (v3 7)) (v3 8))) (cT (dw (aK ix3 (aK ix3 (v3 9) (v3 8)) (v3 7))))))) (cT (aU vD (aW bW rfl B.len_ bZ (aa (v3 5) aj)) ao)))))) (aq (bI (cN J_ M_ N_ bu (v3 5) (aa (bf (aa fU (aa (v3 7) (aa (v3 8) aj)))) aj)))) aY)))))
   (ak (aF (i:=5) sc_pairs.nd (aJ F_turn hr rfl (aa (v3 0) (aa (v3 5) aj))))
   (aq (aM (bf (aa (bc bY rfl B.tuple_ bK (aa (bz rfl (bB (n0:=(au (top 44)).names) (N:=qg) (N':=["_law_word","_law_i","_law_j","_law_names_here"]) (nt:=3) (cap:=[1]) rfl rfl (by decide +kernel)) (cj (v3 5)) (fun cl pins s H C0 fp=>⟨(cB (n:=3) rfl (aG (aB (i:=0) (show List.Nodup [("_law_word":Str),("_law_i":Str),("_law_j":Str),("_law_names_here":Str)] by decide +kernel)) (aG (aB (i:=1) (show List.Nodup [("_law_word":Str),("_law_i":Str),("_law_j":Str),("_law_names_here":Str)] by decide +kernel)) (aG (aB (i:=2) (show List.Nodup [("_law_word":Str),("_law_i":Str),("_law_j":Str),("_law_names_here":Str)] by decide +kernel)) bM)))),bD,(bf (aa (v3 0) (aa (aK ix3 (v3 3) (v3 1)) (aa (aK ix3 (v3 3) (v3 2)) aj))))⟩)) aj)) (aa (v3 9) aj)))))))))))),?_⟩
 rw[show aO qg [T.ref d,T.ref a,T.ref o,T.int lots]=[some (T.ref d),some (T.ref a),some (T.ref o),some (T.int lots),none,none,none,none,none,none] from rfl];have hsz:sizeLine=16777216:=rfl;have k':=Box.mk k;clear k;have w0:Wt d H3 H3 []:=⟨hC,Kep.refl,(fun _ h=>nomatch h)⟩;have w0:Wt d H3 H3 [(a,.lst (ws.map T.str))]:=⟨hC,Kep.refl,fun q hq=>by rw[i_.mp hq];exact⟨ha,nad⟩⟩;clear hC;have rg:cZ 0 ws.length=(List.range ws.length).map fun (i:Nat)=>T.int (i:Int):=gO _;refine aA fun R0 hR0=>?_;walk_at "";walk_at "n";refine aA fun R1 hR1=>?_;walk_at "";refine⟨by omega,fun pp hpp=>?_⟩;have pp0:=w0.fresh hpp;have npa:a≠pp:=aX ha hpp;have npo:o≠pp:=aX ho hpp;have w1:=w0.new (o:=.lst []) hpp;have ho1:up3 H3 pp (.lst []) o=some (.lst es):=by rw[aD npo];exact ho
 generalize up3 H3 pp (.lst [])=H4 at w1 ho1;clear w0 hpp ha;walk_at "n";refine aA fun R2 hR2=>?_;walk_at "";intro pe hpe;have w2:=w1.new (o:=.lst es) hpe;have pe0:=w1.fresh hpe;have npe:pp≠pe:=aX w1.hd hpe;have nae:a≠pe:=aX w1.tl.hd hpe;generalize up3 H4 pe (.lst es)=H5 at w2;clear w1 hpe ho1;walk_at "n";have pi0:PI d H3 H5 pp pe a ws [] es:=⟨⟨w2.cl,w2.kp,fun q hq=>w2.at' q (by simp only[p_,VP,Yc] at hq ⊢;rcases hq with h | h | h;exact .inr (.inl h);exact .inl h;exact .inr (.inr h))⟩,Ne.symm npe,npa,by decide,hes,by simp;omega,(fun _ h=>nomatch h)⟩;clear w2 pe0 npe nae;refine aA fun R3 hR3=>?_;walk_at "";refine⟨trivial,by omega,by omega,?_⟩;try rw[rg]
 refine aV (fun (i:Nat)=>T.int (i:Int)) (List.range ws.length) (fun A Z H=>∃(ps:List (Bool × Nat × Nat)) (es:List T) (pe:Addr) (v7 v8:Option T),Z=[some (.ref d),some (.ref a),some (.ref o),some (.int lots),some (.int (ws.length:Int)),some (.ref pp),some (.ref pe),v7,v8,none]/\PI d H3 H pp pe a ws ps es/\ps.Sublist (enm true ws.length A)) ⟨[],es,pe,_,_,rfl,pi0,W7 _⟩ ?_ ?_;rotate_left
 ·rintro A i B Z H N e ⟨ps,es,pe,v7,v8,rfl,pi,hsub⟩ hN;refine⟨trivial,?_⟩;have hi:i<ws.length:=I_.mp (by rw[e];simp);have hM:=Box.mk hN;clear hN e pi0 k' hR3;walk_at "";refine⟨trivial,by omega,by omega,?_⟩;try rw[rg]
  refine aV (fun (i:Nat)=>T.int (i:Int)) (List.range ws.length) (fun A2 Z H=>∃(ps:List (Bool × Nat × Nat)) (es:List T) (pe:Addr) (v8:Option T),Z=[some (.ref d),some (.ref a),some (.ref o),some (.int lots),some (.int (ws.length:Int)),some (.ref pp),some (.ref pe),some (.int (i:Int)),v8,none]/\PI d H3 H pp pe a ws ps es/\ps.Sublist (enm true ws.length A++A2.map fun j=>(true,i,j))) ⟨ps,es,pe,_,rfl,pi,by rw[VJ,S_];exact hsub⟩ ?_ ?_
  ·rintro Z H ⟨ps,es,pe,v8,rfl,pi,hsub⟩;exact⟨trivial,hM.out _ _ ⟨ps,es,pe,_,_,rfl,pi,by rw[rG];exact hsub⟩⟩
  rintro A2 j B2 Z H N2 e2 ⟨ps,es,pe,v8,rfl,pi,hsub⟩ hN2;refine⟨trivial,?_⟩;have hj:j<ws.length:=I_.mp (by rw[e2];simp);have hN':=Box.mk hN2;have hs1:=uD (y:=(true,i,j)) hsub;have hs2:=uE (y:=(true,i,j)) hsub;rw[Vq,show [(true,i,j)]=[j].map fun j=>(true,i,j) from rfl,<- u_] at hs1 hs2;clear hN2 e2 hM rg hsub;walk_at "";by_cases hij:(i:Int)=(j:Int)
  ·rw[O_ hij];simp only[V4,y_,U7];exact hN'.out _ _ ⟨ps,es,pe,_,rfl,pi,hs2⟩
  rw[C_ hij];simp only[Wc,if_true];refine⟨.inl ⟨by decide,by decide⟩,d,_,rfl,by omega,pi.w.cl,fun n H6 n0 n1 hD=>?_⟩;have pi2:=pi.drw hD;clear pi hD;have g1:=pi2.w.hd;have g2:=pi2.w.tl.hd;walk_at "";have stay:=Box.mk (hN'.out [some (.ref d),some (.ref a),some (.ref o),some (.int lots),some (.int (ws.length:Int)),some (.ref pp),some (.ref pe),some (.int (i:Int)),some (.int (j:Int)),none] H6 ⟨ps,es,pe,_,rfl,pi2,hs2⟩);split
  ·split
   ·rename_i h12;have h12':ps.length<12:=by have:=VF h12;omega
    have el:=pi2.el;have e1:ps.map pT3++[T.tup [T.str (Str.ofString "with"),T.int (i:Int),T.int (j:Int)]]=(ps++[(true,i,j)]).map pT3:=by rw[u_];rfl
    rw[e1];refine⟨⟨trivial,trivial⟩,by decide,by omega,by decide,by decide,by decide,fun q0 hq0=>?_⟩;have gpe:up3 H6 pp (.lst ((ps++[(true,i,j)]).map pT3)) pe=some (.lst es):=by rw[aD pi2.ne];exact g2
    rw[aD (aX gpe hq0),gpe,jw];refine⟨by rw[j_,j_,Wd];omega,fun q hq=>?_⟩;exact hN'.out _ _ ⟨ps++[(true,i,j)],es++[T.tup [T.int (i:Int),T.int (j:Int)],T.tup [T.int (j:Int),T.int (i:Int)]],q,_,rfl,pi2.add pp0 h12' ⟨fun h=>hij (by have:i=j:=h;rw[this]),hi,hj⟩ hq0 hq rfl rfl,hs1⟩
   first | exact stay.out | trivial
  first | exact stay.out | trivial
 rintro Z H ⟨ps,es,pe,v7,v8,rfl,pi,hsub⟩;refine⟨trivial,?_⟩;clear pi0;walk_at "n";refine aA fun R4 hR4=>?_;have gpe:=pi.w.tl.hd;walk_at "";refine⟨ws.length,pe,es,rfl,w8,gpe,pi.ea,fun pt as H7 tb=>?_⟩;have tq:Tq d H3 H7 pt ws.length as:=tb.tq pi.w.cl pi.w.kp;have npt:pt≠pp:=Ne.symm (aX pi.w.hd tb.f0);have nas:∀x∈as,x≠pp:=fun x hx=>Ne.symm (aX pi.w.hd (tb.fa x hx));have pi1:=pi.sub tb.sb;clear pi tb gpe;walk_at "n";refine aA fun R5 hR5=>?_;walk_at "";refine⟨trivial,by omega,by omega,?_⟩;try rw[rg]
 refine aV (fun (i:Nat)=>T.int (i:Int)) (List.range ws.length) (fun A Z H=>∃(ps:List (Bool × Nat × Nat)) (v7 v8:Option T),Z=[some (.ref d),some (.ref a),some (.ref o),some (.int lots),some (.int (ws.length:Int)),some (.ref pp),some (.ref pe),v7,v8,some (.ref pt)]/\PI d H3 H pp pe a ws ps es/\Tq d H3 H pt ws.length as/\ps.Sublist (enm true ws.length (List.range ws.length)++enm false ws.length A)) ⟨ps,_,_,rfl,pi1,tq,by rw[show enm false ws.length []=[] from rfl,S_];exact hsub⟩ ?_ ?_;rotate_left
 ·rintro A i B Z H N e ⟨ps,v7,v8,rfl,pi,tq,hsub⟩ hN;refine⟨trivial,?_⟩;have hi:i<ws.length:=I_.mp (by rw[e];simp);have hM:=Box.mk hN;clear hN e pi1 k' hR5;walk_at "";refine⟨trivial,by omega,by omega,?_⟩;try rw[rg]
  refine aV (fun (i:Nat)=>T.int (i:Int)) (List.range ws.length) (fun A2 Z H=>∃(ps:List (Bool × Nat × Nat)) (v8:Option T),Z=[some (.ref d),some (.ref a),some (.ref o),some (.int lots),some (.int (ws.length:Int)),some (.ref pp),some (.ref pe),some (.int (i:Int)),v8,some (.ref pt)]/\PI d H3 H pp pe a ws ps es/\Tq d H3 H pt ws.length as/\ps.Sublist (enm true ws.length (List.range ws.length)++enm false ws.length A++A2.map fun j=>(false,i,j))) ⟨ps,_,rfl,pi,tq,by rw[VJ,S_];exact hsub⟩ ?_ ?_
  ·rintro Z H ⟨ps,v8,rfl,pi,tq,hsub⟩;exact⟨trivial,hM.out _ _ ⟨ps,_,_,rfl,pi,tq,by rw[rG,<- Vq];exact hsub⟩⟩
  rintro A2 j B2 Z H N2 e2 ⟨ps,v8,rfl,pi,tq,hsub⟩ hN2;refine⟨trivial,?_⟩;have hj:j<ws.length:=I_.mp (by rw[e2];simp);have hN':=Box.mk hN2;have hs1:=uD (y:=(false,i,j)) hsub;have hs2:=uE (y:=(false,i,j)) hsub;rw[Vq (_++_),show [(false,i,j)]=[j].map fun j=>(false,i,j) from rfl,<- u_] at hs1 hs2;clear hN2 e2 hM rg hsub;walk_at "";by_cases hij:(i:Int)=(j:Int)
  ·rw[O_ hij];simp only[V4,y_,U7];exact hN'.out _ _ ⟨ps,_,rfl,pi,tq,hs2⟩
  rw[C_ hij];simp only[Wc,if_true];refine⟨d,_,rfl,by omega,pi.w.cl,fun n H6 n0 n1 hD=>?_⟩;have pi2:=pi.drw hD;have tq2:=tq.drw hD;clear pi hD tq;have g1:=pi2.w.hd;have gt:=tq2.t;obtain⟨ri,bi,gi,hri,li,gri⟩:=tq2.at' hi;obtain⟨rj,bj,gj,hrj,lj,grj⟩:=tq2.at' hj;obtain⟨x1,gx1⟩:=lO (show j<bi.length by omega);obtain⟨x2,gx2⟩:=lO (show i<bj.length by omega);clear li lj;have stay:=Box.mk (hN'.out [some (.ref d),some (.ref a),some (.ref o),some (.int lots),some (.int (ws.length:Int)),some (.ref pp),some (.ref pe),some (.int (i:Int)),some (.int (j:Int)),some (.ref pt)] H6 ⟨ps,_,rfl,pi2,tq2,hs2⟩);have e1:ps.map pT3++[T.tup [T.str (Str.ofString "apart"),T.int (i:Int),T.int (j:Int)]]=(ps++[(false,i,j)]).map pT3:=by rw[u_];rfl
  have go:decide ((ps.length:Int)<12)=true->N2 [some (.ref d),some (.ref a),some (.ref o),some (.int lots),some (.int (ws.length:Int)),some (.ref pp),some (.ref pe),some (.int (i:Int)),some (.int (j:Int)),some (.ref pt)] (up3 H6 pp (O3.lst (List.map pT3 ps++[T.tup [T.str (Str.ofString "apart"),T.int (i:Int),T.int (j:Int)]]))):=fun h12=>by rw[e1];exact hN'.out _ _ ⟨ps++[(false,i,j)],_,rfl,pi2.add1 pp0 (by have:=VF h12;omega) ⟨fun h=>hij (by have:i=j:=h;rw[this]),hi,hj⟩,tq2.set npt nas,hs1⟩
  have go':=Box.mk go;have l12:=pi2.l12;clear go e1;walk_at ""
  repeat' split
  all_goals first | exact stay.out | exact⟨⟨trivial,trivial⟩,by decide,by omega,go'.out (by assumption)⟩ | trivial
 rintro Z H ⟨ps,v7,v8,rfl,pi,tq,hsub⟩;refine⟨trivial,?_⟩;clear pi1;walk_at "n";refine aA fun R6 hR6=>?_;have g1:=pi.w.hd;have l12:=pi.l12;walk_at "";refine⟨d,pp,ps.map pT3,rfl,(pi.w.at' _ t_).2,g1,Ss ps,by rw[d_];omega,pi.w.cl,fun ys H8 q hperm hD hq=>?_⟩;obtain⟨ps',hp',rfl⟩:=dZ hperm ps rfl;have nd':ps'.Nodup:=(hp'.nodup_iff).mpr ((Hl ⟨ws.length,by omega⟩).sublist hsub);have ok':∀x∈ps',x.2.1≠x.2.2/\x.2.1<ws.length/\x.2.2<ws.length:=fun x hx=>pi.ok x (hp'.mem_iff.mp hx);have l12':ps'.length<=12:=by rw[hp'.length_eq];exact l12
 have w9:=(pi.w.drw hD).tl.tl.new (o:=.lst (ps'.map pT3)) hq;have tq9:=(tq.drw hD).new (o:=.lst (ps'.map pT3)) hq;generalize up3 H8 q (.lst (ps'.map pT3))=H9 at w9 tq9;clear hD hq pi tq hperm hp' hsub g1 l12 rg;walk_at "n";have gq:=w9.hd;have gA:=w9.tl.hd;try dsimp only
 walk_at "";walk_at "c";refine Ay (fun x:Bool × Nat × Nat=>.str (bw x.1)) (fun x=>.int (x.2.1:Int)) (fun x=>.int (x.2.2:Int)) (fun x=>prT (nmP ws x)) (fun _=>true) ps' [some (.ref a)] (.inl gq) (by omega) (fun x hx Q' hq=>hq) (fun x hx _ Q' hq=>?_) (fun p hp=>?_)
 ·have o:=ok' x hx;have a1:=getD_at o.2.1;have a2:=getD_at o.2.2;have hq':=Box.mk hq;clear k' hq;walk_at "";exact⟨by decide,hq'.out⟩
 rw[show ps'.filter (fun _=>true)=ps' from List.filter_eq_self.mpr fun _ _=>rfl] at *;rw[show ps'.map (fun x=>prT (nmP ws x))=(ps'.map (nmP ws)).map prT by rw[Vg];rfl];have w10:=w9.new (o:=.lst ((ps'.map (nmP ws)).map prT)) hp;have tq10:=tq9.new (o:=.lst ((ps'.map (nmP ws)).map prT)) hp;generalize up3 H9 p (.lst ((ps'.map (nmP ws)).map prT))=H10 at w10 tq10;walk_at "";exact⟨by decide,Fin3.of Sub3.refl (k'.out (ps'.map (nmP ws)) pt as H10 (by rw[d_];exact l12') (N8 hws.nd nd' ok') (fun x hx=>by obtain⟨y,hy,rfl⟩:=k_.mp hx;exact Oa hws.nd (ok' y hy)) w10.cl w10.kp tq10)⟩
abbrev jN:List Str:=["_law_size","_law_number","_law_names_here","_law_letters","_law_found","_law_turn_here","_law_left","_law_name","_law_k"]
theorem sc_free_name:FnScope jN ["_law_size","_law_number","_law_names_here"] (au (top 39)):=bh
theorem qi {f:Addr}{fd:FuncData}(g:G3 K mg "_law_free_name" (top 39) ["_law_size","_law_number","_law_names_here"] f fd) (B:Bl mg):Cal P w K mg base 1 "_law_free_name" (top 39) ["_law_size","_law_number","_law_names_here"] Sg:=by
 refine⟨f,fd,g,?_⟩;refine fn3 g.fn sc_free_name (fun ts H Q h=>?_) (fun cdv A outer s H E ts H3 Q hr h=>?_)
 ·obtain⟨sz,num,a,ws,rfl,_⟩:=h;rfl
 have hu30:=Room.u30 hr;have hu31:=Room.u31 hr;obtain⟨sz,num,a,ws,rfl,s1,s8,ha,hl,k⟩:=h;refine⟨_,(ak (aF (i:=3) sc_free_name.nd fU)
   (ak (aF (i:=4) sc_free_name.nd fU)
   (ak (bx H_ rfl (aQ rfl B.range_ (aa (aH aR (aW bW rfl B.len_ bZ (aa (v3 2) aj)) ao) aj)) (aB (i:=5) sc_free_name.nd) (ak (aF (i:=6) sc_free_name.nd (aH aR (v3 1) (v3 5)))
    (ak (aF (i:=7) sc_free_name.nd fU)
    (ak (bx H_ rfl (aQ rfl B.range_ (aa (v3 0) aj)) (aB (i:=8) sc_free_name.nd) (ak (aF (i:=7) sc_free_name.nd (aH aR (v3 7) (aK ix3 (v3 3) (aH dG (v3 6) ao))))
     (aq (aF (i:=6) sc_free_name.nd (aH eO (v3 6) ao)))))
    (aq (bQ (PW3.pt (cU (aU (cY hu30) (v3 4) fU) (cT (aU (qR hu31) (v3 7) (v3 2) rfl)))) (aq (aF (i:=4) sc_free_name.nd (v3 7))) aY))))))
   (aq (aM (v3 4)))))),?_⟩
 rw[show aO jN [T.int (sz:Int),T.int num,T.ref a]=[some (T.int (sz:Int)),some (T.int num),some (T.ref a),none,none,none,none,none,none] from rfl];have hsz:sizeLine=16777216:=rfl;have al:(mkS jR).length<=sizeLine:=by rw[dB];decide
 have k':=Box.mk k;clear k;have e0:("":Str)=mkS []:=by decide +kernel
 refine aA fun R0 hR0=>?_;walk_at "";simp only[Cq];walk_at "n";refine aA fun R1 hR1=>?_;walk_at "";walk_at "n";refine aA fun R2 hR2=>?_;walk_at "";refine⟨by first | trivial | omega,by omega,by omega,?_⟩;rw[show cZ 0 ((ws.length:Int)+1).toNat=(List.range (ws.length+1)).map (fun (i:Nat)=>T.int (i:Int)) by rw[show ((ws.length:Int)+1).toNat=ws.length+1 by omega];exact gO _];refine aV (fun (i:Nat)=>T.int (i:Int)) (List.range (ws.length+1)) (fun A Z H=>∃(fo:Str) (v5 v6 v7 v8:Option T),Z=[some (.int (sz:Int)),some (.int num),some (.ref a),some (.str (mkS jR)),some (.str fo),v5,v6,v7,v8]/\H3=H/\((fo=""/\∀i∈A,mkS (dg sz (num+i))∈ws)\/(isNm fo/\fo∉ws))) ⟨"",_,_,_,_,rfl,rfl,.inl ⟨rfl,(fun _ h=>nomatch h)⟩⟩ ?_ ?_
 ·rintro Z H ⟨fo,v5,v6,v7,v8,rfl,rfl,hfo⟩;refine⟨trivial,?_⟩;walk_at "n";walk_at "";rcases hfo with ⟨_,hall⟩ | ⟨h1,h2⟩
  ·exfalso;obtain⟨n,rfl⟩:∃n,sz=n+1:=⟨sz - 1,by omega⟩;exact pig ws (fun i=>mkS (dg (n+1) (num+i))) (fun i j hi hj h=>N5 (by omega) (by omega) h) fun i hi=>hall i (I_.mpr (by omega))
  exact Fin3.of Sub3.refl (k'.out fo h1 h2)
 rintro A i B Z H N e ⟨fo,v5,v6,v7,v8,rfl,rfl,hfo⟩ hN;refine⟨trivial,?_⟩;have hN':=Box.mk hN;have hfo':=Box.mk hfo;clear hN hfo e k' hR2;refine aA fun R3 hR3=>?_;walk_at "";walk_at "n";refine aA fun R4 hR4=>?_;walk_at "";walk_at "n";refine aA fun R5 hR5=>?_;walk_at "";refine⟨by first | trivial | omega,by omega,by omega,?_⟩;have hrl:(cZ 0 sz).length=sz:=by unfold cZ;rw[d_,n_]
 generalize cZ 0 sz=ts0 at hrl;try rw[e0]
 refine j0 (fun r Z H=>∃(pre:List Nat) (lf:Int) (v8:Option T),Z=[some (.int (sz:Int)),some (.int num),some (.ref a),some (.str (mkS jR)),some (.str fo),some (.int (i:Int)),some (.int lf),some (.str (mkS pre)),v8]/\pre++dg r.length lf=dg sz (num+i)/\pre.length+r.length=sz/\H3=H) ⟨[],num+i,_,rfl,by rw[hrl];rfl,by rw[hrl];exact Nat.zero_add _,rfl⟩ ?_ ?_
 ·rintro Z H ⟨pre,lf,v8,rfl,hpre,hpl,rfl⟩;refine⟨trivial,?_⟩;rw[Wd,dg,S_] at hpre;subst hpre;walk_at "n";walk_at "";have nmx:isNm (mkS (dg sz (num+(i:Int)))):=JC (by rw[uC];omega) (by rw[uC];omega) (JK _ _);by_cases q:fo=mkS []
  ·rw[O_ q,if_pos rfl];refine⟨rfl,jb ws,?_⟩;split
   ·rename_i hm;exact hN'.out _ _ ⟨_,_,_,_,_,rfl,rfl,.inr ⟨nmx,(RP j6 (x:=mkS (dg sz (num+(i:Int))))).mp hm⟩⟩
   rename_i hm;have hin:mkS (dg sz (num+(i:Int)))∈ws:=Classical.byContradiction fun h=>hm ((RP j6).mpr h);rcases hfo'.out with ⟨_,hall⟩ | h
   ·exact hN'.out _ _ ⟨fo,_,_,_,_,rfl,rfl,.inl ⟨q.trans e0.symm,fun j hj=>by
     rcases D_.mp hj with hj | hj
     ·
      exact hall j hj
     ·
      rw[i_.mp hj];exact hin⟩⟩
   exact hN'.out _ _ ⟨fo,_,_,_,_,rfl,rfl,.inr h⟩
  rw[C_ q,if_neg o_];rcases hfo'.out with ⟨h,_⟩ | h
  ·exact absurd (h.trans e0) q
  exact hN'.out _ _ ⟨fo,_,_,_,_,rfl,rfl,.inr h⟩
 rintro x r Z H N2 ⟨pre,lf,v8,rfl,hpre,hpl,rfl⟩ hN2;refine⟨trivial,?_⟩;rw[j_] at hpre hpl;rw[dg] at hpre;have hM:=Box.mk hN2;have hpre':=Box.mk hpre;have hpl':pre.length<8:=by omega
 have hpl2:=Box.mk hpl;have hch:=Cr (lf%26) (VM _ (by decide)) (VL _ (by decide));clear hN2 hN' hfo' hR5 hpre hpl;walk_at "";simp only[dM,hch,iY];walk_at "";rw[show (⟨#[97+(lf%26).toNat]⟩:Str)=mkS [97+(lf%26).toNat] from rfl];refine⟨by decide,al,by rw[dB,dB];simp only[G_];omega,⟨by decide,by decide +kernel⟩,?_⟩;rw[pW];exact hM.out _ _ ⟨_,_,_,rfl,by rw[Vq];exact hpre'.out,by rw[b_,G_];have:=hpl2.out;omega,rfl⟩
abbrev qj:List Str:=["_law_deck","_law_many","_law_letters","_law_found","_law_k","_law_base","_law_at","_law_spot"]
theorem sc_names:FnScope qj ["_law_deck","_law_many"] (au (top 40)):=bh
theorem Du {f:Addr}{fd:FuncData}(g:G3 K mg "_law_names" (top 40) ["_law_deck","_law_many"] f fd) (B:Bl mg) (F_draw:Cal P w K mg base 1 "_law_draw" (top 37) ["_law_deck","_law_most"] jf) (F_free_name:Cal P w K mg base 1 "_law_free_name" (top 39) ["_law_size","_law_number","_law_names_here"] Sg):Cal P w K mg base 2 "_law_names" (top 40) ["_law_deck","_law_many"] N7:=by
 refine⟨f,fd,g,?_⟩;refine fn3 g.fn sc_names (fun ts H Q h=>?_) (fun cdv A outer s H E ts H3 Q hr h=>?_)
 ·obtain⟨d,m,rfl,_⟩:=h;rfl
 obtain⟨d,m,rfl,m1,m8,hC,k⟩:=h;refine⟨_,(ak (aF (i:=2) sc_names.nd fU)
   (ak (aF (i:=3) sc_names.nd (bV aj))
   (ak (bQ (aU Qu (aJ F_draw hr rfl (aa (v3 0) (aa ao aj))) ao) (ak (bx H_ rfl (aQ rfl B.range_ (aa (v3 1) aj)) (aB (i:=4) sc_names.nd) (aq (bI (cN J_ M_ N_ bu (v3 3) (aa (aJ F_free_name hr rfl (aa (aH aR ao (aJ F_draw hr rfl (aa (v3 0) (aa ao aj)))) (aa (aJ F_draw hr rfl (aa (v3 0) (aa (aH fW ao ao) aj))) (aa (v3 3) aj)))) aj)))))
    (aq (aM (v3 3)))) aY)
   (ak (aF (i:=5) sc_names.nd (aJ F_free_name hr rfl (aa (aH aR ao (aJ F_draw hr rfl (aa (v3 0) (aa ao aj)))) (aa (aJ F_draw hr rfl (aa (v3 0) (aa (aH fW ao ao) aj))) (aa (bV aj) aj)))))
   (ak (aF (i:=6) sc_names.nd (aJ F_draw hr rfl (aa (v3 0) (aa (aW bW rfl B.len_ bZ (aa (v3 5) aj)) aj))))
   (ak (aF (i:=7) sc_names.nd (cN PySem.F.plainAttrs_str PySem.F.slot_str_index PySem.F.type_str_index zX (v3 2) (aa (aK ix3 (v3 5) (v3 6)) aj)))
   (aq (aM (bz rfl (bB (n0:=(au (top 40)).names) (N:=qj) (N':=["_law_k","_law_base","_law_letters","_law_at","_law_spot"]) (nt:=1) (cap:=[5,2,6,7]) rfl rfl (by decide +kernel)) (aQ rfl B.range_ (aa (v3 1) aj)) (fun cl pins s H C0 fp=>⟨(aB (i:=0) (show List.Nodup [("_law_k":Str),("_law_base":Str),("_law_letters":Str),("_law_at":Str),("_law_spot":Str)] by decide +kernel)),bD,(aH aR (aH aR (iV (v3 1) dC (cG (v3 3))) (aK ix3 (v3 2) (aH dG (aH aR (v3 4) (v3 0)) ao))) (iV (v3 1) (cG (aH aR (v3 3) ao)) dC))⟩)))))))))),?_⟩
 rw[show aO qj [T.ref d,T.int (m:Int)]=[some (T.ref d),some (T.int (m:Int)),none,none,none,none,none,none] from rfl];have hsz:sizeLine=16777216:=rfl;have al:(mkS jR).length<=sizeLine:=by rw[dB];decide
 have k':=Box.mk k;clear k;have w0:Wt d H3 H3 []:=⟨hC,Kep.refl,(fun _ h=>nomatch h)⟩;clear hC;refine aA fun R0 hR0=>?_;walk_at "";simp only[Cq];walk_at "n";refine aA fun R1 hR1=>?_;walk_at "";refine⟨by omega,fun pf hpf=>?_⟩;have f0:=w0.fresh hpf;have npd:=w0.cl.ne hpf;have w1:=w0.new (o:=.lst []) hpf;generalize up3 H3 pf (.lst [])=H4 at w1;clear w0 hpf;walk_at "n";refine aA fun R2 hR2=>?_;walk_at "";refine⟨d,3,rfl,by decide,w1.cl,fun way H5 y0 y1 hD=>?_⟩;have w2:=w1.drw hD;clear w1 hD;walk_at "";have rg:cZ 0 m=(List.range m).map fun (i:Nat)=>T.int (i:Int):=gO m;by_cases hw:0<way
 ·rw[O_ hw,if_pos rfl];clear hR2;refine⟨by first | trivial | omega,by omega,by omega,?_⟩;try rw[rg]
  refine aV (fun (i:Nat)=>T.int (i:Int)) (List.range m) (fun A Z H=>∃(ws:List Str) (v4:Option T),Z=[some (.ref d),some (.int (m:Int)),some (.str (mkS jR)),some (.ref pf),v4,none,none,none]/\Nms ws/\ws.length=A.length/\Wt d H3 H [(pf,.lst (ws.map T.str))]) ⟨[],_,rfl,Nms.nil,rfl,w2⟩ ?_ ?_
  ·rintro Z H ⟨ws,v4,rfl,hn,hl,w⟩;refine⟨trivial,?_⟩;rw[n_] at hl;clear w2;walk_at "";exact fB w.cl w.kp w.hd f0 npd fun H1 hD h1=>k'.out ws H1 pf hl hn hD h1
  rintro A i B Z H N e ⟨ws,v4,rfl,hn,hl,w⟩ hN;refine⟨trivial,?_⟩;have hA:A.length<8:=by have:=Q_ List.length e;simp only[b_,j_,n_] at this;omega
  have hN':=Box.mk hN;have g:=w.hd;clear hN e k' w2;walk_at "";refine⟨⟨trivial,trivial⟩,d,8,rfl,by decide,w.cl,fun n1 H6 p0 p1 hD1=>?_⟩;have w3:=w.drw hD1;clear w g hD1;walk_at "";refine⟨⟨by decide,by decide,by decide⟩,d,_,rfl,by decide,w3.cl,fun n2 H7 q0 q1 hD2=>?_⟩;have w4:=w3.drw hD2;have g4:=w4.hd;clear w3 hD2;try dsimp only
  refine⟨(1+n1).toNat,n2,pf,ws,by rw[Xc (by omega)],by omega,by omega,g4,by omega,fun x hx hnx=>?_⟩;walk_at "";refine⟨by omega,hN'.out _ _ ⟨ws++[x],_,rfl,hn.snoc hx hnx,by rw[b_,b_,hl];rfl,?_⟩⟩;have w5:=w4.set f0 (fun _ h=>nomatch h) (.lst (ws.map T.str++[T.str x]));rw[u_];exact w5
 rw[C_ hw,if_neg o_];walk_at "n";refine aA fun R3 hR3=>?_;walk_at "";refine⟨d,8,rfl,by decide,w2.cl,fun n1 H6 p0 p1 hD1=>?_⟩;have w3:=w2.drw hD1;clear w2 hD1;walk_at "";refine⟨⟨by decide,by decide,by decide⟩,d,_,rfl,by decide,w3.cl,fun n2 H7 q0 q1 hD2=>?_⟩;have w4:=w3.drw hD2;clear w3 hD2;refine⟨by omega,fun pe hpe=>?_⟩;have w5:=w4.new (o:=.lst []) hpe;have ge:=w5.hd;generalize up3 H7 pe (.lst [])=H8 at w5 ge;clear w4 hpe;refine⟨(1+n1).toNat,n2,pe,[],by rw[Xc (by omega)],by omega,by omega,ge,by decide,fun x hx _=>?_⟩;have w6:=w5.tl;clear w5 ge;obtain⟨l,rfl⟩:=Nv x;have e1:=hx.lo;have e2:=hx.hi;have e3:=hx.az;rw[dB] at e1 e2;rw[dM] at e3;have ml:=dB l;walk_at "n";refine aA fun R4 hR4=>?_;walk_at "";refine⟨by first | trivial | omega,d,_,rfl,by omega,w6.cl,fun n3 H9 r0 r1 hD3=>?_⟩;have w7:=w6.drw hD3;clear w6 hD3;obtain⟨at',rfl⟩:∃at':Nat,n3=(at':Int):=⟨n3.toNat,by omega⟩;have hat:at'<l.length:=by omega
 walk_at "n";refine aA fun R5 hR5=>?_;have ga:atI l (at':Int)=some l[at']:=bC (g_ hat);have gz:=e3 _ (Vh hat);generalize l[at']=ch at ga gz;have hix:=Nx ch gz.1 gz.2;walk_at "";refine⟨trivial,by omega,?_⟩;rw[dM,ga,iY,show (⟨#[ch]⟩:Str)=mkS [ch] from rfl,hix];clear ga hix;walk_at "";walk_at "n";walk_at "";refine⟨by first | trivial | omega,by omega,by omega,?_⟩;try rw[rg]
 walk_at "c";refine cH (fun (i:Nat)=>T.int (i:Int)) (fun i=>.str (nmK l at' (ch - 97) i)) (List.range m) [some (.str (mkS l)),some (.str (mkS jR)),some (.int (at':Int)),some (.int ((ch - 97:Nat):Int))] trivial (by rw[n_];omega) (fun i hi Q' hq=>?_) (fun p hp=>?_)
 ·have hch:=Cr ((((ch - 97:Nat):Int)+(i:Int))%26) (VM _ (by decide)) (VL _ (by decide));have st:=RV l at' (by omega);have sf:=Hb l (at'+1) (by omega);rw[show ((at'+1:Nat):Int)=(at':Int)+1 by omega] at sf;have hq':=Box.mk hq;clear k' hq rg;walk_at "";refine⟨by omega,by decide,by rw[dB];decide,?_⟩;rw[dM,hch,iY,show (⟨#[97+((((ch - 97:Nat):Int)+(i:Int))%26).toNat]⟩:Str)=mkS [97+((((ch - 97:Nat):Int)+(i:Int))%26).toNat] from rfl];rw[pW,pW];simp only[dB,b_,Vv,V6,G_];exact⟨by omega,by omega,by omega,hq'.out⟩
 have el:(List.range m).map (fun i=>T.str (nmK l at' (ch - 97) i))=((List.range m).map (nmK l at' (ch - 97))).map T.str:=by rw[Vg];rfl
 rw[el];have w8:=w7.new (o:=.lst (((List.range m).map (nmK l at' (ch - 97))).map T.str)) hp;exact fB w8.cl w8.kp w8.hd (w7.fresh hp) (w7.cl.ne hp) fun H1 hD h1=>k'.out _ H1 p (by rw[d_,n_]) (Hk e2 hat e3 m8) hD h1
abbrev ik:List Str:=["_law_deck","_law_many","_law_way","_law_base"]
theorem sc_lengths:FnScope ik ["_law_deck","_law_many"] (au (top 42)):=bh
theorem uM {f:Addr}{fd:FuncData}(g:G3 K mg "_law_lengths" (top 42) ["_law_deck","_law_many"] f fd) (B:Bl mg) (F_draw:Cal P w K mg base 1 "_law_draw" (top 37) ["_law_deck","_law_most"] jf) (F_great:Cal P w K mg base 2 "_law_great" (top 38) ["_law_deck","_law_most"] RX):Cal P w K mg base 3 "_law_lengths" (top 42) ["_law_deck","_law_many"] RZ:=by
 refine⟨f,fd,g,?_⟩;refine fn3 g.fn sc_lengths (fun ts H Q h=>?_) (fun cdv A outer s H E ts H3 Q hr h=>?_)
 ·obtain⟨d,m,rfl,_⟩:=h;rfl
 have hu30:=Room.u30 hr;obtain⟨d,m,rfl,hm,hC,k⟩:=h;refine⟨_,(ak (aF (i:=2) sc_lengths.nd (aJ F_draw hr rfl (aa (v3 0) (aa ao aj))))
   (ak (bQ (aU (cY hu30) (v3 2) ao) (aq (aM (bz rfl (bB (n0:=(au (top 42)).names) (N:=ik) (N':=["_law_k","_law_deck"]) (nt:=1) (cap:=[0]) rfl rfl (by decide +kernel)) (aQ rfl B.range_ (aa (v3 1) aj)) (fun cl pins s H C0 fp=>⟨(aB (i:=0) (show List.Nodup [("_law_k":Str),("_law_deck":Str)] by decide +kernel)),bD,(aH aR ao (aJ F_great hr rfl (aa (v3 1) (aa (aH gD (aH fW ao ao) ao) aj))))⟩)))) aY)
   (ak (aF (i:=3) sc_lengths.nd (aH aR ao (aJ F_great hr rfl (aa (v3 0) (aa (aK ix3 (bV (aa ao (aa ao (aa (aH fW ao ao) aj)))) (aH gD (v3 2) ao)) aj)))))
   (aq (aM (bz rfl (bB (n0:=(au (top 42)).names) (N:=ik) (N':=["_law_k","_law_base","_law_deck"]) (nt:=1) (cap:=[3,0]) rfl rfl (by decide +kernel)) (aQ rfl B.range_ (aa (v3 1) aj)) (fun cl pins s H C0 fp=>⟨(aB (i:=0) (show List.Nodup [("_law_k":Str),("_law_base":Str),("_law_deck":Str)] by decide +kernel)),bD,(aH aR (aH dY (v3 1) (aH aR ao (aJ F_draw hr rfl (aa (v3 2) (aa ao aj))))) (aH eO (aJ F_draw hr rfl (aa (v3 2) (aa ao aj))) ao))⟩))))))),?_⟩
 rw[show aO ik [T.ref d,T.int (m:Int)]=[some (T.ref d),some (T.int (m:Int)),none,none] from rfl];have hsz:sizeLine=16777216:=rfl;have k':=Box.mk k;clear k;have w0:Wt d H3 H3 []:=⟨hC,Kep.refl,(fun _ h=>nomatch h)⟩;clear hC;refine aA fun R0 hR0=>?_;walk_at "";refine⟨d,4,rfl,by decide,w0.cl,fun way H4 y0 y1 hD=>?_⟩;have w1:=w0.drw hD;clear w0 hD;walk_at "n";refine aA fun R1 hR1=>?_;walk_at "";have rg:cZ 0 m=(List.range m).map fun (i:Nat)=>T.int (i:Int):=gO m;by_cases hw:way=0
 ·rw[O_ hw,if_pos rfl];clear hR1;refine⟨trivial,by omega,by omega,?_⟩;try rw[rg]
  walk_at "c";refine cz (fun (i:Nat)=>T.int (i:Int)) (List.range m) (fun A ys Z H=>∃(ls:List Int) (v:Option T),Z=[v,some (.ref d)]/\ys=ls.map T.int/\ls.length=A.length/\(∀l∈ls,1<=l/\l<10^60)/\Wt d H3 H []) ⟨[],_,rfl,rfl,rfl,(fun _ h=>nomatch h),w1⟩ ?_ ?_
  ·rintro ys Z H ⟨ls,v,rfl,rfl,hl,hr,w⟩;rw[n_] at hl;refine⟨trivial,by rw[d_];omega,fun p hp=>?_⟩;have w2:=w.new (o:=.lst (ls.map T.int)) hp;exact fB w2.cl w2.kp w2.hd (w.fresh hp) (w.cl.ne hp) fun H1 hD h1=>k'.out ls H1 p hl hr hD h1
  rintro A i B ys Z H N e ⟨ls,v,rfl,rfl,hl,hr,w⟩ hN;refine⟨trivial,?_⟩;have hA:A.length<8:=by have:=Q_ List.length e;simp only[b_,j_,n_] at this;omega
  have hN':=Box.mk hN;clear hN e k' w1;walk_at "";refine⟨⟨by decide,by decide,by decide⟩,d,_,rfl,by rw[t60];decide,w.cl,fun n H5 n0 n1 hD=>?_⟩;rw[t60] at n1;walk_at "";refine⟨by omega,hN'.out _ _ _ ⟨ls++[1+n],_,rfl,by rw[u_];rfl,by rw[b_,b_,hl];rfl,fun l hl'=>?_,w.drw hD⟩⟩;rcases D_.mp hl' with h | h
  ·exact hr l h
  rw[i_.mp h,Sd];omega
 rw[C_ hw,if_neg o_];walk_at "n";refine aA fun R2 hR2=>?_;walk_at "";refine⟨⟨by decide,by decide,by decide⟩,by decide,fun p hp=>?_⟩;obtain⟨b,hbm,hb'⟩:=vP ([1,9,10^Int.toNat 58]:List Int) (way - 1) (by omega) (by show way - 1<3;omega);have hb2:atI [T.int 1,T.int 9,T.int (10^Int.toNat 58)] (way - 1)=some (T.int b):=by have:=pI T.int ([1,9,10^Int.toNat 58]:List Int) (way - 1);rw[hb'] at this;exact this
 have hb0:1<=b/\b<=10000000000000000000000000000000000000000000000000000000000:=by rw[t58] at hbm;simp only[p_,VP,Yc] at hbm;rcases hbm with h | h | h <;> omega
 rw[hb2,iY];have w2:=(w1.new (o:=.lst [T.int 1,T.int 9,T.int (10^Int.toNat 58)]) hp).tl;generalize up3 H4 p (.lst [T.int 1,T.int 9,T.int (10^Int.toNat 58)])=H5 at w2;clear w1 hp hb2 hb' hbm;refine⟨d,b,rfl,by omega,w2.cl,fun n H6 n0 n1 hD=>?_⟩;have w3:=w2.drw hD;clear w2 hD;have u0:1<=1+n:=by omega
 have u1:1+n<=10000000000000000000000000000000000000000000000000000000000:=by omega
 try dsimp only
 walk_at "";generalize 1+n=bs at u0 u1;walk_at "n";walk_at "";refine⟨by first | trivial | omega,by omega,by omega,?_⟩;try rw[rg]
 walk_at "c";refine cz (fun (i:Nat)=>T.int (i:Int)) (List.range m) (fun A ys Z H=>∃(ls:List Int) (v:Option T),Z=[v,some (.int bs),some (.ref d)]/\ys=ls.map T.int/\ls.length=A.length/\(∀l∈ls,1<=l/\l<10^60)/\Wt d H3 H []) ⟨[],_,rfl,rfl,rfl,(fun _ h=>nomatch h),w3⟩ ?_ ?_
 ·rintro ys Z H ⟨ls,v,rfl,rfl,hl,hr,w⟩;rw[n_] at hl;refine⟨trivial,by rw[d_];omega,fun p hp=>?_⟩;have w2:=w.new (o:=.lst (ls.map T.int)) hp;exact fB w2.cl w2.kp w2.hd (w.fresh hp) (w.cl.ne hp) fun H1 hD h1=>k'.out ls H1 p hl hr hD h1
 rintro A i B ys Z H N e ⟨ls,v,rfl,rfl,hl,hr,w⟩ hN;refine⟨trivial,?_⟩;have hA:A.length<8:=by have:=Q_ List.length e;simp only[b_,j_,n_] at this;omega
 have hN':=Box.mk hN;clear hN e k' w3;walk_at "";refine⟨d,9,rfl,by decide,w.cl,fun n1 H7 p0 p1 hD1=>?_⟩;have w2:=w.drw hD1;walk_at "";refine⟨.inr ⟨by omega,by omega⟩,d,5,rfl,by decide,w2.cl,fun n2 H8 q0 q1 hD2=>?_⟩;have w4:=w2.drw hD2;walk_at "";refine⟨⟨by decide,by decide +kernel⟩,by omega,hN'.out _ _ _ ⟨ls++[bs*(1+n1)+n2 / 3],_,rfl,by rw[u_];rfl,by rw[b_,b_,hl];rfl,fun l hl'=>?_,w4⟩⟩;rcases D_.mp hl' with h | h
 ·exact hr l h
 rw[i_.mp h,Sd];have m1:bs*(1+n1)<=bs*9:=Int.mul_le_mul_of_nonneg_left (by omega) (by omega);have m2:bs*1<=bs*(1+n1):=Int.mul_le_mul_of_nonneg_left (by omega) (by omega);omega
abbrev jk:List Str:=["_law_deck","_law_most","_law_stands","_law_names_here","_law_many","_law_turn_here","_law_orders","_law_lots","_law_i","_law_j","_law_pairs_here","_law_table","_law_kinds_here","_law_row","_law_some","_law_lengths_here","_law_tasks"]
theorem sc_works:FnScope jk ["_law_deck","_law_most","_law_stands"] (au (top 47)):=bh
theorem Dv {f:Addr}{fd:FuncData}(g:G3 K mg "_law_works" (top 47) ["_law_deck","_law_most","_law_stands"] f fd) (B:Bl mg) (F_names:Cal P w K mg base 2 "_law_names" (top 40) ["_law_deck","_law_many"] N7) (F_draw:Cal P w K mg base 1 "_law_draw" (top 37) ["_law_deck","_law_most"] jf) (F_turn:Cal P w K mg base 2 "_law_turn" (top 41) ["_law_deck","_law_things"] Hh) (F_pairs:Cal P w K mg base 3 "_law_pairs" (top 44) ["_law_deck","_law_names_here","_law_orders","_law_lots"] Sq) (F_kinds:Cal P w K mg base 4 "_law_kinds" (top 46) ["_law_deck","_law_row","_law_names_here","_law_table"] Sv) (F_lengths:Cal P w K mg base 3 "_law_lengths" (top 42) ["_law_deck","_law_many"] RZ):Cal P w K mg base 5 "_law_works" (top 47) ["_law_deck","_law_most","_law_stands"] SJ:=by
 refine⟨f,fd,g,?_⟩;refine fn3 g.fn sc_works (fun ts H Q h=>?_) (fun cdv A outer s H E ts H3 Q hr h=>?_)
 ·obtain⟨d,most,st,rfl,_⟩:=h;rfl
 have hu30:=Room.u30 hr;obtain⟨d,most,st,rfl,m1,m8,s1,s8,hC,k⟩:=h;refine⟨_,(ak (aF (i:=3) sc_works.nd (aJ F_names hr rfl (aa (v3 0) (aa (aH aR ao (aJ F_draw hr rfl (aa (v3 0) (aa (v3 1) aj)))) aj))))
   (ak (aF (i:=4) sc_works.nd (aW bW rfl B.len_ bZ (aa (v3 3) aj)))
   (ak (aF (i:=5) sc_works.nd (aJ F_turn hr rfl (aa (v3 0) (aa (Bf rfl rfl B.list_ rfl B.range_ (v3 4)) aj))))
   (ak (aF (i:=6) sc_works.nd (bV aj))
   (ak (aF (i:=7) sc_works.nd (aH aR ao (aJ F_draw hr rfl (aa (v3 0) (aa ao aj)))))
   (ak (bx H_ rfl (aQ rfl B.range_ (aa (v3 4) aj)) (aB (i:=8) sc_works.nd) (aq (bx H_ rfl (nP rfl B.range_ (aa (aH aR (v3 8) ao) (aa (v3 4) aj))) (aB (i:=9) sc_works.nd) (aq (bQ (aU (cY hu30) (aJ F_draw hr rfl (aa (v3 0) (aa (v3 7) aj))) ao) (aq (bI (cN J_ M_ N_ bu (v3 6) (aa (bf (aa (aK ix3 (v3 5) (v3 8)) (aa (aK ix3 (v3 5) (v3 9)) aj))) aj)))) aY)))))
   (ak (aF (i:=6) sc_works.nd (aJ F_turn hr rfl (aa (v3 0) (aa (v3 6) aj))))
   (ak (o9 (aJ F_pairs hr rfl (aa (v3 0) (aa (v3 3) (aa (v3 6) (aa (aH aR ao (aJ F_draw hr rfl (aa (v3 0) (aa ao aj)))) aj))))) (cB (n:=2) rfl (aG (aB (i:=10) sc_works.nd) (aG (aB (i:=11) sc_works.nd) bM))))
   (ak (aF (i:=12) sc_works.nd (aJ F_names hr rfl (aa (v3 0) (aa (aH aR ao (aJ F_draw hr rfl (aa (v3 0) (aa ao aj)))) aj))))
   (ak (jY (i:=13) rfl sc_works.nd (bB (n0:=(au (top 47)).names) (N:=jk) (N':=["_law_k","_law_kinds_here","_law_deck"]) (nt:=1) (cap:=[12,0]) rfl rfl (by decide +kernel)) (aQ rfl B.range_ (aa (aH aR ao (aJ F_draw hr rfl (aa (v3 0) (aa (v3 2) aj)))) aj)) (fun cl pins s H C0 fp=>⟨(aB (i:=0) (show List.Nodup [("_law_k":Str),("_law_kinds_here":Str),("_law_deck":Str)] by decide +kernel)),bD,(aK ix3 (v3 1) (aJ F_draw hr rfl (aa (v3 2) (aa (aW bW rfl B.len_ bZ (aa (v3 1) aj)) aj))))⟩))
   (ak (aF (i:=14) sc_works.nd (aJ F_kinds hr rfl (aa (v3 0) (aa (v3 13) (aa (v3 12) (aa (v3 11) aj))))))
   (ak (aF (i:=15) sc_works.nd (aJ F_lengths hr rfl (aa (v3 0) (aa (v3 4) aj))))
   (ak (aF (i:=16) sc_works.nd (bc bY rfl B.tuple_ bK (aa (bz rfl (bB (n0:=(au (top 47)).names) (N:=jk) (N':=["_law_k","_law_names_here","_law_lengths_here","_law_some"]) (nt:=1) (cap:=[3,15,14]) rfl rfl (by decide +kernel)) (aQ rfl B.range_ (aa (v3 4) aj)) (fun cl pins s H C0 fp=>⟨(aB (i:=0) (show List.Nodup [("_law_k":Str),("_law_names_here":Str),("_law_lengths_here":Str),("_law_some":Str)] by decide +kernel)),bD,(bf (aa (aK ix3 (v3 1) (v3 0)) (aa (aK ix3 (v3 2) (v3 0)) (aa (aK ix3 (v3 3) (v3 0)) aj))))⟩)) aj)))
   (aq (aM (bf (aa (v3 16) (aa (bc bY rfl B.tuple_ bK (aa (bz rfl (bB (n0:=(au (top 47)).names) (N:=jk) (N':=["_law_i","_law_j","_law_names_here"]) (nt:=2) (cap:=[3]) rfl rfl (by decide +kernel)) (cj (v3 6)) (fun cl pins s H C0 fp=>⟨(cB (n:=2) rfl (aG (aB (i:=0) (show List.Nodup [("_law_i":Str),("_law_j":Str),("_law_names_here":Str)] by decide +kernel)) (aG (aB (i:=1) (show List.Nodup [("_law_i":Str),("_law_j":Str),("_law_names_here":Str)] by decide +kernel)) bM))),bD,(bf (aa (aK ix3 (v3 2) (v3 0)) (aa (aK ix3 (v3 2) (v3 1)) aj)))⟩)) aj)) (aa (v3 10) (aa (bc bY rfl B.tuple_ bK (aa (v3 13) aj)) aj)))))))))))))))))))),?_⟩
 rw[show aO jk [T.ref d,T.int most,T.int st]=[some (T.ref d),some (T.int most),some (T.int st),none,none,none,none,none,none,none,none,none,none,none,none,none,none] from rfl];have hsz:sizeLine=16777216:=rfl;have k':=Box.mk k;clear k;have w0:Wt d H3 H3 []:=⟨hC,Kep.refl,(fun _ h=>nomatch h)⟩;clear hC;refine aA fun R0 hR0=>?_;walk_at "";refine⟨d,most,rfl,by omega,w0.cl,fun n0 H4 a0 a1 hD0=>?_⟩;have w1:=w0.drw hD0;clear w0 hD0;walk_at "";refine⟨d,(1+n0).toNat,by rw[Xc (by omega)],by omega,by omega,w1.cl,fun ws H5 pn hwl hws hD1 hpn=>?_⟩;have w2:=(w1.drw hD1).new (o:=.lst (ws.map T.str)) hpn;generalize up3 H5 pn (.lst (ws.map T.str))=H6 at w2;clear w1 hD1 hpn;have ws1:1<=ws.length:=by omega
 have ws8:ws.length<=8:=by omega
 have wsm:(ws.length:Int)<=most:=by omega
 clear hwl a0 a1;walk_at "n";refine aA fun R1 hR1=>?_;have gn:=w2.hd;walk_at "";walk_at "n";refine aA fun R2 hR2=>?_;walk_at "";refine⟨⟨by omega,by omega⟩,fun q1 hq1=>?_⟩;have w3:=w2.new (o:=.lst ((List.range ws.length).map fun (k:Nat)=>T.int (k:Int))) hq1;have gq1:=w3.hd;generalize up3 H6 q1 (.lst ((List.range ws.length).map fun (k:Nat)=>T.int (k:Int)))=H7 at w3 gq1;clear w2 hq1 gn;try dsimp only
 refine⟨d,q1,_,rfl,(w3.at' _ t_).2,gq1,SN _,by rw[d_,n_];omega,w3.cl,fun ys H8 pt hperm hD2 hpt=>?_⟩;obtain⟨tv,htv,rfl⟩:=dZ hperm _ rfl;have tvl:tv.length=ws.length:=by rw[htv.length_eq,n_]
 have tvn:tv.Nodup:=htv.nodup_iff.mpr List.nodup_range;have tvm:∀x∈tv,x<ws.length:=fun x hx=>I_.mp (htv.mem_iff.mp hx);have w4:=(w3.drw hD2).tl.new (o:=.lst (tv.map fun (k:Nat)=>T.int (k:Int))) hpt;generalize up3 H8 pt (.lst (tv.map fun (k:Nat)=>T.int (k:Int)))=H9 at w4;clear w3 hD2 hpt gq1 hperm htv;walk_at "n";refine aA fun R3 hR3=>?_;walk_at "";refine⟨by omega,fun po hpo=>?_⟩;have po0:=w4.fresh hpo;have nto:pt≠po:=aX w4.hd hpo;have nno:pn≠po:=aX w4.tl.hd hpo;have w5:=w4.new (o:=.lst []) hpo;generalize up3 H9 po (.lst [])=H10 at w5;clear w4 hpo;walk_at "n";refine aA fun R4 hR4=>?_;walk_at "";refine⟨d,6,rfl,by decide,w5.cl,fun n1 H11 b0 b1 hD3=>?_⟩;have w6:=w5.drw hD3;clear w5 hD3;have lo0:3<=3+n1:=by omega
 have lo1:3+n1<=8:=by omega
 walk_at "";generalize 3+n1=lots at lo0 lo1;walk_at "n";refine aA fun R5 hR5=>?_;walk_at "";refine⟨by first | trivial | omega,by omega,by omega,?_⟩;rw[gO];refine aV (fun (i:Nat)=>T.int (i:Int)) (List.range ws.length) (fun A Z H=>∃(os:List (Nat × Nat)) (v8 v9:Option T),Z=[some (.ref d),some (.int most),some (.int st),some (.ref pn),some (.int (ws.length:Int)),some (.ref pt),some (.ref po),some (.int lots),v8,v9,none,none,none,none,none,none,none]/\Wt d H3 H [(po,.lst (os.map (oT tv))),(pt,.lst (tv.map fun (k:Nat)=>T.int (k:Int))),(pn,.lst (ws.map T.str))]/\os.Sublist (tri ws.length A)) ⟨[],_,_,rfl,w6,W7 _⟩ ?_ ?_;rotate_left
 ·rintro A i B Z H N e ⟨os,v8,v9,rfl,w,hsub⟩ hN;refine⟨trivial,?_⟩;have hi:i<ws.length:=I_.mp (by rw[e];simp);have hM:=Box.mk hN;have hAl:(tri ws.length A).length<=64:=by
   have h1:=oH e;have h2:A.length<=8:=by have:=Q_ List.length e;simp only[b_,j_,n_] at this;omega
   have h3:∀(A:List Nat),(tri ws.length A).length<=8*A.length:=fun A=>by
    induction A with
    |nil=>exact m_ _
    |cons x r ih =>
     have e3:tri ws.length (x::r)=(List.range' (x+1) (ws.length - (x+1))).map (fun j=>(x,j))++tri ws.length r:=rfl
     rw[e3,b_,d_,List.length_range',j_]
     omega
   have:=h3 A;omega
  clear hN e w6 k' hR5;walk_at "";refine⟨by first | trivial | omega,⟨by omega,by omega,by omega,by omega⟩,?_⟩;rw[SM];refine aV (fun (j:Nat)=>T.int (j:Int)) (List.range' (i+1) (ws.length - (i+1))) (fun A2 Z H=>∃(os:List (Nat × Nat)) (v9:Option T),Z=[some (.ref d),some (.int most),some (.int st),some (.ref pn),some (.int (ws.length:Int)),some (.ref pt),some (.ref po),some (.int lots),some (.int (i:Int)),v9,none,none,none,none,none,none,none]/\Wt d H3 H [(po,.lst (os.map (oT tv))),(pt,.lst (tv.map fun (k:Nat)=>T.int (k:Int))),(pn,.lst (ws.map T.str))]/\os.Sublist (tri ws.length A++A2.map fun j=>(i,j))) ⟨os,_,rfl,w,by rw[VJ,S_];exact hsub⟩ ?_ ?_
  ·rintro Z H ⟨os,v9,rfl,w,hsub⟩;exact⟨trivial,hM.out _ _ ⟨os,_,_,rfl,w,by rw[CK];exact hsub⟩⟩
  rintro A2 j B2 Z H N2 e2 ⟨os,v9,rfl,w,hsub⟩ hN2;refine⟨trivial,?_⟩;have hj:=List.mem_range'_1.mp (show j∈List.range' (i+1) (ws.length - (i+1)) by rw[e2];simp);have hN':=Box.mk hN2;have hs1:=uD (y:=(i,j)) hsub;have hs2:=uE (y:=(i,j)) hsub;rw[Vq,show [(i,j)]=[j].map fun j=>(i,j) from rfl,<- u_] at hs1 hs2;have hA2:A2.length<8:=by have:=Q_ List.length e2;simp only[b_,j_,List.length_range'] at this;omega
  have hol:os.length<=100:=by have h1:=hsub.length_le;have h2:=(wG ⟨ws.length,by omega⟩);have h3:(tri ws.length A).length<=64:=hAl;rw[b_,d_] at h1;omega
  clear hN2 e2 hM hsub;walk_at "";refine⟨d,lots,rfl,by omega,w.cl,fun n H12 c0 c1 hD=>?_⟩;have w7:=w.drw hD;have go':=w7.hd;have gt':=w7.tl.hd;have x1:=JL (show i<tv.length by omega);have x2:=JL (show j<tv.length by omega);clear w hD;have tvl':=Box.mk tvl;clear tvl;walk_at "";split
  ·have em:os.map (oT tv)++[T.tup [T.int ((tv.getD i 0:Nat):Int),T.int ((tv.getD j 0:Nat):Int)]]=(os++[(i,j)]).map (oT tv):=by rw[u_];rfl
   rw[em];refine⟨⟨trivial,trivial⟩,by decide,by omega,hN'.out _ _ ⟨os++[(i,j)],_,rfl,w7.set po0 (fun q hq=>?_) _,hs1⟩⟩;rcases p_.mp hq with rfl | hq
   ·exact nto
   rw[i_.mp hq];exact nno
  exact hN'.out _ _ ⟨os,_,rfl,w7,hs2⟩
 rintro Z H ⟨os,v8,v9,rfl,w,hsub⟩;refine⟨trivial,?_⟩;clear w6;walk_at "n";refine aA fun R6 hR6=>?_;have ol28:os.length<=28:=U8 hsub.length_le (wG ⟨ws.length,by omega⟩);have ond:os.Nodup:=(Ob ⟨ws.length,by omega⟩).sublist hsub;have oin:∀x∈os,x.1<x.2/\x.2<ws.length:=fun x hx=>Hn (fun i hi=>I_.mp hi) (hsub.subset hx);have go':=w.hd;walk_at "";refine⟨d,po,_,rfl,(w.at' _ t_).2,go',JM tv os,by rw[d_];omega,w.cl,fun ys H12 q2 hperm hD4 hq2=>?_⟩;obtain⟨os',hos,rfl⟩:=dZ hperm _ rfl;have ol':os'.length<=28:=by rw[hos.length_eq];exact ol28
 have ond':os'.Nodup:=hos.nodup_iff.mpr ond;have oin':∀x∈os',x.1<x.2/\x.2<ws.length:=fun x hx=>oin x (hos.mem_iff.mp hx);have w7:=(w.drw hD4).tl.tl.new (o:=.lst (os'.map (oT tv))) hq2;generalize up3 H12 q2 (.lst (os'.map (oT tv)))=H13 at w7;clear w hD4 hq2 go' hperm hos hsub ol28 ond oin;walk_at "n";refine aA fun R7 hR7=>?_;walk_at "";refine⟨d,24,rfl,by decide,w7.cl,fun n2 H14 c0 c1 hD5=>?_⟩;have w8:=w7.drw hD5;clear w7 hD5;try dsimp only
 walk_at "";refine⟨d,pn,q2,ws,_,8+n2,rfl,by omega,by omega,(w8.at' (pn,.lst (ws.map T.str)) (by simp)).2,(w8.at' _ t_).2,w8.tl.hd,hws,ws8,w8.hd,JM tv os',by rw[d_];exact ol',w8.cl,fun prs pb as H15 p12 pnd pok hcl hkp tq=>?_⟩;have w9:=w8.kep hcl hkp;clear w8 hkp hcl;try dsimp only
 walk_at "";refine⟨trivial,?_⟩;walk_at "n";refine aA fun R8 hR8=>?_;walk_at "";refine⟨d,5,rfl,by decide,w9.cl,fun n3 H16 d0 d1 hD6=>?_⟩;have w10:=w9.drw hD6;have tq1:=tq.drw hD6;clear w9 tq hD6;walk_at "";refine⟨d,(1+n3).toNat,by rw[Xc (by omega)],by omega,by omega,w10.cl,fun ks0 H17 pk hkl hks hD7 hpk=>?_⟩;have w11:=(w10.drw hD7).new (o:=.lst (ks0.map T.str)) hpk;have tq2:=(tq1.drw hD7).new (o:=.lst (ks0.map T.str)) hpk;generalize up3 H17 pk (.lst (ks0.map T.str))=H18 at w11 tq2;have ks1:1<=ks0.length:=by omega
 have ks8:ks0.length<=8:=by omega
 clear w10 tq1 hD7 hpk hkl;walk_at "n";refine aA fun R9 hR9=>?_;walk_at "";refine⟨d,st,rfl,by omega,w11.cl,fun n4 H19 e0 e1 hD8=>?_⟩;have w12:=w11.drw hD8;have tq3:=tq2.drw hD8;clear w11 tq2 hD8;walk_at "";refine⟨by first | trivial | omega,by omega,by omega,?_⟩;have hrl:(cZ 0 (1+n4).toNat).length=(1+n4).toNat:=by unfold cZ;rw[d_,n_]
 generalize cZ 0 (1+n4).toNat=ts0 at hrl;walk_at "c";refine gH (fun r ys Z H=>∃(rw_:List Str) (v:Option T),Z=[v,some (.ref pk),some (.ref d)]/\ys=rw_.map T.str/\rw_.length+r.length=(1+n4).toNat/\(∀x∈rw_,x∈ks0)/\Wt d H3 H [(pk,.lst (ks0.map T.str)),(q2,.lst (os'.map (oT tv))),(pn,.lst (ws.map T.str))]/\Tq d H14 H pb ws.length as) ⟨[],_,rfl,rfl,by rw[hrl];exact Nat.zero_add _,(fun _ h=>nomatch h),w12,tq3⟩ ?_ ?_;rotate_left
 ·rintro x r ys Z H N ⟨rw_,v,rfl,rfl,hrw,hin,w,tq⟩ hN;refine⟨trivial,?_⟩;rw[j_] at hrw;have hN':=Box.mk hN;have hin':=Box.mk hin;have g:=w.hd;have ks1':(0:Int)<(ks0.length:Int):=by omega
  clear hN hin w12 tq3 k' hR9;walk_at "";refine⟨d,_,rfl,ks1',w.cl,fun n5 H20 f0 f1 hD9=>?_⟩;have w13:=w.drw hD9;have tq4:=tq.drw hD9;have g13:=w13.hd;clear w tq g hD9;obtain⟨z,hz,ez⟩:=vP ks0 n5 f0 f1;have ez':atI (ks0.map T.str) n5=some (T.str z):=by rw[pI,ez];rfl
  clear ez;walk_at "";refine⟨by first | omega | (rw[d_];omega),hN'.out _ _ _ ⟨rw_++[z],_,rfl,by rw[u_];rfl,by rw[b_,G_];omega,fun y hy=>?_,w13,tq4⟩⟩;rcases D_.mp hy with h | h
  ·exact hin'.out y h
  rw[i_.mp h];exact hz
 rintro ys Z H ⟨rw_,v,rfl,rfl,hrw,hin,w,tq⟩;rw[Wd,Nat.add_zero] at hrw;refine⟨trivial,by rw[d_];omega,fun pr hpr=>?_⟩;have w13:=w.new (o:=.lst (rw_.map T.str)) hpr;have tq4:=tq.new (o:=.lst (rw_.map T.str)) hpr;generalize up3 H pr (.lst (rw_.map T.str))=H20 at w13 tq4;clear w tq hpr w12 tq3 hrl;have rw1:1<=rw_.length:=by omega
 have rw8:rw_.length<=8:=by omega
 have rws:(rw_.length:Int)<=st:=by omega
 clear hrw;walk_at "n";refine aA fun R10 hR10=>?_;walk_at "";refine⟨d,pr,pk,pb,rw_,ks0,ws.length,H14,as,rfl,(w13.at' _ t_).2,(w13.at' (pk,.lst (ks0.map T.str)) (by simp)).2,w13.hd,rw1,rw8,fun x hx=>hks.nm x (hin x hx),w13.tl.hd,hks,ks8,tq4,ws8,w13.cl,fun kk H21 pso hkk hkb hD10 hpso=>?_⟩;have w14:=(w13.drw hD10).new (o:=.lst (kk.map sT)) hpso;generalize up3 H21 pso (.lst (kk.map sT))=H22 at w14;clear w13 tq4 hD10 hpso;walk_at "n";refine aA fun R11 hR11=>?_;walk_at "";refine⟨d,ws.length,rfl,ws8,w14.cl,fun ls H23 pl_ hll hlb hD11 hpl_=>?_⟩;have w15:=(w14.drw hD11).new (o:=.lst (ls.map T.int)) hpl_;generalize up3 H23 pl_ (.lst (ls.map T.int))=H24 at w15;clear w14 hD11 hpl_;walk_at "n";refine aA fun R12 hR12=>?_;walk_at "";refine⟨by first | trivial | omega,by omega,by omega,?_⟩;rw[gO];walk_at "c";refine cH (fun (k:Nat)=>T.int (k:Int)) (fun k=>tkT (tkD ws ls kk k)) (List.range ws.length) [some (.ref pn),some (.ref pl_),some (.ref pso)] trivial (by rw[n_];omega) (fun i hi Q' hq=>?_) (fun p hp=>?_)
 ·have hi':=I_.mp hi;have g1:=(w15.at' (pn,.lst (ws.map T.str)) (by simp)).1;have g2:=w15.hd;have g3:=w15.tl.hd;have x1:=getD_at hi';have x2:=Sx (show i<ls.length by omega);have x3:=Sy (show i<kk.length by omega);have hq':=Box.mk hq;clear k' hq hR12;try dsimp only at g1
  walk_at "";exact⟨by decide,hq'.out⟩
 rw[show (List.range ws.length).map (fun k=>tkT (tkD ws ls kk k))=((List.range ws.length).map (tkD ws ls kk)).map tkT by rw[Vg];rfl];have w16:=(w15.new (o:=.lst (((List.range ws.length).map (tkD ws ls kk)).map tkT)) hp).tl;generalize up3 H24 p (.lst (((List.range ws.length).map (tkD ws ls kk)).map tkT))=H25 at w16;clear w15 hp;walk_at "n";have gq:H25 q2=some (.lst (os'.map (oT tv))):=(w16.at' (q2,.lst (os'.map (oT tv))) (by simp)).1;have gn:H25 pn=some (.lst (ws.map T.str)):=(w16.at' (pn,.lst (ws.map T.str)) (by simp)).1;have gr:H25 pr=some (.lst (rw_.map T.str)):=w16.tl.tl.hd;walk_at "";walk_at "c";refine jJ (fun x:Nat × Nat=>.int ((tv.getD x.1 0:Nat):Int)) (fun x=>.int ((tv.getD x.2 0:Nat):Int)) (fun x=>orT (oD ws tv x)) os' [some (.ref pn)] (.inl gq) (by omega) (fun x hx Q' hq=>?_) (fun p hp=>?_)
 ·have ox:=oin' x hx;have y1:=getD_at (tvm _ (getD_mem (d:=0) (show x.1<tv.length by omega)));have y2:=getD_at (tvm _ (getD_mem (d:=0) (show x.2<tv.length by omega)));have hq':=Box.mk hq;clear k' hq gr gq;walk_at "";exact⟨by decide,hq'.out⟩
 rw[show os'.map (fun x=>orT (oD ws tv x))=(os'.map (oD ws tv)).map orT by rw[Vg];rfl];have w17:=w16.new (o:=.lst ((os'.map (oD ws tv)).map orT)) hp;have gr2:up3 H25 p (.lst ((os'.map (oD ws tv)).map orT)) pr=_ := upa gr hp;generalize up3 H25 p (.lst ((os'.map (oD ws tv)).map orT))=H26 at w17 gr2;clear w16 hp gq gn gr;walk_at "";refine⟨by decide,eU w17.cl w17.kp fun H'' hD=>?_⟩;exact k'.out ⟨(List.range ws.length).map (tkD ws ls kk),os'.map (oD ws tv),prs,rw_⟩ H'' (Sw hws ws1 ws8 hll hlb hkk hkb tvl tvn tvm ol' ond' oin' p12 pnd pok rw1 rw8 fun x hx=>hks.nm x (hin x hx)) (by show (((List.range ws.length).map (tkD ws ls kk)).length:Int)<=most;rw[d_,n_];exact wsm) rws hD
theorem Wt.sub {c:Addr}{H0 H H':Hp3}{fs:List (Addr × O3)}(w:Wt c H0 H fs) (s:Sub3 H H'):Wt c H0 H' fs:=w.kep (by obtain⟨ns,e,r⟩:=w.cl.ex;exact⟨ns,s _ _ e,r⟩) fun b o h _=>s b o h
theorem Lb.pl {W:Wk}{m:Nat}{t:T}(h:Lb W m t):pl 20 t=true:=by
 rcases h with ⟨rfl,_⟩ | ⟨b,rfl,_⟩ <;> rfl
theorem Lb.ne {W:Wk}{m:Nat}{t:T}{H:Hp3}{Q:VK3}(h:Lb W m t) (q:Q (.bl false) H):qQ true t t H Q:=by
 rcases h with ⟨rfl,_⟩ | ⟨b,rfl,_⟩
 ·exact q
 rw[vL,O_ rfl];exact q
theorem Ou {W W2:Wk}{ts us:List T}(hl:ts.length=us.length) (h:∀(i:Nat) (t:T),ts[i]?=some t->Lb W (i+1) t) (h2:∀(i:Nat) (t:T),us[i]?=some t->Lb W2 (i+1) t) (hc:∀m b,Can W2 m b↔Can W m b):us=ts:=by
 apply W5;intro i;by_cases c:i<ts.length
 ·have e1:=g_ c;have e2:=g_ (show i<us.length by omega);rw[e1,e2,(h i _ e1).uniq (rW (hc _) (h2 i _ e2))]
 rw[L_ (by omega),L_ (by omega)]
theorem Ov {W:Wk}{ts:List T}(h:∀(i:Nat) (t:T),ts[i]?=some t->Lb W (i+1) t):ts.all (pl 20)=true:=by
 rw[U_];intro t ht;obtain⟨i,e⟩:=XS ht;exact (h i t e).pl
def wU:Sp3:=fun ts H Q=>∃(a:Addr) (ns:List Int),ts=[.ref a]/\H a=some (.rol (ns.map T.int))/\ns.length<=63/\∀H',Q (.bl true) H'
abbrev Dw:List Str:=["_law_script","_law_deck","_law_works_here","_law_beats","_law_many","_law_times","_law_due","_law_fewer_here"]
theorem sc_law:FnScope Dw ["_law_script"] (au (top 51)):=bh
theorem Ow {f:Addr}{fd:FuncData}(g:G3 K mg "law" (top 51) ["_law_script"] f fd) (B:Bl mg) (F_numbers:Cal P w K mg base 1 "_law_numbers" (top 36) ["_law_script"] JH) (F_works:Cal P w K mg base 5 "_law_works" (top 47) ["_law_deck","_law_most","_law_stands"] SJ) (F_beats_of:Cal P w K mg base 9 "beats_of" (top 34) ["works"] Ti) (F_otherwise:Cal P w K mg base 3 "_law_otherwise" (top 48) ["_law_deck","_law_works_here"] Tp) (F_least_beat:Cal P w K mg base 8 "least_beat" (top 33) ["works","many"] Oj) (F_turned_about:Cal P w K mg base 1 "turned_about" (top 13) ["works"] Tj) (F_draw:Cal P w K mg base 1 "_law_draw" (top 37) ["_law_deck","_law_most"] jf) (F_longer:Cal P w K mg base 1 "_law_longer" (top 50) ["_law_works_here","_law_times"] JP) (F_fewer:Cal P w K mg base 2 "_law_fewer" (top 49) ["_law_deck","_law_works_here"] Tn):jG P w K mg base 10 f fd ["_law_script"] wU:=by
 refine fn3 g.fn sc_law (fun ts H Q h=>?_) (fun cdv A outer s H E ts H3 Q hr h=>?_)
 ·obtain⟨a,ns,rfl,_⟩:=h;rfl
 have hu30:=Room.u30 hr;obtain⟨a,ns,rfl,ha,h63,k⟩:=h;refine⟨_,(ak (aF (i:=1) sc_law.nd (aJ F_numbers hr rfl (aa (v3 0) aj)))
   (ak (aF (i:=2) sc_law.nd (aJ F_works hr rfl (aa (v3 1) (aa ao (aa ao aj)))))
   (ak (aF (i:=3) sc_law.nd (aJ F_beats_of hr rfl (aa (v3 2) aj)))
   (ak (bQ (aU (iU hu30) (aJ F_beats_of hr rfl (aa (aJ F_otherwise hr rfl (aa (v3 1) (aa (v3 2) aj))) aj)) (v3 3)) (aq (aM gB)) aY)
   (ak (bQ (aU (iU hu30) (aJ F_least_beat hr rfl (aa (aJ F_turned_about hr rfl (aa (v3 2) aj)) (aa (aW bW rfl B.len_ bZ (aa (aK ix3 (v3 2) ao) aj)) aj))) (aK ix3 (v3 3) (lE ao))) (aq (aM gB)) aY)
   (ak (aF (i:=4) sc_law.nd (aH aR ao (aJ F_draw hr rfl (aa (v3 1) (aa (aW bW rfl B.len_ bZ (aa (v3 3) aj)) aj)))))
   (ak (aF (i:=5) sc_law.nd (aH aR ao (aJ F_draw hr rfl (aa (v3 1) (aa ao aj)))))
   (ak (bQ (aU Ip (aH dY (v3 5) (aW (Gi rfl) rfl B.max_ Ak (aa (bz rfl (bB (n0:=(au (top 51)).names) (N:=Dw) (N':=["_law_name","_law_length","_law_kinds_here"]) (nt:=3) (cap:=[]) rfl rfl (by decide +kernel)) (c7 (aK ix3 (v3 2) ao)) (fun cl pins s H C0 fp=>⟨(cB (n:=3) rfl (aG (aB (i:=0) (show List.Nodup [("_law_name":Str),("_law_length":Str),("_law_kinds_here":Str)] by decide +kernel)) (aG (aB (i:=1) (show List.Nodup [("_law_name":Str),("_law_length":Str),("_law_kinds_here":Str)] by decide +kernel)) (aG (aB (i:=2) (show List.Nodup [("_law_name":Str),("_law_length":Str),("_law_kinds_here":Str)] by decide +kernel)) bM)))),bD,(v3 1)⟩)) aj))) (aH fW ao ao)) (aq (aF (i:=5) sc_law.nd ao)) aY)
   (ak (aF (i:=6) sc_law.nd gC)
   (ak (bQ (aU BJ (aK ix3 (v3 3) (aH gD (v3 4) ao)) gC) (aq (aF (i:=6) sc_law.nd (aH dY (aK ix3 (v3 3) (aH gD (v3 4) ao)) (v3 5)))) aY)
   (ak (bQ (aU (iU hu30) (aJ F_least_beat hr rfl (aa (aJ F_longer hr rfl (aa (v3 2) (aa (v3 5) aj))) (aa (v3 4) aj))) (v3 6)) (aq (aM gB)) aY)
   (ak (aF (i:=7) sc_law.nd (aJ F_least_beat hr rfl (aa (aJ F_fewer hr rfl (aa (v3 1) (aa (v3 2) aj))) (aa (v3 4) aj))))
   (aq (aM (zA (fV Bh (aK ix3 (v3 3) (aH gD (v3 4) ao)) gC) (kZ (zz (fV BJ (v3 7) gC) (kZ (fV zO (v3 7) (aK ix3 (v3 3) (aH gD (v3 4) ao))))))))))))))))))))),?_⟩
 rw[show aO Dw [T.ref a]=[some (T.ref a),none,none,none,none,none,none,none] from rfl];have hsz:sizeLine=16777216:=rfl;have k':=Box.mk k;clear k;refine aA fun R0 hR0=>?_;walk_at "";refine⟨a,ns,rfl,ha,h63,fun d H4 hsub hd hC=>?_⟩;have w0:Wt d H4 H4 []:=⟨hC,Kep.refl,(fun _ h=>nomatch h)⟩;clear hC hsub hd ha;walk_at "n";refine aA fun R1 hR1=>?_;walk_at "";refine⟨d,5,3,rfl,by decide,by decide,by decide,by decide,w0.cl,fun W H5 hW t5 r3 hD=>?_⟩;have w1:=w0.drw hD;clear w0 hD;have hW':=Box.mk hW;have t5':W.tasks.length<=5:=by omega
 have r1:1<=W.row.length:=hW.r1;have r8:W.row.length<=3:=by omega
 clear hW t5 r3;walk_at "n";refine aA fun R2 hR2=>?_;walk_at "";refine⟨W,rfl,hW'.out,t5',fun bs lbs hbs=>?_⟩;walk_at "n";refine aA fun R3 hR3=>?_;walk_at "";refine⟨d,W,rfl,hW'.out,w1.cl,fun f W2 H6 hO hD=>?_⟩;have w2:=w1.drw hD;clear w1 hD;have tl2:W2.tasks.length<=5:=by rw[hO.tk.length_eq,d_];exact t5'
 refine⟨W2,rfl,hO.ok hW'.out,tl2,fun us lus hus=>?_⟩;have e2:us=bs:=Ou (by rw[lbs,lus,hO.rw]) hbs hus fun m b=>hO.can hW'.out;subst e2;have plb:=Ov hbs;have hbs':=Box.mk hbs;clear hO tl2 lus hus hbs;try dsimp only
 rw[Iv];refine⟨plb,plb,?_⟩;rw[O_ rfl,fc];simp only[V4,y_,if_true,U7];walk_at "n";refine aA fun R4 hR4=>?_;walk_at "";refine⟨W,rfl,hW'.out,?_⟩;have hT:=hW'.out.turn;have tlt:W.turn.tasks.length<=5:=t5';have rlt:W.row.length<=W.turn.row.length:=by show _<=W.row.reverse.length;rw[Vn];exact m_ _
 refine⟨W.turn,W.row.length,rfl,hT,tlt,rlt,fun H7 t sb ht=>?_⟩;have w3:=w2.sub sb;clear w2 sb hT tlt rlt;obtain⟨j,ej⟩:∃j,j+1=us.length:=⟨us.length - 1,by omega⟩;have at1:atI (us.map id) (-1)=some t:=by
  have hj:j<us.length:=by omega
  have e3:=WX j us;rw[Ws hj,Xr (by omega)] at e3;have h1:=hbs'.out j _ (g_ hj);rw[show j+1=W.row.length by omega] at h1;rw[List.map_id,<- e3,qC,h1.uniq (rW (fun b=>yI) ht)]
 rw[List.map_id] at at1;have pt:=ht.pl;try dsimp only
 walk_at "";refine ht.ne ?_;try dsimp only
 rw[fc];simp only[y_,U7];clear at1 pt ht ej;walk_at "n";refine aA fun R5 hR5=>?_;walk_at "";refine⟨d,_,rfl,by omega,w3.cl,fun n H8 n0 n1 hD=>?_⟩;have w4:=w3.drw hD;clear w3 hD;obtain⟨j,rfl⟩:∃j:Nat,n=(j:Int):=⟨n.toNat,by omega⟩;try dsimp only
 try rw[lz]
 walk_at "n";refine aA fun R6 hR6=>?_;walk_at "";refine⟨d,9,rfl,by decide,w4.cl,fun tm H9 m0 m1 hD=>?_⟩;have w5:=w4.drw hD;clear w4 hD;try dsimp only
 try rw[lz]
 walk_at "n";refine aA fun R7 hR7=>?_;have hj:j<us.length:=by omega
 obtain⟨tb,etb⟩:∃t,us[j]?=some t:=⟨_,g_ hj⟩;have hb:=hbs'.out j tb etb;have at1:atI us (1+(j:Int) - 1)=some tb:=by rw[show 1+(j:Int) - 1=(j:Int) by omega];exact bC etb
 have key:∀(k:Int) H,Wt d H4 H []->1<=k->k<=9->(∀t∈W.tasks,t.2.1*k<10^60)->R7 { nx:=fun _ H'=>Fin3 Q .non H',rt:=Fin3 Q} [some (.ref a),some (.ref d),some W.enc,some (.tup us),some (.int (1+(j:Int))),some (.int k),none,none] H:=by
  intro k H w k1 k9 hk;clear w5;have hL:=hW'.out.lng k1 hk;have tlL:(W.lng k).tasks.length<=5:=by show (W.tasks.map _).length<=5;rw[d_];exact t5'
  have hk':=Box.mk hk;clear hk;walk_at "n";refine aA fun R8 hR8=>?_;walk_at "";walk_at "n";refine aA fun R9 hR9=>?_;have key2:∀t,Lb (W.lng k) (j+1) t->R9 { nx:=fun _ H'=>Fin3 Q .non H',rt:=Fin3 Q} [some (.ref a),some (.ref d),some W.enc,some (.tup us),some (.int (1+(j:Int))),some (.int k),some t,none] H:=by
   intro t ht;walk_at "n";refine aA fun R10 hR10=>?_;walk_at "";refine⟨W,k,rfl,hW'.out,k1,k9,W.lng k,j+1,by rw[show (1:Int)+(j:Int)=((j+1:Nat):Int) by push_cast;omega],hL,tlL,by show j+1<=W.row.length;omega,fun H10 u sb hu=>?_⟩;have e3:=hu.uniq ht;subst e3;have w6:=w.sub sb;try dsimp only
   refine hu.ne ?_;try dsimp only
   rw[fc];simp only[y_,U7];clear ht hu w sb hL tlL;walk_at "n";refine aA fun R11 hR11=>?_;walk_at "";refine⟨d,W,rfl,hW'.out,w6.cl,fun W3 H11 hF hD=>?_⟩;have tlF:W3.tasks.length<=5:=by rw[hF.tk];exact t5'
   refine⟨W3,j+1,by rw[show (1:Int)+(j:Int)=((j+1:Nat):Int) by push_cast;omega],hF.ok hW'.out,tlF,by rw[hF.rw];omega,fun H12 u sb hu=>?_⟩;have hf:=hF.lb hb hu;clear hF hu tlF hb w6;walk_at "n";rcases hf with rfl | ⟨b,c,rfl,rfl,hle⟩
   ·walk_at "";exact Fin3.of Sub3.refl (k'.out _)
   walk_at "";exact Fin3.of Sub3.refl (k'.out _)
  have key2':=Box.mk key2;clear key2 hR9;rcases hb with ⟨rfl,hn⟩ | ⟨b,rfl,hb1,hb2⟩
  ·have k3:=key2'.out .non (Do k1 (.inl ⟨rfl,hn⟩));have k4:=Box.mk k3;clear hn key2' k3;walk_at "";exact k4.out
  have k3:=Box.mk (key2'.out (.int (b*k)) (Do k1 (.inr ⟨b,rfl,hb1,hb2⟩)));have cm:CMul b k:=.inr ⟨by omega,by omega⟩;clear key2' hb1 hb2;walk_at "";exact⟨by first | trivial | exact cm,k3.out⟩
 have key':=Box.mk key;clear key hR7 hb;walk_at "";walk_at "c";refine cz tkT W.tasks (fun A ys Z H=>∃v0 v1 v2:Option T,Z=[v0,v1,v2]/\H=H9/\ys=(A.map fun t=>t.2.1).map T.int) ⟨_,_,_,rfl,rfl,rfl⟩ ?_ ?_;rotate_left
 ·rintro A ⟨x,ln,ks⟩ B ys Z H N e ⟨v0,v1,v2,rfl,rfl,rfl⟩ hN;refine⟨trivial,?_⟩;have hA:A.length<9:=by have:=Q_ List.length e;simp only[b_,j_] at this;omega
  have hN':Box (∀v0 v1 v2,N ((A.map fun t=>t.2.1).map T.int++[.int ln]) [v0,v1,v2] H):=⟨fun v0 v1 v2=>hN _ _ _ ⟨v0,v1,v2,rfl,rfl,by rw[u_,u_];rfl⟩⟩;clear hN e key' at1;rw[show tkT (x,ln,ks)=.tup [.str x,.int ln,sT ks] from rfl];walk_at "";exact⟨trivial,by omega,hN'.out _ _ _⟩
 rintro ys Z H ⟨v0,v1,v2,rfl,rfl,rfl⟩;refine⟨trivial,by rw[d_,d_];omega,fun p hp=>?_⟩;rw[ju,iY];have t1:=hW'.out.t1;refine⟨fun z=>by have z2:=Q_ List.length z;rw[d_,Wd] at z2;omega,fun M _ hM=>?_⟩;have w6:=(w5.new (o:=.lst ((W.tasks.map fun t=>t.2.1).map T.int)) hp).tl;have tp:(10:Int)^Int.toNat 60=10^60:=rfl;have hlo:∀t∈W.tasks,1<=t.2.1/\t.2.1<10^60:=fun t ht=>⟨(hW'.out.tk t ht).lo,(hW'.out.tk t ht).hi⟩;refine⟨.inl ⟨by omega,by omega⟩,⟨by decide,by decide,by decide⟩,?_⟩;rw[tp];by_cases c:(10:Int)^60<=(1+tm)*M
 ·rw[if_pos (O_ c)];exact key'.out 1 _ w6 (by decide) (by decide) fun t ht=>by rw[Int.mul_one];exact (hlo t ht).2
 rw[if_neg (Ge c)];refine key'.out (1+tm) _ w6 (by omega) (by omega) fun t ht=>?_;have h1:=hM t.2.1 (k_.mpr ⟨t,ht,rfl⟩);have h2:t.2.1*(1+tm)<=M*(1+tm):=Xl h1 (by omega);rw[Int.mul_comm M] at h2;omega
theorem rZ:FnScope ["works"] ["works"] (au (top 34)):=bh
theorem sr {f:Addr}{fd:FuncData}(g:G3 K mg "beats_of" (top 34) ["works"] f fd) (B:Bl mg) (F_least_beat:Cal P w K mg base 8 "least_beat" (top 33) ["works","many"] Oj):Cal P w K mg base 9 "beats_of" (top 34) ["works"] Ti:=by
 refine⟨f,fd,g,?_⟩;refine fn3 g.fn rZ (fun ts H Q h=>?_) (fun cdv A outer s H E ts H3 Q hr h=>?_)
 ·obtain⟨W,rfl,_⟩:=h;rfl
 obtain⟨W,rfl,hW,h5,kk⟩:=h;refine⟨_,(aq (aM (bc bY rfl B.tuple_ bK (aa (bz rfl (bB (n0:=(au (top 34)).names) (N:=["works"]) (N':=["many","works"]) (nt:=1) (cap:=[0]) rfl rfl (by decide +kernel)) (nP rfl B.range_ (aa ao (aa (aH aR (aW bW rfl B.len_ bZ (aa (aK ix3 (v3 0) ao) aj)) ao) aj))) (fun cl pins s H C0 fp=>⟨(aB (i:=0) (show List.Nodup [("many":Str),("works":Str)] by decide +kernel)),bD,(aJ F_least_beat hr rfl (aa (v3 1) (aa (v3 0) aj)))⟩)) aj)))),?_⟩;rw[show aO ["works"] [W.enc]=[some (W.enc)] from rfl];have hsz:sizeLine=16777216:=rfl;have k':=Box.mk kk;clear kk;have r8:W.row.length<=8:=hW.r8;walk_at "";refine⟨trivial,⟨by decide,by decide,by omega,by omega⟩,?_⟩;rw[show ((W.row.length:Int)+1 - 1).toNat=W.row.length by omega,show mL 1 [0] [some W.enc]=[none,some W.enc] from rfl];refine cz (fun (i:Nat)=>T.int (1+(i:Int))) (List.range W.row.length) (fun A ys Z H=>∃v:Option T,Z=[v,some W.enc]/\Sub3 H3 H/\ys.length=A.length/\∀(i:Nat) (t:T),ys[i]?=some t->Lb W (i+1) t) ⟨_,rfl,Sub3.refl,rfl,fun i t e=>by simp at e⟩ ?_ ?_
 ·rintro ys Z H' ⟨v,rfl,sb,hl,hb⟩;rw[n_] at hl;exact⟨trivial,by omega,fun p hp=>Fin3.of (sb.trans (Sub3.new hp)) (k'.out ys hl hb)⟩
 rintro A j B ys Z H' N e ⟨v,rfl,sb,hl,hb⟩ hN;refine⟨trivial,?_⟩;have hA:A.length<W.row.length:=by have:=Q_ List.length e;simp only[b_,j_,n_] at this;omega
 have hj:j=A.length:=by
  have h1:(List.range W.row.length)[A.length]?=some j:=by rw[e,R_ (m_ _)];simp
  rw[Vz hA] at h1;exact (U6 h1).symm
 subst hj;have hN':=Box.mk hN;clear hN e k';walk_at "";refine⟨W,A.length+1,by rw[show (1:Int)+(A.length:Int)=((A.length+1:Nat):Int) by push_cast;omega],hW,h5,by omega,fun H2 t s2 ht=>?_⟩;refine⟨by omega,hN'.out _ _ _ ⟨_,rfl,sb.trans s2,by simp [hl],fun i u eu=>?_⟩⟩;by_cases c:i<ys.length
 ·rw[Vj c] at eu;exact hb i u eu
 rw[R_ (by omega)] at eu;have h0:i - ys.length=0:=by
  cases z:i - ys.length with
  |zero=>rfl
  |succ n=>rw[z] at eu;simp at eu
 rw[h0] at eu;cases eu;rw[show i=A.length by omega];exact ht
abbrev fH:List Str:=["_law_works_here","_law_times"]
theorem yJ:FnScope fH fH (au (top 50)):=bh
theorem yK {f:Addr}{fd:FuncData}(g:G3 K mg "_law_longer" (top 50) fH f fd) (B:Bl mg):Cal P w K mg base 1 "_law_longer" (top 50) fH JP:=by
 refine⟨f,fd,g,?_⟩;refine fn3 g.fn yJ (fun ts H Q h=>?_) (fun cdv A outer s H E ts H3 Q hr h=>?_)
 ·obtain⟨W,k,rfl,_⟩:=h;rfl
 obtain⟨W,k,rfl,hW,k1,k9,kk⟩:=h;refine⟨_,(aq (aM (bf (aa (bc bY rfl B.tuple_ bK (aa (bz rfl (bB (n0:=(au (top 50)).names) (N:=fH) (N':=["_law_name","_law_length","_law_kinds_here","_law_times"]) (nt:=3) (cap:=[1]) rfl rfl (by decide +kernel)) (c7 (aK ix3 (v3 0) ao)) (fun cl pins s H C0 fp=>⟨(cB (n:=3) rfl (aG (aB (i:=0) (show List.Nodup [("_law_name":Str),("_law_length":Str),("_law_kinds_here":Str),("_law_times":Str)] by decide +kernel)) (aG (aB (i:=1) (show List.Nodup [("_law_name":Str),("_law_length":Str),("_law_kinds_here":Str),("_law_times":Str)] by decide +kernel)) (aG (aB (i:=2) (show List.Nodup [("_law_name":Str),("_law_length":Str),("_law_kinds_here":Str),("_law_times":Str)] by decide +kernel)) bM)))),bD,(bf (aa (v3 0) (aa (aH dY (v3 1) (v3 3)) (aa (v3 2) aj))))⟩)) aj)) (aa (aK ix3 (v3 0) ao) (aa (aK ix3 (v3 0) ao) (aa (aK ix3 (v3 0) ao) aj))))))),?_⟩;rw[show aO fH [W.enc,T.int k]=[some (W.enc),some (T.int k)] from rfl];have hsz:sizeLine=16777216:=rfl;have k':=Box.mk kk;clear kk;have t8:W.tasks.length<=8:=hW.t8;walk_at "";rw[show mL 3 [1] [some W.enc,some (T.int k)]=[none,none,none,some (.int k)] from rfl];refine cz tkT W.tasks (fun A ys Z H=>∃v0 v1 v2:Option T,Z=[v0,v1,v2,some (.int k)]/\H=H3/\ys=(A.map fun t=>(t.1,t.2.1*k,t.2.2)).map tkT) ⟨_,_,_,rfl,rfl,rfl⟩ ?_ ?_
 ·rintro ys Z H' ⟨v0,v1,v2,rfl,rfl,rfl⟩;refine⟨trivial,by rw[d_,d_];omega,fun p hp=>⟨by decide,Fin3.of (Sub3.new hp) k'.out⟩⟩
 rintro A ⟨x,ln,ks⟩ B ys Z H' N e ⟨v0,v1,v2,rfl,rfl,rfl⟩ hN;refine⟨trivial,?_⟩;have cm:CMul ln k:=.inr ⟨by omega,by omega⟩;have hN':Box (∀v0 v1 v2,N ((A.map fun t=>(t.1,t.2.1*k,t.2.2)).map tkT++[.tup [.str x,.int (ln*k),sT ks]]) [v0,v1,v2,some (.int k)] H'):=⟨fun v0 v1 v2=>hN _ _ _ ⟨v0,v1,v2,rfl,rfl,by rw[u_,u_];rfl⟩⟩;have e':=e;clear hN e k';rw[show tkT (x,ln,ks)=.tup [.str x,.int ln,sT ks] from rfl];walk_at "";have hA:A.length<9:=by have:=Q_ List.length e';simp only[b_,j_] at this;omega
 exact⟨trivial,by first | trivial | exact cm,by decide,by omega,hN'.out _ _ _⟩
abbrev d8:List Str:=["works","orders","row"]
theorem sc_turned_about:FnScope d8 ["works"] (au (top 13)):=bh
theorem jU {f:Addr}{fd:FuncData}(g:G3 K mg "turned_about" (top 13) ["works"] f fd) (B:Bl mg):Cal P w K mg base 1 "turned_about" (top 13) ["works"] Tj:=by
 refine⟨f,fd,g,?_⟩;refine fn3 g.fn sc_turned_about (fun ts H Q h=>?_) (fun cdv A outer s H E ts H3 Q hr h=>?_)
 ·obtain⟨W,rfl,_⟩:=h;rfl
 obtain⟨W,rfl,hW,kk⟩:=h;refine⟨_,(ak (aF (i:=1) sc_turned_about.nd (bc bY rfl B.tuple_ bK (aa (bz rfl (bB (n0:=(au (top 13)).names) (N:=d8) (N':=["one","other"]) (nt:=2) (cap:=[]) rfl rfl (by decide +kernel)) (c7 (aK ix3 (v3 0) ao)) (fun cl pins s H C0 fp=>⟨(cB (n:=2) rfl (aG (aB (i:=0) (show List.Nodup [("one":Str),("other":Str)] by decide +kernel)) (aG (aB (i:=1) (show List.Nodup [("one":Str),("other":Str)] by decide +kernel)) bM))),bD,(bf (aa (v3 1) (aa (v3 0) aj)))⟩)) aj)))
   (ak (aF (i:=2) sc_turned_about.nd (xZ rfl rfl B.tuple_ rfl B.reversed_ (aK ix3 (v3 0) ao)))
   (aq (aM (bf (aa (aK ix3 (v3 0) ao) (aa (v3 1) (aa (aK ix3 (v3 0) ao) (aa (v3 2) aj))))))))),?_⟩
 rw[show aO d8 [W.enc]=[some (W.enc),none,none] from rfl];have hsz:sizeLine=16777216:=rfl;have k':=Box.mk kk;clear kk;have o28:=hW.os;refine aA fun R0 hR0=>?_;walk_at "";walk_at "c";refine jJ (fun o:Str × Str=>T.str o.1) (fun o=>T.str o.2) (fun o=>orT (o.2,o.1)) W.orders [] trivial (by omega) (fun a ha Q' hq=>?_) (fun p hp=>?_)
 ·have hq':=Box.mk hq;clear hq k';walk_at "";exact⟨by decide,hq'.out⟩
 walk_at "n";walk_at "";refine⟨by decide,Fin3.of (Sub3.new hp) ?_⟩;have k2:=k'.out;unfold Wk.turn Wk.enc at k2;simp only[Vg,Xm,Function.comp_def,sT] at k2 ⊢;exact k2
abbrev wV:List Str:=["_law_deck","_law_works_here","_law_tasks","_law_orders","_law_pairs_here","_law_row","_law_at"]
theorem sc_fewer:FnScope wV ["_law_deck","_law_works_here"] (au (top 49)):=bh
theorem Dy {f:Addr}{fd:FuncData}(g:G3 K mg "_law_fewer" (top 49) ["_law_deck","_law_works_here"] f fd) (B:Bl mg) (F_draw:Cal P w K mg base 1 "_law_draw" (top 37) ["_law_deck","_law_most"] jf):Cal P w K mg base 2 "_law_fewer" (top 49) ["_law_deck","_law_works_here"] Tn:=by
 refine⟨f,fd,g,?_⟩;refine fn3 g.fn sc_fewer (fun ts H Q h=>?_) (fun cdv A outer s H E ts H3 Q hr h=>?_)
 ·obtain⟨d,W,rfl,_⟩:=h;rfl
 have hu30:=Room.u30 hr;obtain⟨d,W,rfl,hW,hC,kk⟩:=h;refine⟨_,(ak (o9 (v3 1) (cB (n:=4) rfl (aG (aB (i:=2) sc_fewer.nd) (aG (aB (i:=3) sc_fewer.nd) (aG (aB (i:=4) sc_fewer.nd) (aG (aB (i:=5) sc_fewer.nd) bM))))))
   (ak (bQ (PW3.pt (cU (aU (iU hu30) (v3 3) (bf aj)) (cT (PW3.pt (vh (aU (cY hu30) (v3 4) (bf aj)) (o8 (aU (cY hu30) (aJ F_draw hr rfl (aa (v3 0) (aa ao aj))) ao))))))) (ak (aF (i:=6) sc_fewer.nd (aJ F_draw hr rfl (aa (v3 0) (aa (aW bW rfl B.len_ bZ (aa (v3 3) aj)) aj))))
    (aq (aM (bf (aa (v3 2) (aa (aH aR (gZ (v3 3) dC (cG (v3 6))) (gZ (v3 3) (cG (aH aR (v3 6) ao)) dC)) (aa (v3 4) (aa (v3 5) aj)))))))) aY)
   (ak (aF (i:=6) sc_fewer.nd (aJ F_draw hr rfl (aa (v3 0) (aa (aW (Gd rfl) rfl B.max_ Ak (aa ao (aa (aW bW rfl B.len_ bZ (aa (v3 4) aj)) aj))) aj))))
   (aq (aM (bf (aa (v3 2) (aa (v3 3) (aa (aH aR (gZ (v3 4) dC (cG (v3 6))) (gZ (v3 4) (cG (aH aR (v3 6) ao)) dC)) (aa (v3 5) aj)))))))))),?_⟩
 rw[show aO wV [T.ref d,W.enc]=[some (T.ref d),some (W.enc),none,none,none,none,none] from rfl];have hsz:sizeLine=16777216:=rfl;have k':=Box.mk kk;clear kk;have w0:Wt d H3 H3 []:=⟨hC,Kep.refl,(fun _ h=>nomatch h)⟩;clear hC;refine aA fun R0 hR0=>?_;walk_at "";refine⟨trivial,?_⟩;walk_at "n";refine aA fun R1 hR1=>?_;have o28:=hW.os;have p12:=hW.ps;have pl1:((W.orders.map orT).all (pl 20))=true:=Cg W.orders;have pl2:((W.pairs.map prT).all (pl 20))=true:=Ci W.pairs;have pl0:([]:List T).all (pl 20)=true:=rfl;have kA:Box (∀H',Wt d H3 H' []->∀(z:Int),0<z->z<=max 1 (W.orders.length:Int)->jf [.ref d,.int z] H' fun x H1=>pq x fun o=>lu x (.int 1) H1 fun x H1=>pq x fun o1=>(cI (W.orders.map orT) none o).length+(cI (W.orders.map orT) o1 none).length<=16777216/\1+1+1+1<=16777216/\Fin3 Q (.tup [.tup (W.tasks.map tkT),.tup (cI (W.orders.map orT) none o++cI (W.orders.map orT) o1 none),.tup (W.pairs.map prT),.tup (W.row.map T.str)]) H1):=⟨fun H' w z z0 z1=>by
  refine⟨d,z,rfl,z0,w.cl,fun n H1 n0 n1 hD=>?_⟩
  have w1:=w.drw hD
  obtain⟨j,rfl⟩:∃j:Nat,n=(j:Int):=⟨n.toNat,by omega⟩
  try simp only[Ls,lz]
  rw[show (j:Int)+1=((j+1:Nat):Int) by push_cast;rfl,tX,lB]
  refine⟨by rw[Vv,V6,d_];omega,by decide,?_⟩
  rw[<- Xb,<- uJ]
  exact eU w1.cl w1.kp fun H2 hD=>k'.out ⟨W.tasks,W.orders.eraseIdx j,W.pairs,W.row⟩ H2 ⟨rfl,List.eraseIdx_sublist ..,W7 _,rfl⟩ hD⟩
 have kB:Box (∀H',Wt d H3 H' []->∀(z:Int),0<z->z<=max 1 (W.pairs.length:Int)->jf [.ref d,.int z] H' fun x H1=>pq x fun o=>lu x (.int 1) H1 fun x H1=>pq x fun o1=>(cI (W.pairs.map prT) none o).length+(cI (W.pairs.map prT) o1 none).length<=16777216/\1+1+1+1<=16777216/\Fin3 Q (.tup [.tup (W.tasks.map tkT),.tup (W.orders.map orT),.tup (cI (W.pairs.map prT) none o++cI (W.pairs.map prT) o1 none),.tup (W.row.map T.str)]) H1):=⟨fun H' w z z0 z1=>by
  refine⟨d,z,rfl,z0,w.cl,fun n H1 n0 n1 hD=>?_⟩
  have w1:=w.drw hD
  obtain⟨j,rfl⟩:∃j:Nat,n=(j:Int):=⟨n.toNat,by omega⟩
  try simp only[Ls,lz]
  rw[show (j:Int)+1=((j+1:Nat):Int) by push_cast;rfl,tX,lB]
  refine⟨by rw[Vv,V6,d_];omega,by decide,?_⟩
  rw[<- Xb,<- uJ]
  exact eU w1.cl w1.kp fun H2 hD=>k'.out ⟨W.tasks,W.orders,W.pairs.eraseIdx j,W.row⟩ H2 ⟨rfl,W7 _,List.eraseIdx_sublist ..,rfl⟩ hD⟩
 clear k';have hlast:Box (∀H',Wt d H3 H' []->R1 { nx:=fun _ H'=>Fin3 Q .non H',rt:=Fin3 Q} [some (.ref d),some W.enc,some (.tup (W.tasks.map tkT)),some (.tup (W.orders.map orT)),some (.tup (W.pairs.map prT)),some (.tup (W.row.map T.str)),none] H'):=⟨fun H' w=>by
  walk_at "n"
  walk_at ""
  exact kB.out H' w _ (by split <;> omega) (by split <;> omega)⟩
 clear hR1 kB;walk_at "";by_cases c:W.orders=[]
 ·rw[if_neg (by simp [c])];exact⟨by decide,trivial,trivial,hlast.out _ w0⟩
 have c1:0<W.orders.length:=List.length_pos_iff.mpr c;rw[if_pos (by simp [c])];refine⟨by decide,trivial,trivial,by decide,trivial,trivial,?_⟩;by_cases c2:W.pairs=[]
 ·rw[if_pos (by simp [c2])];exact kA.out _ w0 _ (by omega) (by omega)
 rw[if_neg (by simp [c2])];refine⟨d,2,rfl,by decide,w0.cl,fun n H4 n0 n1 hD=>?_⟩;have w1:=w0.drw hD;try dsimp only
 rw[vL,fc];by_cases c3:n=0
 ·rw[if_pos (by simp [c3])];exact kA.out _ w1 _ (by omega) (by omega)
 rw[if_neg (by simp [c3])];exact hlast.out _ w1
abbrev eX:List Str:=["_law_deck","_law_works_here","_law_tasks","_law_orders","_law_pairs_here","_law_row","_law_others","_law_names_here","_law_k","_law_some","_law_more","_law_both","_law_word","_law_one","_law_other"]
theorem sc_otherwise:FnScope eX ["_law_deck","_law_works_here"] (au (top 48)):=bh
theorem ql {f:Addr}{fd:FuncData}(g:G3 K mg "_law_otherwise" (top 48) ["_law_deck","_law_works_here"] f fd) (B:Bl mg) (F_names:Cal P w K mg base 2 "_law_names" (top 40) ["_law_deck","_law_many"] N7) (F_turn:Cal P w K mg base 2 "_law_turn" (top 41) ["_law_deck","_law_things"] Ot) (F_draw:Cal P w K mg base 1 "_law_draw" (top 37) ["_law_deck","_law_most"] jf):Cal P w K mg base 3 "_law_otherwise" (top 48) ["_law_deck","_law_works_here"] Tp:=by
 refine⟨f,fd,g,?_⟩;refine fn3 g.fn sc_otherwise (fun ts H Q h=>?_) (fun cdv A outer s H E ts H3 Q hr h=>?_)
 ·obtain⟨d,W,rfl,_⟩:=h;rfl
 have hu30:=Room.u30 hr;have hu31:=Room.u31 hr;have hu1:=Room.u1 hr;obtain⟨d,W,rfl,hW,hC,kk⟩:=h;refine⟨_,(ak (o9 (v3 1) (cB (n:=4) rfl (aG (aB (i:=2) sc_otherwise.nd) (aG (aB (i:=3) sc_otherwise.nd) (aG (aB (i:=4) sc_otherwise.nd) (aG (aB (i:=5) sc_otherwise.nd) bM))))))
   (ak (aF (i:=6) sc_otherwise.nd (aJ F_names hr rfl (aa (v3 0) (aa (aW bW rfl B.len_ bZ (aa (v3 2) aj)) aj))))
   (ak (aF (i:=7) sc_otherwise.nd FQ)
   (ak (bx H_ rfl (aQ rfl B.range_ (aa (aW bW rfl B.len_ bZ (aa (v3 2) aj)) aj)) (aB (i:=8) sc_otherwise.nd) (aq (vH hu1 (v3 7) (aK ix3 (aK ix3 (v3 2) (v3 8)) ao) (aK ix3 (v3 6) (v3 8)))))
   (ak (jY (i:=9) rfl sc_otherwise.nd (bB (n0:=(au (top 48)).names) (N:=eX) (N':=["_law_name","_law_length","_law_kinds_here","_law_names_here"]) (nt:=3) (cap:=[7]) rfl rfl (by decide +kernel)) (cj (aJ F_turn hr rfl (aa (v3 0) (aa (v3 2) aj)))) (fun cl pins s H C0 fp=>⟨(cB (n:=3) rfl (aG (aB (i:=0) (show List.Nodup [("_law_name":Str),("_law_length":Str),("_law_kinds_here":Str),("_law_names_here":Str)] by decide +kernel)) (aG (aB (i:=1) (show List.Nodup [("_law_name":Str),("_law_length":Str),("_law_kinds_here":Str),("_law_names_here":Str)] by decide +kernel)) (aG (aB (i:=2) (show List.Nodup [("_law_name":Str),("_law_length":Str),("_law_kinds_here":Str),("_law_names_here":Str)] by decide +kernel)) bM)))),bD,(bf (aa (fX hu1 (v3 3) (v3 0)) (aa (v3 1) (aa (Gn (v3 2) (cG (lE ao))) aj))))⟩))
   (ak (jY (i:=10) rfl sc_otherwise.nd (bB (n0:=(au (top 48)).names) (N:=eX) (N':=["_law_one","_law_other","_law_names_here"]) (nt:=2) (cap:=[7]) rfl rfl (by decide +kernel)) (cj (aJ F_turn hr rfl (aa (v3 0) (aa (v3 3) aj)))) (fun cl pins s H C0 fp=>⟨(cB (n:=2) rfl (aG (aB (i:=0) (show List.Nodup [("_law_one":Str),("_law_other":Str),("_law_names_here":Str)] by decide +kernel)) (aG (aB (i:=1) (show List.Nodup [("_law_one":Str),("_law_other":Str),("_law_names_here":Str)] by decide +kernel)) bM))),bD,(bf (aa (fX hu1 (v3 2) (v3 0)) (aa (fX hu1 (v3 2) (v3 1)) aj)))⟩))
   (ak (aF (i:=11) sc_otherwise.nd (bV aj))
   (ak (bx H_ rfl (cj (aJ F_turn hr rfl (aa (v3 0) (aa (v3 4) aj)))) (cB (n:=3) rfl (aG (aB (i:=12) sc_otherwise.nd) (aG (aB (i:=13) sc_otherwise.nd) (aG (aB (i:=14) sc_otherwise.nd) bM)))) (aq (bQ (PW3.pt (cU (aU (qR hu31) (bf (aa (v3 12) (aa (v3 14) (aa (v3 13) aj)))) (v3 4) rfl) (cT (aU (cY hu30) (aJ F_draw hr rfl (aa (v3 0) (aa ao aj))) ao)))) (aq (bI (cN J_ M_ N_ bu (v3 11) (aa (bf (aa (v3 12) (aa (fX hu1 (v3 7) (v3 14)) (aa (fX hu1 (v3 7) (v3 13)) aj)))) aj)))) (aq (bI (cN J_ M_ N_ bu (v3 11) (aa (bf (aa (v3 12) (aa (fX hu1 (v3 7) (v3 13)) (aa (fX hu1 (v3 7) (v3 14)) aj)))) aj)))))))
   (aq (aM (bf (aa (bc bY rfl B.tuple_ bK (aa (v3 9) aj)) (aa (bc bY rfl B.tuple_ bK (aa (v3 10) aj)) (aa (bc bY rfl B.tuple_ bK (aa (v3 11) aj)) (aa (v3 5) aj))))))))))))))),?_⟩
 rw[show aO eX [T.ref d,W.enc]=[some (T.ref d),some (W.enc),none,none,none,none,none,none,none,none,none,none,none,none,none] from rfl];have hsz:sizeLine=16777216:=rfl;have k':=Box.mk kk;clear kk;have w0:Wt d H3 H3 []:=⟨hC,Kep.refl,(fun _ h=>nomatch h)⟩;clear hC;have t8:=hW.t8;have t1:=hW.t1;refine aA fun R0 hR0=>?_;walk_at "";refine⟨trivial,?_⟩;walk_at "n";refine aA fun R1 hR1=>?_;walk_at "";refine⟨d,W.tasks.length,rfl,t1,t8,w0.cl,fun ws H4 po hws nws hD hpo=>?_⟩;have po0:=w0.kp;have w1:=(w0.drw hD).new (o:=.lst (ws.map T.str)) hpo;generalize up3 H4 po (.lst (ws.map T.str))=H5 at w1 ⊢;clear w0 hD hpo;walk_at "n";refine aA fun R2 hR2=>?_;walk_at "";intro pd hpd;have nop:po≠pd:=aX w1.hd hpd;have w2:=w1.new (o:=.dct (dS ((nm W).take 0) (oF (nm W) ws))) hpd;have f0:=w1.fresh hpd;rw[show (.dct []:O3)=.dct (dS ((nm W).take 0) (oF (nm W) ws)) from rfl];generalize up3 H5 pd (.dct (dS ((nm W).take 0) (oF (nm W) ws)))=H6 at w2 ⊢;clear w1 hpd;have hln:ws.length=(nm W).length:=by rw[hws];unfold nm;rw[d_]
 have nl:(nm W).length=W.tasks.length:=by unfold nm;rw[d_]
 have nd:(nm W).Nodup:=hW.nd;walk_at "n";refine aA fun R3 hR3=>?_;walk_at "";refine⟨trivial,by omega,by omega,?_⟩;rw[gO];refine aV (fun (k:Nat)=>T.int (k:Int)) (List.range W.tasks.length) (fun A Z H=>∃(v8 v9 v10 v11 v12 v13 v14:Option T),Z=[some (.ref d),some W.enc,some (.tup (W.tasks.map tkT)),some (.tup (W.orders.map orT)),some (.tup (W.pairs.map prT)),some (.tup (W.row.map T.str)),some (.ref po),some (.ref pd),v8,v9,v10,v11,v12,v13,v14]/\Wt d H3 H [(pd,.dct (dS ((nm W).take A.length) (oF (nm W) ws))),(po,.lst (ws.map T.str))]) ⟨_,_,_,_,_,_,_,rfl,w2⟩ ?_ ?_;rotate_left
 ·rintro A k B Z H N e ⟨v8,v9,v10,v11,v12,v13,v14,rfl,w⟩ hN;refine⟨trivial,?_⟩;have hA:A.length<W.tasks.length:=by have:=Q_ List.length e;simp only[b_,j_,n_] at this;omega
  have hj:k=A.length:=by
   have h1:(List.range W.tasks.length)[A.length]?=some k:=by rw[e,R_ (m_ _)];simp
   rw[Vz hA] at h1;exact (U6 h1).symm
  subst hj;obtain⟨⟨x,ln,ks⟩,ht⟩:∃t,W.tasks[A.length]?=some t:=⟨_,g_ hA⟩;have a1:atI (W.tasks.map tkT) (A.length:Int)=some (.tup [.str x,.int ln,sT ks]):=bC (by rw[z_,ht];rfl);have hAn:A.length<(nm W).length:=by omega
  have ex:(nm W)[A.length]=x:=by
   have:(nm W)[A.length]?=some x:=by unfold nm;rw[z_,ht];rfl
   rw[g_ hAn] at this;exact U6 this
  have a2:atI (ws.map T.str) (A.length:Int)=some (.str (oF (nm W) ws x)):=bC (by rw[z_,wQ nd hln hAn,ex];rfl);have hx:x∉(nm W).take A.length:=fun z=>by obtain⟨i,hi,e2⟩:=V_ z;rw[Vv] at hi;rw[List.getElem_take,<- ex] at e2;have:=(List.getElem_inj nd).mp e2;omega
  have pn:=Oo (f:=oF (nm W) ws) hx;rw[<- ex,List.take_append_getElem hAn,ex] at pn;have gp:=w.hd;have go:=w.tl.hd;have w3:=w.set f0 (fun q hq=>by rw[i_.mp hq];exact nop) (.dct (dS ((nm W).take (A.length+1)) (oF (nm W) ws)));have hdl:(dS ((nm W).take A.length) (oF (nm W) ws)).length<=8:=by unfold dS;rw[d_,Vv];omega
  have hN':Box (∀v8,N [some (.ref d),some W.enc,some (.tup (W.tasks.map tkT)),some (.tup (W.orders.map orT)),some (.tup (W.pairs.map prT)),some (.tup (W.row.map T.str)),some (.ref po),some (.ref pd),v8,v9,v10,v11,v12,v13,v14] (up3 H pd (.dct (dS ((nm W).take (A.length+1)) (oF (nm W) ws))))):=⟨fun v8=>hN _ _ ⟨_,_,_,_,_,_,_,rfl,by rw[b_,G_];exact w3⟩⟩;clear hN e k' hR3 w2 w3 ht ex hx w;walk_at "";exact⟨by omega,hN'.out _⟩
 rintro Z H ⟨v8,v9,v10,v11,v12,v13,v14,rfl,w⟩;refine⟨trivial,?_⟩;rw[n_,<- nl,List.take_length] at w;clear w2;have hF:=Oq nd hln nws.nd;have hFn:∀a∈nm W,isNm (oF (nm W) ws a):=fun a ha=>by obtain⟨i,hi,rfl⟩:=V_ ha;exact nws.nm _ (V3 (wQ nd hln hi))
 have hlk:Box (∀n∈nm W,aN n (dS (nm W) (oF (nm W) ws))=some (.str (oF (nm W) ws n))):=⟨fun n hn=>wO hn⟩;generalize hgF:oF (nm W) ws=F at *;generalize dS (nm W) F=kv at *;have hF':=Box.mk hF;have hFn':=Box.mk hFn;clear hF hFn hgF f0 hln nws;have hW':=Box.mk hW;clear hW nd;walk_at "n";refine aA fun R4 hR4=>?_;walk_at "";refine⟨d,_,W.tasks.map tkT,rfl,.inr rfl,HD _,by rw[d_];omega,w.cl,fun ys H7 p1 hpm hD hp1=>?_⟩;obtain⟨ts2,hts,rfl⟩:=dZ hpm W.tasks rfl;have w3:=(w.drw hD).new (o:=.lst (ts2.map tkT)) hp1;generalize up3 H7 p1 (.lst (ts2.map tkT))=H8 at w3 ⊢;clear w hD hp1 hpm;have g1:=w3.hd;have gd:=w3.tl.hd;have l2:=hts.length_eq;show liq (.ref p1) H8 _;rw[qX,g1,lA];walk_at "c";refine cz tkT ts2 (fun A ys Z H=>∃v0 v1 v2:Option T,Z=[v0,v1,v2,some (.ref pd)]/\H=H8/\ys=(A.map fun t=>(F t.1,t.2.1,t.2.2.reverse)).map tkT) ⟨_,_,_,rfl,rfl,rfl⟩ ?_ ?_;rotate_left
 ·rintro A ⟨x,ln,ks⟩ B ys Z H N e ⟨v0,v1,v2,rfl,rfl,rfl⟩ hN;refine⟨.inl g1,?_⟩;have hA:A.length<9:=by have:=Q_ List.length e;simp only[b_,j_] at this;omega
  have hm:(x,ln,ks)∈W.tasks:=hts.mem_iff.mp (by rw[e];simp);have lk:=hlk.out x (k_.mpr ⟨_,hm,rfl⟩);have hN':Box (∀v0 v1 v2,N ((A.map fun t=>(F t.1,t.2.1,t.2.2.reverse)).map tkT++[.tup [.str (F x),.int ln,.tup (ks.map T.str).reverse]]) [v0,v1,v2,some (.ref pd)] H):=⟨fun v0 v1 v2=>hN _ _ _ ⟨v0,v1,v2,rfl,rfl,by rw[u_,u_,<- Xm];rfl⟩⟩;clear hN e k' hlk hF' hFn' hR4;rw[show tkT (x,ln,ks)=.tup [.str x,.int ln,.tup (ks.map T.str)] from rfl];walk_at "";exact⟨trivial,trivial,by decide,by omega,hN'.out _ _ _⟩
 rintro ys Z H ⟨v0,v1,v2,rfl,rfl,rfl⟩;refine⟨.inl g1,by rw[d_,d_];omega,fun p2 hp2=>?_⟩;have w4:=w3.tl.new (o:=.lst ((ts2.map fun t=>(F t.1,t.2.1,t.2.2.reverse)).map tkT)) hp2;generalize up3 H p2 (.lst ((ts2.map fun t=>(F t.1,t.2.1,t.2.2.reverse)).map tkT))=H9 at w4 ⊢;clear w3 hp2 g1 gd;walk_at "n";refine aA fun R5 hR5=>?_;walk_at "";have o28:=hW'.out.os;refine⟨d,_,W.orders.map orT,rfl,.inr rfl,Cg _,by rw[d_];omega,w4.cl,fun ys H10 p3 hpm hD hp3=>?_⟩;obtain⟨os2,hos,rfl⟩:=dZ hpm W.orders rfl;have w5:=(w4.drw hD).new (o:=.lst (os2.map orT)) hp3;generalize up3 H10 p3 (.lst (os2.map orT))=H11 at w5 ⊢;clear w4 hD hp3 hpm;have g1:=w5.hd;have gd:=w5.tl.tl.hd;have l3:=hos.length_eq;show liq (.ref p3) H11 _;rw[qX,g1,lA];walk_at "c";refine cz orT os2 (fun A ys Z H=>∃v0 v1:Option T,Z=[v0,v1,some (.ref pd)]/\H=H11/\ys=(A.map fun o=>(F o.1,F o.2)).map orT) ⟨_,_,rfl,rfl,rfl⟩ ?_ ?_;rotate_left
 ·rintro A ⟨x,y⟩ B ys Z H N e ⟨v0,v1,rfl,rfl,rfl⟩ hN;refine⟨.inl g1,?_⟩;have hA:A.length<29:=by have:=Q_ List.length e;simp only[b_,j_] at this;omega
  have hm:=hW'.out.oo (x,y) (hos.mem_iff.mp (by rw[e];simp));have lk1:=hlk.out x hm.2.1;have lk2:=hlk.out y hm.2.2;have hN':Box (∀v0 v1,N ((A.map fun o=>(F o.1,F o.2)).map orT++[.tup [.str (F x),.str (F y)]]) [v0,v1,some (.ref pd)] H):=⟨fun v0 v1=>hN _ _ _ ⟨v0,v1,rfl,rfl,by rw[u_,u_];rfl⟩⟩;clear hN e k' hlk hF' hFn' hR5 hm;rw[show orT (x,y)=.tup [.str x,.str y] from rfl];walk_at "";exact⟨trivial,by decide,by omega,hN'.out _ _⟩
 rintro ys Z H ⟨v0,v1,rfl,rfl,rfl⟩;refine⟨.inl g1,by rw[d_,d_];omega,fun p4 hp4=>?_⟩;have w6:=w5.tl.new (o:=.lst ((os2.map fun o=>(F o.1,F o.2)).map orT)) hp4;generalize up3 H p4 (.lst ((os2.map fun o=>(F o.1,F o.2)).map orT))=H12 at w6 ⊢;clear w5 hp4 g1 gd;walk_at "n";refine aA fun R6 hR6=>?_;walk_at "";refine⟨by decide,fun p5 hp5=>?_⟩;have f5:=w6.fresh hp5;have n5:∀q∈[(p4,O3.lst ((os2.map fun o=>(F o.1,F o.2)).map orT)),(p2,.lst ((ts2.map fun t=>(F t.1,t.2.1,t.2.2.reverse)).map tkT)),(pd,.dct kv),(po,.lst (ws.map T.str))],q.1≠p5:=fun q hq=>aX (w6.at' q hq).1 hp5;have w7:=w6.new (o:=.lst ((([]:List (Bool × Str × Str × Str)).map (swO F)).map prT)) hp5;rw[show (.lst []:O3)=.lst ((([]:List (Bool × Str × Str × Str)).map (swO F)).map prT) from rfl];generalize up3 H12 p5 (.lst ((([]:List (Bool × Str × Str × Str)).map (swO F)).map prT))=H13 at w7 ⊢;clear w6 hp5;walk_at "n";refine aA fun R7 hR7=>?_;walk_at "";have p12:=hW'.out.ps;have plp:=Ci W.pairs;refine⟨d,_,W.pairs.map prT,rfl,.inr rfl,plp,by rw[d_];omega,w7.cl,fun ys H14 p6 hpm hD hp6=>?_⟩;obtain⟨ps2,hps,rfl⟩:=dZ hpm W.pairs rfl;have w8:=w7.drw hD;have n56:p5≠p6:=aX w8.hd hp6;have n6:∀q∈[(p4,O3.lst ((os2.map fun o=>(F o.1,F o.2)).map orT)),(p2,.lst ((ts2.map fun t=>(F t.1,t.2.1,t.2.2.reverse)).map tkT)),(pd,.dct kv),(po,.lst (ws.map T.str))],q.1≠p6:=fun q hq=>aX (w8.at' q (v_ _ hq)).1 hp6;have w9:=w8.new (o:=.lst (ps2.map prT)) hp6;generalize up3 H14 p6 (.lst (ps2.map prT))=H15 at w9 ⊢;clear w7 w8 hD hp6 hpm;have l4:=hps.length_eq;show liq (.ref p6) H15 _;rw[qX,w9.hd,lA];refine aV prT ps2 (fun A Z H=>∃(v12 v13 v14:Option T) (us:List (Bool × Str × Str × Str)),Z=[some (.ref d),some W.enc,some (.tup (W.tasks.map tkT)),some (.tup (W.orders.map orT)),some (.tup (W.pairs.map prT)),some (.tup (W.row.map T.str)),some (.ref po),some (.ref pd),v8,some (.ref p2),some (.ref p4),some (.ref p5),v12,v13,v14]/\us.map (·.2)=A/\(∀u∈us,u.1=true->(u.2.1,u.2.2.2,u.2.2.1)∉W.pairs)/\Wt d H3 H [(p5,.lst ((us.map (swO F)).map prT)),(p6,.lst (ps2.map prT)),(p4,.lst ((os2.map fun o=>(F o.1,F o.2)).map orT)),(p2,.lst ((ts2.map fun t=>(F t.1,t.2.1,t.2.2.reverse)).map tkT)),(pd,.dct kv),(po,.lst (ws.map T.str))]) ⟨_,_,_,[],rfl,rfl,(fun _ h=>nomatch h),w9.cl,w9.kp,fun q hq=>w9.at' q (by rw[p_,p_] at hq ⊢;exact or_left_comm.mp hq)⟩ ?_ ?_;rotate_left
 ·rintro A ⟨wd,x,y⟩ B Z H N e ⟨v12,v13,v14,us,rfl,hus,hno,w⟩ hN;refine⟨.inl w.tl.hd,?_⟩;have hm0:(wd,x,y)∈W.pairs:=hps.mem_iff.mp (by rw[e];simp);have hm:=hW'.out.pp _ hm0;have lk1:=hlk.out x hm.2.2.1;have lk2:=hlk.out y hm.2.2.2;have hul:us.length<13:=by have:=Q_ List.length e;simp only[b_,j_] at this;have h2:=Q_ List.length hus;rw[d_] at h2;omega
  have gd:=w.tl.tl.tl.tl.hd;have g5:=w.hd;have fin:Box (∀(b:Bool) H',Wt d H3 H' [(p5,.lst ((us.map (swO F)).map prT)),(p6,.lst (ps2.map prT)),(p4,.lst ((os2.map fun o=>(F o.1,F o.2)).map orT)),(p2,.lst ((ts2.map fun t=>(F t.1,t.2.1,t.2.2.reverse)).map tkT)),(pd,.dct kv),(po,.lst (ws.map T.str))]->(b=true->(wd,y,x)∉W.pairs)->N [some (.ref d),some W.enc,some (.tup (W.tasks.map tkT)),some (.tup (W.orders.map orT)),some (.tup (W.pairs.map prT)),some (.tup (W.row.map T.str)),some (.ref po),some (.ref pd),v8,some (.ref p2),some (.ref p4),some (.ref p5),some (.str wd),some (.str x),some (.str y)] (up3 H' p5 (.lst ((us.map (swO F)).map prT++[prT (swO F (b,wd,x,y))])))):=⟨fun b H' w hb=>hN _ _ ⟨_,_,_,us++[(b,wd,x,y)],rfl,by rw[u_,hus];rfl,fun u hu z=>by
   rcases D_.mp hu with hu | hu
   ·
    exact hno u hu z
   ·
    rw[i_.mp hu] at z ⊢;exact hb z,by
   rw[u_,u_]
   exact w.set f5 (fun q hq=>by
    rcases p_.mp hq with rfl | hq
    ·
     exact Ne.symm n56
    ·
     exact n5 q hq) _⟩⟩
  have pin:([T.str wd,T.str y,T.str x]:List T).all (pl 19)=true:=rfl;have ein:decide (T.tup [.str wd,.str y,.str x]∈W.pairs.map prT)=decide ((wd,y,x)∈W.pairs):=by
   rw[Wv,k_];constructor
   ·rintro⟨q,hq,e⟩;rw[show T.tup [.str wd,.str y,.str x]=prT (wd,y,x) from rfl] at e;rw[<- G8 e];exact hq
   exact fun z=>⟨_,z,rfl⟩
  clear hN e k' hlk hF' hFn' hR7 hno hus hm n5 n6 w9;rw[show prT (wd,x,y)=.tup [.str wd,.str x,.str y] from rfl];have hw:=Box.mk w;have ein':=Box.mk ein;clear w ein;have st1:∀H',Wt d H3 H' [(p5,.lst ((us.map (swO F)).map prT)),(p6,.lst (ps2.map prT)),(p4,.lst ((os2.map fun o=>(F o.1,F o.2)).map orT)),(p2,.lst ((ts2.map fun t=>(F t.1,t.2.1,t.2.2.reverse)).map tkT)),(pd,.dct kv),(po,.lst (ws.map T.str))]->H' pd=some (.dct kv)/\H' p5=some (.lst ((us.map (swO F)).map prT)):=fun H' w=>⟨w.tl.tl.tl.tl.hd,w.hd⟩;have st1':=Box.mk st1;clear st1;walk_at "";refine⟨trivial,by decide,rfl,trivial,?_⟩;have fn:=fin.out false H hw.out (fun z=>(nomatch z));rw[show dJ true (T.tup [.str wd,.str y,.str x]) (W.pairs.map prT)=!decide (T.tup [.str wd,.str y,.str x]∈W.pairs.map prT) from rfl,ein'.out];by_cases c:(wd,y,x)∈W.pairs
  ·rw[if_neg (by simp [c])];exact⟨⟨trivial,trivial⟩,by decide,by omega,fn⟩
  rw[if_pos (by simp [c])];refine⟨d,2,rfl,by decide,hw.out.cl,fun n H' n0 n1 hD=>?_⟩;have w2:=hw.out.drw hD;obtain⟨g1,g2⟩:=st1'.out H' w2;try dsimp only
  rw[vL,fc];by_cases c3:n=1
  ·rw[if_pos (by simp [c3])];have ft:=fin.out true H' w2 fun _=>c;clear fin fn hw w2 hD;walk_at "";exact⟨⟨trivial,trivial⟩,by decide,by omega,ft⟩
  rw[if_neg (by simp [c3])];have ft:=fin.out false H' w2 (fun z=>(nomatch z));clear fin fn hw w2 hD;walk_at "";exact⟨⟨trivial,trivial⟩,by decide,by omega,ft⟩
 rintro Z H ⟨v12,v13,v14,us,rfl,hus,hno,w⟩;refine⟨.inl w.tl.hd,?_⟩;have g5:=w.hd;have g4:=w.tl.tl.hd;have g2:=w.tl.tl.tl.hd;have fin:Box (Fin3 Q (Wk.enc ⟨ts2.map fun t=>(F t.1,t.2.1,t.2.2.reverse),os2.map fun o=>(F o.1,F o.2),us.map (swO F),W.row⟩) H):=⟨eU w.cl w.kp fun H'' hD=>k'.out F _ H'' ⟨hF'.out,hFn'.out,hts.map _,hos.map _,⟨us,by rw[hus];exact hps,rfl,hno⟩,rfl⟩ hD⟩;unfold Wk.enc at fin;dsimp only at fin;clear k' hlk hF' hFn' hno hus w w9 n5 n6;walk_at "n";try simp only[sT] at fin
 walk_at "";exact⟨by decide,fin.out⟩
abbrev jl:List Str:=["works","many","loads","low","high","middle"]
theorem sc_least_beat:FnScope jl ["works","many"] (au (top 33)):=bh
theorem mV {f:Addr}{fd:FuncData}(g:G3 K mg "least_beat" (top 33) ["works","many"] f fd) (B:Bl mg) (F_loads_rising:Cal P w K mg base 1 "loads_rising" (top 32) ["works"] Th) (F_dealing_to:Cal P w K mg base 7 "dealing_to" (top 30) ["works","beat","many"] Tg):Cal P w K mg base 8 "least_beat" (top 33) ["works","many"] Oj:=by
 refine⟨f,fd,g,?_⟩;refine fn3 g.fn sc_least_beat (fun ts H Q h=>?_) (fun cdv A outer s H E ts H3 Q hr h=>?_)
 ·obtain⟨W,m,rfl,_⟩:=h;rfl
 obtain⟨W,m,rfl,hW,h5,hm,kk⟩:=h;refine⟨_,(ak (aF (i:=2) sc_least_beat.nd (aJ F_loads_rising hr rfl (aa (v3 0) aj)))
   (ak (bQ (aU Bh (aJ F_dealing_to hr rfl (aa (v3 0) (aa (aK ix3 (v3 2) (lE ao)) (aa (v3 1) aj)))) gC) (aq (aM gC)) aY)
   (ak (aF (i:=3) sc_least_beat.nd ao)
   (ak (aF (i:=4) sc_least_beat.nd (aH gD (aW bW rfl B.len_ bZ (aa (v3 2) aj)) ao))
   (ak (iT H_ (aU vD (v3 3) (v3 4)) (ak (aF (i:=5) sc_least_beat.nd (aH eO (aH aR (v3 3) (v3 4)) ao))
    (aq (bQ (aU Bh (aJ F_dealing_to hr rfl (aa (v3 0) (aa (aK ix3 (v3 2) (v3 5)) (aa (v3 1) aj)))) gC) (aq (aF (i:=3) sc_least_beat.nd (aH aR (v3 5) ao))) (aq (aF (i:=4) sc_least_beat.nd (v3 5)))))))
   (aq (aM (aK ix3 (v3 2) (v3 3))))))))),?_⟩
 rw[show aO jl [W.enc,T.int (m:Int)]=[some (W.enc),some (T.int (m:Int)),none,none,none,none] from rfl];have hsz:sizeLine=16777216:=rfl;have k':=Box.mk kk;clear kk;refine aA fun R0 hR0=>?_;walk_at "";refine⟨W,rfl,hW,h5,fun H4 p us sb hr gp=>?_⟩;have hl:=qd W.tasks;have hne:0<us.length:=by
  obtain⟨i,hi,_⟩:=V_ ((hr.2 0).mpr ((show ∀ts,(0:Int)∈alD ts from fun ts=>by
   refine snoc_ind (C:=fun ts=>(0:Int)∈alD ts) (i_.mpr rfl) (fun A t ih=>?_) ts
   rw[jh]
   exact Ve _ ih) W.tasks))
  omega
 walk_at "n";obtain⟨j,ej⟩:∃j,j+1=us.length:=⟨us.length - 1,by omega⟩;have hj:j<us.length:=by omega
 have at1:atI (us.map T.int) (-1)=some (.int us[j]):=by have e2:=WX j us;rw[Ws hj,Xr (by omega)] at e2;have e3:=Q_ (List.map T.int) e2;rw[u_] at e3;rw[<- e3];exact qC _ _
 have hr':=Box.mk hr;clear hr;refine aA fun R1 hR1=>?_;walk_at "";refine⟨W,us[j],m,rfl,hW,hm,?_⟩;rcases Dk (beat:=us[j]) hW hm with ⟨e1,hc⟩ | ⟨⟨xs,e1⟩,hc⟩
 ·rw[e1,if_pos (show isN .non=true from rfl)];exact Fin3.of Sub3.refl (k'.out H4 .non sb (Hz hr'.out ej hc))
 rw[e1,if_neg (show ¬isN (.tup xs)=true from o_)];clear e1 at1;walk_at "n";refine aA fun R2 hR2=>?_;walk_at "";walk_at "n";refine aA fun R3 hR3=>?_;walk_at "";walk_at "n";rw[show ((us.length:Int) - 1)=(j:Int) by omega];refine aA fun R4 hR4=>?_;refine⟨fun n Z H=>∃(lo hi:Nat) (v5:Option T) (hh:hi<us.length),Z=[some W.enc,some (.int (m:Int)),some (.ref p),some (.int (lo:Int)),some (.int (hi:Int)),v5]/\H=H4/\lo<=hi/\n=hi - lo/\Can W m us[hi]/\∀i (hi:i<us.length),i<lo->¬Can W m us[i],⟨_,0,j,_,hj,rfl,rfl,by omega,rfl,hc,fun i _ h=>absurd h (Ye _)⟩,?_⟩;rintro n Z H ⟨lo,hi,v5,hh,rfl,rfl,hlh,rfl,ch,nl⟩;obtain⟨d,hd⟩:∃d:Nat,d=(lo+hi) / 2:=⟨_,rfl⟩;have ed:((lo:Int)+(hi:Int)) / 2=(d:Int):=by omega
 have at2:∀i (h:i<us.length),atI (us.map T.int) (i:Int)=some (.int us[i]):=fun i h=>bC (by rw[z_,g_ h];rfl);have hr2:=hR4;clear hR4;by_cases c:lo<hi
 ·have hdl:d<us.length:=by omega
  have hd1:lo<=d:=by omega
  have hd2:d<hi:=by omega
  clear hd;have at3:=at2 d hdl;have cd:zM ((lo:Int)+(hi:Int)) 2:=⟨by omega,by decide +kernel⟩;have ch':=Box.mk ch;have nl':=Box.mk nl;have at2':=Box.mk at2;have c':decide ((lo:Int)<(hi:Int))=true:=O_ (by omega);have hr3:=hr';clear ch nl at2 k' hr' hr2;walk_at "";refine⟨by first | trivial | exact cd,W,us[d],m,rfl,hW,hm,?_⟩;rcases Dk (beat:=us[d]) hW hm with ⟨e1,hc⟩ | ⟨⟨xs,e1⟩,hc⟩
  ·rw[e1,if_pos (show isN .non=true from rfl)];refine⟨hi - (d+1),by omega,d+1,hi,_,hh,by push_cast;rfl,rfl,by omega,rfl,ch'.out,fun i hi2 hlt hx=>hc (hx.mono (uI hr3.out.1 hi2 hdl (by omega)))⟩
  rw[e1,if_neg (show ¬isN (.tup xs)=true from o_)];exact⟨d - lo,by omega,lo,d,_,hdl,rfl,rfl,by omega,rfl,hc,nl'.out⟩
 obtain rfl:lo=hi:=by omega
 have c':decide ((lo:Int)<(lo:Int))=false:=C_ (by omega);have at3:=at2 lo hh;have fin:=Box.mk (k'.out H _ sb (HB hr'.out hh ch nl));clear at2 ch nl k' hr' ed hd;walk_at "";obtain⟨hr2⟩:=hr2;subst hr2;try dsimp only
 walk_at "";exact Fin3.of Sub3.refl fin.out
abbrev d9:List Str:=["works","loads","name","length","kinds"]
theorem sc_loads_rising:FnScope d9 ["works"] (au (top 32)):=bh
theorem jV {f:Addr}{fd:FuncData}(g:G3 K mg "loads_rising" (top 32) ["works"] f fd) (B:Bl mg):Cal P w K mg base 1 "loads_rising" (top 32) ["works"] Th:=by
 refine⟨f,fd,g,?_⟩;refine fn3 g.fn sc_loads_rising (fun ts H Q h=>?_) (fun cdv A outer s H E ts H3 Q hr h=>?_)
 ·obtain⟨W,rfl,_⟩:=h;rfl
 obtain⟨W,rfl,hW,h5,kk⟩:=h;refine⟨_,(ak (aF (i:=1) sc_loads_rising.nd (bV (aa ao aj)))
   (ak (bx H_ rfl (c7 (aK ix3 (v3 0) ao)) (cB (n:=3) rfl (aG (aB (i:=2) sc_loads_rising.nd) (aG (aB (i:=3) sc_loads_rising.nd) (aG (aB (i:=4) sc_loads_rising.nd) bM)))) (aq (aF (i:=1) sc_loads_rising.nd (aH aR (v3 1) (bz rfl (bB (n0:=(au (top 32)).names) (N:=d9) (N':=["load","length"]) (nt:=1) (cap:=[3]) rfl rfl (by decide +kernel)) (cj (v3 1)) (fun cl pins s H C0 fp=>⟨(aB (i:=0) (show List.Nodup [("load":Str),("length":Str)] by decide +kernel)),bD,(aH aR (v3 0) (v3 1))⟩))))))
   (aq (aM (yr rfl rfl B.sorted_ rfl B.set_ (v3 1)))))),?_⟩
 rw[show aO d9 [W.enc]=[some (W.enc),none,none,none,none] from rfl];have hsz:sizeLine=16777216:=rfl;have k':=Box.mk kk;clear kk;refine aA fun R0 hR0=>?_;walk_at "";refine⟨by decide,fun p0 hp0=>?_⟩;have sb0:Sub3 H3 (up3 H3 p0 (.lst [T.int 0])):=Sub3.new hp0;have g0:up3 H3 p0 (.lst [T.int 0]) p0=some (.lst ((alD []).map T.int)):=aC;generalize up3 H3 p0 (.lst [T.int 0])=H4 at sb0 g0 ⊢;clear hp0;walk_at "n";refine aA fun R1 hR1=>?_;walk_at "";refine aV tkT W.tasks (fun A Z H=>∃(q:Addr) (v2 v3 v4:Option T),Z=[some W.enc,some (.ref q),v2,v3,v4]/\Sub3 H3 H/\H q=some (.lst ((alD A).map T.int))) ⟨p0,_,_,_,rfl,sb0,g0⟩ ?_ ?_
 ·rintro Z H ⟨q,v2,v3,v4,rfl,sb,gq⟩;refine⟨trivial,?_⟩;have hl:=qd W.tasks;have h32:2^W.tasks.length<=2^5:=W8 (by decide) h5;generalize alD W.tasks=al at *;walk_at "n";walk_at "";refine⟨by omega,fun us hu p hp=>?_⟩;exact Fin3.of Sub3.refl (k'.out _ p us (sb.trans (Sub3.new hp)) hu aC)
 rintro A ⟨x,ln,ks⟩ B Z H N e ⟨q,v2,v3,v4,rfl,sb,gq⟩ hN;refine⟨trivial,?_⟩;have hA:A.length<5:=by have:=Q_ List.length e;simp only[b_,j_] at this;omega
 have hl:=qd A;have h32:2^A.length<=2^5:=W8 (by decide) (by omega);have fin:Box (∀(q2:Addr) (H':Hp3) v2 v3 v4,Sub3 H3 H'->H' q2=some (.lst ((alD A).map T.int++((alD A).map (·+ln)).map T.int))->N [some W.enc,some (.ref q2),v2,v3,v4] H'):=⟨fun q2 H' v2 v3 v4 s1 s2=>hN _ _ ⟨q2,v2,v3,v4,rfl,s1,by rw[s2,jh];unfold alS;rw[u_]⟩⟩;clear hN e k' hR1 sb0 g0;generalize alD A=al at *;simp only[tkT];walk_at "";refine⟨trivial,?_⟩;walk_at "c";refine cH T.int (fun i=>T.int (i+ln)) al [some (.int ln)] (.inl gq) (by omega) (fun i hi Q' hq'=>?_) (fun pc hpc=>?_)
 ·have hq2:=Box.mk hq';clear hq' fin;walk_at "";exact hq2.out
 have nqc:q≠pc:=aX gq hpc;rw[aD nqc,gq,jw];refine⟨by rw[d_,d_];omega,fun pq hpq=>?_⟩;exact fin.out pq _ _ _ _ ((sb.trans (Sub3.new hpc)).trans (Sub3.new hpq)) (by rw[aC,Vg];rfl)
theorem U4 {X:Cx}(i:Nat) {x:Str}{pos pos' p5:Pos}{k v:Expr}{tk tv:TE3}(hN:X.N.Nodup) (hk:PE3 X k tk) (hv:PE3 X v tv) (hi:X.N[i]?=some x) (hx:Loc X.env.scope x) (hf:X.fn x=true\/X.env.scope.names.lookup x=some .local):PS3 X (.Assign [.Name x pos'] (.Dict [some k] [v] p5) pos) (vp (pM tk tv) (dX i)):=aF hN (yg hk hv) hi hx rfl hf
abbrev jm:List Str:=["works","beat","many","walk","ways","stand"]
theorem sc_dealing_to:FnScope jm ["works","beat","many"] (au (top 30)):=bh
theorem mW {f:Addr}{fd:FuncData}(g:G3 K mg "dealing_to" (top 30) ["works","beat","many"] f fd) (B:Bl mg) {C_Walk:Addr}(I_Walk:InsC K C_Walk ["works","beat","rules","whole"]) (M_Walk:MkC P w K mg base C_Walk 5 "Walk" ["self","works","beat"] (S7 C_Walk)) (F_ways_behind:Cal P w K mg base 5 "ways_behind" (top 29) ["walk","stand","ways"] (Tf C_Walk)) (M_dealing_of:MtC P w K mg base C_Walk 2 "dealing_of" ["self","fillings"] (S9 C_Walk)):Cal P w K mg base 7 "dealing_to" (top 30) ["works","beat","many"] Tg:=by
 refine⟨f,fd,g,?_⟩;refine fn3 g.fn sc_dealing_to (fun ts H Q h=>?_) (fun cdv A outer s H E ts H3 Q hr h=>?_)
 ·obtain⟨W,beat,m,rfl,_⟩:=h;rfl
 have hu1:=Room.u1 hr;obtain⟨W,beat,m,rfl,hW,hm,kk⟩:=h;refine⟨_,(ak (aF (i:=3) sc_dealing_to.nd (Gz M_Walk (hr.mono (by decide)) rfl (aa (v3 0) (aa (v3 1) aj))))
   (@ak _ _ _ _ _ (@U4 _ 4 _ _ _ _ _ _ _ _ sc_dealing_to.nd ao (bf aj) rfl (by first | exact Or.inl rfl | exact Or.inr rfl) (by first | exact .inl rfl | exact .inr rfl | assumption))
   (ak (bx H_ rfl (aQ rfl B.range_ (aa (v3 2) aj)) (aB (i:=5) sc_dealing_to.nd) (aq (aF (i:=4) sc_dealing_to.nd (aJ F_ways_behind hr rfl (aa (v3 3) (aa (v3 5) (aa (v3 4) aj)))))))
   (ak (bQ (ug hu1 (gJ I_Walk (v3 3)) (v3 4)) (aq (aM gC)) aY)
   (aq (aM (pO M_dealing_of (hr.mono (by decide)) (v3 3) (aa (Bq hu1 (v3 4) (gJ I_Walk (v3 3))) aj)))))))),?_⟩
 rw[show aO jm [W.enc,T.int beat,T.int (m:Int)]=[some (W.enc),some (T.int beat),some (T.int (m:Int)),none,none,none] from rfl];have hsz:sizeLine=16777216:=rfl;have k':=Box.mk kk;clear kk;have t1:=lU W;have r8:W.row.length<=8:=hW.r8;refine aA fun R0 hR0=>?_;walk_at "";intro a ha;refine⟨a,W,beat,rfl,hW,aC,fun H4 kp hw=>⟨rfl,?_⟩⟩;have sb:Sub3 H3 H4:=fun b u hb=>kp b u (aX hb ha) (by rw[aD (aX hb ha)];exact hb);clear kp ha;walk_at "n";refine aA fun R1 hR1=>?_;walk_at "";intro q0 hq0;refine⟨by decide,trivial,?_⟩;have e0:([(0,T.tup [])]:List (Int × T))=dI wyT (wys W beat 0):=rfl;rw[e0];have sb0:Sub3 H3 (up3 H4 q0 (.dci (dI wyT (wys W beat 0)))):=sb.trans (Sub3.new hq0);have hw0:=hw.sub (Sub3.new (o:=.dci (dI wyT (wys W beat 0))) hq0);have gq0:up3 H4 q0 (.dci (dI wyT (wys W beat 0))) q0=some (.dci (dI wyT (wys W beat 0))):=aC;have hq3:=di sb hq0;generalize up3 H4 q0 (.dci (dI wyT (wys W beat 0)))=H5 at sb0 gq0 hw0 ⊢;clear e0 hq0 sb hw;walk_at "n";refine aA fun R2 hR2=>?_;walk_at "";refine⟨trivial,by omega,by omega,?_⟩;rw[gO];refine aV (fun (j:Nat)=>T.int (j:Int)) (List.range m) (fun A Z H=>∃(q:Addr) (v5:Option T),Z=[some W.enc,some (.int beat),some (.int (m:Int)),some (.ref a),some (.ref q),v5]/\Sub3 H3 H/\H3 q=none/\Wlk C_Walk W beat H a/\H q=some (.dci (dI wyT (wys W beat A.length)))) ⟨q0,_,rfl,sb0,hq3,hw0,gq0⟩ ?_ ?_
 ·rintro Z H ⟨q,v5,rfl,sb,hq,hw,gq⟩;refine⟨trivial,?_⟩;rw[n_] at gq;walk_at "n";obtain⟨pw,gw,_⟩:=hw.ex;have f4:=rQ (W:=W) (beat:=beat) (p:=pw);have lm:=CW (W:=W) (beat:=beat) (p:=pw) (m:="dealing_of") (by decide +kernel);have lk:=p7 wyT (top2 W - 1) (wys W beat m);have ec:((top2 W - 1:Nat):Int)=(top2 W:Int) - 1:=by omega
  rw[ec] at lk;have k2:=k'.out;unfold dtT at k2;have htb:=wtb (W:=W) (beat:=beat) hW hm;clear sb0 hw0 gq0;refine aA fun R3 hR3=>?_;cases el:dm (top2 W - 1) (wys W beat m) with
  |none=>rw[el] at lk k2;rw[Option.map_none] at lk;have k3:=Box.mk k2;clear k' k2 hR3 htb;walk_at "";simp only[Option.isSome_none,Wc,if_true];exact Fin3.of sb k3.out
  |some v =>
  obtain⟨_,hb2,hb3⟩:=(htb.wok hW).lt _ (ig el);have hb4:v.length<=m:=hb2;clear hb2;rw[el] at lk k2;rw[Xv] at lk;simp only[wyT] at lk;have k3:=Box.mk k2;clear k' k2 htb el;generalize wys W beat m=E at *;walk_at "";simp only[Option.isSome_some,V4,y_,U7];walk_at "n";walk_at "";refine⟨by first | trivial | exact lm,a,W,beat,v,rfl,hW,hw,by omega,hb3,?_⟩;exact Fin3.of sb k3.out
 rintro A j B Z H N e ⟨q,v5,rfl,sb,hq,hw,gq⟩ hN;refine⟨trivial,?_⟩;have hA:A.length<m:=by have:=Q_ List.length e;simp only[b_,j_,n_] at this;omega
 have hj:j=A.length:=by
  have h1:(List.range m)[A.length]?=some j:=by rw[e,R_ (m_ _)];simp
  rw[Vz hA] at h1;exact (U6 h1).symm
 subst hj;have hN':=Box.mk hN;clear hN e k' hR2 sb0 hw0 gq0;walk_at "";refine⟨a,q,W,beat,A.length,A.length,wys W beat A.length,rfl,hW,hw,by omega,by omega,(wtb hW (by omega)).wok hW,gq,fun o p2 hp2=>?_⟩;have nq2:q≠p2:=aX gq hp2;have hwf:=hw.frz (o:=.dif o (dI wyT (wys W beat A.length))) gq;refine hN'.out _ _ ⟨p2,_,rfl,fun b u hb=>?_,di sb ?_,hwf.sub (Sub3.new (by rw[aD (Ne.symm nq2)];exact hp2)),?_⟩
 ·rw[aD (aX (sb b u hb) ?_),aD (aX hb hq)]
  ·exact sb b u hb
  exact hp2
 ·exact hp2
 rw[aC,b_];rfl
abbrev iz:List Str:=["walk","stand","ways","behind","done","fillings","filling"]
theorem sc_ways_behind:FnScope iz ["walk","stand","ways"] (au (top 29)):=bh
theorem lX {f:Addr}{fd:FuncData}(g:G3 K mg "ways_behind" (top 29) ["walk","stand","ways"] f fd) (B:Bl mg) {C_Walk:Addr}(I_Walk:InsC K C_Walk ["works","beat","rules","whole"]) (M_greatest_at:MtC P w K mg base C_Walk 4 "greatest_at" ["self","stand","done"] (Te C_Walk)):Cal P w K mg base 5 "ways_behind" (top 29) ["walk","stand","ways"] (Tf C_Walk):=by
 refine⟨f,fd,g,?_⟩;refine fn3 g.fn sc_ways_behind (fun ts H Q h=>?_) (fun cdv A outer s H E ts H3 Q hr h=>?_)
 ·obtain⟨a,q,W,beat,k,n,E,rfl,_⟩:=h;rfl
 obtain⟨a,q,W,beat,k,n,E,rfl,hW,hw,hk,hn,hE,hq,kk⟩:=h;refine⟨_,(ak (aF (i:=3) sc_ways_behind.nd Bo)
   (ak (bx H_ rfl (Bv (v3 2)) (cB (n:=2) rfl (aG (aB (i:=4) sc_ways_behind.nd) (aG (aB (i:=5) sc_ways_behind.nd) bM))) (aq (bx H_ rfl (cj (pO M_greatest_at (hr.mono (by decide)) (v3 0) (aa (v3 1) (aa (v3 4) aj)))) (aB (i:=6) sc_ways_behind.nd) (aq (bI (Gy (v3 3) (aH aR (v3 4) (v3 6)) (aH aR (v3 5) (bf (aa (v3 6) aj)))))))))
   (aq (aM (v3 3))))),?_⟩
 rw[show aO iz [T.ref a,T.int (k:Int),T.ref q]=[some (T.ref a),some (T.int (k:Int)),some (T.ref q),none,none,none,none] from rfl];have hsz:sizeLine=16777216:=rfl;have k':=Box.mk kk;clear kk;have t2:=pZ hW;have hE':=Box.mk hE;clear hE;refine aA fun R0 hR0=>?_;walk_at "";intro pb hpb;have nqb:q≠pb:=aX hq hpb;walk_at "n";refine aA fun R1 hR1=>?_;have gq:up3 H3 pb (.dci []) q=some (.dci (dI wyT E)):=by rw[aD nqb];exact hq
 walk_at "";intro o;rw[Tc];have hw0:Wlk C_Walk W beat (up3 H3 q (.dif o (dI wyT E))) a:=hw.frz hq;have g0:up3 H3 q (.dif o (dI wyT E)) q=some (.dif o (dI wyT E)):=aC;have n0:up3 H3 q (.dif o (dI wyT E)) pb=none:=by rw[aD (Ne.symm nqb)];exact hpb
 have kb0:Kb1 pb (up3 H3 q (.dif o (dI wyT E))) (up3 (up3 H3 pb (.dci [])) q (.dif o (dI wyT E))):=fun b u hb h=>by
  by_cases e:b=q
  ·subst e;rw[aC] at h ⊢;exact h
  rw[aD e] at h ⊢;rw[aD hb];exact h
 have gb0:up3 (up3 H3 pb (.dci [])) q (.dif o (dI wyT E)) pb=some (.dci (dI wyT [])):=by rw[aD (Ne.symm nqb),aC];rfl
 have k2:=Box.mk (k'.out o pb hpb);generalize up3 (up3 H3 pb (.dci [])) q (.dif o (dI wyT E))=H4 at kb0 gb0 ⊢;generalize up3 H3 q (.dif o (dI wyT E))=H0 at *;clear k' gq hq hw;refine aV wyE E (fun A Z H=>∃(v4 v5 v6:Option T),Z=[some (.ref a),some (.int (k:Int)),some (.ref q),some (.ref pb),v4,v5,v6]/\Kb1 pb H0 H/\H pb=some (.dci (dI wyT (A.foldl (wbF W beat k) [])))/\WOk W (n+1) (A.foldl (wbF W beat k) [])) ⟨_,_,_,rfl,kb0,gb0,⟨XQ,fun _ z=>(nomatch z)⟩⟩ ?_ ?_
 ·rintro Z H ⟨v4,v5,v6,rfl,kb,gb,_⟩;refine⟨kb q _ nqb g0,?_⟩;walk_at "n";walk_at "";refine Fin3.of (fun b u hb=>?_) k2.out;by_cases e:b=pb
  ·subst e;rw[aC] at hb;rw[gb,<- hb];rfl
  rw[aD e] at hb;exact kb b u e hb
 rintro A e B Z H N eE ⟨v4,v5,v6,rfl,kb,gb,hB⟩ hN;refine⟨kb q _ nqb g0,?_⟩;obtain⟨ed,el,et⟩:=hE'.out.lt e (by rw[eE];simp);have hfold:(A++[e]).foldl (wbF W beat k) []=wbF W beat k (A.foldl (wbF W beat k) []) e:=by rw[Yn];rfl
 have hN':=Box.mk hN;clear hN eE hR1 k2 kb0 gb0;rw[hfold] at hN';generalize A.foldl (wbF W beat k) []=B0 at *;clear hfold;simp only[wyE];walk_at "";have hwH:=kb.wlk n0 hw0;obtain⟨pw,gw,_⟩:=hwH.ex;have lm:=CW (W:=W) (beat:=beat) (p:=pw) (m:="greatest_at") (by decide +kernel);refine⟨trivial,?_⟩;try rw[gw,Jz]
 refine⟨lm,a,W,beat,k,e.1,rfl,hW,hwH,hk,ed,fun pf hpf=>?_⟩;have npf:pb≠pf:=aX gb hpf;have flen:(gfl W beat k e.1).length<=256:=by have:=qb bG (fls W beat k e.1);have h2:(fls W beat k e.1).length<=256:=U8 (Vk _ _) (by rw[n_];exact t2);unfold gfl;rw[Vn];omega
 have kb1:Kb1 pb H0 (up3 H pf (.lst ((gfl W beat k e.1).map bA))):=kb.new hpf;have gb1:up3 H pf (.lst ((gfl W beat k e.1).map bA)) pb=some (.dci (dI wyT B0)):=by rw[aD npf];exact gb
 have gf1:up3 H pf (.lst ((gfl W beat k e.1).map bA)) pf=some (.lst ((gfl W beat k e.1).map bA)):=aC;generalize up3 H pf (.lst ((gfl W beat k e.1).map bA))=H5 at kb1 gb1 gf1 ⊢;clear kb gb hwH gw lm hpf;try walk_at ""
 refine aV bA (gfl W beat k e.1) (fun A2 Z H=>∃(v6:Option T),Z=[some (.ref a),some (.int (k:Int)),some (.ref q),some (.ref pb),some (.int (e.1:Int)),some (wyT e.2),v6]/\Kb1 pb H0 H/\H pf=some (.lst ((gfl W beat k e.1).map bA))/\H pb=some (.dci (dI wyT (A2.foldl (iu e.1 e.2) B0)))/\WOk W (n+1) (A2.foldl (iu e.1 e.2) B0)) ⟨_,rfl,kb1,gf1,gb1,hB⟩ ?_ ?_
 ·rintro Z H ⟨v6,rfl,kb,gf,gb,hB2⟩;refine⟨.inl gf,?_⟩;exact hN'.out _ _ ⟨_,_,_,rfl,kb,gb,hB2⟩
 rintro A2 f B2 Z H N eF ⟨v6,rfl,kb,gf,gb,hB2⟩ hN2;refine⟨.inl gf,?_⟩;have hf:f∈fls W beat k e.1:=p8 (by rw[eF];simp);have hfold:(A2++[f]).foldl (iu e.1 e.2) B0=iu e.1 e.2 (A2.foldl (iu e.1 e.2) B0) f:=by rw[Yn];rfl
 have hB3:=hB2.stp hW ed el et hf;have hlen:=hB2.len;have hN2':=Box.mk hN2;clear hN2 eF hN' kb1 gf1 gb1 hB;rw[hfold] at hN2';generalize A2.foldl (iu e.1 e.2) B0=B3 at *;clear hfold;have hN3:Box (∀(v6:Option T) (H':Hp3),Kb1 pb H0 H'->H' pf=some (.lst ((gfl W beat k e.1).map bA))->H' pb=some (.dci (dI wyT (iu e.1 e.2 B3 f)))->N [some (.ref a),some (.int (k:Int)),some (.ref q),some (.ref pb),some (.int (e.1:Int)),some (wyT e.2),v6] H'):=⟨fun v6 H' h1 h2 h3=>hN2'.out _ _ ⟨v6,rfl,h1,h2,h3,hB3⟩⟩;clear hN2' hB3;have lk:=p7 wyT (e.1+f) B3;have pt:=Oh wyT (e.1+f) (e.2++[f]) B3;have dl:=Og wyT B3;have et2:wyT (e.2++[f])=.tup (e.2.map bA++[.int (f:Int)]):=by unfold wyT;rw[u_];rfl
 have ec:((e.1+f:Nat):Int)=(e.1:Int)+(f:Int):=by push_cast;rfl
 rw[et2,ec] at pt;rw[ec] at lk;have hst:iu e.1 e.2 B3 f=match dm (e.1+f) B3 with
   |none=>putN (e.1+f) (e.2++[f]) B3
   |some _=>B3:=rfl
 have hst':=Box.mk hst;clear hst;try simp only[wyT,bA] at pt
 simp only[wyT,bA];cases el2:dm (e.1+f) B3 with
 |none =>
  rw[el2] at lk hst';rw[Option.map_none] at lk;have yes:=Box.mk (fun v6=>hN3.out v6 _ kb.put (by rw[aD (Ne.symm npf)];exact gf) (by rw[aC,hst'.out,<- pt]));try simp only[wyT,bA] at yes
  clear hN3 pt et2;walk_at "";exact⟨trivial,by omega,by omega,by omega,yes.out _⟩
 |some u =>
 rw[el2] at lk hst';rw[Xv] at lk;have no:=Box.mk (fun v6=>hN3.out v6 H kb gf (by rw[hst'.out];exact gb));try simp only[wyT,bA] at no
 clear hN3 pt et2;walk_at "";exact⟨trivial,by omega,by omega,by omega,no.out _⟩
abbrev cD:List Str:=["self","stand","done"]
theorem lY:FnScope cD cD (au (topm 27 2)):=bh
theorem lZ {f:Addr}{fd:FuncData}{C_Walk:Addr}(g:GM K C_Walk "greatest_at" "Walk.greatest_at" (topm 27 2) cD f fd) (B:Bl mg) (I_Walk:InsC K C_Walk ["works","beat","rules","whole"]) (F_greatest_numbers:Cal P w K mg base 2 "greatest_numbers" (top 24) ["numbers"] Td) (M_fillings_at:MtC P w K mg base C_Walk 3 "fillings_at" cD (S8 C_Walk)):MtC P w K mg base C_Walk 4 "greatest_at" cD (Te C_Walk):=by
 refine⟨g.cls,f,fd,g.mt,g.b,?_⟩;refine fn3 g.fn lY (fun ts H Q h=>?_) (fun cdv A outer s H E ts H3 Q hr h=>?_)
 ·obtain⟨a,W,beat,k,d,rfl,_⟩:=h;rfl
 obtain⟨a,W,beat,k,d,rfl,hW,hw,hk,hd,kk⟩:=h;refine⟨_,(aq (aM (aJ F_greatest_numbers hr rfl (aa (pO M_fillings_at (hr.mono (by decide)) (v3 0) (aa (v3 1) (aa (v3 2) aj))) aj)))),?_⟩;rw[show aO cD [T.ref a,T.int (k:Int),T.int (d:Int)]=[some (T.ref a),some (T.int (k:Int)),some (T.int (d:Int))] from rfl];have hsz:sizeLine=16777216:=rfl;have k':=Box.mk kk;clear kk;have t2:=pZ hW;obtain⟨pw,gw,_⟩:=hw.ex;have lm:=CW (W:=W) (beat:=beat) (p:=pw) (m:="fillings_at") (by decide +kernel);walk_at "";refine⟨by first | trivial | exact lm,a,W,beat,k,d,rfl,hW,hw,hk,hd,fun pf hpf=>?_⟩;have flen:(fls W beat k d).length<=256:=U8 (Vk _ _) (by rw[n_];exact t2);refine⟨pf,fls W beat k d,rfl,aC,flen,fun p hp=>?_⟩;have hs1:Sub3 H3 (up3 H3 pf (.lst ((fls W beat k d).map bA))):=Sub3.new hpf;refine Fin3.of ?_ (k'.out p (di hs1 hp));intro b o hb;by_cases e:b=p
 ·subst e;rw[aC] at hb ⊢;exact hb
 rw[aD e] at hb ⊢;exact hs1 b o hb
def Ox:Sp3:=fun ts H Q=>∃W:Wk,ts=[W.enc]/\WkOk W/\∀p,H p=none->Q (.ref p) (up3 H p (.lst ((lkW ["with"] W).map orT)))
def Oz:Sp3:=fun ts H Q=>∃(x:T) (L:List (Str × Str)) (s:Str),ts=[x,.str s]/\((∃a,x=.ref a/\H a=some (.lst (L.map orT)))\/x=.tup (L.map orT))/\L.length<=100 /\
 ∀(p:Addr) (kvs:List (Str × T)),H p=none->(∀z,(aN z kvs).isSome=true↔RT (fun a b=>(a,b)∈L) s z)->Q (.ref p) (up3 H p (.dct kvs))
def OD:Sp3:=fun ts H Q=>∃(W:Wk) (t:Str),ts=[W.enc,.str t]/\WkOk W/\∀(p:Addr) (kvs:List (Str × T)),H p=none->(∀z,(aN z kvs).isSome=true↔RT (lkR ["with"] W) t z)->Q (.ref p) (up3 H p (.dct kvs))
def OJ:Sp3:=fun ts H Q=>∃(W:Wk) (t:Str),ts=[W.enc,.str t]/\WkOk W/\∀(p:Addr) (kvs:List (Str × T)),H p=none->(∀z,(aN z kvs).isSome=true↔RT (lkR ["with"] W) z t)->Q (.ref p) (up3 H p (.dct kvs))
def Tr:Sp3:=fun ts H Q=>∃(W:Wk) (a b:Addr) (ka kb:List (Str × T)),ts=[W.enc,.ref a,.ref b]/\WkOk W/\H a=some (.dct ka)/\H b=some (.dct kb)/\Q (sT ((W.tasks.map (·.1)).filter fun x=>(aN x ka).isSome&&(aN x kb).isSome)) H
def Tt:Sp3:=fun ts H Q=>∃(W:Wk) (a b:Addr) (ka kb:List (Str × T)),ts=[W.enc,.ref a,.ref b]/\WkOk W/\H a=some (.dct ka)/\H b=some (.dct kb)/\Q (sT ((W.tasks.map (·.1)).filter fun x=>(aN x ka).isSome&&!(aN x kb).isSome)) H
def Tu:Sp3:=fun ts H Q=>∃(W:Wk) (t:Str),ts=[W.enc,.str t]/\WkOk W/\Q (sT (fj W t)) H
def Tv:Sp3:=fun ts H Q=>∃(W:Wk) (t:Str),ts=[W.enc,.str t]/\WkOk W/\Q (sT (iM W t)) H
abbrev mj:List Str:=["works","links","word","one","other"]
theorem sc_links_of:FnScope mj ["works"] (au (top 2)):=bh
theorem su {f:Addr}{fd:FuncData}(g:G3 K mg "links_of" (top 2) ["works"] f fd) (B:Bl mg):Cal P w K mg base 1 "links_of" (top 2) ["works"] Ox:=by
 refine⟨f,fd,g,?_⟩;refine fn3 g.fn sc_links_of (fun ts H Q h=>?_) (fun cdv A outer s H E ts H3 Q hr h=>?_)
 ·obtain⟨W,rfl,_⟩:=h;rfl
 have hu30:=Room.u30 hr;obtain⟨⟨tk,ors,prs,row⟩,rfl,hW,k⟩:=h;refine⟨_,(ak (aF (i:=1) sc_links_of.nd (bc pG rfl B.list_ iW (aa (aK ix3 (v3 0) ao) aj)))
   (ak (bx H_ rfl (c7 (aK ix3 (v3 0) ao)) (cB (n:=3) rfl (aG (aB (i:=2) sc_links_of.nd) (aG (aB (i:=3) sc_links_of.nd) (aG (aB (i:=4) sc_links_of.nd) bM)))) (aq (bQ (aU (cY hu30) (v3 2) fU) (ak (bI (cN J_ M_ N_ bu (v3 1) (aa (bf (aa (v3 3) (aa (v3 4) aj))) aj)))
     (aq (bI (cN J_ M_ N_ bu (v3 1) (aa (bf (aa (v3 4) (aa (v3 3) aj))) aj))))) aY)))
   (aq (aM (v3 1))))),?_⟩
 rw[show aO mj [Wk.enc ⟨tk,ors,prs,row⟩]=[some (T.tup [T.tup (tk.map tkT),T.tup (ors.map orT),T.tup (prs.map prT),T.tup (row.map T.str)]),none,none,none,none] from rfl];have hsz:sizeLine=16777216:=rfl;have os28:ors.length<=28:=hW.os;have ps12:prs.length<=12:=hW.ps;walk_at "";intro p hp;refine aV prT prs (fun A Z H=>∃(v2 v3 v4:Option T),Z=[some (T.tup [T.tup (tk.map tkT),T.tup (ors.map orT),T.tup (prs.map prT),T.tup (row.map T.str)]),some (.ref p),v2,v3,v4]/\H=up3 H3 p (.lst ((ors++A.flatMap (lkP ["with"])).map orT))) ⟨none,none,none,rfl,by simp⟩ ?_ ?_
 ·rintro Z H ⟨v2,v3,v4,rfl,rfl⟩;refine⟨trivial,?_⟩;walk_at "";exact Fin3.of Sub3.refl (k p hp)
 rintro A ⟨w,a,b⟩ B Z H N e ⟨v2,v3,v4,rfl,rfl⟩ hN;have hl:=pX ["with"] A;have hA:A.length<=12:=by have:=Q_ List.length e;simp only[b_,j_] at this;omega
 have hl2:(ors++A.flatMap (lkP ["with"])).length<=52:=by rw[b_];omega
 have fin:N [some (T.tup [T.tup (tk.map tkT),T.tup (ors.map orT),T.tup (prs.map prT),T.tup (row.map T.str)]),some (.ref p),some (.str w),some (.str a),some (.str b)] (up3 H3 p (.lst ((ors++A.flatMap (lkP ["with"])).map orT++(lkP ["with"] (w,a,b)).map orT))):=hN _ _ ⟨_,_,_,rfl,by rw[List.flatMap_append,<- Vq,u_];simp⟩;generalize ors++A.flatMap (lkP ["with"])=cur at fin hl2;replace fin:=Box.mk fin;refine⟨trivial,?_⟩;clear hN e k hW hl;simp only[prT];walk_at "";refine⟨trivial,?_⟩;by_cases hw:w="with"
 ·subst hw;have e1:lkP ["with"] ("with",a,b)=[(a,b),(b,a)]:=by unfold lkP;simp
  rw[e1] at fin;try simp only[WP,if_true]
  refine⟨⟨trivial,trivial⟩,by omega,by omega,⟨trivial,trivial⟩,by omega,by simp;omega,?_⟩;have fo:=fin.out;simp only[A_,VJ,orT] at fo;rw[Vq];exact fo
 have e1:lkP ["with"] (w,a,b)=[]:=by unfold lkP;simp [hw]
 rw[e1,VJ,S_] at fin;simp only[hw,Wl,y_,U7];exact fin.out
abbrev oR:List Str:=["links","start","found","grown","one","other"]
theorem sc_reached:FnScope oR ["links","start"] (au (top 3)):=bh
theorem uN {f:Addr}{fd:FuncData}(g:G3 K mg "reached" (top 3) ["links","start"] f fd) (B:Bl mg):Cal P w K mg base 1 "reached" (top 3) ["links","start"] Oz:=by
 refine⟨f,fd,g,?_⟩;refine fn3 g.fn sc_reached (fun ts H Q h=>?_) (fun cdv A outer s H E ts H3 Q hr h=>?_)
 ·obtain⟨x,L,s,rfl,_⟩:=h;rfl
 have hu1:=Room.u1 hr;obtain⟨x,L,s0,rfl,hx,hL,k⟩:=h;refine⟨_,(ak (aF (i:=2) sc_reached.nd (Aa (v3 1) gB))
   (ak (aF (i:=3) sc_reached.nd gB)
   (ak (iT H_ (dw (v3 3)) (ak (aF (i:=3) sc_reached.nd gB)
    (aq (bx H_ rfl (FW 0) (cB (n:=2) rfl (aG (aB (i:=4) sc_reached.nd) (aG (aB (i:=5) sc_reached.nd) bM))) (aq (bQ (PW3.pt (cU (pJ hu1 (v3 4) (v3 2)) (cT (nT hu1 (v3 5) (v3 2))))) (ak (vH hu1 (v3 2) (v3 5) gB)
      (aq (aF (i:=3) sc_reached.nd gB))) aY))))))
   (aq (aM (v3 2)))))),?_⟩
 rw[show aO oR [x,T.str s0]=[some (x),some (T.str s0),none,none,none,none] from rfl];have hsz:sizeLine=16777216:=rfl;walk_at "";intro p hp;refine⟨trivial,?_⟩;rw[NK];refine⟨fun m Z H=>∃(F:List Str) (g:Bool) (v4 v5:Option T),Z=[some x,some (.str s0),some (.ref p),some (.bl g),v4,v5]/\H=up3 H3 p (.dct (dF F))/\s0∈F/\F.Nodup/\(∀z∈F,RT (fun a b=>(a,b)∈L) s0 z)/\(g=false->∀a b,(a,b)∈L->a∈F->b∈F)/\m=2*(L.length+1 - F.length)+(if g then 1 else 0),
  ⟨_,[s0],true,none,none,rfl,rfl,t_,by simp,(fun z hz=>by rw[i_.mp hz];exact .refl),(fun z=>nomatch z),rfl⟩,?_⟩
 have bound:∀F:List Str,F.Nodup->(∀z∈F,RT (fun a b=>(a,b)∈L) s0 z)->F.length<=L.length+1:=fun F nd hF=>by
  have:=Cp (l:=F) (m:=s0::L.map (·.2)) nd fun z hz=>by
   cases hF z hz with
   |refl=>exact t_
   |step _ r=>exact v_ _ (k_.mpr ⟨_,r,rfl⟩)
  simpa using this
 rintro m Z H ⟨F,g,v4,v5,rfl,rfl,hs,nd,hR,hg,rfl⟩;walk_at "";cases g with
 |false=>simp only[y_,U7];refine Fin3.of Sub3.refl (k p _ hp fun z=>?_);rw[j8,q_];exact⟨hR z,fun h=>RQ hs (hg rfl) h⟩
 |true =>
  try simp only[if_true]
  have hx':(∃a,x=.ref a/\up3 H3 p (.dct (dF F)) a=some (.lst (L.map orT)))\/x=.tup (L.map orT):=by
   rcases hx with ⟨a,rfl,e⟩ | e
   ·
    exact .inl ⟨a,rfl,by rw[aD (aX e hp)];exact e⟩
   ·
    exact .inr e
  refine Cu hx' fun still hst=>?_
  have hst':∀F',still (up3 H3 p (.dct (dF F'))):=by
   rcases hst with rfl | ⟨a,rfl,e⟩
   ·
    exact fun _=>trivial
   ·
    have hpa:a≠p:=fun z=>by subst z;rw[aC] at e;cases e
    rw[aD hpa] at e
    exact fun F'=>.inl (by rw[aD hpa];exact e)
  refine aV orT L (fun A Z H=>∃(F':List Str) (g':Bool) (v4 v5:Option T),Z=[some x,some (.str s0),some (.ref p),some (.bl g'),v4,v5]/\H=up3 H3 p (.dct (dF F'))/\s0∈F'/\F'.Nodup/\(∀z∈F',RT (fun a b=>(a,b)∈L) s0 z)/\(g'=false->F'=F/\∀o∈A,o.1∈F->o.2∈F)/\(g'=true->F.length<F'.length)) ⟨F,false,v4,v5,rfl,rfl,hs,nd,hR,fun _=>⟨rfl,(fun _ h=>nomatch h)⟩,(fun z=>nomatch z)⟩ ?_ ?_
  ·
   rintro Z H ⟨F',g',v4,v5,rfl,rfl,hs',nd',hR',h1,h2⟩
   refine⟨hst' F',?_⟩
   have b1:=bound F nd hR
   have b2:=bound F' nd' hR'
   cases g' with
   |true =>
    have:=h2 rfl
    exact⟨_,by simp only[if_true];omega,F',true,v4,v5,rfl,rfl,hs',nd',hR',(fun z=>nomatch z),rfl⟩
   |false =>
    obtain⟨e,hc⟩:=h1 rfl
    subst e
    exact⟨_,by simp,F',false,v4,v5,rfl,rfl,hs',nd',hR',fun _ a b hab ha=>hc (a,b) hab ha,rfl⟩
  ·
   rintro A ⟨a,b⟩ B Z H N e ⟨F',g',v4,v5,rfl,rfl,hs',nd',hR',h1,h2⟩ hN
   refine⟨hst' F',?_⟩
   have hab:(a,b)∈L:=by rw[e];simp
   have b2:=bound F' nd' hR'
   have l1:=j8 a F'
   have l2:=j8 b F'
   have l3:=NB F'
   have no:¬(a∈F'/\b∉F')->N [some x,some (.str s0),some (.ref p),some (.bl g'),some (.str a),some (.str b)] (up3 H3 p (.dct (dF F'))):=fun hno=>hN _ _ ⟨F',g',_,_,rfl,rfl,hs',nd',hR',fun hg'=>by
    obtain⟨e1,hc⟩:=h1 hg'
    subst e1
    refine⟨rfl,fun o ho=>?_⟩
    rcases D_.mp ho with ho | ho
    ·
     exact hc o ho
    ·
     rw[i_.mp ho]
     intro ha
     exact Classical.byContradiction fun hb=>hno ⟨ha,hb⟩,h2⟩
   have yes:a∈F'->b∉F'->N [some x,some (.str s0),some (.ref p),some (.bl true),some (.str a),some (.str b)] (up3 H3 p (.dct (put3 b (T.bl true) (dF F')))):=fun ha hb=>by
    rw[Nz hb]
    refine hN _ _ ⟨F'++[b],true,_,_,rfl,rfl,Ve _ hs',jX nd' hb,fun z hz=>?_,(fun z=>nomatch z),fun _=>?_⟩
    ·
     rcases D_.mp hz with hz | hz
     ·
      exact hR' z hz
     ·
      rw[i_.mp hz]
      exact .step (hR' a ha) hab
    ·
     rw[b_,G_]
     cases g' with
     |true=>have:=h2 rfl;omega
     |false=>obtain⟨e1,_⟩:=h1 rfl;subst e1;omega
   replace no:=Box.mk no
   replace yes:=Box.mk yes
   clear hN h1 h2 hst' hst bound k hx hx' hg hR hR' nd nd' hs hs' e hab
   simp only[orT]
   walk_at ""
   refine⟨trivial,?_⟩
   by_cases ha:a∈F'
   ·
    simp only[ha,WP,if_true]
    by_cases hb:b∈F'
    ·
     simp only[hb,WP,V4,y_,U7]
     exact no.out fun z=>z.2 hb
    ·
     simp only[hb,Wl,Wc,if_true]
     exact⟨by omega,yes.out ha hb⟩
   ·
    simp only[ha,Wl,y_,U7]
    exact no.out fun z=>ha z.1
abbrev gR:List Str:=["works","task"]
theorem yL:FnScope gR gR (au (top 4)):=bh
theorem yM {f:Addr}{fd:FuncData}(g:G3 K mg "led_to" (top 4) gR f fd) (B:Bl mg) (F_reached:Cal P w K mg base 1 "reached" (top 3) ["links","start"] Oz) (F_links_of:Cal P w K mg base 1 "links_of" (top 2) ["works"] Ox):Cal P w K mg base 2 "led_to" (top 4) gR OD:=by
 refine⟨f,fd,g,?_⟩;refine fn3 g.fn yL (fun ts H Q h=>?_) (fun cdv A outer s H E ts H3 Q hr h=>?_)
 ·obtain⟨W,t,rfl,_⟩:=h;rfl
 obtain⟨W,t,rfl,hW,k⟩:=h;refine⟨_,(aq (aM (aJ F_reached hr rfl (aa (aJ F_links_of hr rfl (aa (v3 0) aj)) (aa (v3 1) aj))))),?_⟩;rw[show aO gR [W.enc,T.str t]=[some (W.enc),some (T.str t)] from rfl];walk_at "";refine⟨W,rfl,hW,fun q hq=>?_⟩;try dsimp only
 refine⟨_,lkW ["with"] W,t,rfl,.inl ⟨q,rfl,aC⟩,U8 (wD hW) (by decide),fun p kvs hp hk=>?_⟩;obtain⟨n1,hp⟩:=b8 hp;refine Fin3.of (fun a o e=>?_) (k p kvs hp hk);by_cases h:a=p
 ·subst h;rw[aC] at e ⊢;exact e
 rw[aD h] at e ⊢;rw[aD (aX e hq)];exact e
abbrev dz:List Str:=["works","task"]
theorem sy:FnScope dz dz (au (top 5)):=bh
theorem sE {f:Addr}{fd:FuncData}(g:G3 K mg "led_from" (top 5) dz f fd) (B:Bl mg) (F_reached:Cal P w K mg base 1 "reached" (top 3) ["links","start"] Oz) (F_links_of:Cal P w K mg base 1 "links_of" (top 2) ["works"] Ox):Cal P w K mg base 2 "led_from" (top 5) dz OJ:=by
 refine⟨f,fd,g,?_⟩;refine fn3 g.fn sy (fun ts H Q h=>?_) (fun cdv A outer s H E ts H3 Q hr h=>?_)
 ·obtain⟨W,t,rfl,_⟩:=h;rfl
 obtain⟨W,t,rfl,hW,k⟩:=h;refine⟨_,(aq (aM (aJ F_reached hr rfl (aa (bz rfl (bB (n0:=(au (top 5)).names) (N:=dz) (N':=["one","other"]) (nt:=2) (cap:=[]) rfl rfl (by decide +kernel)) (cj (aJ F_links_of hr rfl (aa (v3 0) aj))) (fun cl pins s H C0 fp=>⟨(cB (n:=2) rfl (aG (aB (i:=0) (show List.Nodup [("one":Str),("other":Str)] by decide +kernel)) (aG (aB (i:=1) (show List.Nodup [("one":Str),("other":Str)] by decide +kernel)) bM))),bD,(bf (aa (v3 1) (aa (v3 0) aj)))⟩)) (aa (v3 1) aj))))),?_⟩;rw[show aO dz [W.enc,T.str t]=[some (W.enc),some (T.str t)] from rfl];have hsz:sizeLine=16777216:=rfl;have hl:=wD (ws:=["with"]) hW;walk_at "";refine⟨W,rfl,hW,fun q hq=>?_⟩;try dsimp only
 rw[qX,aC,lA];walk_at "c";refine cz orT (lkW ["with"] W) (fun A ys Z H=>H=up3 H3 q (.lst ((lkW ["with"] W).map orT))/\ys=(A.map swp).map orT/\∃v0 v1:Option T,Z=[v0,v1]) ⟨rfl,rfl,none,none,rfl⟩ ?_ ?_
 ·rintro ys Z H ⟨rfl,rfl,v0,v1,rfl⟩;refine⟨.inl aC,by rw[d_,d_];omega,fun r hr=>?_⟩;obtain⟨n0,hr0⟩:=b8 hr;refine⟨_,(lkW ["with"] W).map swp,t,rfl,.inl ⟨r,rfl,aC⟩,by rw[d_];omega,fun p kvs hp hk=>?_⟩;obtain⟨n1,hp⟩:=b8 hp;obtain⟨n2,hp⟩:=b8 hp;refine Fin3.of (fun a o e=>?_) (k p kvs hp fun z=>(hk z).trans NP);by_cases h:a=p
  ·subst h;rw[aC] at e ⊢;exact e
  rw[aD h] at e ⊢;rw[aD (aX e hr0),aD (aX e hq)];exact e
 rintro A ⟨a,b⟩ B ys Z H N e ⟨rfl,rfl,v0,v1,rfl⟩ hN;have hA:A.length<=52:=by have:=Q_ List.length e;simp only[b_,j_] at this;omega
 refine⟨.inl aC,?_⟩;have fin:=hN (((A.map swp).map orT)++[orT (b,a)]) [some (.str a),some (.str b)] _ ⟨rfl,by rw[u_,u_];rfl,_,_,rfl⟩;replace fin:=Box.mk fin;clear hN k e;simp only[orT] at fin ⊢;walk_at "";exact⟨trivial,by omega,by omega,fin.out⟩
abbrev dN:List Str:=["works","found","other"]
theorem uO:FnScope dN dN (au (top 6)):=bh
theorem uP {f:Addr}{fd:FuncData}(g:G3 K mg "in_both" (top 6) dN f fd) (B:Bl mg):Cal P w K mg base 1 "in_both" (top 6) dN Tr:=by
 refine⟨f,fd,g,?_⟩;refine fn3 g.fn uO (fun ts H Q h=>?_) (fun cdv A outer s H E ts H3 Q hr h=>?_)
 ·obtain⟨W,a,b,ka,kb,rfl,_⟩:=h;rfl
 have hu1:=Room.u1 hr;obtain⟨⟨tk,ors,prs,row⟩,a,b,ka,kb,rfl,hW,ha,hb,k⟩:=h;refine⟨_,(aq (aM (bc bY rfl B.tuple_ bK (aa (bz rfl (bB (n0:=(au (top 6)).names) (N:=dN) (N':=["task","found","other"]) (nt:=1) (cap:=[1,2]) rfl rfl (by decide +kernel)) (c7 (aK ix3 (v3 0) ao)) (fun cl pins s H C0 fp=>⟨(aB (i:=0) (show List.Nodup [("task":Str),("found":Str),("other":Str)] by decide +kernel)),(gY (PW3.pt (cU (pJ hu1 (aK ix3 (v3 0) ao) (v3 1)) (cT (pJ hu1 (aK ix3 (v3 0) ao) (v3 2)))))),(aK ix3 (v3 0) ao)⟩)) aj)))),?_⟩;rw[show aO dN [Wk.enc ⟨tk,ors,prs,row⟩,T.ref a,T.ref b]=[some (T.tup [T.tup (tk.map tkT),T.tup (ors.map orT),T.tup (prs.map prT),T.tup (row.map T.str)]),some (T.ref a),some (T.ref b)] from rfl];have hsz:sizeLine=16777216:=rfl;have t8:tk.length<=8:=hW.t8;walk_at "";walk_at "c";refine f9 tkT (fun t=>T.str t.1) (fun t=>(aN t.1 ka).isSome&&(aN t.1 kb).isSome) tk [some (.ref a),some (.ref b)] trivial (by omega) (fun t ht Q' hq=>?_) (fun t ht hpt Q' hq=>?_) (fun p hp=>?_)
 ·obtain⟨nm,len,ks⟩:=t;simp only[tkT];dsimp only at hq;cases e1:(aN nm ka).isSome <;> cases e2:(aN nm kb).isSome <;> simp only[e1,e2,X_,Bool.and_false,V4,Wc,Yq,Bool.false_and] at hq <;> walk_at ""
 ·simp only[tkT];walk_at "";try exact hq
 walk_at "";refine Fin3.of (Sub3.new hp) ?_;have e:(tk.filter fun t=>(aN t.1 ka).isSome&&(aN t.1 kb).isSome).map (fun t=>T.str t.1)=((tk.map (·.1)).filter fun x=>(aN x ka).isSome&&(aN x kb).isSome).map T.str:=by rw[Yg,Vg];rfl
 rw[e];exact k
abbrev cV:List Str:=["works","task"]
theorem sG:FnScope cV cV (au (top 8)):=bh
theorem sH {f:Addr}{fd:FuncData}(g:G3 K mg "group_of" (top 8) cV f fd) (B:Bl mg) (F_in_both:Cal P w K mg base 1 "in_both" (top 6) ["works","found","other"] Tr) (F_led_to:Cal P w K mg base 2 "led_to" (top 4) cV OD) (F_led_from:Cal P w K mg base 2 "led_from" (top 5) cV OJ):Cal P w K mg base 3 "group_of" (top 8) cV Tu:=by
 refine⟨f,fd,g,?_⟩;refine fn3 g.fn sG (fun ts H Q h=>?_) (fun cdv A outer s H E ts H3 Q hr h=>?_)
 ·obtain⟨W,t,rfl,_⟩:=h;rfl
 obtain⟨W,t,rfl,hW,k⟩:=h;refine⟨_,(aq (aM (aJ F_in_both hr rfl (aa (v3 0) (aa (aJ F_led_to hr rfl (aa (v3 0) (aa (v3 1) aj))) (aa (aJ F_led_from hr rfl (aa (v3 0) (aa (v3 1) aj))) aj)))))),?_⟩;rw[show aO cV [W.enc,T.str t]=[some (W.enc),some (T.str t)] from rfl];walk_at "";refine⟨W,t,rfl,hW,fun p ka hp hka=>?_⟩;try dsimp only
 refine⟨W,t,rfl,hW,fun q kb hq hkb=>?_⟩;obtain⟨n1,hq0⟩:=b8 hq;try dsimp only
 refine⟨W,p,q,ka,kb,rfl,hW,by rw[aD (Ne.symm n1)];exact aC,aC,?_⟩;refine Fin3.of (fun a o e=>by rw[aD (aX e hq0),aD (aX e hp)];exact e) ?_;rw[show (W.tasks.map (·.1)).filter (fun x=>(aN x ka).isSome&&(aN x kb).isSome)=fj W t from ?_]
 ·exact k
 unfold fj;refine V1 fun x hx=>?_;rw[Vi,Vf,@q_ _ (Classical.propDecidable _),hka x,hkb x]
abbrev bT:List Str:=["works","found","other"]
theorem jn:FnScope bT bT (au (top 7)):=bh
theorem jo {f:Addr}{fd:FuncData}(g:G3 K mg "in_first_alone" (top 7) bT f fd) (B:Bl mg):Cal P w K mg base 1 "in_first_alone" (top 7) bT Tt:=by
 refine⟨f,fd,g,?_⟩;refine fn3 g.fn jn (fun ts H Q h=>?_) (fun cdv A outer s H E ts H3 Q hr h=>?_)
 ·obtain⟨W,a,b,ka,kb,rfl,_⟩:=h;rfl
 have hu1:=Room.u1 hr;obtain⟨⟨tk,ors,prs,row⟩,a,b,ka,kb,rfl,hW,ha,hb,k⟩:=h;refine⟨_,(aq (aM (bc bY rfl B.tuple_ bK (aa (bz rfl (bB (n0:=(au (top 7)).names) (N:=bT) (N':=["task","found","other"]) (nt:=1) (cap:=[1,2]) rfl rfl (by decide +kernel)) (c7 (aK ix3 (v3 0) ao)) (fun cl pins s H C0 fp=>⟨(aB (i:=0) (show List.Nodup [("task":Str),("found":Str),("other":Str)] by decide +kernel)),(gY (PW3.pt (cU (pJ hu1 (aK ix3 (v3 0) ao) (v3 1)) (cT (nT hu1 (aK ix3 (v3 0) ao) (v3 2)))))),(aK ix3 (v3 0) ao)⟩)) aj)))),?_⟩;rw[show aO bT [Wk.enc ⟨tk,ors,prs,row⟩,T.ref a,T.ref b]=[some (T.tup [T.tup (tk.map tkT),T.tup (ors.map orT),T.tup (prs.map prT),T.tup (row.map T.str)]),some (T.ref a),some (T.ref b)] from rfl];have hsz:sizeLine=16777216:=rfl;have t8:tk.length<=8:=hW.t8;walk_at "";walk_at "c";refine f9 tkT (fun t=>T.str t.1) (fun t=>(aN t.1 ka).isSome&&!(aN t.1 kb).isSome) tk [some (.ref a),some (.ref b)] trivial (by omega) (fun t ht Q' hq=>?_) (fun t ht hpt Q' hq=>?_) (fun p hp=>?_)
 ·obtain⟨nm,len,ks⟩:=t;simp only[tkT];dsimp only at hq;cases e1:(aN nm ka).isSome <;> cases e2:(aN nm kb).isSome <;> simp only[e1,e2,X_,Bool.and_false,V4,Wc,Yq,Bool.false_and] at hq <;> walk_at ""
 ·simp only[tkT];walk_at "";try exact hq
 walk_at "";refine Fin3.of (Sub3.new hp) ?_;have e:(tk.filter fun t=>(aN t.1 ka).isSome&&!(aN t.1 kb).isSome).map (fun t=>T.str t.1)=((tk.map (·.1)).filter fun x=>(aN x ka).isSome&&!(aN x kb).isSome).map T.str:=by rw[Yg,Vg];rfl
 rw[e];exact k
abbrev cW:List Str:=["works","task"]
theorem sI:FnScope cW cW (au (top 9)):=bh
theorem sJ {f:Addr}{fd:FuncData}(g:G3 K mg "ahead_of" (top 9) cW f fd) (B:Bl mg) (F_in_first_alone:Cal P w K mg base 1 "in_first_alone" (top 7) ["works","found","other"] Tt) (F_led_from:Cal P w K mg base 2 "led_from" (top 5) cW OJ) (F_led_to:Cal P w K mg base 2 "led_to" (top 4) cW OD):Cal P w K mg base 3 "ahead_of" (top 9) cW Tv:=by
 refine⟨f,fd,g,?_⟩;refine fn3 g.fn sI (fun ts H Q h=>?_) (fun cdv A outer s H E ts H3 Q hr h=>?_)
 ·obtain⟨W,t,rfl,_⟩:=h;rfl
 obtain⟨W,t,rfl,hW,k⟩:=h;refine⟨_,(aq (aM (aJ F_in_first_alone hr rfl (aa (v3 0) (aa (aJ F_led_from hr rfl (aa (v3 0) (aa (v3 1) aj))) (aa (aJ F_led_to hr rfl (aa (v3 0) (aa (v3 1) aj))) aj)))))),?_⟩;rw[show aO cW [W.enc,T.str t]=[some (W.enc),some (T.str t)] from rfl];walk_at "";refine⟨W,t,rfl,hW,fun p ka hp hka=>?_⟩;try dsimp only
 refine⟨W,t,rfl,hW,fun q kb hq hkb=>?_⟩;obtain⟨n1,hq0⟩:=b8 hq;try dsimp only
 refine⟨W,p,q,ka,kb,rfl,hW,by rw[aD (Ne.symm n1)];exact aC,aC,?_⟩;refine Fin3.of (fun a o e=>by rw[aD (aX e hq0),aD (aX e hp)];exact e) ?_;rw[show (W.tasks.map (·.1)).filter (fun x=>(aN x ka).isSome&&!(aN x kb).isSome)=iM W t from ?_]
 ·exact k
 unfold iM;refine V1 fun x hx=>?_;rw[Vi,Vf,@q_ _ (Classical.propDecidable _),hka x,Bool.not_eq_true',<- Bool.not_eq_true,hkb x]
def Dz:Sp3:=fun ts H Q=>∃(W:Wk) (x:T) (ss:List Str),ts=[W.enc,x]/\WkOk W/\RW H x ss/\Q (.int (numOf (W.tasks.map (·.1)) ss)) H
def JQ:Sp3:=fun ts H Q=>∃(W:Wk) (n:Int),ts=[W.enc,.int n]/\WkOk W/\0<=n/\n<2^W.tasks.length/\Q (sT (pick (W.tasks.map (·.1)) n)) H
def JR:Sp3:=fun ts H Q=>∃(ks:List Str) (k:Str),ts=[sT ks,.str k]/\Q (.bl (jT ks k)) H
def wW:Sp3:=fun ts H Q=>∃a b:Int,ts=[.int a,.int b]/\Q (.bl (decide (Builtin.bitAnd a b=b))) H
def JS:Sp3:=fun ts H Q=>∃(W:Wk) (t:Str),ts=[W.enc,.str t]/\WkOk W/\∀p,H p=none->Q (.ref p) (up3 H p (.lst ((je W t).map T.str)))
def JT:Sp3:=fun ts H Q=>∃W:Wk,ts=[W.enc]/\WkOk W/\∀p,H p=none->Q (.ref p) (up3 H p (.lst (W.tasks.map (ruT W (W.tasks.map (·.1))))))
def JV:Sp3:=fun ts H Q=>∃(W:Wk) (a:Addr) (beat:Int) (kind:Str) (D S:List Str),ts=[.ref a,.int beat,.str kind,.int (numOf (W.tasks.map (·.1)) D),.int (numOf (W.tasks.map (·.1)) S)]/\WkOk W/\H a=some (.lst (W.tasks.map (ruT W (W.tasks.map (·.1)))))/\Q (.bl (uA W beat kind D S)) H
abbrev jO:List Str:=["works","tasks","number","worth","task"]
theorem sc_number_of:FnScope jO ["works","tasks"] (au (top 17)):=bh
theorem qm {f:Addr}{fd:FuncData}(g:G3 K mg "number_of" (top 17) ["works","tasks"] f fd) (B:Bl mg):Cal P w K mg base 1 "number_of" (top 17) ["works","tasks"] Dz:=by
 refine⟨f,fd,g,?_⟩;refine fn3 g.fn sc_number_of (fun ts H Q h=>?_) (fun cdv A outer s H E ts H3 Q hr h=>?_)
 ·obtain⟨W,x,ss,rfl,_⟩:=h;rfl
 have hu31:=Room.u31 hr;obtain⟨⟨tk,ors,prs,row⟩,x,ss,rfl,hW,hx,k⟩:=h;refine⟨_,(ak (aF (i:=2) sc_number_of.nd ao)
   (ak (aF (i:=3) sc_number_of.nd ao)
   (ak (bx H_ rfl (c7 (aK ix3 (v3 0) ao)) (aB (i:=4) sc_number_of.nd) (ak (bQ (aU (zQ hu31) (aK ix3 (v3 4) ao) (v3 1) rfl) (aq (aF (i:=2) sc_number_of.nd (aH aR (v3 2) (v3 3)))) aY)
    (aq (aF (i:=3) sc_number_of.nd (aH dY (v3 3) ao)))))
   (aq (aM (v3 2)))))),?_⟩
 rw[show aO jO [Wk.enc ⟨tk,ors,prs,row⟩,x]=[some (T.tup [T.tup (tk.map tkT),T.tup (ors.map orT),T.tup (prs.map prT),T.tup (row.map T.str)]),some (x),none,none,none] from rfl];have hsz:sizeLine=16777216:=rfl;have t8:tk.length<=8:=hW.t8;walk_at "";refine aV tkT tk (fun A Z H=>∃v:Option T,H=H3/\Z=[some (T.tup [T.tup (tk.map tkT),T.tup (ors.map orT),T.tup (prs.map prT),T.tup (row.map T.str)]),some x,some (.int (numOf (A.map (·.1)) ss)),some (.int (2^A.length)),v]) ⟨none,rfl,rfl⟩ ?_ ?_
 ·rintro Z H ⟨v,rfl,rfl⟩;refine⟨trivial,?_⟩;walk_at "";exact Fin3.of Sub3.refl k
 rintro A t B Z H N e ⟨v,rfl,rfl⟩ hN;have hlA:A.length+1<=8:=by have:=Q_ List.length e;simp only[b_,j_] at this;omega
 have p3:0<(2:Int)^A.length/\(2:Int)^A.length<=256:=by
  have:A.length=0\/A.length=1\/A.length=2\/A.length=3\/A.length=4\/A.length=5\/A.length=6\/A.length=7:=by omega
  rcases this with e | e | e | e | e | e | e | e <;> rw[e] <;> decide
 have cm:CMul (2^A.length) 2:=.inl ⟨by omega,by omega⟩;have fin:∀v,N [some (T.tup [T.tup (tk.map tkT),T.tup (ors.map orT),T.tup (prs.map prT),T.tup (row.map T.str)]),some x,some (.int (numOf (A.map (·.1)) ss+2^A.length*(if t.1∈ss then 1 else 0))),some (.int (2^A.length*2)),v] H:=fun v=>by have:=hN [some (T.tup [T.tup (tk.map tkT),T.tup (ors.map orT),T.tup (prs.map prT),T.tup (row.map T.str)]),some x,some (.int (numOf ((A++[t]).map (·.1)) ss)),some (.int (2^(A++[t]).length)),v] H ⟨v,rfl,rfl⟩;rw[show (2:Int)^(A++[t]).length=2^A.length*2 by rw[b_,G_,Ym],u_,A_,VJ,lM,d_] at this;exact this
 replace fin:=Box.mk fin;obtain⟨nm,len,ks⟩:=t;refine⟨trivial,?_⟩;clear hN e k;simp only[tkT,sT];walk_at "";refine Hg hx ?_;by_cases hm:nm∈ss
 ·simp only[hm,WP,if_true,y_,U7,fc,Int.mul_one] at fin ⊢;exact⟨by first | trivial | exact cm,fin.out _⟩
 simp only[hm,Wl,if_true,y_,U7,fc,Int.mul_zero,Int.add_zero] at fin ⊢;exact⟨by first | trivial | exact cm,fin.out _⟩
abbrev cR:List Str:=["kinds","kind"]
theorem mq:FnScope cR cR (au (top 11)):=bh
theorem my {f:Addr}{fd:FuncData}(g:G3 K mg "may_be_done" (top 11) cR f fd) (B:Bl mg):Cal P w K mg base 1 "may_be_done" (top 11) cR JR:=by
 refine⟨f,fd,g,?_⟩;refine fn3 g.fn mq (fun ts H Q h=>?_) (fun cdv A outer s H E ts H3 Q hr h=>?_)
 ·obtain⟨ks,k,rfl,_⟩:=h;rfl
 have hu30:=Room.u30 hr;have hu31:=Room.u31 hr;obtain⟨ks,kd,rfl,k⟩:=h;refine⟨_,(aq (aM (zA (fV (cY hu30) (aW bW rfl B.len_ bZ (aa (v3 0) aj)) ao) (kZ (fV (zQ hu31) (v3 1) (v3 0) rfl))))),?_⟩;rw[show aO cR [sT ks,T.str kd]=[some (T.tup (ks.map T.str)),some (T.str kd)] from rfl];have i1:pl 20 (T.str kd)=true:=rfl;have i2:=jb ks;have e1:dJ false (T.str kd) (ks.map T.str)=decide (kd∈ks):=by unfold dJ;have:(T.str kd∈ks.map T.str)↔kd∈ks:=gK j6;simp only[this];simp
 walk_at "";unfold jT at k;cases ks with
 |nil=>simp only[WP,Bool.true_or,Wd,if_true] at k ⊢;exact Fin3.of Sub3.refl k
 |cons y r =>
  have:¬(((r.length+1:Nat)):Int)=0:=by omega
  simp only[j_,this,Wl,y_,U7] at k ⊢
  exact⟨trivial,trivial,Fin3.of Sub3.refl (by simpa using k)⟩
abbrev fJ:List Str:=["number","part"]
theorem uQ:FnScope fJ fJ (au (top 22)):=bh
theorem uR {f:Addr}{fd:FuncData}(g:G3 K mg "has_all" (top 22) fJ f fd) (B:Bl mg):Cal P w K mg base 1 "has_all" (top 22) fJ wW:=by
 refine⟨f,fd,g,?_⟩;refine fn3 g.fn uQ (fun ts H Q h=>?_) (fun cdv A outer s H E ts H3 Q hr h=>?_)
 ·obtain⟨a,b,rfl,_⟩:=h;rfl
 have hu30:=Room.u30 hr;obtain⟨a,b,rfl,k⟩:=h;refine⟨_,(aq (aM (fV (cY hu30) (aH Aj (v3 0) (v3 1)) (v3 1)))),?_⟩;rw[show aO fJ [T.int a,T.int b]=[some (T.int a),some (T.int b)] from rfl];walk_at "";exact Fin3.of Sub3.refl k
abbrev cJ:List Str:=["works","task"]
theorem mX:FnScope cJ cJ (au (top 20)):=bh
theorem mY {f:Addr}{fd:FuncData}(g:G3 K mg "apart_from" (top 20) cJ f fd) (B:Bl mg):Cal P w K mg base 1 "apart_from" (top 20) cJ JS:=by
 refine⟨f,fd,g,?_⟩;refine fn3 g.fn mX (fun ts H Q h=>?_) (fun cdv A outer s H E ts H3 Q hr h=>?_)
 ·obtain⟨W,t,rfl,_⟩:=h;rfl
 have hu30:=Room.u30 hr;obtain⟨⟨tk,ors,prs,row⟩,t,rfl,hW,k⟩:=h;refine⟨_,(aq (aM (bz rfl (bB (n0:=(au (top 20)).names) (N:=cJ) (N':=["word","one","other","task"]) (nt:=3) (cap:=[1]) rfl rfl (by decide +kernel)) (c7 (aK ix3 (v3 0) ao)) (fun cl pins s H C0 fp=>⟨(cB (n:=3) rfl (aG (aB (i:=0) (show List.Nodup [("word":Str),("one":Str),("other":Str),("task":Str)] by decide +kernel)) (aG (aB (i:=1) (show List.Nodup [("word":Str),("one":Str),("other":Str),("task":Str)] by decide +kernel)) (aG (aB (i:=2) (show List.Nodup [("word":Str),("one":Str),("other":Str),("task":Str)] by decide +kernel)) bM)))),(gY (PW3.pt (cU (aU (cY hu30) (v3 0) fU) (cT (aU (cY hu30) (v3 1) (v3 3)))))),(v3 2)⟩)))),?_⟩;rw[show aO cJ [Wk.enc ⟨tk,ors,prs,row⟩,T.str t]=[some (T.tup [T.tup (tk.map tkT),T.tup (ors.map orT),T.tup (prs.map prT),T.tup (row.map T.str)]),some (T.str t)] from rfl];have hsz:sizeLine=16777216:=rfl;have p12:prs.length<=12:=hW.ps;walk_at "";walk_at "c";refine cz prT prs (fun A ys Z H=>H=H3/\ys=((A.filter fun p=>decide (p.1=("apart":Str))&&decide (p.2.1=t)).map (·.2.2)).map T.str/\∃v0 v1 v2:Option T,Z=[v0,v1,v2,some (.str t)]) ⟨rfl,rfl,none,none,none,rfl⟩ ?_ ?_
 ·rintro ys Z H ⟨rfl,rfl,v0,v1,v2,rfl⟩;refine⟨trivial,?_,fun p hp=>Fin3.of Sub3.refl (k p hp)⟩;rw[d_,d_];exact U8 (Vk _ _) (by omega)
 rintro A ⟨w,a,b⟩ B ys Z H N e ⟨rfl,rfl,v0,v1,v2,rfl⟩ hN;have hA:A.length<=12:=by have:=Q_ List.length e;simp only[b_,j_] at this;omega
 have hl:((A.filter fun p=>decide (p.1=("apart":Str))&&decide (p.2.1=t)).map (·.2.2)).length<=12:=by rw[d_];exact U8 (Vk _ _) hA
 refine⟨trivial,?_⟩;have fY:Box (w="apart"/\a=t->N (((A.filter fun p=>decide (p.1=("apart":Str))&&decide (p.2.1=t)).map (·.2.2)).map T.str++[T.str b]) [some (.str w),some (.str a),some (.str b),some (.str t)] H):=⟨fun h=>hN _ _ _ ⟨rfl,by rw[WT];simp [h],_,_,_,rfl⟩⟩;have fN:Box (¬(w="apart"/\a=t)->N (((A.filter fun p=>decide (p.1=("apart":Str))&&decide (p.2.1=t)).map (·.2.2)).map T.str) [some (.str w),some (.str a),some (.str b),some (.str t)] H):=⟨fun h=>hN _ _ _ ⟨rfl,by rw[WT];simp [h],_,_,_,rfl⟩⟩;generalize ((A.filter fun p=>decide (p.1=("apart":Str))&&decide (p.2.1=t)).map (·.2.2))=cur at *;clear hN k e;simp only[prT];walk_at "";refine⟨trivial,?_⟩;by_cases h1:w="apart"
 ·simp only[h1,WP,if_true];by_cases h2:a=t
  ·simp only[h2,WP,if_true];have:=fY.out ⟨h1,h2⟩;rw[h1,h2] at this;exact⟨by omega,this⟩
  simp only[h2,Wl,y_,U7];have:=fN.out fun z=>h2 z.2;rw[h1] at this;exact this
 simp only[h1,Wl,y_,U7];exact fN.out fun z=>h1 z.1
abbrev cX:List Str:=["numbers","greatest","number"]
theorem sc_greatest_numbers:FnScope cX ["numbers"] (au (top 24)):=bh
theorem iw {f:Addr}{fd:FuncData}(g:G3 K mg "greatest_numbers" (top 24) ["numbers"] f fd) (B:Bl mg) (F_has_all:Cal P w K mg base 1 "has_all" (top 22) ["number","part"] wW):Cal P w K mg base 2 "greatest_numbers" (top 24) ["numbers"] Td:=by
 refine⟨f,fd,g,?_⟩;refine fn3 g.fn sc_greatest_numbers (fun ts H Q h=>?_) (fun cdv A outer s H E ts H3 Q hr h=>?_)
 ·obtain⟨a,fs,rfl,_⟩:=h;rfl
 obtain⟨a,fs,rfl,ha,hl,k⟩:=h;refine⟨_,(ak (aF (i:=1) sc_greatest_numbers.nd (bV aj))
   (ak (bx H_ rfl (Mw rfl B.reversed_ (v3 0)) (aB (i:=2) sc_greatest_numbers.nd) (aq (bQ (kY (dw (aW (Mq rfl) rfl B.any_ Li (aa (bz rfl (bB (n0:=(au (top 24)).names) (N:=cX) (N':=["other","number"]) (nt:=1) (cap:=[2]) rfl rfl (by decide +kernel)) (cj (v3 1)) (fun cl pins s H C0 fp=>⟨(aB (i:=0) (show List.Nodup [("other":Str),("number":Str)] by decide +kernel)),bD,(aJ F_has_all hr rfl (aa (v3 0) (aa (v3 1) aj)))⟩)) aj)))) (aq (bI (cN J_ M_ N_ bu (v3 1) (aa (v3 2) aj)))) aY)))
   (aq (aM (Ar rfl rfl B.list_ rfl B.reversed_ (v3 1)))))),?_⟩
 rw[show aO cX [T.ref a]=[some (T.ref a),none,none] from rfl];have hsz:sizeLine=16777216:=rfl;refine aA fun R0 hR0=>?_;walk_at "";refine⟨by omega,fun p0 hp0=>?_⟩;walk_at "n";have hS1:Sub3 H3 (up3 H3 p0 (.lst [])):=Sub3.new hp0;have g1:up3 H3 p0 (.lst []) p0=some (.lst ((gre bG []).map bA)):=aC;generalize up3 H3 p0 (.lst [])=H1 at hS1 g1;try dsimp only
 refine aA fun R1 hR1=>?_;have ga:=hS1 _ _ ha;walk_at "";rw[<- Xm];refine aV bA fs.reverse (fun A Z H=>∃(q:Addr) (v:Option T),Z=[some (.ref a),some (.ref q),v]/\Sub3 H3 H/\H3 q=none/\H q=some (.lst ((gre bG A.reverse).map bA))) ⟨p0,none,rfl,hS1,hp0,g1⟩ ?_ ?_
 ·rintro Z H ⟨q,v,rfl,hS,hq0,hq⟩;refine⟨.inl (hS _ _ ha),?_⟩;walk_at "n";rw[List.reverse_reverse] at hq;clear g1 ga;walk_at "";intro p hp;have h30:H3 p=none:=by
   cases e:H3 p with
   |none=>rfl
   |some o=>rw[hS _ _ e] at hp;cases hp
  rw[<- Xm];refine Fin3.of ?_ (k p h30);intro b o hb;by_cases e:b=p
  ·subst e;rw[aC] at hb ⊢;exact hb
  rw[aD e] at hb ⊢;exact hS b o hb
 rintro A n B Z H N e ⟨q,v,rfl,hS,hq0,hq⟩ hN;refine⟨.inl (hS _ _ ha),?_⟩;have hA:A.length+1<=256:=by have:=Q_ List.length e;simp only[b_,j_,Vn] at this;omega
 have hN':=Box.mk hN;have eG:gre bG (A++[n]).reverse=if (gre bG A.reverse).any (fun g=>bG g n) then gre bG A.reverse else gre bG A.reverse++[n]:=by rw[List.reverse_append];rfl
 have gl:=qb bG A.reverse;rw[Vn] at gl;clear hN e k hR1 g1 ga;generalize gre bG A.reverse=G at *;walk_at "";walk_at "c";refine cH bA (fun g=>T.bl (bG g n)) G [some (bA n)] (.inl hq) (by omega) (fun g hg Q' hq'=>?_) (fun pc hpc=>?_)
 ·clear hN';walk_at "";exact⟨(g:Int),(n:Int),rfl,hq'⟩
 have nqc:q≠pc:=aX hq hpc;have bm:(G.map fun g=>T.bl (bG g n))=(G.map fun g=>bG g n).map T.bl:=by rw[Vg];rfl
 have g2:up3 H pc (.lst ((G.map fun g=>bG g n).map T.bl)) q=some (.lst (G.map bA)):=by rw[aD nqc];exact hq
 have hS2:Sub3 H3 (up3 H pc (.lst ((G.map fun g=>bG g n).map T.bl))):=hS.trans (Sub3.new hpc);rw[bm,lC,iY];generalize up3 H pc (.lst ((G.map fun g=>bG g n).map T.bl))=H5 at g2 hS2;have ea:(G.map fun g=>bG g n).any id=G.any fun g=>bG g n:=by rw[List.any_map];rfl
 rw[ea];cases hb:G.any fun g=>bG g n
 ·rw[hb] at eG;simp only[y_,U7] at eG;clear ea bm hpc nqc;simp only[Wc,if_true];walk_at "";refine⟨⟨trivial,trivial⟩,by omega,hN'.out _ _ ⟨q,_,rfl,?_,hq0,?_⟩⟩
  ·intro b o hb';by_cases e:b=q
   ·subst e;rw[hq0] at hb';cases hb'
   rw[aD e];exact hS2 b o hb'
  rw[aC,eG,u_];rfl
 rw[hb] at eG;simp only[if_true] at eG;simp only[V4,y_,U7];exact hN'.out _ _ ⟨q,_,rfl,hS2,hq0,by rw[eG];exact g2⟩
abbrev mz:List Str:=["self","works","beat"]
theorem HR:FnScope mz mz (au (topm 27 0)):=bh
theorem HS {f:Addr}{fd:FuncData}{C_Walk:Addr}(g:GI K mg C_Walk "Walk" "Walk.__init__" (topm 27 0) mz f fd) (B:Bl mg) (I_Walk:InsC K C_Walk ["works","beat","rules","whole"]) (F_rules_of:Cal P w K mg base 4 "rules_of" (top 21) ["works"] JT) (F_number_of:Cal P w K mg base 1 "number_of" (top 17) ["works","tasks"] Dz) (F_names_of:Cal P w K mg base 1 "names_of" (top 15) ["tasks"] SQ):MkC P w K mg base C_Walk 5 "Walk" mz (S7 C_Walk):=by
 refine⟨g.at_,f,fd,g.mk_,g.b,?_⟩;refine fn3 g.fn HR (fun ts H Q h=>?_) (fun cdv A outer s H E ts H3 Q hr h=>?_)
 ·obtain⟨a,W,beat,rfl,_⟩:=h;rfl
 obtain⟨a,W,beat,rfl,hW,ha,k⟩:=h;refine⟨_,(ak (pN I_Walk (v3 0) (v3 1))
   (ak (pN I_Walk (v3 0) (v3 2))
   (ak (pN I_Walk (v3 0) (aJ F_rules_of hr rfl (aa (v3 1) aj)))
   (aq (pN I_Walk (v3 0) (aJ F_number_of hr rfl (aa (v3 1) (aa (aJ F_names_of hr rfl (aa (aK ix3 (v3 1) ao) aj)) aj)))))))),?_⟩
 rw[show aO mz [T.ref a,W.enc,T.int beat]=[some (T.ref a),some (W.enc),some (T.int beat)] from rfl];have hsz:sizeLine=16777216:=rfl;have k':=Box.mk k;clear k;refine aA fun R0 hR0=>?_;walk_at "";have g1:up3 H3 a (.ins C_Walk (dj "works" W.enc [])) a=some (.ins C_Walk [("works",W.enc)]):=aC;refine⟨by decide,?_⟩;have kp1:∀b o,b≠a->H3 b=some o->up3 H3 a (.ins C_Walk (dj "works" W.enc [])) b=some o:=fun b o hb e=>by rw[aD hb];exact e
 generalize up3 H3 a (.ins C_Walk (dj "works" W.enc []))=H4 at g1 kp1 ⊢;walk_at "n";refine aA fun R1 hR1=>?_;walk_at "";refine⟨by decide,?_⟩;have e1:dj "beat" (T.int beat) [("works",W.enc)]=[(("works":Str),W.enc),(("beat":Str),.int beat)]:=by unfold dj;rw[if_neg (by decide +kernel)];rfl
 rw[e1];have g2:up3 H4 a (.ins C_Walk [("works",W.enc),("beat",.int beat)]) a=some (.ins C_Walk [("works",W.enc),("beat",.int beat)]):=aC;have kp2:∀b o,b≠a->H3 b=some o->up3 H4 a (.ins C_Walk [("works",W.enc),("beat",.int beat)]) b=some o:=fun b o hb e=>by rw[aD hb];exact kp1 b o hb e
 generalize up3 H4 a (.ins C_Walk [("works",W.enc),("beat",.int beat)])=H5 at g2 kp2 ⊢;clear g1 kp1 e1;walk_at "n";refine aA fun R2 hR2=>?_;walk_at "";refine⟨W,rfl,hW,fun p hp=>?_⟩;have nap:a≠p:=aX g2 hp;have g3:up3 H5 p (.lst (W.tasks.map (ruT W (W.tasks.map (·.1))))) p=some (.lst (W.tasks.map (ruT W (W.tasks.map (·.1))))):=aC;have g4:up3 H5 p (.lst (W.tasks.map (ruT W (W.tasks.map (·.1))))) a=some (.ins C_Walk [("works",W.enc),("beat",.int beat)]):=by rw[aD nap];exact g2
 have kp3:∀b o,b≠a->H3 b=some o->up3 H5 p (.lst (W.tasks.map (ruT W (W.tasks.map (·.1))))) b=some o:=fun b o hb e=>by rw[aD (aX (kp2 b o hb e) hp)];exact kp2 b o hb e
 generalize up3 H5 p (.lst (W.tasks.map (ruT W (W.tasks.map (·.1)))))=H6 at g3 g4 kp3 ⊢;clear g2 kp2 hp;walk_at "";refine⟨by decide,?_⟩;have e1:dj "rules" (T.ref p) [("works",W.enc),("beat",.int beat)]=[(("works":Str),W.enc),(("beat":Str),.int beat),(("rules":Str),.ref p)]:=by unfold dj;rw[if_neg (by decide +kernel)];unfold dj;rw[if_neg (by decide +kernel)];rfl
 rw[e1];have g5:up3 H6 a (.ins C_Walk [("works",W.enc),("beat",.int beat),("rules",.ref p)]) a=some (.ins C_Walk [("works",W.enc),("beat",.int beat),("rules",.ref p)]):=aC;have g6:up3 H6 a (.ins C_Walk [("works",W.enc),("beat",.int beat),("rules",.ref p)]) p=some (.lst (W.tasks.map (ruT W (W.tasks.map (·.1))))):=by rw[aD (Ne.symm nap)];exact g3
 have kp4:∀b o,b≠a->H3 b=some o->up3 H6 a (.ins C_Walk [("works",W.enc),("beat",.int beat),("rules",.ref p)]) b=some o:=fun b o hb e=>by rw[aD hb];exact kp3 b o hb e
 generalize up3 H6 a (.ins C_Walk [("works",W.enc),("beat",.int beat),("rules",.ref p)])=H7 at g5 g6 kp4 ⊢;clear g3 g4 kp3 e1;walk_at "n";walk_at "";refine⟨W.tasks,rfl,hW.t8,fun q hq=>?_⟩;have naq:a≠q:=aX g5 hq;have npq:p≠q:=aX g6 hq;try dsimp only
 refine⟨W,_,W.tasks.map (·.1),rfl,hW,.inr ⟨q,rfl,aC⟩,?_⟩;have ew:numOf (W.tasks.map (·.1)) (W.tasks.map (·.1))=(top2 W:Int) - 1:=by have h1:=jA (W:=W) (A:=nm W) fun x hx=>hx;have h2:=lU W;rw[cu];show ((bR (nm W) (nm W):Nat):Int)=_;rw[h1];omega
 rw[ew];have g7:up3 H7 q (.lst ((W.tasks.map (·.1)).map T.str)) a=some (.ins C_Walk [("works",W.enc),("beat",.int beat),("rules",.ref p)]):=by rw[aD naq];exact g5
 have g8:up3 H7 q (.lst ((W.tasks.map (·.1)).map T.str)) p=some (.lst (W.tasks.map (ruT W (W.tasks.map (·.1))))):=by rw[aD npq];exact g6
 have kp5:∀b o,b≠a->H3 b=some o->up3 H7 q (.lst ((W.tasks.map (·.1)).map T.str)) b=some o:=fun b o hb e=>by rw[aD (aX (kp4 b o hb e) hq)];exact kp4 b o hb e
 generalize up3 H7 q (.lst ((W.tasks.map (·.1)).map T.str))=H8 at g7 g8 kp5 ⊢;clear g5 g6 kp4 hq;walk_at "";refine⟨by decide,?_⟩;have e1:dj "whole" (T.int ((top2 W:Int) - 1)) [("works",W.enc),("beat",.int beat),("rules",.ref p)]=wkF W beat p:=by unfold dj;rw[if_neg (by decide +kernel)];unfold dj;rw[if_neg (by decide +kernel)];unfold dj;rw[if_neg (by decide +kernel)];rfl
 rw[e1];exact Fin3.of Sub3.refl (k'.out _ (fun b o hb e=>by rw[aD hb];exact kp5 b o hb e) ⟨p,aC,by rw[aD (Ne.symm nap)];exact g8⟩)
abbrev eY:List Str:=["self","stand","done","kind","left"]
theorem sc_fillings_at:FnScope eY ["self","stand","done"] (au (topm 27 1)):=bh
theorem mC {f:Addr}{fd:FuncData}{C_Walk:Addr}(g:GM K C_Walk "fillings_at" "Walk.fillings_at" (topm 27 1) ["self","stand","done"] f fd) (B:Bl mg) (I_Walk:InsC K C_Walk ["works","beat","rules","whole"]) (F_parts_of:Cal P w K mg base 2 "parts_of" (top 26) ["number"] JN) (F_is_filling_number:Cal P w K mg base 2 "is_filling_number" (top 23) ["rules","beat","kind","done","number"] JV):MtC P w K mg base C_Walk 3 "fillings_at" ["self","stand","done"] (S8 C_Walk):=by
 refine⟨g.cls,f,fd,g.mt,g.b,?_⟩;refine fn3 g.fn sc_fillings_at (fun ts H Q h=>?_) (fun cdv A outer s H E ts H3 Q hr h=>?_)
 ·obtain⟨a,W,beat,k,d,rfl,_⟩:=h;rfl
 obtain⟨a,W,beat,k,d,rfl,hW,hw,hk,hd,kk⟩:=h;refine⟨_,(ak (bQ (aU Ip (v3 1) (aW bW rfl B.len_ bZ (aa (aK ix3 (gJ I_Walk (v3 0)) ao) aj))) (aq (aM (bV aj))) aY)
   (ak (aF (i:=3) sc_fillings_at.nd (aK ix3 (aK ix3 (gJ I_Walk (v3 0)) ao) (v3 1)))
   (ak (aF (i:=4) sc_fillings_at.nd (aJ F_parts_of hr rfl (aa (aH gD (gJ I_Walk (v3 0)) (v3 2)) aj)))
   (aq (aM (bz rfl (bB (n0:=(au (topm 27 1)).names) (N:=eY) (N':=["number","kind","done","self"]) (nt:=1) (cap:=[3,2,0]) rfl rfl (by decide +kernel)) (cj (v3 4)) (fun cl pins s H C0 fp=>⟨(aB (i:=0) (show List.Nodup [("number":Str),("kind":Str),("done":Str),("self":Str)] by decide +kernel)),(gY (dw (aJ F_is_filling_number hr rfl (aa (gJ I_Walk (v3 3)) (aa (gJ I_Walk (v3 3)) (aa (v3 1) (aa (v3 2) (aa (v3 0) aj)))))))),(v3 0)⟩))))))),?_⟩
 rw[show aO eY [T.ref a,T.int (k:Int),T.int (d:Int)]=[some (T.ref a),some (T.int (k:Int)),some (T.int (d:Int)),none,none] from rfl];have hsz:sizeLine=16777216:=rfl;have k':=Box.mk kk;clear kk;have t2:=pZ hW;have t1:=lU W;obtain⟨p,g1,g2⟩:=hw.ex;have f1:=rP (W:=W) (beat:=beat) (p:=p);have f2:=Hu (W:=W) (beat:=beat) (p:=p);have f3:=CV (W:=W) (beat:=beat) (p:=p);have f4:=rQ (W:=W) (beat:=beat) (p:=p);have x1:=Oe hk;have g1':=Box.mk g1;have g2':=Box.mk g2;generalize wkF W beat p=fs at *;refine aA fun R0 hR0=>?_;walk_at "";rw[C_ (by omega),if_neg o_];walk_at "n";refine aA fun R1 hR1=>?_;walk_at "";walk_at "n";refine aA fun R2 hR2=>?_;walk_at "";refine⟨top2 W - 1 - d,by rw[show ((top2 W - 1 - d:Nat):Int)=(top2 W:Int) - 1 - (d:Int) by omega],by omega,fun pl hpl=>?_⟩;have n1:a≠pl:=aX g1 hpl;have n2:p≠pl:=aX g2 hpl;have efl:=yD (W:=W) (beat:=beat) (k:=k) hW hd;have hlen:(rN (top2 W - 1 - d)).length<=256:=by unfold rN;exact U8 (Vk _ _) (by rw[n_];omega)
 have hlt:∀i∈rN (top2 W - 1 - d),i<top2 W:=fun i hi=>by have:=I_.mp (F_.mp hi).1;omega
 generalize rN (top2 W - 1 - d)=ps at *;have hs1:Sub3 H3 (up3 H3 pl (.lst (ps.map bA))):=Sub3.new hpl;have h1:=hs1 _ _ g1'.out;have h2:=hs1 _ _ g2'.out;have h3:up3 H3 pl (.lst (ps.map bA)) pl=some (.lst (ps.map bA)):=aC;generalize up3 H3 pl (.lst (ps.map bA))=H4 at hs1 h1 h2 h3 ⊢;clear g1 g2 x1 f1 f4 n1 n2 hpl;walk_at "n";have hlt':=Box.mk hlt;have efl':=Box.mk efl;clear hlt efl;walk_at "";walk_at "c";refine f9 (still:=cC pl (ps.map bA)) (H:=H4) bA bA (fil W beat k d) ps [some (.str (W.row.getD k "")),some (.int (d:Int)),some (.ref a)] (.inl h3) (by omega) ?c1 ?c2 ?c3
 case c2=>exact fun i hi _ Q' hq=>hq
 case c1 =>
  intro i hi Q' hq
  have hi':=hlt'.out i hi
  have hq':=Box.mk hq
  clear k' hq
  simp only[bA]
  walk_at ""
  refine⟨W,p,beat,W.row.getD k "",pk W d,pk W i,?_,hW,h2,?_⟩
  ·
   rw[S6 hW hd,S6 hW hi']
  ·
   exact hq'.out
 case c3 =>
  intro q hq
  rw[efl'.out]
  refine Fin3.of ?_ (k'.out q (di hs1 hq))
  intro b o hb
  by_cases e:b=q
  ·
   subst e;rw[aC] at hb ⊢;exact hb
  ·
   rw[aD e] at hb ⊢;exact hs1 b o hb
abbrev cL:List Str:=["self","fillings"]
theorem mZ:FnScope cL cL (au (topm 27 4)):=bh
theorem m5 {f:Addr}{fd:FuncData}{C_Walk:Addr}(g:GM K C_Walk "dealing_of" "Walk.dealing_of" (topm 27 4) cL f fd) (B:Bl mg) (I_Walk:InsC K C_Walk ["works","beat","rules","whole"]) (F_tasks_of:Cal P w K mg base 1 "tasks_of" (top 18) ["works","number"] JQ):MtC P w K mg base C_Walk 2 "dealing_of" cL (S9 C_Walk):=by
 refine⟨g.cls,f,fd,g.mt,g.b,?_⟩;refine fn3 g.fn mZ (fun ts H Q h=>?_) (fun cdv A outer s H E ts H3 Q hr h=>?_)
 ·obtain⟨a,W,beat,fs,rfl,_⟩:=h;rfl
 obtain⟨a,W,beat,fs,rfl,hW,hw,hl,hf,kk⟩:=h;refine⟨_,(aq (aM (bc bY rfl B.tuple_ bK (aa (bz rfl (bB (n0:=(au (topm 27 4)).names) (N:=cL) (N':=["filling","self"]) (nt:=1) (cap:=[0]) rfl rfl (by decide +kernel)) (c7 (v3 1)) (fun cl pins s H C0 fp=>⟨(aB (i:=0) (show List.Nodup [("filling":Str),("self":Str)] by decide +kernel)),bD,(aJ F_tasks_of hr rfl (aa (gJ I_Walk (v3 1)) (aa (v3 0) aj)))⟩)) aj)))),?_⟩;rw[show aO cL [T.ref a,T.tup (fs.map bA)]=[some (T.ref a),some (T.tup (fs.map bA))] from rfl];have hsz:sizeLine=16777216:=rfl;have k':=Box.mk kk;clear kk;obtain⟨p,g1,g2⟩:=hw.ex;have f1:=rP (W:=W) (beat:=beat) (p:=p);generalize wkF W beat p=gs at *;walk_at "";walk_at "c";refine cH (still:=cM) (H:=H3) bA (fun i=>sT (pk W i)) fs [some (.ref a)] trivial (by omega) ?c1 ?c2
 case c1 =>
  intro i hi Q' hq
  have hi':=hf i hi
  have ecast:((2^W.tasks.length:Nat):Int)=(2:Int)^W.tasks.length:=by push_cast;rfl
  have hq':=Box.mk hq
  clear k' hq
  simp only[bA]
  walk_at ""
  exact⟨W,(i:Int),rfl,hW,WQ _,by rw[<- ecast];exact Int.ofNat_lt.mpr hi',hq'.out⟩
 case c2 =>
  intro q hq
  have kk:=k'.out
  rw[Vg] at kk
  walk_at ""
  exact Fin3.of (Sub3.new hq) kk
abbrev iQ:List Str:=["number","parts","worth"]
theorem sc_parts_of:FnScope iQ ["number"] (au (top 26)):=bh
theorem sO {f:Addr}{fd:FuncData}(g:G3 K mg "parts_of" (top 26) ["number"] f fd) (B:Bl mg) (F_has_all:Cal P w K mg base 1 "has_all" (top 22) ["number","part"] wW):Cal P w K mg base 2 "parts_of" (top 26) ["number"] JN:=by
 refine⟨f,fd,g,?_⟩;refine fn3 g.fn sc_parts_of (fun ts H Q h=>?_) (fun cdv A outer s H E ts H3 Q hr h=>?_)
 ·obtain⟨N,rfl,_⟩:=h;rfl
 obtain⟨N,rfl,hN,k⟩:=h;refine⟨_,(ak (aF (i:=1) sc_parts_of.nd (bV (aa ao aj)))
   (ak (aF (i:=2) sc_parts_of.nd ao)
   (ak (iT H_ (aU zO (v3 2) (v3 0)) (ak (bQ (dw (aJ F_has_all hr rfl (aa (v3 0) (aa (v3 2) aj)))) (aq (aF (i:=1) sc_parts_of.nd (aH aR (v3 1) (bz rfl (bB (n0:=(au (top 26)).names) (N:=iQ) (N':=["part","worth"]) (nt:=1) (cap:=[2]) rfl rfl (by decide +kernel)) (cj (v3 1)) (fun cl pins s H C0 fp=>⟨(aB (i:=0) (show List.Nodup [("part":Str),("worth":Str)] by decide +kernel)),bD,(aH aR (v3 0) (v3 1))⟩))))) aY)
    (aq (aF (i:=2) sc_parts_of.nd (aH dY (v3 2) ao)))))
   (aq (aM (v3 1)))))),?_⟩
 rw[show aO iQ [T.int (N:Int)]=[some (T.int (N:Int)),none,none] from rfl];have hsz:sizeLine=16777216:=rfl;have k':=Box.mk k;clear k;refine aA fun R0 hR0=>?_;walk_at "";refine⟨by decide,fun p0 hp0=>?_⟩;have hS1:Sub3 H3 (up3 H3 p0 (.lst [T.int 0])):=Sub3.new hp0;have g1:up3 H3 p0 (.lst [T.int 0]) p0=some (.lst (((List.range (2^0)).filter (bG N)).map bA)):=by
  have h0:bG N 0=true:=by rw[fG];exact Nat.and_zero N
  rw[aC,show (List.range (2^0))=[0] from rfl,X4,h0];rfl
 generalize up3 H3 p0 (.lst [T.int 0])=H4 at hS1 g1 ⊢;walk_at "n";refine aA fun R1 hR1=>?_;walk_at "";walk_at "n";refine aA fun R2 hR2=>?_;refine⟨fun m Z H=>∃(j:Nat) (q:Addr),Z=[some (.int (N:Int)),some (.ref q),some (.int ((2^j:Nat):Int))]/\Sub3 H3 H/\H3 q=none/\H q=some (.lst (((List.range (2^j)).filter (bG N)).map bA))/\m=512 - 2^j/\(∀i,i+1=j->2^i<=N),⟨_,0,p0,rfl,hS1,hp0,g1,rfl,(fun i h=>by omega)⟩,?_⟩;rintro m Z H ⟨j,q,rfl,hS,hq0,hq,rfl,hj⟩;have hj9:2^j<=256:=by
  cases j with
  |zero=>decide
  |succ i =>
   have h1:=hj i rfl
   have h2:i<8:=by
    rcases Yl i 8 with z | z
    ·
     exact z
    ·
     have:=W8 (n:=2) (by decide) z
     omega
   exact U8 (W8 (by decide) (show i+1<=8 by omega)) (by decide)
 have hp:=Nat.pow_pos (n:=j) (show 0<2 by decide);walk_at "";by_cases hle:2^j<=N
 ·have hle':decide (((2^j:Nat):Int)<=(N:Int))=true:=O_ (Int.ofNat_le.mpr hle);rw[hle',if_pos rfl];have hlen:(((List.range (2^j)).filter (bG N))).length<=256:=U8 (Vk _ _) (by rw[n_];exact hj9);have est:=CT (N:=N) (k:=j);have e2:((2^j:Nat):Int)*2=((2^(j+1):Nat):Int):=by rw[Nat.pow_succ];push_cast;rfl
  have cm:CMul ((2^j:Nat):Int) 2:=.inl ⟨by omega,by omega⟩;have hpow:2^(j+1)=2^j*2:=by rw[Nat.pow_succ]
  have fin:Box (∀(q2:Addr) (H':Hp3),Sub3 H3 H'->H3 q2=none->H' q2=some (.lst (((List.range (2^(j+1))).filter (bG N)).map bA))->∃m',m'<512 - 2^j/\∃(j2:Nat) (q:Addr),([some (.int (N:Int)),some (.ref q2),some (.int (((2^j:Nat):Int)*2))]:St3)=[some (.int (N:Int)),some (.ref q),some (.int ((2^j2:Nat):Int))]/\Sub3 H3 H'/\H3 q=none/\H' q=some (.lst (((List.range (2^j2)).filter (bG N)).map bA))/\m'=512 - 2^j2/\(∀i,i+1=j2->2^i<=N)):=⟨fun q2 H' s1 s2 s3=>⟨_,by omega,j+1,q2,by rw[e2],s1,s2,s3,rfl,fun i hi=>by rw[show i=j by omega];exact hle⟩⟩;clear hj hR2 k' g1 hS1 e2 hle' hpow;generalize (List.range (2^(j+1))).filter (bG N)=nx at *;generalize hcur:(List.range (2^j)).filter (bG N)=cur at *;refine⟨(N:Int),((2^j:Nat):Int),rfl,?_⟩;rw[show decide (Builtin.bitAnd (N:Int) ((2^j:Nat):Int)=((2^j:Nat):Int))=bG N (2^j) from rfl];generalize 2^j=w2 at *;cases hb:bG N w2 with
  |false=>rw[hb] at est;simp only[y_,U7,S_] at est;simp only[fc,y_,U7];rw[<- est] at hq;exact⟨by first | trivial | exact cm,fin.out q _ hS hq0 hq⟩
  |true =>
  rw[hb] at est;simp only[if_true] at est;try simp only[fc,if_true]
  walk_at "c";rw[hq,lA];refine cH bA (fun i=>bA (i+w2)) cur [some (.int (w2:Int))] (.inl hq) (by omega) (fun i hi Q' hq'=>?_) (fun pc hpc=>?_)
  ·simp only[bA] at hq' ⊢;rw[show ((i+w2:Nat):Int)=(i:Int)+(w2:Int) by push_cast;rfl] at hq';have hq2:=Box.mk hq';clear hq' fin;walk_at "";exact hq2.out
  have nqc:q≠pc:=aX hq hpc;rw[aD nqc,hq,jw];refine⟨by rw[d_,d_];omega,fun pq hpq=>?_⟩;have hS2:Sub3 H3 (up3 (up3 H pc (.lst (cur.map fun i=>bA (i+w2)))) pq (.lst (cur.map bA++cur.map fun i=>bA (i+w2)))):=(hS.trans (Sub3.new hpc)).trans (Sub3.new hpq);have h30:H3 pq=none:=di (hS.trans (Sub3.new hpc)) hpq;have gq:up3 (up3 H pc (.lst (cur.map fun i=>bA (i+w2)))) pq (.lst (cur.map bA++cur.map fun i=>bA (i+w2))) pq=some (.lst (nx.map bA)):=by rw[aC,est,u_,Vg];rfl
  generalize up3 (up3 H pc (.lst (cur.map fun i=>bA (i+w2)))) pq (.lst (cur.map bA++cur.map fun i=>bA (i+w2)))=H5 at hS2 gq ⊢;exact⟨by first | trivial | exact cm,fin.out pq _ hS2 h30 gq⟩
 have hle':decide (((2^j:Nat):Int)<=(N:Int))=false:=C_ (fun z=>hle (Int.ofNat_le.mp z));rw[hle',if_neg o_];rw[wK (by omega)] at hq;walk_at "n";walk_at "";refine Fin3.of ?_ (k'.out q hq0);intro b o hb;by_cases e:b=q
 ·subst e;rw[aC] at hb;rw[hq,hb]
 rw[aD e] at hb;exact hS b o hb
theorem sS:FnScope ["tasks"] ["tasks"] (au (top 15)):=bh
theorem sU {f:Addr}{fd:FuncData}(g:G3 K mg "names_of" (top 15) ["tasks"] f fd) (B:Bl mg):Cal P w K mg base 1 "names_of" (top 15) ["tasks"] SQ:=by
 refine⟨f,fd,g,?_⟩;refine fn3 g.fn sS (fun ts H Q h=>?_) (fun cdv A outer s H E ts H3 Q hr h=>?_)
 ·obtain⟨tk,rfl,_⟩:=h;rfl
 obtain⟨tk,rfl,t8,k⟩:=h;refine⟨_,(aq (aM (bz rfl (bB (n0:=(au (top 15)).names) (N:=["tasks"]) (N':=["task"]) (nt:=1) (cap:=[]) rfl rfl (by decide +kernel)) (c7 (v3 0)) (fun cl pins s H C0 fp=>⟨(aB (i:=0) (show List.Nodup [("task":Str)] by decide +kernel)),bD,(aK ix3 (v3 0) ao)⟩)))),?_⟩;rw[show aO ["tasks"] [T.tup (tk.map tkT)]=[some (T.tup (tk.map tkT))] from rfl];have hsz:sizeLine=16777216:=rfl;have k':=Box.mk k;clear k;walk_at "";walk_at "c";refine cH tkT (fun t=>T.str t.1) tk [] trivial (by omega) (fun t ht Q' hq=>?_) (fun pc hpc=>?_)
 ·clear k';simp only[tkT];walk_at "";try exact hq
 have:=k'.out pc hpc;rw[Vg] at this;exact Fin3.of Sub3.refl this
abbrev mD:List Str:=["works","rules","name","length","kinds","own","group","ahead","apart"]
theorem sc_rules_of:FnScope mD ["works"] (au (top 21)):=bh
theorem sV {f:Addr}{fd:FuncData}(g:G3 K mg "rules_of" (top 21) ["works"] f fd) (B:Bl mg) (F_number_of:Cal P w K mg base 1 "number_of" (top 17) ["works","tasks"] Dz) (F_apart_from:Cal P w K mg base 1 "apart_from" (top 20) ["works","task"] JS) (F_ahead_of:Cal P w K mg base 3 "ahead_of" (top 9) ["works","task"] Tv) (F_group_of:Cal P w K mg base 3 "group_of" (top 8) ["works","task"] Tu):Cal P w K mg base 4 "rules_of" (top 21) ["works"] JT:=by
 refine⟨f,fd,g,?_⟩;refine fn3 g.fn sc_rules_of (fun ts H Q h=>?_) (fun cdv A outer s H E ts H3 Q hr h=>?_)
 ·obtain⟨W,rfl,_⟩:=h;rfl
 obtain⟨⟨tk,ors,prs,row⟩,rfl,hW,k⟩:=h;refine⟨_,(ak (aF (i:=1) sc_rules_of.nd (bV aj))
   (ak (bx H_ rfl (c7 (aK ix3 (v3 0) ao)) (cB (n:=3) rfl (aG (aB (i:=2) sc_rules_of.nd) (aG (aB (i:=3) sc_rules_of.nd) (aG (aB (i:=4) sc_rules_of.nd) bM)))) (ak (aF (i:=5) sc_rules_of.nd (aJ F_number_of hr rfl (aa (v3 0) (aa (bf (aa (v3 2) aj)) aj))))
    (ak (aF (i:=6) sc_rules_of.nd (aJ F_number_of hr rfl (aa (v3 0) (aa (aJ F_group_of hr rfl (aa (v3 0) (aa (v3 2) aj))) aj))))
    (ak (aF (i:=7) sc_rules_of.nd (aJ F_number_of hr rfl (aa (v3 0) (aa (aJ F_ahead_of hr rfl (aa (v3 0) (aa (v3 2) aj))) aj))))
    (ak (aF (i:=8) sc_rules_of.nd (aJ F_number_of hr rfl (aa (v3 0) (aa (aJ F_apart_from hr rfl (aa (v3 0) (aa (v3 2) aj))) aj))))
    (aq (bI (cN J_ M_ N_ bu (v3 1) (aa (bf (aa (v3 5) (aa (v3 3) (aa (v3 4) (aa (v3 6) (aa (v3 7) (aa (v3 8) aj))))))) aj)))))))))
   (aq (aM (v3 1))))),?_⟩
 rw[show aO mD [Wk.enc ⟨tk,ors,prs,row⟩]=[some (T.tup [T.tup (tk.map tkT),T.tup (ors.map orT),T.tup (prs.map prT),T.tup (row.map T.str)]),none,none,none,none,none,none,none,none] from rfl];have hsz:sizeLine=16777216:=rfl;have t8:tk.length<=8:=hW.t8;walk_at "";refine⟨by omega,fun p hp=>?_⟩;refine aV tkT tk (fun A Z H=>∃(v2 v3 v4 v5 v6 v7 v8:Option T) (H0:Hp3),Z=[some (T.tup [T.tup (tk.map tkT),T.tup (ors.map orT),T.tup (prs.map prT),T.tup (row.map T.str)]),some (.ref p),v2,v3,v4,v5,v6,v7,v8]/\H=up3 H0 p (.lst (A.map (ruT ⟨tk,ors,prs,row⟩ (tk.map (·.1)))))/\Sub3 H3 H0/\H3 p=none) ⟨none,none,none,none,none,none,none,H3,rfl,rfl,Sub3.refl,hp⟩ ?_ ?_
 ·rintro Z H ⟨v2,v3,v4,v5,v6,v7,v8,H0,rfl,rfl,hS,_⟩;refine⟨trivial,?_⟩;walk_at "";refine Fin3.of (fun a o e=>?_) (k p hp);by_cases h:a=p
  ·subst h;rw[aC] at e ⊢;exact e
  rw[aD h] at e ⊢;exact hS _ _ e
 rintro A ⟨nm,len,ks⟩ B Z H N e ⟨v2,v3,v4,v5,v6,v7,v8,H0,rfl,rfl,hS,_⟩ hN;have hA:A.length<=8:=by have:=Q_ List.length e;simp only[b_,j_] at this;omega
 refine⟨trivial,?_⟩;have fin:Box (∀q,up3 H0 p (.lst (A.map (ruT ⟨tk,ors,prs,row⟩ (tk.map (·.1))))) q=none->N [some (T.tup [T.tup (tk.map tkT),T.tup (ors.map orT),T.tup (prs.map prT),T.tup (row.map T.str)]),some (.ref p),some (.str nm),some (.int len),some (sT ks),some (.int (numOf (tk.map (·.1)) [nm])),some (.int (numOf (tk.map (·.1)) (fj ⟨tk,ors,prs,row⟩ nm))),some (.int (numOf (tk.map (·.1)) (iM ⟨tk,ors,prs,row⟩ nm))),some (.int (numOf (tk.map (·.1)) (je ⟨tk,ors,prs,row⟩ nm)))] (up3 (up3 (up3 H0 p (.lst (A.map (ruT ⟨tk,ors,prs,row⟩ (tk.map (·.1)))))) q (.lst ((je ⟨tk,ors,prs,row⟩ nm).map T.str))) p (.lst (A.map (ruT ⟨tk,ors,prs,row⟩ (tk.map (·.1)))++[ruT ⟨tk,ors,prs,row⟩ (tk.map (·.1)) (nm,len,ks)])))):=⟨fun q hq=>by
  obtain⟨n1,hq0⟩:=b8 hq
  refine hN _ _ ⟨_,_,_,_,_,_,_,up3 H0 q (.lst ((je ⟨tk,ors,prs,row⟩ nm).map T.str)),rfl,?_,hS.trans (Sub3.new hq0),hp⟩
  rw[u_,z6 (Ne.symm n1),vg]
  rfl⟩
 have hlA:(A.map (ruT ⟨tk,ors,prs,row⟩ (tk.map (·.1)))).length<=8:=by rw[d_];exact hA
 generalize A.map (ruT ⟨tk,ors,prs,row⟩ (tk.map (·.1)))=cur at fin hlA;clear hN e k hA;simp only[tkT];walk_at "";refine⟨trivial,by omega,⟨tk,ors,prs,row⟩,_,[nm],rfl,hW,.inl rfl,?_⟩;walk_at "";refine⟨⟨tk,ors,prs,row⟩,nm,rfl,hW,?_⟩;try dsimp only
 refine⟨⟨tk,ors,prs,row⟩,_,fj ⟨tk,ors,prs,row⟩ nm,rfl,hW,.inl rfl,?_⟩;walk_at "";refine⟨⟨tk,ors,prs,row⟩,nm,rfl,hW,?_⟩;try dsimp only
 refine⟨⟨tk,ors,prs,row⟩,_,iM ⟨tk,ors,prs,row⟩ nm,rfl,hW,.inl rfl,?_⟩;walk_at "";refine⟨⟨tk,ors,prs,row⟩,nm,rfl,hW,fun q hq=>?_⟩;obtain⟨n1,hq0⟩:=b8 hq;have n1':=Ne.symm n1;try dsimp only
 refine⟨⟨tk,ors,prs,row⟩,_,je ⟨tk,ors,prs,row⟩ nm,rfl,hW,.inr ⟨q,rfl,aC⟩,?_⟩;walk_at "";exact⟨⟨trivial,trivial⟩,by omega,by omega,fin.out q hq⟩
abbrev dH:List Str:=["rules","beat","kind","done","number","load","own","length","kinds","group","ahead","apart"]
theorem sc_is_filling_number:FnScope dH ["rules","beat","kind","done","number"] (au (top 23)):=bh
theorem gU {f:Addr}{fd:FuncData}(g:G3 K mg "is_filling_number" (top 23) ["rules","beat","kind","done","number"] f fd) (B:Bl mg) (F_has_all:Cal P w K mg base 1 "has_all" (top 22) ["number","part"] wW) (F_may_be_done:Cal P w K mg base 1 "may_be_done" (top 11) ["kinds","kind"] JR):Cal P w K mg base 2 "is_filling_number" (top 23) ["rules","beat","kind","done","number"] JV:=by
 refine⟨f,fd,g,?_⟩;refine fn3 g.fn sc_is_filling_number (fun ts H Q h=>?_) (fun cdv A outer s H E ts H3 Q hr h=>?_)
 ·obtain⟨W,a,beat,kind,D,S,rfl,_⟩:=h;rfl
 have hu30:=Room.u30 hr;obtain⟨W,a,beat,kind,D,S,rfl,hW,ha,k⟩:=h;refine⟨_,(ak (aF (i:=5) sc_is_filling_number.nd ao)
   (ak (bx H_ rfl (cj (v3 0)) (cB (n:=6) rfl (aG (aB (i:=6) sc_is_filling_number.nd) (aG (aB (i:=7) sc_is_filling_number.nd) (aG (aB (i:=8) sc_is_filling_number.nd) (aG (aB (i:=9) sc_is_filling_number.nd) (aG (aB (i:=10) sc_is_filling_number.nd) (aG (aB (i:=11) sc_is_filling_number.nd) bM))))))) (aq (bQ (dw (aJ F_has_all hr rfl (aa (v3 4) (aa (v3 6) aj)))) (ak (bQ (PW3.pt (vh (dw (aJ F_has_all hr rfl (aa (v3 3) (aa (v3 6) aj)))) (o8 (kY (dw (aJ F_may_be_done hr rfl (aa (v3 8) (aa (v3 2) aj)))))))) (aq (aM gB)) aY)
     (ak (bQ (PW3.pt (vh (kY (dw (aJ F_has_all hr rfl (aa (v3 4) (aa (v3 9) aj))))) (o8 (kY (dw (aJ F_has_all hr rfl (aa (aH Rp (v3 4) (v3 3)) (aa (v3 10) aj)))))))) (aq (aM gB)) aY)
     (ak (bQ (aU (iU hu30) (aH Aj (v3 4) (v3 11)) ao) (aq (aM gB)) aY)
     (aq (aF (i:=5) sc_is_filling_number.nd (aH aR (v3 5) (v3 7))))))) aY)))
   (aq (aM (fV zO (v3 5) (v3 1)))))),?_⟩
 rw[show aO dH [T.ref a,T.int beat,T.str kind,T.int (numOf (W.tasks.map (·.1)) D),T.int (numOf (W.tasks.map (·.1)) S)]=[some (T.ref a),some (T.int beat),some (T.str kind),some (T.int (numOf (W.tasks.map (·.1)) D)),some (T.int (numOf (W.tasks.map (·.1)) S)),none,none,none,none,none,none,none] from rfl];have hsz:sizeLine=16777216:=rfl;walk_at "";refine aV (ruT W (W.tasks.map (·.1))) W.tasks (fun A Z H=>∃(v6 v7 v8 v9 v10 v11:Option T),Z=[some (.ref a),some (.int beat),some (.str kind),some (.int (numOf (W.tasks.map (·.1)) D)),some (.int (numOf (W.tasks.map (·.1)) S)),some (.int (dh A S)),v6,v7,v8,v9,v10,v11]/\H=H3/\(A.all fun t=>!decide (t.1∈S)||okT W kind D S t)=true) ⟨none,none,none,none,none,none,rfl,rfl,rfl⟩ ?_ ?_
 ·rintro Z H ⟨v6,v7,v8,v9,v10,v11,rfl,rfl,hall⟩;refine⟨.inl ha,?_⟩;walk_at "";refine Fin3.of Sub3.refl ?_;unfold uA at k;rw[hall,Yq] at k;exact k
 rintro A t B Z H N e ⟨v6,v7,v8,v9,v10,v11,rfl,rfl,hall⟩ hN;refine⟨.inl ha,?_⟩;have htm:t∈W.tasks:=by rw[e];simp
 have htn:t.1∈W.tasks.map (·.1):=k_.mpr ⟨t,htm,rfl⟩;have gsub:∀x∈fj W t.1,x∈W.tasks.map (·.1):=fun x hx=>(F_.mp hx).1;have asub:∀x∈iM W t.1,x∈W.tasks.map (·.1):=fun x hx=>(F_.mp hx).1;have psub:∀x∈je W t.1,x∈W.tasks.map (·.1):=fun x hx=>by obtain⟨p,hp,rfl⟩:=k_.mp hx;exact (hW.pp p (F_.mp hp).1).2.2.2
 have b1:decide (Builtin.bitAnd (numOf (W.tasks.map (·.1)) S) (numOf (W.tasks.map (·.1)) [t.1])=numOf (W.tasks.map (·.1)) [t.1])=decide (t.1∈S):=by rw[Vi,q_,q_];exact wF htn
 have b2:decide (Builtin.bitAnd (numOf (W.tasks.map (·.1)) D) (numOf (W.tasks.map (·.1)) [t.1])=numOf (W.tasks.map (·.1)) [t.1])=decide (t.1∈D):=by rw[Vi,q_,q_];exact wF htn
 have b3:decide (Builtin.bitAnd (numOf (W.tasks.map (·.1)) S) (numOf (W.tasks.map (·.1)) (fj W t.1))=numOf (W.tasks.map (·.1)) (fj W t.1))=@decide (∀x∈fj W t.1,x∈S) (Classical.propDecidable _):=by rw[Vi,q_,@q_ _ (Classical.propDecidable _),eQ];exact⟨fun h x hx=>h x (gsub x hx) hx,fun h x _ hx=>h x hx⟩
 have b4:decide (Builtin.bitAnd (Builtin.bitOr (numOf (W.tasks.map (·.1)) S) (numOf (W.tasks.map (·.1)) D)) (numOf (W.tasks.map (·.1)) (iM W t.1))=numOf (W.tasks.map (·.1)) (iM W t.1))=@decide (∀x∈iM W t.1,x∈S++D) (Classical.propDecidable _):=by rw[Vi,q_,@q_ _ (Classical.propDecidable _),Nu,eQ];exact⟨fun h x hx=>h x (asub x hx) hx,fun h x _ hx=>h x hx⟩
 have b5:decide (Builtin.bitAnd (numOf (W.tasks.map (·.1)) S) (numOf (W.tasks.map (·.1)) (je W t.1))=0)=@decide (∀x∈je W t.1,x∉S) (Classical.propDecidable _):=by rw[Vi,q_,@q_ _ (Classical.propDecidable _),pU];exact⟨fun h x hx hs=>h x (psub x hx) ⟨hs,hx⟩,fun h x _ z=>h x z.2 z.1⟩
 have fF:Box (t.1∈S->okT W kind D S t=false->Fin3 Q (.bl false) H):=⟨fun h1 h2=>by
  refine Fin3.of Sub3.refl ?_
  have e0:uA W beat kind D S=false:=by
   unfold uA
   rw[Bool.and_eq_false_iff]
   refine .inl ?_
   rw[List.all_eq_false]
   exact⟨t,htm,by simp [h1,h2]⟩
  rw[e0] at k
  exact k⟩
 have fN:Box (∀(v6 v7 v8 v9 v10 v11:Option T),(t.1∈S->okT W kind D S t=true)->N [some (.ref a),some (.int beat),some (.str kind),some (.int (numOf (W.tasks.map (·.1)) D)),some (.int (numOf (W.tasks.map (·.1)) S)),some (.int (dh A S+if t.1∈S then t.2.1 else 0)),v6,v7,v8,v9,v10,v11] H):=⟨fun v6 v7 v8 v9 v10 v11 h=>hN _ _ ⟨v6,v7,v8,v9,v10,v11,by rw[uB],rfl,by
  rw[List.all_append,hall]
  by_cases z:t.1∈S
  ·
   simp [h z]
  ·
   simp [z]⟩⟩
 clear hN hall k e gsub asub psub htn htm;obtain⟨nm,len,ks⟩:=t;dsimp only at *;generalize numOf (W.tasks.map (·.1)) D=nD at *;generalize numOf (W.tasks.map (·.1)) S=nS at *;simp only[ruT];generalize numOf (W.tasks.map (·.1)) [nm]=n1 at *;generalize numOf (W.tasks.map (·.1)) (fj W nm)=n2 at *;generalize numOf (W.tasks.map (·.1)) (iM W nm)=n3 at *;generalize numOf (W.tasks.map (·.1)) (je W nm)=n4 at *;unfold okT at fF fN;dsimp only at fF fN;generalize hc1:decide (nm∈D)=c1 at *;generalize hc3:@decide (∀x∈fj W nm,x∈S) (Classical.propDecidable _)=c3 at *;generalize hc4:@decide (∀x∈iM W nm,x∈S++D) (Classical.propDecidable _)=c4 at *;generalize hc5:@decide (∀x∈je W nm,x∉S) (Classical.propDecidable _)=c5 at *;clear hc1 hc3 hc4 hc5;walk_at "";refine⟨trivial,nS,n1,rfl,?_⟩;rw[b1];by_cases hS:nm∈S
 ·simp only[hS,WP,if_true,fc,true_implies] at fF fN ⊢;refine⟨nD,n1,rfl,?_⟩;rw[b2];cases c1 with
  |true =>
   try simp only[fc,if_true]
   exact fF.out (by simp)
  |false =>
  simp only[fc,y_,U7];refine⟨ks,kind,rfl,?_⟩;generalize jT ks kind=c2 at *;cases c2 with
  |false=>simp only[fc,Wc,if_true];exact fF.out (by simp)
  |true =>
  simp only[fc,V4,y_,U7];refine⟨nS,n2,rfl,?_⟩;rw[b3];cases c3 with
  |false=>simp only[fc,Wc,if_true];exact fF.out (by simp)
  |true =>
  simp only[fc,V4,y_,U7];refine⟨Builtin.bitOr nS nD,n3,rfl,?_⟩;rw[b4];cases c4 with
  |false=>simp only[fc,Wc,if_true];exact fF.out (by simp)
  |true =>
  simp only[fc,V4,y_,U7];try rw[b5]
  cases c5 with
  |false=>simp only[Wc,if_true];exact fF.out (by simp)
  |true =>
  simp only[V4,y_,U7];exact fN.out _ _ _ _ _ _ (by simp)
 simp only[hS,Wl,y_,U7,fc,Int.add_zero,false_implies] at fF fN ⊢;exact fN.out _ _ _ _ _ _ (by first | trivial | simp)
abbrev mF:List Str:=["works","number","tasks","left","task"]
theorem sc_tasks_of:FnScope mF ["works","number"] (au (top 18)):=bh
theorem sW {f:Addr}{fd:FuncData}(g:G3 K mg "tasks_of" (top 18) ["works","number"] f fd) (B:Bl mg):Cal P w K mg base 1 "tasks_of" (top 18) ["works","number"] JQ:=by
 refine⟨f,fd,g,?_⟩;refine fn3 g.fn sc_tasks_of (fun ts H Q h=>?_) (fun cdv A outer s H E ts H3 Q hr h=>?_)
 ·obtain⟨W,n,rfl,_⟩:=h;rfl
 have hu30:=Room.u30 hr;obtain⟨⟨tk,ors,prs,row⟩,n,rfl,hW,n0,n1,k⟩:=h;refine⟨_,(ak (aF (i:=2) sc_tasks_of.nd (bV aj))
   (ak (aF (i:=3) sc_tasks_of.nd (v3 1))
   (ak (bx H_ rfl (c7 (aK ix3 (v3 0) ao)) (aB (i:=4) sc_tasks_of.nd) (ak (bQ (aU (cY hu30) (aH dG (v3 3) ao) ao) (aq (bI (cN J_ M_ N_ bu (v3 2) (aa (aK ix3 (v3 4) ao) aj)))) aY)
    (aq (aF (i:=3) sc_tasks_of.nd (aH eO (v3 3) ao)))))
   (aq (aM (bc bY rfl B.tuple_ bK (aa (v3 2) aj))))))),?_⟩
 rw[show aO mF [Wk.enc ⟨tk,ors,prs,row⟩,T.int n]=[some (T.tup [T.tup (tk.map tkT),T.tup (ors.map orT),T.tup (prs.map prT),T.tup (row.map T.str)]),some (T.int n),none,none,none] from rfl];have hsz:sizeLine=16777216:=rfl;have t8:tk.length<=8:=hW.t8;walk_at "";refine⟨by omega,fun p hp=>?_⟩;refine j0 (fun r Z H=>∃(A B:List (Str × Int × List Str)) (v:Option T),tk=A++B/\r=B.map tkT/\H=up3 H3 p (.lst ((pick (A.map (·.1)) n).map T.str))/\Z=[some (T.tup [T.tup (tk.map tkT),T.tup (ors.map orT),T.tup (prs.map prT),T.tup (row.map T.str)]),some (.int n),some (.ref p),some (.int (n / 2^A.length)),v]) ⟨[],tk,none,rfl,rfl,rfl,by simp⟩ ?_ ?_
 ·rintro Z H ⟨A,B,v,e1,e2,rfl,rfl⟩;have hB:B=[]:=WK.mp e2.symm;subst hB;rw[S_] at e1;subst e1;clear e2;refine⟨trivial,?_⟩;walk_at "";exact Fin3.of (Sub3.new hp) k
 rintro x r Z H N ⟨A,B,v,e1,e2,rfl,rfl⟩ hN;cases B with
 |nil=>cases e2
 |cons t B =>
 rw[A_,WF] at e2;obtain⟨rfl,rfl⟩:=e2;have hlA:A.length+1<=8:=by have:=Q_ List.length e1;simp only[b_,j_] at this;omega
 have epk:=rD (A.map (·.1)) [t.1] n;simp only[pick,d_] at epk;have pkl:=wJ (A.map (·.1)) n;rw[d_] at pkl;have epw:n / 2^A.length / 2=n / 2^(A++[t]).length:=by rw[b_,G_,Ym,Int.ediv_ediv_of_nonneg (Int.le_of_lt (Int.pow_pos (by decide)))]
 have fin:∀v,N [some (T.tup [T.tup (tk.map tkT),T.tup (ors.map orT),T.tup (prs.map prT),T.tup (row.map T.str)]),some (.int n),some (.ref p),some (.int (n / 2^A.length / 2)),v] (up3 H3 p (.lst ((pick (A.map (·.1)++[t.1]) n).map T.str))):=fun v=>by rw[epw];exact hN _ _ ⟨A++[t],B,v,by rw[e1];simp,rfl,by simp,rfl⟩
 rw[epk] at fin;replace fin:=Box.mk fin;obtain⟨nm,len,ks⟩:=t;refine⟨trivial,?_⟩;clear hN e1 k epk epw;simp only[tkT,sT];walk_at "";try simp only[true_and]
 refine⟨by decide,?_⟩;by_cases hb:n / 2^A.length%2=1
 ·simp only[hb,if_true,WP] at fin ⊢;refine⟨by omega,?_⟩;have fo:=fin.out (some (T.tup [T.str nm,T.int len,T.tup (ks.map T.str)]));rw[u_] at fo;exact⟨⟨by decide,by decide +kernel⟩,fo⟩
 simp only[hb,U7,Wl,y_,S_] at fin ⊢;exact⟨⟨by decide,by decide +kernel⟩,fin.out _⟩
end
def DG (K:Frag):Bool:=K.all fun p=>!(p.2.cls==.type "list")
theorem DK {K:Frag}{a:Addr}{o:Obj}(e:K.lookup a=some o):(a,o)∈K:=by
 induction K with
 |nil=>cases e
 |cons p r ih =>
 obtain⟨b,u⟩:=p;rw[V7] at e;split at e
 ·rename_i h;rw[eq_of_beq h,U6 e];exact t_
 exact v_ _ (ih e)
theorem yN {K:Frag}(h:DG K=true) {a:Addr}{o:Obj}(e:K.lookup a=some o):o.cls≠.type "list":=fun z=>by
 have hm:(a,o)∈K:=DK e;have q:=U_.mp h (a,o) hm;rw[z] at q;simp at q
theorem uc {n:Nat}{us:List Value}(h:us.length=n+1):∃(a:Value) (r:List Value),us=a::r/\r.length=n:=by
 cases us with
 |nil=>exact nomatch h
 |cons a r=>exact⟨a,r,rfl,Nat.succ.inj h⟩
theorem uz {us:List Value}(h:us.length=0):us=[]:=Wb h
theorem ub1 {fd:FuncData}{x0:Str}(h:∀a0:Value,bindArgs fd ⟨[a0],[]⟩=pure ([x0].zip [a0])) (us:List Value) (e:us.length=1):bindArgs fd ⟨us,[]⟩=pure ([x0].zip us):=by
 obtain⟨a0,r0,q0,e0⟩:=uc e;rw[q0,uz e0];exact h a0
theorem ub2 {fd:FuncData}{x0 x1:Str}(h:∀a0 a1:Value,bindArgs fd ⟨[a0,a1],[]⟩=pure ([x0,x1].zip [a0,a1])) (us:List Value) (e:us.length=2):bindArgs fd ⟨us,[]⟩=pure ([x0,x1].zip us):=by
 obtain⟨a0,r0,q0,e0⟩:=uc e;obtain⟨a1,r1,q1,e1⟩:=uc e0;rw[q0,q1,uz e1];exact h a0 a1
theorem ub3 {fd:FuncData}{x0 x1 x2:Str}(h:∀a0 a1 a2:Value,bindArgs fd ⟨[a0,a1,a2],[]⟩=pure ([x0,x1,x2].zip [a0,a1,a2])) (us:List Value) (e:us.length=3):bindArgs fd ⟨us,[]⟩=pure ([x0,x1,x2].zip us):=by
 obtain⟨a0,r0,q0,e0⟩:=uc e;obtain⟨a1,r1,q1,e1⟩:=uc e0;obtain⟨a2,r2,q2,e2⟩:=uc e1;rw[q0,q1,q2,uz e2];exact h a0 a1 a2
theorem ub4 {fd:FuncData}{x0 x1 x2 x3:Str}(h:∀a0 a1 a2 a3:Value,bindArgs fd ⟨[a0,a1,a2,a3],[]⟩=pure ([x0,x1,x2,x3].zip [a0,a1,a2,a3])) (us:List Value) (e:us.length=4):bindArgs fd ⟨us,[]⟩=pure ([x0,x1,x2,x3].zip us):=by
 obtain⟨a0,r0,q0,e0⟩:=uc e;obtain⟨a1,r1,q1,e1⟩:=uc e0;obtain⟨a2,r2,q2,e2⟩:=uc e1;obtain⟨a3,r3,q3,e3⟩:=uc e2;rw[q0,q1,q2,q3,uz e3];exact h a0 a1 a2 a3
theorem ub5 {fd:FuncData}{x0 x1 x2 x3 x4:Str}(h:∀a0 a1 a2 a3 a4:Value,bindArgs fd ⟨[a0,a1,a2,a3,a4],[]⟩=pure ([x0,x1,x2,x3,x4].zip [a0,a1,a2,a3,a4])) (us:List Value) (e:us.length=5):bindArgs fd ⟨us,[]⟩=pure ([x0,x1,x2,x3,x4].zip us):=by
 obtain⟨a0,r0,q0,e0⟩:=uc e;obtain⟨a1,r1,q1,e1⟩:=uc e0;obtain⟨a2,r2,q2,e2⟩:=uc e1;obtain⟨a3,r3,q3,e3⟩:=uc e2;obtain⟨a4,r4,q4,e4⟩:=uc e3;rw[q0,q1,q2,q3,q4,uz e4];exact h a0 a1 a2 a3 a4
theorem U5 {K:Frag}{h:Heap}{mg:Str->Option Value}{x:Str}{st:Stmt}{ps:List Str}{f:Addr}{oc:Value}{od an:Option Addr}{osl:Array (Option Value)}{kV doc pm cdv ct:Value}(X:K.In h) (G:h.Ns mainGlobals mg)
  (a:nsIn K mainGlobals x=some (some (.ref f))) (l:K.lookup f=some ⟨oc,od,.func (fnOf x x (b7 st) (bL st) (au st) .none kV doc pm an cdv ct),osl⟩) (c:codeIn K cdv x=true) (k:keepIn K (.ref f)=true)
  (hb:∀(kV doc pm:Value) (an:Option Addr) (cdv ct:Value) (us:List Value),us.length=ps.length->bindArgs (fnOf x x (b7 st) (bL st) (au st) .none kV doc pm an cdv ct) ⟨us,[]⟩=pure (ps.zip us)) :
  G3 K mg x st ps f (fnOf x x (b7 st) (bL st) (au st) .none kV doc pm an cdv ct) :=
 have F:=kJ (st:=st) l c k
 ⟨F,F.binds hb,mg_of X G a⟩
theorem cA (i:Nat) (ps:List Str) (x:Str) (f:Addr) (m:Str) (t c:Nat) {K:Frag}{h:Heap}{mg:Str->Option Value}(X:K.In h) (G:h.Ns mainGlobals mg)
  (hb:∀(kV doc pm:Value) (an:Option Addr) (cdv ct:Value) (us:List Value),us.length=ps.length->bindArgs (fnOf x x (b7 (top i)) (bL (top i)) (au (top i)) .none kV doc pm an cdv ct) ⟨us,[]⟩=pure (ps.zip us))
  (a:nsIn K mainGlobals x=some (some (.ref f)):=by kernel_rfl) (l:K.lookup f=some (fO i x m t c):=by kernel_rfl) (e:codeIn K (.ref c) x=true:=by kernel_rfl) (k:keepIn K (.ref f)=true:=by kernel_rfl) :
  G3 K mg x (top i) ps f (fnOf x x (b7 (top i)) (bL (top i)) (au (top i)) .none .none .none (.str m t) none (.ref c) .none) :=
 U5 X G a l e k hb
def Tw:Stmt->Pos->Pos
 |.FunctionDef _ _ _ _ _ _ _ _ _ p,_=>p
 |_,p=>p
def dv:DefRec:=⟨"law",b7 (top 51),bL (top 51),au (top 51),Tw (top 51) default⟩
theorem all_ok {l:PySem.W.OpenLaw}{w:World}{h:Heap}{mg:Str->Option Value}{fa:Addr}(X:(KK w.params).In h) (G:h.Ns mainGlobals mg) (hfa:mg "law"=some (.ref fa)) :
  ∃fd:FuncData,(∀(s:Shared) (v:Value),BindsTo s fd ⟨[v],[]⟩ [("_law_script",v)])/\∀base:Heap,(KK w.params).In base->base.Ns mainGlobals mg->jG l.prog w (KK w.params) mg base 10 fa fd ["_law_script"] wU:=by
 have at_:∀{n:Str} {v:Value},nsIn (KK w.params) mainGlobals n=some (some v)->mg n=some v:=fun e=>mg_of X G e;have no_:∀{n:Str},nsIn (KK w.params) mainGlobals n=some none->mg n=none:=fun e=>PySem.W.mg_none_of X G e;have e:=hfa.symm.trans (at_ (v:=.ref 306) (by kernel_rfl));cases e;have B:Bl mg:=⟨no_ (by kernel_rfl),no_ (by kernel_rfl),no_ (by kernel_rfl),no_ (by kernel_rfl),no_ (by kernel_rfl),no_ (by kernel_rfl),no_ (by kernel_rfl),no_ (by kernel_rfl),no_ (by kernel_rfl),no_ (by kernel_rfl),no_ (by kernel_rfl),no_ (by kernel_rfl),no_ (by kernel_rfl),no_ (by kernel_rfl),no_ (by kernel_rfl),no_ (by kernel_rfl),no_ (by kernel_rfl),no_ (by kernel_rfl),no_ (by kernel_rfl),no_ (by kernel_rfl)⟩;have g__wall:=cA 0 ["k"] "_wall" 21 "__main__" 164 20 X G fun _ _ _ _ _ _=>ub1 fun _=>rfl;have g_links_of:=cA 2 ["works"] "links_of" 28 "stationrow.chains" 194 27 X G fun _ _ _ _ _ _=>ub1 fun _=>rfl;have g_reached:=cA 3 ["links","start"] "reached" 35 "stationrow.chains" 194 34 X G fun _ _ _ _ _ _=>ub2 fun _ _=>rfl;have g_led_to:=cA 4 ["works","task"] "led_to" 42 "stationrow.chains" 194 41 X G fun _ _ _ _ _ _=>ub2 fun _ _=>rfl;have g_led_from:=cA 5 ["works","task"] "led_from" 47 "stationrow.chains" 194 46 X G fun _ _ _ _ _ _=>ub2 fun _ _=>rfl;have g_in_both:=cA 6 ["works","found","other"] "in_both" 52 "stationrow.chains" 194 51 X G fun _ _ _ _ _ _=>ub3 fun _ _ _=>rfl;have g_in_first_alone:=cA 7 ["works","found","other"] "in_first_alone" 57 "stationrow.chains" 194 56 X G fun _ _ _ _ _ _=>ub3 fun _ _ _=>rfl;have g_group_of:=cA 8 ["works","task"] "group_of" 64 "stationrow.chains" 194 63 X G fun _ _ _ _ _ _=>ub2 fun _ _=>rfl;have g_ahead_of:=cA 9 ["works","task"] "ahead_of" 71 "stationrow.chains" 194 70 X G fun _ _ _ _ _ _=>ub2 fun _ _=>rfl;have g_may_be_done:=cA 11 ["kinds","kind"] "may_be_done" 78 "stationrow.checks" 261 77 X G fun _ _ _ _ _ _=>ub2 fun _ _=>rfl;have g_turned_about:=cA 13 ["works"] "turned_about" 83 "stationrow.works" 271 82 X G fun _ _ _ _ _ _=>ub1 fun _=>rfl;have g_names_of:=cA 15 ["tasks"] "names_of" 88 "stationrow.texts" 279 87 X G fun _ _ _ _ _ _=>ub1 fun _=>rfl;have g_number_of:=cA 17 ["works","tasks"] "number_of" 95 "stationrow.sets" 287 94 X G fun _ _ _ _ _ _=>ub2 fun _ _=>rfl;have g_tasks_of:=cA 18 ["works","number"] "tasks_of" 102 "stationrow.sets" 287 101 X G fun _ _ _ _ _ _=>ub2 fun _ _=>rfl;have g_apart_from:=cA 20 ["works","task"] "apart_from" 107 "stationrow.fillings" 311 106 X G fun _ _ _ _ _ _=>ub2 fun _ _=>rfl;have g_rules_of:=cA 21 ["works"] "rules_of" 114 "stationrow.fillings" 311 113 X G fun _ _ _ _ _ _=>ub1 fun _=>rfl;have g_has_all:=cA 22 ["number","part"] "has_all" 121 "stationrow.fillings" 311 120 X G fun _ _ _ _ _ _=>ub2 fun _ _=>rfl;have g_is_filling_number:=cA 23 ["rules","beat","kind","done","number"] "is_filling_number" 128 "stationrow.fillings" 311 127 X G fun _ _ _ _ _ _=>ub5 fun _ _ _ _ _=>rfl;have g_greatest_numbers:=cA 24 ["numbers"] "greatest_numbers" 133 "stationrow.fillings" 311 132 X G fun _ _ _ _ _ _=>ub1 fun _=>rfl;have g_parts_of:=cA 26 ["number"] "parts_of" 138 "stationrow.walks" 366 137 X G fun _ _ _ _ _ _=>ub1 fun _=>rfl;have g_ways_behind:=cA 29 ["walk","stand","ways"] "ways_behind" 190 "stationrow.dealt" 436 189 X G fun _ _ _ _ _ _=>ub3 fun _ _ _=>rfl;have g_dealing_to:=cA 30 ["works","beat","many"] "dealing_to" 197 "stationrow.dealt" 436 196 X G fun _ _ _ _ _ _=>ub3 fun _ _ _=>rfl;have g_loads_rising:=cA 32 ["works"] "loads_rising" 202 "stationrow.beats" 463 201 X G fun _ _ _ _ _ _=>ub1 fun _=>rfl;have g_least_beat:=cA 33 ["works","many"] "least_beat" 209 "stationrow.beats" 463 208 X G fun _ _ _ _ _ _=>ub2 fun _ _=>rfl;have g_beats_of:=cA 34 ["works"] "beats_of" 214 "stationrow.beats" 463 213 X G fun _ _ _ _ _ _=>ub1 fun _=>rfl;have g_numbers:=cA 36 ["_law_script"] "_law_numbers" 221 mlw 489 220 X G fun _ _ _ _ _ _=>ub1 fun _=>rfl;have g_draw:=cA 37 ["_law_deck","_law_most"] "_law_draw" 228 mlw 489 227 X G fun _ _ _ _ _ _=>ub2 fun _ _=>rfl;have g_great:=cA 38 ["_law_deck","_law_most"] "_law_great" 235 mlw 489 234 X G fun _ _ _ _ _ _=>ub2 fun _ _=>rfl;have g_free_name:=cA 39 ["_law_size","_law_number","_law_names_here"] "_law_free_name" 242 mlw 489 241 X G fun _ _ _ _ _ _=>ub3 fun _ _ _=>rfl;have g_names:=cA 40 ["_law_deck","_law_many"] "_law_names" 247 mlw 489 246 X G fun _ _ _ _ _ _=>ub2 fun _ _=>rfl;have g_turn:=cA 41 ["_law_deck","_law_things"] "_law_turn" 254 mlw 489 253 X G fun _ _ _ _ _ _=>ub2 fun _ _=>rfl;have g_lengths:=cA 42 ["_law_deck","_law_many"] "_law_lengths" 259 mlw 489 258 X G fun _ _ _ _ _ _=>ub2 fun _ _=>rfl;have g_chained:=cA 43 ["_law_many","_law_edges"] "_law_chained" 264 mlw 489 263 X G fun _ _ _ _ _ _=>ub2 fun _ _=>rfl;have g_pairs:=cA 44 ["_law_deck","_law_names_here","_law_orders","_law_lots"] "_law_pairs" 269 mlw 489 268 X G fun _ _ _ _ _ _=>ub4 fun _ _ _ _=>rfl;have g_some_kinds:=cA 45 ["_law_deck","_law_common","_law_names_here"] "_law_some_kinds" 274 mlw 489 273 X G fun _ _ _ _ _ _=>ub3 fun _ _ _=>rfl;have g_kinds:=cA 46 ["_law_deck","_law_row","_law_names_here","_law_table"] "_law_kinds" 279 mlw 489 278 X G fun _ _ _ _ _ _=>ub4 fun _ _ _ _=>rfl;have g_works:=cA 47 ["_law_deck","_law_most","_law_stands"] "_law_works" 284 mlw 489 283 X G fun _ _ _ _ _ _=>ub3 fun _ _ _=>rfl;have g_otherwise:=cA 48 ["_law_deck","_law_works_here"] "_law_otherwise" 289 mlw 489 288 X G fun _ _ _ _ _ _=>ub2 fun _ _=>rfl;have g_fewer:=cA 49 ["_law_deck","_law_works_here"] "_law_fewer" 296 mlw 489 295 X G fun _ _ _ _ _ _=>ub2 fun _ _=>rfl;have g_longer:=cA 50 ["_law_works_here","_law_times"] "_law_longer" 301 mlw 489 300 X G fun _ _ _ _ _ _=>ub2 fun _ _=>rfl;have g_law:=cA 51 ["_law_script"] "law" 306 mlw 489 305 X G fun _ _ _ _ _ _=>ub1 fun _=>rfl;refine⟨fnOf "law" "law" (b7 (top 51)) (bL (top 51)) (au (top 51)) .none .none .none (.str mlw 489) none (.ref 305) .none,fun s v=>.of_eq rfl,fun base _ _=>?_⟩;have Cls_Walk:Cls (KK w.params) 179:=⟨by kernel_rfl,by kernel_rfl,by kernel_rfl,by kernel_rfl⟩;have NF_Walk:∀n∈(["works","beat","rules","whole"]:List Str),findIn (KK w.params) (.ref 179) n=some none:=fun n hn=>by
  rcases p_.mp hn with rfl | hn
  ·kernel_rfl
  rcases p_.mp hn with rfl | hn
  ·kernel_rfl
  rcases p_.mp hn with rfl | hn
  ·kernel_rfl
  rw[i_.mp hn];kernel_rfl
 have I_Walk:InsC (KK w.params) 179 ["works","beat","rules","whole"]:=⟨Cls_Walk,NF_Walk⟩;have fw___init__:Fun (KK w.params) "__init__" "Walk.__init__" (topm 27 0) 152 (fnOf "__init__" "Walk.__init__" (b7 (topm 27 0)) (bL (topm 27 0)) (au (topm 27 0)) .none .none .none (.str "stationrow.walks" 366) none (.ref 151) .none):=kJ (oc:=.type "function") (od:=none) (osl:=#[]) (by kernel_rfl) (by kernel_rfl) (by kernel_rfl);have g_Walk:GI (KK w.params) mg 179 "Walk" "Walk.__init__" (topm 27 0) ["self","works","beat"] 152 _:=⟨⟨by kernel_rfl,by kernel_rfl,by kernel_rfl,by kernel_rfl⟩,fw___init__,fw___init__.binds fun _ _ _ _ _ _=>ub3 fun _ _ _=>rfl,at_ (v:=.ref 179) (by kernel_rfl)⟩;have fw_fillings_at:Fun (KK w.params) "fillings_at" "Walk.fillings_at" (topm 27 1) 157 (fnOf "fillings_at" "Walk.fillings_at" (b7 (topm 27 1)) (bL (topm 27 1)) (au (topm 27 1)) .none .none .none (.str "stationrow.walks" 366) none (.ref 156) .none):=kJ (oc:=.type "function") (od:=none) (osl:=#[]) (by kernel_rfl) (by kernel_rfl) (by kernel_rfl);have g_fillings_at:GM (KK w.params) 179 "fillings_at" "Walk.fillings_at" (topm 27 1) ["self","stand","done"] 157 _:=⟨Cls_Walk,fw_fillings_at,fw_fillings_at.binds fun _ _ _ _ _ _=>ub3 fun _ _ _=>rfl,⟨by kernel_rfl,by kernel_rfl,by kernel_rfl⟩⟩;have fw_greatest_at:Fun (KK w.params) "greatest_at" "Walk.greatest_at" (topm 27 2) 164 (fnOf "greatest_at" "Walk.greatest_at" (b7 (topm 27 2)) (bL (topm 27 2)) (au (topm 27 2)) .none .none .none (.str "stationrow.walks" 366) none (.ref 163) .none):=kJ (oc:=.type "function") (od:=none) (osl:=#[]) (by kernel_rfl) (by kernel_rfl) (by kernel_rfl);have g_greatest_at:GM (KK w.params) 179 "greatest_at" "Walk.greatest_at" (topm 27 2) ["self","stand","done"] 164 _:=⟨Cls_Walk,fw_greatest_at,fw_greatest_at.binds fun _ _ _ _ _ _=>ub3 fun _ _ _=>rfl,⟨by kernel_rfl,by kernel_rfl,by kernel_rfl⟩⟩;have fw_dealing_of:Fun (KK w.params) "dealing_of" "Walk.dealing_of" (topm 27 4) 176 (fnOf "dealing_of" "Walk.dealing_of" (b7 (topm 27 4)) (bL (topm 27 4)) (au (topm 27 4)) .none .none .none (.str "stationrow.walks" 366) none (.ref 175) .none):=kJ (oc:=.type "function") (od:=none) (osl:=#[]) (by kernel_rfl) (by kernel_rfl) (by kernel_rfl);have g_dealing_of:GM (KK w.params) 179 "dealing_of" "Walk.dealing_of" (topm 27 4) ["self","fillings"] 176 _:=⟨Cls_Walk,fw_dealing_of,fw_dealing_of.binds fun _ _ _ _ _ _=>ub2 fun _ _=>rfl,⟨by kernel_rfl,by kernel_rfl,by kernel_rfl⟩⟩;have F_numbers:=uK (P:=l.prog) (w:=w) (base:=base) g_numbers B;have F_draw:=HJ (P:=l.prog) (w:=w) (base:=base) g_draw B;have F_free_name:=qi (P:=l.prog) (w:=w) (base:=base) g_free_name B;have F_names:=Du g_names B F_draw F_free_name;have F_turn:=HN g_turn B F_draw;have F_chained:=uL (P:=l.prog) (w:=w) (base:=base) g_chained B;have F_pairs:=Dt g_pairs B (Dp F_turn) F_draw F_chained;have F_some_kinds:=mU g_some_kinds B (Dp F_turn) F_draw;have F_kinds:=Ds g_kinds B F_draw F_some_kinds;have F_great:=Dq g_great B F_draw;have F_lengths:=uM g_lengths B F_draw F_great
 have F_works:=Dv g_works B F_names F_draw (Dp F_turn) F_pairs F_kinds F_lengths;have F_loads_rising:=jV (P:=l.prog) (w:=w) (base:=base) g_loads_rising B;have F_number_of:=qm (P:=l.prog) (w:=w) (base:=base) g_number_of B;have F_apart_from:=mY (P:=l.prog) (w:=w) (base:=base) g_apart_from B;have F_in_first_alone:=jo (P:=l.prog) (w:=w) (base:=base) g_in_first_alone B;have F_reached:=uN (P:=l.prog) (w:=w) (base:=base) g_reached B;have F_links_of:=su (P:=l.prog) (w:=w) (base:=base) g_links_of B;have F_led_from:=sE g_led_from B F_reached F_links_of;have F_led_to:=yM g_led_to B F_reached F_links_of;have F_ahead_of:=sJ g_ahead_of B F_in_first_alone F_led_from F_led_to;have F_in_both:=uP (P:=l.prog) (w:=w) (base:=base) g_in_both B;have F_group_of:=sH g_group_of B F_in_both F_led_to F_led_from
 have F_rules_of:=sV g_rules_of B F_number_of F_apart_from F_ahead_of F_group_of;have F_names_of:=sU (P:=l.prog) (w:=w) (base:=base) g_names_of B;have M_Walk:=HS g_Walk B I_Walk F_rules_of F_number_of F_names_of;have F_has_all:=uR (P:=l.prog) (w:=w) (base:=base) g_has_all B;have F_greatest_numbers:=iw g_greatest_numbers B F_has_all;have F_parts_of:=sO g_parts_of B F_has_all;have F_may_be_done:=my (P:=l.prog) (w:=w) (base:=base) g_may_be_done B;have F_is_filling_number:=gU g_is_filling_number B F_has_all F_may_be_done;have M_fillings_at:=mC g_fillings_at B I_Walk F_parts_of F_is_filling_number;have M_greatest_at:=lZ g_greatest_at B I_Walk F_greatest_numbers M_fillings_at
 have F_ways_behind:=lX g_ways_behind B I_Walk M_greatest_at
 have F_tasks_of:=sW (P:=l.prog) (w:=w) (base:=base) g_tasks_of B;have M_dealing_of:=m5 g_dealing_of B I_Walk F_tasks_of;have F_dealing_to:=mW g_dealing_to B I_Walk M_Walk F_ways_behind M_dealing_of;have F_least_beat:=mV g_least_beat B F_loads_rising F_dealing_to;have F_beats_of:=sr g_beats_of B F_least_beat
 have F_otherwise:=ql g_otherwise B F_names F_turn F_draw;have F_turned_about:=jU (P:=l.prog) (w:=w) (base:=base) g_turned_about B;have F_longer:=yK (P:=l.prog) (w:=w) (base:=base) g_longer B;have F_fewer:=Dy g_fewer B F_draw;exact Ow g_law B F_numbers F_works F_beats_of F_otherwise F_least_beat F_turned_about F_draw F_longer F_fewer
theorem walk {l:PySem.W.OpenLaw}{q:Program}{loose:List Str}{XP:(Str->Option Value)->Heap->Prop}{YP:World->Heap->Prop}{d:DefRec}{K:Params->Frag}(hn:l.most=some 63) (hdf:d.params.defaults=[])
  (hY:∀(w:World) (h:Heap),YP w h->(K w.params).In h) (hNL:∀w:World,DG (K w.params)=true)
  (F:∀(w:World) (mg:Str->Option Value) (fa:Addr) (h:Heap),(K w.params).In h->h.Ns mainGlobals mg->mg d.name=some (.ref fa) ->
   ∃fd:FuncData,(∀(s:Shared) (u:Value),BindsTo s fd ⟨[u],[]⟩ [("_law_script",u)])/\∀base:Heap,(K w.params).In base->base.Ns mainGlobals mg->jG l.prog w (K w.params) mg base 10 fa fd ["_law_script"] wU) :
  PySem.W.WalkO q loose XP YP l.row.toRowW d [] (fun f vs=>PySem.call f vs):=by
 refine L2.walk_of (n:=63) (k:=10) (x:="_law_script") (CX:=fun _=>CX0) (sp:=fun w=>qP (K w.params) wU) hn (by decide) hdf ⟨rfl,by decide,by decide,rfl⟩ hY F (fun w H a ns hl hO hS=>?_) fun _ _ _ _ _ z=>z;refine⟨[.ref a],fun b=>if b=a then some (.rol (ns.map T.int)) else none,fun t _=>t=.bl true,.cons .ofRef .nil,fun b o e=>?_,⟨a,ns,rfl,if_pos rfl,hl,fun _=>rfl⟩,fun v H' t H3' _ _ r q=>?_⟩
 ·dsimp only at e;by_cases hb:b=a
  ·rw[if_pos hb] at e;cases e;subst hb;rcases hS with hS | ⟨o,its,n,hk,hc,_⟩
   ·refine⟨_,hS,?_⟩;have:∀ms:List Int,Reps (K w.params) H (ms.map T.int) (ms.map V.int):=fun ms=>by
     induction ms with
     |nil=>exact .nil
     |cons m r ih=>exact .cons .ofInt ih
    exact this ns
   exact absurd hc (yN (hNL w) hk)
  rw[if_neg hb] at e;cases e
 subst q;exact r.bl
end M
open PySem PySem.W PyProof.Rows
set_option maxRecDepth 100000 in
set_option maxHeartbeats 0 in
theorem PySem.Challenge.cw_stationrow_k63_whole_beats_of_others_holds : PySem.Challenge.rw_stationrow_k63_whole_beats_of_others.Holds := by
 refine holds_law (by kernel_rfl) fun said=>?_;refine holds_open (d:=M.dv) (kwd:=[]) (q:=M.qv) (loose:=[]) (Xt:=fun s=>xlAt M.qv [] s&&recOk (RowW.records (OpenLaw.row PySem.Challenge.rw_stationrow_k63_whole_beats_of_others).toRowW) s) (XP:=XL M.qv []) (Yf:=Hook.obs M.HK) (Ya:=Hook.val M.HK) (YP:=Hook.says M.HK) (N:=3424) M.left (Hook.of M.HK) (Hook.keeps M.HK) (fun s e=>xl_of s (Bool.and_eq_true_iff.mp e).1) XL.keeps (by kernel_rfl) (by kernel_rfl) (by kernel_rfl) (fun s e=>recFacts_of (Bool.and_eq_true_iff.mp e).2) (by kernel_rfl) (by first | assumption | kernel_rfl) (by kernel_rfl) ⟨rfl,rfl,rfl,rfl,rfl,by decide +kernel⟩ ?hw ?hc
 case hw=>w_witness2
 case hc=>exact M.walk (l:=PySem.Challenge.rw_stationrow_k63_whole_beats_of_others) rfl rfl (fun w h Y=>kIn_of Y) (fun w=>by kernel_rfl) fun w mg fa h KX G hmg=>M.all_ok KX G hmg
#print axioms PySem.Challenge.cw_stationrow_k63_whole_beats_of_others_holds
