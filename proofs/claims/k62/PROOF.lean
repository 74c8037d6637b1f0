import PyProof.Rows.All
import PyProof.EqAt
import PyProof.EqKinds
import PyProof.TupleCall
import PyProof.NeKinds
import PyProof.StrWalks
import PyProof.Rows.SetFrom
import PyProof.WalksMore
import KE.KIntText
import PyProof.EnumMake
import PyProof.WalkInts
import PyProof.ReprRoads
import PyProof.ReprLen
import KE.KRevIter
import KE.KRevSl
import PyProof.StrCalls
import PyProof.Rows.StrFit
import KE.KDictOf
import PyProof.AttrMissHeap
import PyProof.DictItems
import KE.KDictLaws
import KE.KDictList
import KE.KSortTup
import PyProof.Rows.SortRuns
import PyProof.Rows.SortShell
import PyProof.StrLawsTight
import Wide.Line
import OpenK.KOwn
import KE.KFromBytes
import KE.KItem
import KE.KIsAll
import PySem.Challenge.RW_stationrow_k62_beats_of_all_stands
abbrev a_:=@List.length_append
abbrev b_:=@PySem.wpAny_bind
abbrev d_:=@List.getElem?_eq_getElem
abbrev e_:=@PySem.Heap.get?_push_of_some
abbrev g_:=@List.length_map
abbrev h_:=@List.mem_singleton
abbrev i_:=@List.length_cons
abbrev j_:=@Nat.le_refl
abbrev k_:=@PySem.wpAny_pure
abbrev l_:=@List.size_toArray
abbrev m_:=@Bool.false_ne_true
abbrev n_:=@List.mem_cons
abbrev o_:=@List.length_range
abbrev p_:=@decide_eq_true_iff
abbrev q_:=@List.mem_cons_self
abbrev t_:=@List.append_assoc
abbrev u_:=@List.mem_append
abbrev v_:=@PyProof.Rows.wpS_bind
abbrev x_:=@List.mem_map
abbrev y_:=@List.map_append
abbrev z_:=@List.mem_cons_of_mem
abbrev A_:=@decide_eq_false
abbrev B_:=@List.map_cons
abbrev C_:=@PySem.Heap.get?_push_size
abbrev D_:=@Array.length_toList
abbrev E_:=@PySem.Heap.lt_size
abbrev F_:=@decide_eq_true
abbrev G_:=@List.mem_filter
abbrev H_:=@Bool.false_eq_true
abbrev I_:=@PyProof.Rows.wpS_pure
abbrev J_:=@List.getElem?_map
abbrev K_:=@PySem.PassesOwn.never
abbrev L_:=@List.length_singleton
abbrev M_:=@List.getElem?_append_right
abbrev N_:=@List.append_nil
abbrev O_:=@List.mem_range
abbrev P_:=@Array.getElem?_eq_getElem
abbrev Q_:=@PySem.F.plainAttrs_list
abbrev R_:=@Nat.lt_of_lt_of_le
abbrev S_:=@PySem.F.slot_list_append
abbrev T_:=@PySem.F.type_list_append
abbrev U_:=@congrArg
abbrev V_:=@List.mem_append_right
abbrev Wb:=@List.getElem?_append_left
abbrev Wc:=@Nat.le_trans
abbrev Wd:=@List.getD_eq_getElem?_getD
abbrev We:=@Option.some.inj
abbrev Wf:=@List.getElem?_eq_none
abbrev Wg:=@List.take_append_drop
abbrev Wh:=@Nat.ne_of_lt
abbrev Wi:=@List.length_take
abbrev Wj:=@List.pairwise_iff_getElem
abbrev Wl:=@if_false
abbrev Wm:=@Array.size_push
abbrev Wn:=@List.mem_append_left
abbrev Wo:=@List.length_drop
abbrev Wq:=@Array.getElem?_toList
abbrev Wr:=@Bool.and_eq_true
abbrev Ws:=@List.getElem_mem
abbrev Wu:=@Array.toList_append
abbrev Wv:=@Bool.eq_iff_iff
abbrev Ww:=@List.length_filter_le
abbrev Wx:=@PyProof.Rows.callWith_type1
abbrev Wz:=@of_decide_eq_true
abbrev WD:=@List.all_eq_true
abbrev WF:=@List.getElem_of_mem
abbrev WK:=@Int.le_trans
abbrev WL:=@Nat.lt_irrefl
abbrev WM:=@List.take_of_length_le
abbrev WN:=@Array.getElem_toList
abbrev WP:=@Int.le_of_lt
abbrev WQ:=@List.map_map
abbrev WR:=@PySem.wpAny_Call_Name_kw
abbrev WT:=@Int.le_refl
abbrev WW:=@List.map_nil
abbrev WX:=@Bool.not_true
abbrev WY:=@List.getElem?_eq_some_iff
abbrev W0:=@List.drop_eq_getElem_cons
abbrev W2:=@PySem.Calls.spliced_cons
abbrev W3:=@List.drop_of_length_le
abbrev W4:=@PyProof.Rows.wpS_forRange
abbrev W5:=@Int.emod_lt_of_pos
abbrev W6:=@List.nodup_cons
abbrev W7:=@Int.emod_nonneg
abbrev W8:=@List.not_mem_nil
abbrev W9:=@PySem.Heap.get?_update_ne
abbrev W_:=@PySem.wpAny_mono
abbrev Xa:=@Nat.zero_le
abbrev Xb:=@List.pairwise_append
abbrev Xc:=@Nat.le_of_lt
abbrev Xd:=@List.lookup_cons
abbrev Xe:=@List.mem_flatten
abbrev Xf:=@beq_eq_false_iff_ne
abbrev Xg:=@List.length_reverse
abbrev Xh:=@PySem.Calls.spliced_nil
abbrev Xi:=@Int.toNat_natCast
abbrev Xj:=@PySem.wpAny_newObj_type
abbrev Xk:=@Nat.lt_succ_of_lt
abbrev Xl:=@List.eq_nil_of_length_eq_zero
abbrev Xm:=@Bool.not_false
abbrev Xn:=@List.length_nil
abbrev Xo:=@PySem.F.called_set
abbrev Xp:=@List.mem_of_getElem?
abbrev Xq:=@List.length_eq_zero_iff
abbrev Xr:=@List.getElem?_cons_zero
abbrev Xu:=@PySem.wpAny_holding
abbrev Xv:=@PySem.Heap.get?_update_other
abbrev Xw:=@List.flatten_cons
abbrev Xx:=@decide_false
abbrev Xy:=@Array.size_append
abbrev Xz:=@List.filter_congr
abbrev XC:=@List.replicate_succ
abbrev XD:=@List.getElem?_range
abbrev XF:=@List.map_congr_left
abbrev XH:=@PySem.Heap.get?_update_self
abbrev XJ:=@List.sum_cons
abbrev XM:=@PySem.Heap.size_push
abbrev XN:=@Array.toList_push
abbrev XQ:=@List.map_eq_nil_iff
abbrev XR:=@PyProof.Rows.F.plain_set_update_loop
abbrev XS:=@decide_true
abbrev XX:=@PySem.wpAny_call_entry
abbrev X3:=@List.any_eq_true
abbrev X4:=@List.filter_cons
abbrev X5:=@Int.natCast_nonneg
abbrev X6:=@Nat.lt_or_eq_of_le
abbrev X7:=@List.filter_append
abbrev X8:=@List.extract_eq_take_drop
abbrev X_:=@PySem.wpAny_passesOwn
abbrev Yb:=@List.nil_append
abbrev Yc:=@List.cons.injEq
abbrev Yd:=@PySem.wpAny_truthy_bool
abbrev Ye:=@List.getElem_drop
abbrev Yg:=@List.getElem_take
abbrev Yh:=@List.mem_of_mem_take
abbrev Yi:=@Nat.pow_le_pow_right
abbrev Yj:=@beq_iff_eq
abbrev Yk:=@PyProof.Rows.slot_tuple_getitem
abbrev Yl:=@Int.toNat_of_nonneg
abbrev Ym:=@List.reverse_append
abbrev Yn:=@Nat.lt_succ_self
abbrev Yo:=@List.getElem?_replicate
abbrev Yp:=@List.cons_append
abbrev Yq:=@PySem.wpAny_getItem_str_slice
abbrev Yr:=@List.getElem?_cons_succ
abbrev Ys:=@PySem.wpAny_setField
abbrev Yt:=@PyProof.Rows.wpS_mono
abbrev Yu:=@List.take_append_of_le_length
abbrev Yv:=@List.getElem?_set_self
abbrev Yw:=@Nat.le_of_eq
abbrev Yx:=@PySem.Calls.callWith_builtin
abbrev Yy:=@Array.getElem?_eq_none
abbrev Yz:=@List.filter_eq_nil_iff
abbrev YB:=@List.find?_cons
abbrev YC:=@PySem.codeAny_builtin
abbrev YD:=@List.dropLast_concat_getLast
abbrev YF:=@PySem.Paired.length
abbrev YG:=@Bool.and_true
abbrev YH:=@List.length_replicate
abbrev YJ:=@PySem.builtinLookup_eq_fast
abbrev YK:=@List.getElem?_toArray
abbrev YL:=@List.perm_append_comm
abbrev YM:=@List.singleton_append
abbrev YQ:=@Array.getD_eq_getD_getElem?
abbrev YS:=@PySem.wpAny_setState_of
abbrev YT:=@List.nodup_append
abbrev YW:=@Bool.not_eq_true'
abbrev YX:=@List.getElem?_set_ne
abbrev YZ:=@Nat.not_lt
abbrev Y0:=@PySem.wpAny_rule
abbrev Y4:=@List.length_eraseIdx_of_lt
abbrev Y5:=@Array.toList_reverse
abbrev Y6:=@List.Perm.refl
abbrev Y7:=@PySem.codeAny_mono
abbrev Y8:=@Nat.lt_trans
abbrev Y9:=@beq_self_eq_true
abbrev Y_:=@PySem.wpAny_askSetting
abbrev Za:=@List.flatten_append
abbrev Zb:=@PySem.F.args_tuple_add_2
abbrev Zc:=@List.any_cons
abbrev Zd:=@or_false
abbrev Ze:=@List.Pairwise.imp_of_mem
abbrev Zf:=@PySem.tupleKind_room_in1
abbrev Zg:=@List.pairwise_cons
abbrev Zh:=@Array.size_extract
abbrev Zi:=@Nat.add_sub_cancel
abbrev Zj:=@List.reverse_cons
abbrev Zk:=@List.drop_zero
abbrev Zm:=@PySem.isSubtype_type
abbrev Zn:=@Nat.lt_trichotomy
abbrev Zo:=@List.pairwise_map
abbrev Zq:=@Nat.lt_or_ge
abbrev Zr:=@Nat.lt_of_succ_lt
abbrev Zt:=@List.nodup_nil
abbrev Zu:=@Int.pow_succ
abbrev Zv:=@List.Sublist.refl
abbrev Zw:=@List.foldl_append
abbrev Zx:=@PySem.call_meets
abbrev Zy:=@PySem.plainId_quiet
abbrev Zz:=@Bool.true_and
open PySem.W (Frag InstAt LeftO callWith_K cellsFrom_some codeIn emptyDict findIn fnOf handedIn hasDictIn instObj isFn kHook keepIn kia_one kitOne kitx_dict kitx_list kitx_tuple lookIn makesIn methodObj mg_of mroIn nsIn plainGet plainGet_of plainOver recOk takerIn typeIn xlAt)
noncomputable section
open PySem PySem.Spec PyProof.Rows
set_option Elab.async false
set_option linter.all false
set_option maxRecDepth 100000
namespace L2
def bZ (s:Stmt):Arguments:=match s with
 |.FunctionDef _ a _ _ _ _ _ _ _ _=>a
 |_=>{ posonlyargs:=[],args:=[],vararg:=none,kwonlyargs:=[],kw_defaults:=[],kwarg:=none,defaults:=[]}
def bN (s:Stmt):List Stmt:=match s with
 |.FunctionDef _ _ b _ _ _ _ _ _ _=>b
 |_=>[]
def aA (s:Stmt):Scope:=match s with
 |.FunctionDef _ _ _ _ _ _ a _ _ _=>a
 |_=>{ kind:=.function,names:=[],isGenerator:=false,isCoroutine:=false}
end L2
namespace M
open L2
def dealt (ns:List Str) (f:Str->Nat) (m:Nat):List (List Str):=(List.range m).map fun k=>ns.filter fun n=>decide (f n=k)
def top (i:Nat):Stmt:=PySem.Challenge.pw_stationrow_k62_beats_of_all_stands.main.body.getD i (.Pass ⟨0,0,0,0⟩)
def Jf:Stmt->List Stmt
 |.ClassDef _ _ _ a _ _ _ _ _ _ _=>a
 |_=>[]
def topm (i j:Nat):Stmt:=(Jf (top i)).getD j (.Pass ⟨0,0,0,0⟩)
def qv:Program:={ PySem.Challenge.pw_stationrow_k62_beats_of_all_stands with main:={ PySem.Challenge.pw_stationrow_k62_beats_of_all_stands.main with body:=([0,2,3,4,5,6,7,8,9,11,13,15,16,18,19,20,21,22,24,25,27,28,30,31,32,34,35,36,37,38,39,40,41,42,43,44,45,46]:List Nat).map top}}
def en (P:Params) (n:Str) (t:Nat) (v:Value):DictEntry:=⟨PyData.keyHash P n,.str n t,v⟩
def cO (n:Str) (c:Nat) (b:Bool) (a j l k:Nat):Obj:=⟨.type "code",none,.fields #[.str n a,.str n (a+1),.str "/claim/cut.py" (a+2),.int l 0,.int k 0,.int 0 0,.int 0 0,.int 3 0,.ref (c - (bif b then 5 else 3)),.bool true,.int 181 0,.ref (c - (bif b then 4 else 2)),.none,bif b then .ref (c - 3) else .none,bif b then .ref (c - 2) else .none,.ref (c - 1),.int j 0,.int l 0,.str "/claim/cut.py" (j+1)],#[]⟩
def fO (i:Nat) (n m:Str) (t c:Nat):Obj:=⟨.type "function",none,.func (fnOf n n (bZ (top i)) (bN (top i)) (aA (top i)) .none .none .none (.str m t) none (.ref c) .none),#[]⟩
abbrev mlw:Str := "law_stationrow_k62_beats_of_all_stands"
def fx (i:Nat) (n m:Str) (t c:Nat) (b:Bool) (a j l k:Nat):(Params->DictEntry) × Frag:=(fun P=>en P n (j+2) (.ref (c+1)),[(c,cO n c b a j l k),(c+1,fO i n m t c)])
def TB:List ((Params->DictEntry) × Frag):=[fx 0 "_wall" "__main__" 164 20 true 187 191 1 1,
 fx 2 "links_of" "stationrow.chains" 194 27 true 196 204 5 1,
 fx 3 "reached" "stationrow.chains" 194 34 true 207 216 12 2,
 fx 4 "led_to" "stationrow.chains" 194 41 true 219 224 22 2,
 fx 5 "led_from" "stationrow.chains" 194 46 false 227 230 24 2,
 fx 6 "in_both" "stationrow.chains" 194 51 false 233 236 26 3,
 fx 7 "in_first_alone" "stationrow.chains" 194 56 false 239 242 28 3,
 fx 8 "group_of" "stationrow.chains" 194 63 true 245 250 30 2,
 fx 9 "ahead_of" "stationrow.chains" 194 70 true 253 258 32 2,
 fx 11 "may_be_done" "stationrow.checks" 261 77 true 263 268 35 2,
 fx 13 "names_of" "stationrow.texts" 271 82 false 273 276 38 1,
 fx 15 "number_of" "stationrow.sets" 279 89 true 281 289 41 2,
 fx 16 "tasks_of" "stationrow.sets" 279 96 true 292 300 49 2,
 fx 18 "apart_from" "stationrow.fillings" 303 101 false 305 308 58 2,
 fx 19 "rules_of" "stationrow.fillings" 303 108 true 311 323 60 1,
 fx 20 "has_all" "stationrow.fillings" 303 115 true 326 331 69 2,
 fx 21 "is_filling_number" "stationrow.fillings" 303 122 true 334 349 71 5,
 fx 22 "greatest_numbers" "stationrow.fillings" 303 127 false 352 355 83 1,
 fx 24 "parts_of" "stationrow.walks" 358 132 false 360 363 90 1,
 (fun P=>en P "Walk" 427 (.ref 174),[]),
 fx 27 "ways_behind" "stationrow.dealt" 428 184 true 430 440 122 3,
 fx 28 "dealing_to" "stationrow.dealt" 428 191 true 443 452 128 3,
 fx 30 "loads_rising" "stationrow.beats" 455 196 false 457 460 137 1,
 fx 31 "least_beat" "stationrow.beats" 455 203 true 463 472 142 2,
 fx 32 "beats_of" "stationrow.beats" 455 208 false 475 478 155 1,
 fx 34 "_law_numbers" mlw 481 215 true 483 492 158 1,
 fx 35 "_law_draw" mlw 481 222 true 495 500 173 2,
 fx 36 "_law_great" mlw 481 229 true 503 510 177 2,
 fx 37 "_law_free_name" mlw 481 236 true 513 525 182 3,
 fx 38 "_law_names" mlw 481 241 false 528 531 194 2,
 fx 39 "_law_turn" mlw 481 248 true 534 541 205 2,
 fx 40 "_law_lengths" mlw 481 253 false 544 547 211 2,
 fx 41 "_law_chained" mlw 481 258 false 550 553 217 2,
 fx 42 "_law_pairs" mlw 481 263 false 556 559 224 4,
 fx 43 "_law_some_kinds" mlw 481 268 false 562 565 240 3,
 fx 44 "_law_kinds" mlw 481 273 false 568 571 246 4,
 fx 45 "_law_works" mlw 481 278 false 574 577 261 4,
 fx 46 "law" mlw 481 283 false 580 583 279 1]
def wcO (C N t u:Nat):Obj:=⟨.type "type",none,.cls { name:="Walk",bases:=[.type "object"],mro:=[.ref C,.type "object"],ns:=N,qualname:="Walk"},#[none,none,some (.str "Walk" t),some (.str "Walk" u),some (.builtin "object.__new__"),some (.bool true)]⟩
def nsO (P:Params) (a:List (Str × Nat × Value)) (k:Nat):Obj:=⟨.type "dict",none,.dict (a.map fun e=>en P e.1 e.2.1 e.2.2).toArray k,#[]⟩
def cQ (n q:Str) (c:Nat) (b:Bool) (a j l k:Nat):Obj:=⟨.type "code",none,.fields #[.str n a,.str q (a+1),.str "/claim/cut.py" (a+2),.int l 0,.int k 0,.int 0 0,.int 0 0,.int 3 0,.ref (c - (bif b then 5 else 3)),.bool true,.int 181 0,.ref (c - (bif b then 4 else 2)),.none,bif b then .ref (c - 3) else .none,bif b then .ref (c - 2) else .none,.ref (c - 1),.int j 0,.int l 0,.str "/claim/cut.py" (j+1)],#[]⟩
def fQ (st:Stmt) (n q m:Str) (t c:Nat):Obj:=⟨.type "function",none,.func (fnOf n q (bZ st) (bN st) (aA st) .none .none .none (.str m t) none (.ref c) .none),#[]⟩
def KC (P:Params):Frag:=[(146,cQ "__init__" "Walk.__init__" 146 true 378 384 100 3),
 (147,fQ (topm 25 0) "__init__" "Walk.__init__" "stationrow.walks" 358 146),
 (151,cQ "fillings_at" "Walk.fillings_at" 151 false 387 390 106 3),
 (152,fQ (topm 25 1) "fillings_at" "Walk.fillings_at" "stationrow.walks" 358 151),
 (158,cQ "greatest_at" "Walk.greatest_at" 158 true 393 399 113 3),
 (159,fQ (topm 25 2) "greatest_at" "Walk.greatest_at" "stationrow.walks" 358 158),
 (170,cQ "dealing_of" "Walk.dealing_of" 170 false 410 413 119 2),
 (171,fQ (topm 25 4) "dealing_of" "Walk.dealing_of" "stationrow.walks" 358 170),
 (173,nsO P [("__module__",373,.str "stationrow.walks" 358),("__firstlineno__",377,.int 98 376),("__init__",386,.ref 147),("fillings_at",392,.ref 152),("greatest_at",401,.ref 159),("load_at",409,.ref 166),("dealing_of",415,.ref 171),("__static_attributes__",420,.ref 172),("__dict__",422,.ref 175),("__weakref__",424,.ref 176),("__doc__",425,.none)] 4),
 (174,wcO 174 173 366 374)]
def KK (P:Params):Frag:=(3,⟨.type "dict",none,.dict ([en P "__name__" 165 (.str mlw 481),
 en P "__doc__" 166 .none,
 en P "__package__" 167 .none,
 en P "__loader__" 168 (.builtin "__main__.__loader__#opaque"),
 en P "__spec__" 169 .none,
 en P "__annotations__" 170 (.ref 6),
 en P "__builtins__" 171 (.ref 4),
 en P "__file__" 173 (.str "/claim/cut.py" 172),
 en P "__cached__" 174 .none]++TB.map fun r=>r.1 P).toArray 47,#[]⟩)::(TB.map fun r=>r.2).flatten++KC P
def HK:PySem.W.Hook:=kHook KK [3,20,21,27,28,34,35,41,42,46,47,51,52,56,57,63,64,70,71,77,78,82,83,89,90,96,97,101,102,108,109,115,116,122,123,127,128,132,133,184,185,191,192,196,197,203,204,208,209,215,216,222,223,229,230,236,237,241,242,248,249,253,254,258,259,263,264,268,269,273,274,278,279,283,284,146,147,151,152,158,159,170,171,173,174] (fun _=>by kernel_rfl)
theorem left:LeftO (PySem.W.OpenLaw.row PySem.Challenge.rw_stationrow_k62_beats_of_all_stands).prog qv [] (fun s=>xlAt qv [] s&&recOk (PySem.W.RowW.records (PySem.W.OpenLaw.row PySem.Challenge.rw_stationrow_k62_beats_of_all_stands).toRowW) s) (PySem.W.Hook.obs HK) (PySem.W.Hook.val HK) 3180:=by
 intro w;kernel_rfl
end M
namespace L2
abbrev Key:=Sum Int Str
def ni:Key->Value->Bool
 |.inl k,v=>Value.isInt k v
 |.inr x,v=>Value.isStrOf x v
def U3 (w:World):Key->Int
 |.inl k=>hashInt k
 |.inr x=>hashStr w x
theorem bO:∀{k:Key}{v:Value},ni k v=true->(∃i t,k=Sum.inl i/\v=Value.int i t)\/(∃x t,k=Sum.inr x/\v=Value.str x t)
 |.inl i,v,h=>by
  obtain⟨t,e⟩:=Value.isInt_shape (k:=i) (v:=v) h
  exact .inl ⟨i,t,rfl,e⟩
 |.inr x,v,h=>by
  obtain⟨t,e⟩:=Value.isStrOf_shape (x:=x) (v:=v) h
  exact .inr ⟨x,t,rfl,e⟩
theorem yc (i:Int) (t:Tok):ni (.inl i) (.int i t)=true:=by simp [ni,Value.isInt]
theorem yd (x:Str) (t:Tok):ni (.inr x) (.str x t)=true:=by simp [ni,Value.isStrOf]
theorem KD (a b:Int):decide ((Sum.inl a:Key)=Sum.inl b)=(a==b):=by
 by_cases e:a=b
 ·subst e;simp
 have h:¬(Sum.inl a:Key)=Sum.inl b:=fun q=>e (Sum.inl.inj q);rw[A_ h];exact (Xf.mpr e).symm
theorem KH (a b:Str):decide ((Sum.inr a:Key)=Sum.inr b)=decide (a=b):=by
 by_cases e:a=b
 ·subst e;simp
 have h:¬(Sum.inr a:Key)=Sum.inr b:=fun q=>e (Sum.inr.inj q);rw[A_ h,A_ e]
theorem KJ (a:Int) (b:Str):decide ((Sum.inl a:Key)=Sum.inr b)=false:=A_ (fun q=>nomatch q)
theorem KN (a:Str) (b:Int):decide ((Sum.inr a:Key)=Sum.inl b)=false:=A_ (fun q=>nomatch q)
def bK (prog:Program) (w:World):PySem.KeyKind prog w Key where
 is:=ni
 hash:=U3 w
 inj:=fun v a b g d=>by
  rcases bO g with ⟨i,t,rfl,rfl⟩ | ⟨x,t,rfl,rfl⟩
  ·
   rcases bO d with ⟨j,u,rfl,e⟩ | ⟨y,u,rfl,e⟩
   ·
    injection e with e1 _;rw[e1]
   ·
    exact nomatch e
  ·
   rcases bO d with ⟨j,u,rfl,e⟩ | ⟨y,u,rfl,e⟩
   ·
    exact nomatch e
   ·
    injection e with e1 _;rw[e1]
 byValue:=fun k v h=>by
  rcases bO h with ⟨i,t,rfl,rfl⟩ | ⟨x,t,rfl,rfl⟩ <;> rfl
 pyHash:=fun c h=>by
  rcases bO c with ⟨i,t,rfl,rfl⟩ | ⟨x,t,rfl,rfl⟩
  ·
   exact wpAny_pyHash_int h
  ·
   exact wpAny_pyHash_str h
 eqBool:=fun f c h=>by
  rcases bO f with ⟨i,t,rfl,rfl⟩ | ⟨x,t,rfl,rfl⟩
  ·
   rcases bO c with ⟨j,u,rfl,rfl⟩ | ⟨y,u,rfl,rfl⟩
   ·
    rw[KD] at h;exact wpAny_eqBool_int h
   ·
    rw[KJ] at h;exact SeqAt.EqAt.int_str i t y u _ _ _ _ h
  ·
   rcases bO c with ⟨j,u,rfl,rfl⟩ | ⟨y,u,rfl,rfl⟩
   ·
    rw[KN] at h;exact SeqAt.EqAt.str_int x t j u _ _ _ _ h
   ·
    rw[KH] at h;exact wpAny_eqBool_str h
 «strs»:=fun k x t v h=>by
  rcases bO h with ⟨i,u,rfl,e⟩ | ⟨y,u,rfl,e⟩
  ·
   exact nomatch e
  ·
   injection e with e1 _
   subst e1
   cases v <;> rfl
theorem qx (prog:Program) (w:World) (i:Int) (t:Tok):(bK prog w).is (.inl i) (.int i t)=true:=yc i t
theorem qy (prog:Program) (w:World) (x:Str) (t:Tok):(bK prog w).is (.inr x) (.str x t)=true:=yd x t
inductive V where
 |non | bl (b:Bool) | int (i:Int) | str (x:Str) | byt (b:Array UInt8) | flt (b:UInt64) | ref (a:Addr) | ty (n:String)
 deriving DecidableEq
def RelV:V->Value->Prop
 |.non,u=>u=Value.none
 |.bl b,u=>u=Value.bool b
 |.int i,u=>∃t,u=Value.int i t
 |.str x,u=>∃t,u=Value.str x t
 |.byt b,u=>∃t,u=Value.bytes b t
 |.flt b,u=>∃t,u=Value.float b t
 |.ref a,u=>u=Value.ref a
 |.ty n,u=>u=Value.type n
abbrev Vals:List V->List Value->Prop:=Paired RelV
theorem Vals.length {xs:List V}{us:List Value}(r:Vals xs us):xs.length=us.length:=YF r
theorem Vals.get:∀{xs:List V}{us:List Value}{i:Nat}{x:V},Vals xs us->xs[i]?=some x->∃u,us[i]?=some u/\RelV x u
 |_,_,_,_,.nil,e=>by simp at e
 |_,_,0,_,.cons r _,e=>by simp at e;subst e;exact⟨_,rfl,r⟩
 |_,_,i+1,x,.cons _ t,e=>by
  obtain⟨u,b,a⟩:=Vals.get (i:=i) (x:=x) t (by simpa using e)
  exact⟨u,by simpa using b,a⟩
theorem Vals.set {x:V}{u:Value}(r:RelV x u):∀{xs:List V}{us:List Value}(i:Nat),Vals xs us->Vals (xs.set i x) (us.set i u)
 |_,_,_,.nil=>.nil
 |_,_,0,.cons _ t=>.cons r t
 |_,_,i+1,.cons q t=>.cons q (Vals.set r i t)
theorem Vals.append:∀{xs a:List V}{us ws:List Value},Vals xs us->Vals a ws->Vals (xs++a) (us++ws)
 |_,_,_,_,.nil,s=>s
 |_,_,_,_,.cons r t,s=>.cons r (Vals.append t s)
theorem Vals.take:∀{xs:List V}{us:List Value}(n:Nat),Vals xs us->Vals (xs.take n) (us.take n)
 |_,_,0,_=>.nil
 |_,_,_+1,.nil=>.nil
 |_,_,n+1,.cons r t=>.cons r (Vals.take n t)
theorem Vals.drop:∀{xs:List V}{us:List Value}(n:Nat),Vals xs us->Vals (xs.drop n) (us.drop n)
 |_,_,0,r=>r
 |_,_,_+1,.nil=>.nil
 |_,_,n+1,.cons _ t=>Vals.drop n t
def RelO:Option V->Option Value->Prop
 |some v,some u=>RelV v u
 |none,none=>True
 |_,_=>False
def KV {a:Type}:List (a × V)->List (a × Value)->Prop:=Paired fun (p:a × V) (q:a × Value)=>p.1=q.1/\RelV p.2 q.2
def kV:Key->V
 |.inl i=>.int i
 |.inr x=>.str x
inductive HO where
 |lst (xs:List V)
 |tup (xs:List V)
 |dK (kvs:List (Key × V)) | dT (kvs:List (List Key × V))
 |set (S:Int->Bool) (n:Nat)
 |ins (C dx:Addr) (fs:List (Str × V))
 |own (x:Addr)
 |xd (fs:List (Str × V))
 |met (f x:Addr)
 |rng (lo hi:Int)
 |frz (o:Obj) (u:HO)
 |tbl (ps:Array Value)
 |ext (φ:Heap->Prop)
abbrev Hp:=Addr->Option HO
def upd (H:Hp) (a:Addr) (o:HO):Hp:=fun b=>if b=a then some o else H b
theorem bU {H:Hp}{a:Addr}{o:HO}:upd H a o a=some o:=by unfold upd;rw[if_pos rfl]
theorem aQ {H:Hp}{a b:Addr}{o:HO}(h:b≠a):upd H a o b=H b:=by unfold upd;rw[if_neg h]
theorem Qe {H:Hp}{a b:Addr}{o u:HO}(h:H a=some o) (h':H b=some u) (d:o≠u):a≠b:=by
 intro e;subst e;rw[h] at h';exact d (We h')
theorem cg {H:Hp}{a b:Addr}{o:HO}(h:H a=some o) (h':H b=none):a≠b:=by
 intro e;subst e;rw[h] at h';cases h'
def Tup0 (h:Heap) (a:Addr) (b:Array Value):Prop:=∃o,h.get? a=some o/\o.cls=.type "tuple"/\∃n,o.data=.seq b n/\o.dict=none
theorem Tup0.is {h:Heap}{a:Addr}{b:Array Value}(x:Tup0 h a b):IsTup h a b:=by
 obtain⟨o,d,c,n,e,_⟩:=x;exact⟨o,d,c,n,e⟩
theorem Tup0.new (h:Heap) (a:Array Value):Tup0 (h.push { cls:=.type "tuple",data:=.seq a}) h.objs.size a:=⟨_,C_ _ rfl,rfl,_,rfl,rfl⟩
section
variable (P:Program) (w:World)
def ObjOk (H:Hp) (h:Heap) (a:Addr):HO->Prop
 |.lst xs=>xs.length<=sizeLine/\∃(b:List Value) (n:Nat),Vals xs b/\h.get? a=some { cls:=.type "list",data:=.seq b.toArray n}
 |.tup xs=>xs.length<=sizeLine/\∃b:List Value,Vals xs b/\Tup0 h a b.toArray
 |.dK kvs=>kvs.length<=sizeLine/\(a==sysModules)=false/\∃vs,KV kvs vs/\h.DictOf (bK P w) a vs
 |.dT kvs=>kvs.length<=sizeLine/\(a==sysModules)=false/\∃xs:List (List Key × Addr × Value),
   Paired (fun (p:List Key × V) (q:List Key × Addr × Value)=>p.1=q.1/\H q.2.1=some (.tup (p.1.map kV))/\RelV p.2 q.2.2) kvs xs /\
   ∃o k ep,h.get? a=some o/\o.ExactDict/\o.data=.dict k ep/\k.toList=xs.map (entryOfKey (tupleKind (bK P w)))/\(xs.map (·.1)).Nodup
 |.set S n=>h.SetOf (intKind P w) a S n
 |.ins C e d=>H e=some (.own a)/\d.length<=1000/\e≠a/\h.get? a=some (instObj C e) /\
   ∃c,h.Ns1 e c/\(∀f,RelO (d.lookup f) (c f))/\PySem.Within c (d.map (·.1))
 |.own _=>∃o,h.get? a=some o
 |.xd d=>∃c,h.Ns1 a c/\∀f,RelO (d.lookup f) (c f)
 |.rng l m=>∃t u v,h.get? a=some { cls:=.type "range",data:=.fields #[.int l t,.int m u,.int 1 v]}
 |.frz o u=>h.get? a=some o/\ObjOk H h a u
 |.tbl ps=>h.get? a=some { cls:=.none,data:=.fields ps}
 |.met f x=>h.get? a=some (methodObj (.ref f) (.ref x))
 |.ext g=>g h/\(∃o,h.get? a=some o)/\∀j i:Heap,g j->(∀o,j.get? a=some o->i.get? a=some o)->g i
def HOk (H:Hp) (h:Heap):Prop:=∀a o,H a=some o->ObjOk P w H h a o
end
section
variable {P:Program}{w:World}{H H':Hp}{h h':Heap}{a:Addr}{o:HO}
theorem ObjOk.lt (x:ObjOk P w H h a o):a<h.objs.size:=by
 cases o with
 |lst xs=>obtain⟨_,_,_,_,e⟩:=x;exact E_ e
 |tup xs=>obtain⟨_,_,_,p⟩:=x;exact p.is.lt
 |dK kvs=>obtain⟨_,_,_,_,o,_,_,e,_⟩:=x;exact E_ e
 |dT kvs=>obtain⟨_,_,_,_,o,_,_,e,_⟩:=x;exact E_ e
 |set S n=>obtain⟨o,_,_,_,e,_⟩:=x;exact E_ e
 |ins C j b=>obtain⟨_,_,_,e,_⟩:=x;exact E_ e
 |own y=>obtain⟨_,e⟩:=x;exact E_ e
 |xd b=>obtain⟨_,⟨_,_,_,e,_⟩,_⟩:=x;exact E_ e
 |rng c d=>obtain⟨_,_,_,e⟩:=x;exact E_ e
 |frz g u=>obtain⟨e,_⟩:=x;exact E_ e
 |tbl ps=>exact E_ (show h.get? a=some _ from x)
 |met f y=>exact E_ (show h.get? a=some _ from x)
 |ext i=>obtain⟨_,⟨_,e⟩,_⟩:=x;exact E_ e
theorem Paired.mapP {e g:Type}{F G:e->g->Prop}:∀{c:List e}{d:List g},Paired F c d->(∀a b,F a b->G a b)->Paired G c d
 |_,_,.nil,_=>.nil
 |_,_,.cons r t,f=>.cons (f _ _ r) (Paired.mapP t f)
theorem ObjOk.stay (x:ObjOk P w H h a o) (k:∀b u,(b=a\/H b=some (.own a))->h.get? b=some u->h'.get? b=some u)
  (A:∀b,H b=some (.own a)->H' b=some (.own a)) (E:∀b xs,H b=some (.tup xs)->H' b=some (.tup xs)):ObjOk P w H' h' a o:=by
 induction o with
 |lst xs=>obtain⟨z,j,n,r,e⟩:=x;exact⟨z,j,n,r,k _ _ (.inl rfl) e⟩
 |tup xs=>obtain⟨z,j,r,g,e,c⟩:=x;exact⟨z,j,r,g,k _ _ (.inl rfl) e,c⟩
 |dK kvs=>obtain⟨z,y,vs,r,g,i,ep,e,c⟩:=x;exact⟨z,y,vs,r,g,i,ep,k _ _ (.inl rfl) e,c⟩
 |dT kvs=>obtain⟨z,y,xs,r,g,i,ep,e,c⟩:=x;exact⟨z,y,xs,Paired.mapP r fun p q z=>⟨z.1,E _ _ z.2.1,z.2.2⟩,g,i,ep,k _ _ (.inl rfl) e,c⟩
 |set S n=>obtain⟨g,i,ep,t,e,c⟩:=x;exact⟨g,i,ep,t,k _ _ (.inl rfl) e,c⟩
 |ins C J s=>obtain⟨d,z,m,e,l,⟨od,i,ep,D,c⟩,r⟩:=x;exact⟨A _ d,z,m,k _ _ (.inl rfl) e,l,⟨od,i,ep,k _ _ (.inr d) D,c⟩,r⟩
 |own y=>obtain⟨g,e⟩:=x;exact⟨g,k _ _ (.inl rfl) e⟩
 |xd s=>obtain⟨l,⟨od,i,ep,e,c⟩,r⟩:=x;exact⟨l,⟨od,i,ep,k _ _ (.inl rfl) e,c⟩,r⟩
 |rng F G=>obtain⟨t,u,v,e⟩:=x;exact⟨t,u,v,k _ _ (.inl rfl) e⟩
 |frz g u B=>obtain⟨e,q⟩:=x;exact⟨k _ _ (.inl rfl) e,B q⟩
 |tbl ps =>
  have e:h.get? a=some { cls:=.none,data:=.fields ps}:=x
  show h'.get? a=some { cls:=.none,data:=.fields ps}
  exact k a _ (.inl rfl) e
 |met f y =>
  have e:h.get? a=some (methodObj (.ref f) (.ref y)):=x
  show h'.get? a=some (methodObj (.ref f) (.ref y))
  exact k a _ (.inl rfl) e
 |ext I=>obtain⟨p,⟨o,e⟩,st⟩:=x;exact⟨st _ _ p fun o q=>k _ _ (.inl rfl) q,⟨o,k _ _ (.inl rfl) e⟩,st⟩
theorem HOk.lt (x:HOk P w H h) (e:H a=some o):a<h.objs.size:=(x a o e).lt
theorem HOk.fresh (x:HOk P w H h) (e:h.objs.size<=a):H a=none:=by
 cases q:H a with
 |none=>rfl
 |some u=>exact absurd (R_ (x.lt q) e) (WL _)
theorem HOk.kept (x:HOk P w H h) (k:∀b u,h.get? b=some u->h'.get? b=some u):HOk P w H h':=fun a o e =>
 (x a o e).stay (fun b u _ q=>k b u q) (fun _ q=>q) fun _ _ q=>q
theorem HOk.laid (x:HOk P w H h) (k:∀b u,h.get? b=some u->h'.get? b=some u) (i:h.objs.size<=a) (d:ObjOk P w (upd H a o) h' a o):HOk P w (upd H a o) h':=fun b u e=>by
 have g:=x.fresh i;by_cases f:b=a
 ·subst f;rw[bU] at e;cases e;exact d
 rw[aQ f] at e;exact (x b u e).stay (fun c v _ q=>k c v q) (fun c q=>by rw[aQ (cg q g)];exact q) fun c xs q=>by rw[aQ (cg q g)];exact q
end
def Rd (H:Hp) (a:Addr) (u:HO):Prop:=H a=some u\/∃o,H a=some (.frz o u)
theorem Rd.ok {P:Program}{w:World}{H:Hp}{h:Heap}{a:Addr}{u:HO}(r:Rd H a u) (x:HOk P w H h):ObjOk P w H h a u:=by
 rcases r with r | ⟨o,r⟩
 ·exact x a u r
 obtain⟨_,q⟩:=x a _ r;exact q
def Mut:Option HO->Prop
 |some (.lst _)=>True
 |some (.dK _)=>True
 |some (.dT _)=>True
 |some (.set _ _)=>True
 |some (.ins _ _ _)=>True
 |some (.ext _)=>True
 |_=>False
section
variable {P:Program}{w:World}{H:Hp}{h h':Heap}{x e:Addr}{o':HO}
theorem HOk.write (o:HOk P w H h) (mu:Mut (H x)) (n:e=x\/H e=some (.own x)) (k:∀b u,b≠e->h.get? b=some u->h'.get? b=some u) (j:∃u,h'.get? e=some u)
  (l:ObjOk P w (upd H x o') h' x o'):HOk P w (upd H x o') h':=fun b u q=>by
 have d:∀c y,H c=some (.own y)->c≠x:=fun c y r z=>by subst z;rw[r] at mu;exact mu
 have f:∀c xs,H c=some (.tup xs)->c≠x:=fun c xs r z=>by subst z;rw[r] at mu;exact mu
 by_cases g:b=x
 ·subst g;rw[bU] at q;cases q;exact l
 rw[aQ g] at q;by_cases a:b=e
 ·have m:H b=some (.own x):=by
   rcases n with z | z
   ·exact absurd (a.trans z) g
   rw[a];exact z
  rw[q] at m;cases m;obtain⟨v,p⟩:=j;exact⟨v,by rw[a];exact p⟩
 refine (o b u q).stay (fun c v i r=>k c v ?_ r) (fun c r=>by rw[aQ (d c b r)];exact r) fun c xs r=>by rw[aQ (f c xs r)];exact r
 rcases i with rfl | i
 ·exact a
 rintro rfl;rcases n with z | z
 ·exact d c b i z
 rw[i] at z;cases z;exact g rfl
end
structure Un (fs ex:List Addr) (H H':Hp) (h h':Heap):Prop where
 keep:∀b o,h.get? b=some o->H b=none->b∉fs->b∉ex->h'.get? b=some o
 slot:∀b o,h.get? b=some o->H b=none->b∈fs->b∉ex->∃sl,h'.get? b=some { o with slots:=sl}
 free:∀b o,h.get? b=some o->H b=none->b∉ex->H' b=none
 there:∀b o,h.get? b=some o->b∉ex->∃o',h'.get? b=some o'
 tups:∀b xs,H b=some (.tup xs)->H' b=some (.tup xs)
 frzs:∀b o u,H b=some (.frz o u)->H' b=some (.frz o u)
 tbls:∀b ps,H b=some (.tbl ps)->∃more,H' b=some (.tbl (ps++more))
section
variable {fs fs' ex ex':List Addr}{H H1 H2:Hp}{h h1 h2 h':Heap}{a x e:Addr}{o:HO}
theorem Un.any (u:Un fs ex H H1 h h1) {b:Addr}{ob:Obj}(q:h.get? b=some ob) (n:H b=none) (c:b∉ex):∃d,h1.get? b=some { ob with slots:=d}:=by
 by_cases a:b∈fs
 ·exact u.slot b ob q n a c
 exact⟨ob.slots,u.keep b ob q n a c⟩
theorem Un.kept (k:∀b u,h.get? b=some u->h'.get? b=some u):Un fs ex H H h h' :=
 ⟨fun b a q _ _ _=>k b a q,fun b a q _ _ _=>⟨a.slots,k b a q⟩,fun _ _ _ n _=>n,fun b a q _=>⟨a,k b a q⟩,fun _ _ q=>q,fun _ _ _ q=>q,fun _ ps q=>⟨#[],by rw[q];simp⟩⟩
theorem Un.refl:Un fs ex H H h h:=Un.kept fun _ _ q=>q
theorem Un.laid (k:∀b u,h.get? b=some u->h'.get? b=some u) (d:h.objs.size<=a) (c:H a=none):Un fs ex H (upd H a o) h h' where
 keep:=fun b u q _ _ _=>k b u q
 slot:=fun b u q _ _ _=>⟨u.slots,k b u q⟩
 free:=fun b u q n _=>by rw[aQ (Wh (R_ (E_ q) d))];exact n
 there:=fun b u q _=>⟨u,k b u q⟩
 tups:=fun b xs q=>by rw[aQ (cg q c)];exact q
 frzs:=fun b u xs q=>by rw[aQ (cg q c)];exact q
 tbls:=fun b ps q=>⟨#[],by rw[aQ (cg q c),q];simp⟩
theorem Un.write (mu:Mut (H x)) (i:e=x\/H e=some (.own x)) (k:∀b u,b≠e->h.get? b=some u->h'.get? b=some u) (c:∃u,h'.get? e=some u):Un fs ex H (upd H x o) h h':=by
 have f:∀b,H b=none->b≠x:=fun b n z=>by subst z;rw[n] at mu;exact mu
 have g:∀b,H b=none->b≠e:=fun b n z=>by
  subst z;rcases i with r | r
  ·exact f b n r
  rw[n] at r;cases r
 have d:∀b u,H b=some u->¬Mut (some u)->b≠x:=fun b u q nm z=>by subst z;rw[q] at mu;exact nm mu
 refine⟨fun b u q n _ _=>k b u (g b n) q,fun b u q n _ _=>⟨u.slots,k b u (g b n) q⟩,fun b u q n _=>by rw[aQ (f b n)];exact n,fun b u q _=>?_,
  fun b xs q=>by rw[aQ (d b _ q fun z=>z)];exact q,fun b u xs q=>by rw[aQ (d b _ q fun z=>z)];exact q,fun b ps q=>⟨#[],by rw[aQ (d b _ q fun z=>z),q];simp⟩⟩
 by_cases a:b=e
 ·subst a;exact c
 exact⟨u,k b u a q⟩
end
def trk (h:Heap) (H:Hp):List Addr:=(List.range h.objs.size).filter fun a=>(H a).isSome
def oU (h:Heap) (H:Hp):Heap:=PySem.W.hideAll h (trk h H)
theorem ye (h:Heap) (H:Hp):(oU h H).objs.size=h.objs.size:=PySem.W.hideAll_size _ _
theorem zz {h:Heap}{H:Hp}{b:Addr}{o:Obj}(e:h.get? b=some o) (n:H b=none):(oU h H).get? b=some o :=
 PySem.W.hideAll_get _ e fun a=>by
  have q:(H b).isSome=true:=(G_.mp a).2;rw[n] at q;simp at q
theorem En {h:Heap}{H:Hp}{b:Addr}{o:Obj}(e:(oU h H).get? b=some o):h.get? b=some o/\H b=none:=by
 have a:h.get? b=some o:=PySem.W.of_hideAll (trk h H) e;refine⟨a,?_⟩;cases q:H b with
 |none=>rfl
 |some x =>
  have c:b∈trk h H:=G_.mpr ⟨O_.mpr (E_ a),by simp [q]⟩
  have z:(oU h H).get? b=none:=PySem.W.hideAll_none (trk h H) c
  rw[z] at e;cases e
def Eo (g h : Heap) (L : Addr) : List (Addr × Obj):=(List.range h.objs.size).filterMap fun a => if a = L \/ (g.get? a).isSome = true then none else (h.get? a).map fun o => (a,o)
def rest (g h:Heap) (L d:Addr):List (Addr × Obj):=(Eo g h L).filter fun p=>decide (p.1≠d)
structure Mod (K:Frag) (mg:Str->Option Value) (base:Heap):Prop where
 kin:K.In base
 glob:base.Ns mainGlobals mg
 blt:∃mb,base.Ns builtinsNs mb/\∀x:Str,x≠"__name__"->mb x=bootBuiltins x
 nolimit:base.NoLimit
structure Cx where
 prog:Program
 w:World
 K:Frag
 mg:Str->Option Value
 base:Heap
 A:Around
 N:List Str
 s₀:Shared
 H₀:Hp
 env:Env
 outer:List Env
 stack:List Env
 ex:List Addr
 fn:Str->Bool
 calm:Bool
 pn:List (Addr × Obj)
 xe:Value->Shared->Prop
def frs (l : List Env) : List Addr:=l.filterMap (·.frame)
abbrev Cx.fs (X:Cx):List Addr:=frs X.outer
def Vis (a:Scope) (x:Str):Prop:=a.names.lookup x=some .local\/a.names.lookup x=some .cell\/a.names.lookup x=some .free
def Loc (a:Scope) (x:Str):Prop:=a.names.lookup x=some .local\/a.names.lookup x=some .cell
def Look (env:Env) (h:Heap) (m:Str->Option Value) (x:Str) (u:Value):Prop :=
 (env.kindOf x=some .local/\m x=some u)\/((env.kindOf x=some .cell\/env.kindOf x=some .free)/\∃c,env.cells.lookup x=some c/\h.IsCell c (some u))
structure Cx.Ok (X:Cx):Prop where
 mod:Mod X.K X.mg X.base
 kind:X.env.scope.kind=.function
 glob:X.env.globals=mainGlobals
 blt:X.env.builtins=builtinsNs
 above:X.s₀.heap.objs.size<=X.env.locals
 inj:∀x y c,X.env.cells.lookup x=some c->X.env.cells.lookup y=some c->x=y
 has:∀x,(X.env.kindOf x=some .cell\/X.env.kindOf x=some .free)->∃c,X.env.cells.lookup x=some c
 cab:∀x c,X.fn x=true->X.env.cells.lookup x=some c->X.s₀.heap.objs.size<=c
 hd:X.calm=true->X.A.handled=none
 frames:X.A.frames=some X.stack
 stk:X.stack=X.outer\/(X.stack=X.env::X.outer/\X.env.frame=some X.env.locals)
 exf:∀b∈X.ex,b≠X.env.locals/\∀x c,X.env.cells.lookup x=some c->c≠b
 bs:∀b o,X.base.get? b=some o->X.s₀.heap.get? b=some o/\X.H₀ b=none
 bsz:X.base.objs.size<=X.s₀.heap.objs.size
 noex:∀b o,X.base.get? b=some o->b∉X.ex
 exfs:∀b∈X.ex,b∉X.fs
 funs:X.s₀.heap.FunFrames X.base X.outer
 frf:∀b∈X.fs,X.H₀ b=none
structure Inv (X:Cx) (pins:List (Addr × Obj)) (σ:List (Option V)) (H:Hp) (s:Shared):Prop where
 ok:X.Ok
 os:s.os=X.s₀.os
 bare:AllBare s.gens
 base:Un X.fs X.ex X.H₀ H X.s₀.heap s.heap
 loc:∃m,s.heap.Ns X.env.locals m/\∀(i:Nat) (x:Str) (v:V),X.N[i]?=some x->σ[i]?=some (some v)->Vis X.env.scope x->∃u,RelV v u/\Look X.env s.heap m x u
 cell:∀x c,X.env.cells.lookup x=some c->∃v,s.heap.IsCell c v
 free:H X.env.locals=none
 freeC:∀x c,X.env.cells.lookup x=some c->H c=none
 pin:∀p∈X.pn++pins,s.heap.get? p.1=some p.2/\H p.1=none/\p.1≠X.env.locals/\p.1∉X.fs/\∀v,p.2.data≠.cell v
 hok:HOk X.prog X.w H s.heap
 len:σ.length=X.N.length
section
variable {X:Cx}{pins:List (Addr × Obj)}{σ:List (Option V)}{H H':Hp}{s:Shared}{h':Heap}
theorem Cx.Ok.nofr (c:X.Ok) {b:Addr}{o:Obj}(e:X.base.get? b=some o):b∉X.fs:=fun a=>by
 have:=(c.funs.mem a).1;rw[e] at this;cases this
theorem Inv.bs (I:Inv X pins σ H s):∀b o,X.base.get? b=some o->s.heap.get? b=some o/\H b=none:=fun b o e =>
 ⟨I.base.keep b o (I.ok.bs b o e).1 (I.ok.bs b o e).2 (I.ok.nofr e) (I.ok.noex b o e),I.base.free b o (I.ok.bs b o e).1 (I.ok.bs b o e).2 (I.ok.noex b o e)⟩
theorem Inv.bk (I:Inv X pins σ H s):∀b o,X.base.get? b=some o->s.heap.get? b=some o:=fun b o e=>(I.bs b o e).1
theorem Inv.mod (I:Inv X pins σ H s):Mod X.K X.mg X.base:=I.ok.mod
theorem Inv.kIn (I:Inv X pins σ H s):X.K.In s.heap:=I.ok.mod.kin.keeps I.bk
theorem Inv.lt (I:Inv X pins σ H s):X.env.locals<s.heap.objs.size:=let ⟨_,hn,_⟩:=I.loc;hn.lt
theorem Inv.sz (I:Inv X pins σ H s):X.s₀.heap.objs.size<=s.heap.objs.size:=Wc I.ok.above (Xc I.lt)
theorem Inv.nofs (I:Inv X pins σ H s) {a:Addr}(h:s.heap.objs.size<=a):a∉X.fs:=fun b=>by
 obtain⟨_,o,c,_⟩:=I.ok.funs.mem b;exact absurd (R_ (E_ c) (Wc I.sz h)) (WL _)
theorem Inv.cne (I:Inv X pins σ H s):∀x c,X.env.cells.lookup x=some c->c≠X.env.locals:=fun x c e z=>by
 obtain⟨v,o,d,f⟩:=I.cell x c e;obtain⟨m,⟨g,h,ep,b,a,_⟩,_⟩:=I.loc;rw[z,b] at d;cases d;rw[a] at f;cases f
theorem Inv.funs (I:Inv X pins σ H s):s.heap.FunFrames X.base X.outer:=by
 have a:∀(l:List Env),(∀b∈frs l,b∈X.fs)->X.s₀.heap.FunFrames X.base l->s.heap.FunFrames X.base l:=by
  intro l;induction l with
  |nil=>intro _ _;trivial
  |cons env r j =>
  intro g m;obtain ⟨h,⟨L,o,c,k,i,p⟩,n⟩:=m;have d : L ∈ X.fs:=g L (by unfold frs; rw [List.filterMap_cons,c]; exact q_);obtain ⟨q,e⟩:=I.base.slot L o i (I.ok.frf L d) d fun z => I.ok.exfs L z d;exact ⟨h,⟨L,_,c,k,e,p⟩,j (fun b f => g b (by unfold frs; rw [List.filterMap_cons,c]; exact z_ _ f)) n⟩
 exact a X.outer (fun _ f=>f) I.ok.funs
theorem Inv.stack (I:Inv X pins σ H s):s.heap.FunFrames X.base X.stack:=by
 rcases I.ok.stk with e | ⟨e,b⟩
 ·rw[e];exact I.funs
 rw[e];obtain⟨m,a,_⟩:=I.loc;refine .cons (by rw[I.ok.kind];decide) b a ?_ I.funs;exact Heap.get?_none_of_le (Wc I.ok.bsz I.ok.above)
theorem Inv.stkSub (I:Inv X pins σ H s):∀b∈frs X.stack,b∈X.env.locals::X.fs:=fun b a=>by
 rcases I.ok.stk with e | ⟨e,c⟩
 ·rw[e] at a;exact z_ _ a
 rw [e] at a;unfold frs at a;rw [List.filterMap_cons,c] at a;exact a
theorem Inv.stkFree (I:Inv X pins σ H s):∀b∈frs X.stack,H b=none:=fun b a=>by
 rcases n_.mp (I.stkSub b a) with e | a
 ·rw[e];exact I.free
 obtain⟨_,o,c,_⟩:=I.ok.funs.mem a;exact I.base.free b o c (I.ok.frf b a) fun z=>I.ok.exfs b z a
theorem Inv.step {g':Array GenState}{t':Nat}{d':Drawn}{ch:List Addr}(I:Inv X pins σ H s)
  (g:∀b∈ch,(b∈X.ex\/X.s₀.heap.objs.size<=b)/\b≠X.env.locals/\(∀x c,X.env.cells.lookup x=some c->c≠b)/\∀p∈X.pn++pins,p.1≠b)
  (h:∀b o,b≠X.env.locals->b∉X.fs->b∉ch->s.heap.get? b=some o->H b=none->h'.get? b=some o)
  (B:∀b o,b≠X.env.locals->b∈X.fs->b∉ch->s.heap.get? b=some o->H b=none->∃P,h'.get? b=some { o with slots:=P}) (f:∀b o,b∉ch->s.heap.get? b=some o->H b=none->H' b=none)
  (C:∀b o,b∉ch->s.heap.get? b=some o->∃K,h'.get? b=some K)
  (F:∀b xs,H b=some (.tup xs)->H' b=some (.tup xs)) (J:∀b o u,H b=some (.frz o u)->H' b=some (.frz o u)) (M:∀b ps,H b=some (.tbl ps)->∃more,H' b=some (.tbl (ps++more)))
  (ns:∀m,s.heap.Ns X.env.locals m->h'.Ns X.env.locals m) (Q:HOk X.prog X.w H' h') (W:AllBare g') :
  Inv X pins σ H' { s with heap:=h',gens:=g',drawn:=d',toks:=t'}:=by
 have L:∀b o,X.s₀.heap.get? b=some o->b≠X.env.locals:=fun b o e=>Wh (R_ (E_ e) I.ok.above);have A:∀b o,X.s₀.heap.get? b=some o->b∉X.ex->b∉ch:=fun b o e a D=>by
  rcases (g b D).1 with z | z
  ·exact a z
  exact absurd (R_ (E_ e) z) (WL _)
 have t:∀x c,X.env.cells.lookup x=some c->∀v,s.heap.IsCell c v->h'.IsCell c v:=fun x c e v ⟨o,E,O⟩=>by
  have j:c∉ch:=fun z=>(g c z).2.2.1 x c e rfl;by_cases U:c∈X.fs
  ·obtain⟨P,q⟩:=B c o (I.cne x c e) U j E (I.freeC x c e);exact⟨_,q,O⟩
  exact⟨o,h c o (I.cne x c e) U j E (I.freeC x c e),O⟩
 refine⟨I.ok,I.os,W,⟨fun b o e n D a=>?_,fun b o e n D a=>?_,fun b o e n a=>?_,fun b o e a=>?_,fun b xs e=>F b xs (I.base.tups b xs e),fun b o xs e=>J b o xs (I.base.frzs b o xs e),fun b ps e=>?_⟩,?_,fun x c e=>?_,?_,fun x c e=>?_,fun p S=>?_,Q,I.len⟩
 ·exact h b o (L b o e) D (A b o e a) (I.base.keep b o e n D a) (I.base.free b o e n a)
 ·obtain⟨P,y⟩:=I.base.slot b o e n D a;obtain⟨N,G⟩:=B b _ (L b o e) D (A b o e a) y (I.base.free b o e n a);exact⟨N,G⟩
 ·obtain⟨K,y⟩:=I.base.there b o e a;exact f b K (A b o e a) y (I.base.free b o e n a)
 ·obtain⟨K,y⟩:=I.base.there b o e a;exact C b K (A b o e a) y
 ·obtain⟨Z,y⟩:=I.base.tbls b ps e;obtain⟨V,G⟩:=M b _ y;exact⟨Z++V,by rw[G,Array.append_assoc]⟩
 ·obtain⟨m,Y,hl⟩:=I.loc;refine⟨m,ns m Y,fun i x v y G e3=>?_⟩;obtain⟨u,r,l⟩:=hl i x v y G e3;refine⟨u,r,?_⟩;rcases l with l | ⟨k,c,e,z⟩
  ·exact .inl l
  exact .inr ⟨k,c,e,t x c e _ z⟩
 ·obtain⟨v,z⟩:=I.cell x c e;exact⟨v,t x c e v z⟩
 ·obtain⟨m,⟨o,_,_,E,_⟩,_⟩:=I.loc;exact f _ o (fun z=>(g _ z).2.1 rfl) E I.free
 ·obtain⟨v,o,E,O⟩:=I.cell x c e;exact f c o (fun z=>(g c z).2.2.1 x c e rfl) E (I.freeC x c e)
 obtain⟨e,n,R,T,d⟩:=I.pin p S;have j:p.1∉ch:=fun z=>(g p.1 z).2.2.2 p S rfl;exact⟨h p.1 p.2 R T j e n,f p.1 p.2 j e n,R,T,d⟩
theorem Inv.un {t':Nat}(I:Inv X pins σ H s) (u:Un X.fs [] H H' s.heap h') (f:HOk X.prog X.w H' h'):Inv X pins σ H' { s with heap:=h',toks:=t'}:=by
 obtain⟨m,⟨o,p,ep,g,r⟩,_⟩:=id I.loc;obtain⟨q,i⟩:=u.any g I.free (by simp);exact I.step (g':=s.gens) (d':=s.drawn) (ch:=[]) (fun _ z=>nomatch z) (fun b o _ d _ e n=>u.keep b o e n d (by simp)) (fun b o _ d _ e n=>u.slot b o e n d (by simp)) (fun b o _ e n=>u.free b o e n (by simp)) (fun b o _ e=>u.there b o e (by simp)) u.tups u.frzs u.tbls (fun l h=>by
  obtain⟨k,es',c,a,j⟩:=h
  rw[g] at a;cases a
  exact⟨_,es',c,i,j⟩) f I.bare
theorem Inv.call {g':Array GenState}{t':Nat}{d':Drawn}{ch:List Addr}(I:Inv X pins σ H s) (u:Un (frs X.stack) ch H H' s.heap h') (i:HOk X.prog X.w H' h') (k:AllBare g')
  (d:∀b∈ch,(b∈X.ex\/X.s₀.heap.objs.size<=b)/\b≠X.env.locals/\(∀x c,X.env.cells.lookup x=some c->c≠b)/\∀p∈X.pn++pins,p.1≠b) :
  Inv X pins σ H' { s with heap:=h',gens:=g',drawn:=d',toks:=t'}:=by
 obtain⟨m,⟨o,A,ep,j,r⟩,_⟩:=id I.loc;obtain⟨B,h⟩:=u.any j I.free fun z=>(d _ z).2.1 rfl;exact I.step (ch:=ch) d (fun b o h q a e n=>u.keep b o e n (fun z=>(n_.mp (I.stkSub b z)).elim h q) a) (fun b o _ _ a e n=>u.any e n a) (fun b o a e n=>u.free b o e n a) (fun b o a e=>u.there b o e a) u.tups u.frzs u.tbls (fun y l=>by
  obtain⟨v,es',g,f,t⟩:=l
  rw[j] at f;cases f
  exact⟨_,es',g,h,t⟩) i k
theorem Inv.turned {t':Nat}{it:Addr}(I:Inv X pins σ H s) (k:∀b o,b≠it->s.heap.get? b=some o->h'.get? b=some o) (y:H it=none) (f:it≠X.env.locals)
  (j:it∈X.ex\/X.s₀.heap.objs.size<=it) (g:∀x c,X.env.cells.lookup x=some c->c≠it) (l:∀p∈X.pn++pins,p.1≠it):Inv X pins σ H { s with heap:=h',toks:=t'}:=by
 have d:∀b u,H b=some u->b≠it:=fun b u e z=>by rw[z,y] at e;cases e
 refine I.step (g':=s.gens) (d':=s.drawn) (ch:=[it]) (fun b w=>?_) (fun b o _ _ a e _=>k b o (fun z=>a (by simp [z])) e) (fun b o _ _ a e _=>⟨o.slots,k b o (fun z=>a (by simp [z])) e⟩) (fun _ _ _ _ n=>n)
  (fun b o a e=>⟨o,k b o (fun z=>a (by simp [z])) e⟩) (fun _ _ e=>e) (fun _ _ _ e=>e) (fun b ps e=>⟨#[],by rw[e];simp⟩) (fun m i=>?_) (fun b u e=>?_) I.bare
 ·have e:b=it:=by simpa using w
  subst e;exact⟨j,f,g,l⟩
 ·obtain⟨o,t,ep,h,r⟩:=i;exact⟨o,t,ep,k _ o (Ne.symm f) h,r⟩
 refine (I.hok b u e).stay (fun c v a q=>k c v ?_ q) (fun _ q=>q) fun _ _ q=>q;rcases a with z | z
 ·rw[z];exact d b u e
 exact d c _ z
theorem Inv.tok (I:Inv X pins σ H s) (t:Nat):Inv X pins σ H { s with toks:=t}:=I.un (h':=s.heap) (t':=t) Un.refl I.hok
theorem Inv.kept {t':Nat}(I:Inv X pins σ H s) (k:∀b u,s.heap.get? b=some u->h'.get? b=some u):Inv X pins σ H { s with heap:=h',toks:=t'}:=I.un (Un.kept k) (I.hok.kept k)
theorem Inv.laid {a:Addr}{o:HO}{t':Nat}(I:Inv X pins σ H s) (k:∀b u,s.heap.get? b=some u->h'.get? b=some u) (d:s.heap.objs.size<=a) (c:ObjOk X.prog X.w (upd H a o) h' a o) :
  Inv X pins σ (upd H a o) { s with heap:=h',toks:=t'}:=I.un (Un.laid k d (I.hok.fresh d)) (I.hok.laid k d c)
theorem Inv.write {x e:Addr}{o:HO}{t':Nat}(I:Inv X pins σ H s) (mu:Mut (H x)) (d:e=x\/H e=some (.own x)) (k:∀b u,b≠e->s.heap.get? b=some u->h'.get? b=some u) (a:∃u,h'.get? e=some u)
  (c:ObjOk X.prog X.w (upd H x o) h' x o):Inv X pins σ (upd H x o) { s with heap:=h',toks:=t'}:=I.un (Un.write mu d k a) (I.hok.write mu d k a c)
theorem Inv.pins_of {pins':List (Addr × Obj)}(I:Inv X pins σ H s) (h:∀p∈pins',s.heap.get? p.1=some p.2/\H p.1=none/\p.1≠X.env.locals/\p.1∉X.fs/\∀v,p.2.data≠.cell v):Inv X pins' σ H s :=
 ⟨I.ok,I.os,I.bare,I.base,I.loc,I.cell,I.free,I.freeC,fun p a=>(u_.mp a).elim (fun z=>I.pin p (Wn _ z)) (h p),I.hok,I.len⟩
theorem qz {N:List Str}(e:N.Nodup) {i j:Nat}{x:Str}(a:N[i]?=some x) (b:N[j]?=some x):i=j:=by
 obtain⟨g,c⟩:=WY.mp a;obtain⟨f,d⟩:=WY.mp b;exact (List.getElem_inj e).mp (c.trans d.symm)
theorem nj {M:Model}{A:Around}{E:Value->Shared->Prop}{i:Nat}{x:Str}{v:V}{u:Value}{Q:Unit->Shared->Prop}(I:Inv X pins σ H s) (hN:X.N.Nodup) (U:X.N[i]?=some x) (B:Loc X.env.scope x) (r:RelV v u)
  (h:∀s',Inv X pins (σ.set i (some v)) H s'->(∃a,Heap.SameBut a s.heap s'.heap/\(a=X.env.locals\/X.env.cells.lookup x=some a))->Q () s') (hf:X.fn x=true\/X.env.scope.names.lookup x=some .local:=by first | exact .inl rfl | exact .inr rfl | assumption):wpAny M A (storeName X.env x u) Q E s:=by
 obtain⟨m,hn,hl⟩:=id I.loc;have P:(X.env.scope.kind==.class||(X.env.scope.kind==.module&&X.env.locals != X.env.globals))=false:=by rw[I.ok.kind];rfl
 have G:i<σ.length:=by rw[I.len];exact (WY.mp U).1
 have J:=I.cne;have l:∀{a:Addr} {h':Heap},(∃o,s.heap.get? a=some o/\H a=none)->Heap.SameBut a s.heap h'->HOk X.prog X.w H h':=fun {a h'} ha f b ob e=>by
  obtain⟨_,_,C⟩:=ha;refine (I.hok b ob e).stay (fun c w' t q=>(f.2 c ?_).trans q) (fun _ q=>q) fun _ _ q=>q;rintro rfl;rcases t with rfl | t
  ·rw[C] at e;cases e
  rw[C] at t;cases t
 rcases B with F | F
 ·refine wpAny_storeName_local F hn (fun h' hn' f=>?_) P;obtain⟨oL,_,_,hoL,_⟩:=id hn;refine h _ ⟨I.ok,I.os,I.bare,⟨fun b o e n O B=>?_,fun b o e n O B=>?_,I.base.free,fun b o e B=>?_,I.base.tups,I.base.frzs,I.base.tbls⟩,⟨_,hn',fun j y v' g D e3=>?_⟩,fun y c e=>?_,I.free,I.freeC,fun p hp=>?_,l ⟨oL,hoL,I.free⟩ f,by simpa using I.len⟩ ⟨_,f,.inl rfl⟩
  ·exact (f.2 b (Wh (R_ (E_ e) I.ok.above))).trans (I.base.keep b o e n O B)
  ·obtain⟨sl,g⟩:=I.base.slot b o e n O B;exact⟨sl,(f.2 b (Wh (R_ (E_ e) I.ok.above))).trans g⟩
  ·obtain⟨o',g⟩:=I.base.there b o e B;exact⟨o',(f.2 b (Wh (R_ (E_ e) I.ok.above))).trans g⟩
  ·by_cases L:j=i
   ·subst L;rw[U] at g;cases g;rw[Yv G] at D;cases D;exact⟨u,r,.inl ⟨F,by simp⟩⟩
   rw[YX (Ne.symm L)] at D;obtain⟨u',r',q⟩:=hl j y v' g D e3;refine⟨u',r',?_⟩;rcases q with ⟨k,e⟩ | ⟨k,c,e,z⟩
   ·refine .inl ⟨k,?_⟩;have:y≠x:=fun e=>L (qz hN g (e▸U));simp [this,e]
   exact .inr ⟨k,c,e,z.sameBut f (J y c e)⟩
  ·obtain⟨w',z⟩:=I.cell y c e;exact⟨w',z.sameBut f (J y c e)⟩
  obtain⟨e,n,Y,nf,d⟩:=I.pin p hp;exact⟨(f.2 p.1 Y).trans e,n,Y,nf,d⟩
 have K:X.fn x=true:=by
  rcases hf with z | z
  ·exact z
  rw[z] at F;cases F
 obtain⟨c,t⟩:=I.ok.has x (.inl F);obtain⟨w',z⟩:=I.cell x c t;refine wpAny_storeName_cell I.ok.kind F t z (fun h' R f=>?_);obtain⟨oc,S,T⟩:=id z;refine h { s with heap:=h'} ⟨I.ok,I.os,I.bare,⟨fun b o e n O B=>?_,fun b o e n O B=>?_,I.base.free,fun b o e B=>?_,I.base.tups,I.base.frzs,I.base.tbls⟩,⟨m,hn.sameBut f (Ne.symm (J x c t)),fun j y v' g D e3=>?_⟩,fun y Z e=>?_,I.free,I.freeC,fun p hp=>?_,l ⟨oc,S,I.freeC x c t⟩ f,by simpa using I.len⟩ ⟨c,f,.inr t⟩
 ·exact (f.2 b (Wh (R_ (E_ e) (I.ok.cab x c K t)))).trans (I.base.keep b o e n O B)
 ·obtain⟨sl,g⟩:=I.base.slot b o e n O B;exact⟨sl,(f.2 b (Wh (R_ (E_ e) (I.ok.cab x c K t)))).trans g⟩
 ·obtain⟨o',g⟩:=I.base.there b o e B;exact⟨o',(f.2 b (Wh (R_ (E_ e) (I.ok.cab x c K t)))).trans g⟩
 ·by_cases L:j=i
  ·subst L;rw[U] at g;cases g;rw[Yv G] at D;cases D;exact⟨u,r,.inr ⟨.inl F,c,t,R⟩⟩
  rw[YX (Ne.symm L)] at D;obtain⟨u',r',q⟩:=hl j y v' g D e3;refine⟨u',r',?_⟩;rcases q with q | ⟨k,Z,e,z'⟩
  ·exact .inl q
  refine .inr ⟨k,Z,e,z'.sameBut f ?_⟩;rintro rfl;exact L (qz hN g (I.ok.inj _ _ _ e t▸U))
 ·by_cases W:Z=c
  ·subst W;exact⟨_,R⟩
  obtain⟨w2,z2⟩:=I.cell y Z e;exact⟨w2,z2.sameBut f W⟩
 obtain⟨e,n,Y,nf,d⟩:=I.pin p hp;refine⟨(f.2 p.1 ?_).trans e,n,Y,nf,d⟩;intro q;rw[q,S] at e;have q':oc=p.2:=We e;exact d w' (by rw[<- q'];exact T)
theorem qC {M:Model}{A:Around}{E:Value->Shared->Prop}{i:Nat}{x:Str}{v:V}{u:Value}{Q:Unit->Shared->Prop}(I:Inv X pins σ H s) (e:X.N.Nodup) (a:X.N[i]?=some x) (b:Loc X.env.scope x) (r:RelV v u)
  (h:∀s',Inv X pins (σ.set i (some v)) H s'->Q () s') (c:X.fn x=true\/X.env.scope.names.lookup x=some .local:=by first | exact .inl rfl | exact .inr rfl | assumption):wpAny M A (storeName X.env x u) Q E s :=
 nj I e a b r (fun s' d _=>h s' d) c
theorem Inv.call' {s':Shared}{ch:List Addr}(I:Inv X pins σ H s) (h:s'.os=s.os) (u:Un (frs X.stack) ch H H' s.heap s'.heap) (d:HOk X.prog X.w H' s'.heap) (f:AllBare s'.gens)
  (a:∀b∈ch,(b∈X.ex\/X.s₀.heap.objs.size<=b)/\b≠X.env.locals/\(∀x c,X.env.cells.lookup x=some c->c≠b)/\∀p∈X.pn++pins,p.1≠b):Inv X pins σ H' s':=by
 obtain⟨h',g',d',t',g⟩:=s';have e:g=s.os:=h;subst e;exact I.call (g':=g') (t':=t') (d':=d') u d f a
end
abbrev XK:=Value->Option Addr->Hp->Prop
abbrev St:=List (Option V)
abbrev VK:=V->Hp->Prop
abbrev TE:=St->Hp->VK->Prop
abbrev TT:=St->Hp->(Bool->Hp->Prop)->Prop
abbrev TA:=St->Hp->(List V->Hp->Prop)->Prop
structure Ends where
 nx:St->Hp->Prop
 rt:VK
 bk:St->Hp->Prop:=fun _ _=>False
 ct:St->Hp->Prop:=fun _ _=>False
abbrev TS:=Ends->St->Hp->Prop
def EP (X:Cx) (a:List (Addr × Obj)) (b:St) (Q:VK) (u:Value) (s':Shared):Prop:=∃v H',Inv X a b H' s'/\RelV v u/\Q v H'
def TP (X:Cx) (a:List (Addr × Obj)) (c:St) (Q:Bool->Hp->Prop) (b:Bool) (s':Shared):Prop:=∃H',Inv X a c H' s'/\Q b H'
def AP (X:Cx) (a:List (Addr × Obj)) (b:St) (Q:List V->Hp->Prop) (us:List Value) (s':Shared):Prop:=∃vs H',Inv X a b H' s'/\Vals vs us/\Q vs H'
def SP (X:Cx) (b:List (Addr × Obj)) (D:Ends) (f:Flow) (s':Shared):Prop :=
 match f with
 |.next=>∃a H',Inv X b a H' s'/\D.nx a H'
 |.brk=>∃a H',Inv X b a H' s'/\D.bk a H'
 |.cont=>∃a H',Inv X b a H' s'/\D.ct a H'
 |.ret u=>∃v a H',Inv X b a H' s'/\RelV v u/\D.rt v H'
def PE (X:Cx) (e:Expr) (t:TE):Prop :=
 ∀(a:List (Addr × Obj)) (s:Shared) (b:St) (H:Hp) (Q:VK),Inv X a b H s->t b H Q->wpAny (model X.prog X.w) X.A (eval e X.env) (EP X a b Q) X.xe s
def PT (X:Cx) (e:Expr) (t:TT):Prop :=
 ∀(a:List (Addr × Obj)) (s:Shared) (b:St) (H:Hp) (Q:Bool->Hp->Prop),Inv X a b H s->t b H Q->wpAny (model X.prog X.w) X.A (isTrue e X.env (eval e X.env)) (TP X a b Q) X.xe s
def PW (X:Cx) (e:Expr) (t:TT):Prop :=
 ∀(b:Sem Value) (a:List (Addr × Obj)) (s:Shared) (c:St) (H:Hp) (Q:Bool->Hp->Prop),Inv X a c H s->t c H Q->wpAny (model X.prog X.w) X.A (isTrue e X.env b) (TP X a c Q) X.xe s
theorem PW.pt {X:Cx}{e:Expr}{t:TT}(h:PW X e t):PT X e t:=h _
def PA (X:Cx) (d:List Expr) (t:TA):Prop :=
 ∀(b:Pos) (a:List (Addr × Obj)) (s:Shared) (c:St) (H:Hp) (Q:List V->Hp->Prop),Inv X a c H s->t c H Q->wpAny (model X.prog X.w) X.A (spliced (backTo b (starEach d X.env))) (AP X a c Q) X.xe s
def PS (X:Cx) (st:Stmt) (t:TS):Prop :=
 ∀(a:List (Addr × Obj)) (s:Shared) (b:St) (H:Hp) (D:Ends),Inv X a b H s->t D b H->wpAny (model X.prog X.w) X.A (exec st X.env) (SP X a D) X.xe s
def PSs (X:Cx) (st:List Stmt) (t:TS):Prop :=
 ∀(a:List (Addr × Obj)) (s:Shared) (b:St) (H:Hp) (D:Ends),Inv X a b H s->t D b H->wpAny (model X.prog X.w) X.A (execs st X.env) (SP X a D) X.xe s
theorem thn {b:Type}{t:Sem b}{Q c:b->Shared->Prop}{M:Model}{A:Around}{E:Value->Shared->Prop}{s:Shared}(h:wpAny M A t Q E s) (d:∀a s,Q a s->c a s):wpAny M A t c E s:=W_ h d fun _ _ x=>x
section
variable {X:Cx}
def Qf (i:Nat):TE:=fun a H Q=>∃v,a[i]?=some (some v)/\Q v H
def tC (v:V):TE:=fun _ H Q=>Q v H
theorem KQ {i:Nat}{x:Str}{g:Pos}(y:X.N[i]?=some x) (w:Vis X.env.scope x) (k:(x==("__debug__":Str))=false:=by decide) (j:(x==("__classdict__":Str))=false:=by decide):PE X (.Name x g) (Qf i):=by
 intro f s p H Q I h;obtain⟨v,e,h⟩:=h;obtain⟨m,q,t⟩:=I.loc;obtain⟨u,r,l⟩:=t i x v y e w;have d:EP X f p Q u s:=⟨v,H,I,r,h⟩;rcases l with ⟨b,o⟩ | ⟨b,c,n,a⟩
 ·exact wpAny_Name (wpAny_loadName_local I.ok.kind b q o d) k
 rcases b with b | b
 ·exact wpAny_Name (wpAny_loadName_cell I.ok.kind b n a d) k
 exact wpAny_Name (wpAny_loadName_free I.ok.kind b n a d j) k
theorem KR {i j pos}:PE X (.Constant (.int i) j pos) (tC (.int i)):=fun _ _ _ H _ I h=>wpAny_Constant_int ⟨.int i,H,I.tok _,⟨_,rfl⟩,h⟩
theorem Qg {b j pos}:PE X (.Constant (.bool b) j pos) (tC (.bl b)):=fun _ _ _ H _ I h=>Constant_bool ⟨.bl b,H,I,rfl,h⟩
theorem KY {j pos}:PE X (.Constant .none j pos) (tC .non):=fun _ _ _ H _ I h=>Constant_none ⟨.non,H,I,rfl,h⟩
theorem KZ {x j pos}:PE X (.Constant (.str x) j pos) (tC (.str x)):=fun _ _ _ H _ I h=>Calls.Constant_str ⟨.str x,H,I.tok _,⟨_,rfl⟩,h⟩
def Gl (X:Cx) (x:Str):Prop:=X.env.kindOf x=some .globalImplicit
theorem vH {E:Value->Shared->Prop}{a:List (Addr × Obj)}{s:Shared}{e:St}{H:Hp}{x:Str}{u:Value}{b:Pos}{Q:Value->Shared->Prop}(I:Inv X a e H s) (c:Gl X x) (d:X.mg x=some u) (h:Q u s)
  (f:(x==("__debug__":Str))=false:=by decide):wpAny (model X.prog X.w) X.A (eval (.Name x b) X.env) Q E s :=
 Calls.Name_function_global I.ok.kind c (Calls.loadGlobal_global (by rw[I.ok.glob];exact I.mod.glob.keeps I.bk) d h) f
theorem dM {E:Value->Shared->Prop}{a:List (Addr × Obj)}{s:Shared}{f:St}{H:Hp}{x:Str}{u:Value}{b:Pos}{Q:Value->Shared->Prop}(I:Inv X a f H s) (d:Gl X x) (e:X.mg x=none) (k:bootBuiltins x=some u) (h:Q u s)
  (i:x≠"__name__":=by decide) (j:(x==("__debug__":Str))=false:=by decide):wpAny (model X.prog X.w) X.A (eval (.Name x b) X.env) Q E s:=by
 obtain⟨l,g,c⟩:=I.mod.blt;exact Calls.Name_function_global I.ok.kind d (Calls.loadGlobal_builtin (by rw[I.ok.glob];exact I.mod.glob.keeps I.bk) e (by rw[I.ok.blt];exact g.keeps I.bk) ((c x i).trans k) h) j
theorem Ep {x:Str}{v:V}{u:Value}{a:Pos}(b:Gl X x) (c:X.mg x=none) (f:bootBuiltins x=some u) (r:RelV v u) (d:x≠"__name__":=by decide) (e:(x==("__debug__":Str))=false:=by decide):PE X (.Name x a) (tC v) :=
 fun _ _ _ H _ I h=>dM I b c f ⟨v,H,I,r,h⟩ d e
variable {a b:Expr}{ta tb:TE}{pos:Pos}
def PC (X:Cx) (g:CmpOp) (a b:Expr) (t:TE):Prop :=
 ∀(c:List (Addr × Obj)) (s:Shared) (f:St) (H:Hp) (Q:VK),Inv X c f H s->t f H Q ->
  wpAny (model X.prog X.w) X.A (eval a X.env) (fun v d=>wpAny (model X.prog X.w) X.A (eval b X.env) (fun u e=>wpAny (model X.prog X.w) X.A (compareOp g v u) (EP X c f Q) X.xe e) X.xe d) X.xe s
theorem zA (b:Expr) {a:CmpOp}(h:a≠.In) (c:a≠.NotIn):behindInMarks a b=false:=by
 have e:(a==CmpOp.In)=false:=by cases a <;> first | rfl | exact absurd rfl h
 have d:(a==CmpOp.NotIn)=false:=by cases a <;> first | rfl | exact absurd rfl c
 cases b <;> simp [behindInMarks,e,d]
def tB (t:TE):TT:=fun b H Q=>t b H fun x a=>∃c,x=.bl c/\Q c a
theorem tR {f:CmpOp}{t:TE}(h:PC X f a b t) (g:behindInMarks f b=false:=by first | exact zA _ (by decide) (by decide) | rfl):PT X (.Compare a [f] [b] pos) (tB t):=by
 intro e s j H Q I n;refine wpAny_isTrue_Compare1 (thn (h e s j H _ I n) fun v p g=>thn g fun u r i=>thn i fun c w ⟨x,k,m,l,o⟩=>?_) g;obtain⟨d,rfl,q⟩:=o;cases l;exact Yd ⟨k,m,q⟩
theorem K1 {e:Expr}{t:TE}(h:PE X e t) (i:∀whole,isTrue e X.env whole=(do let v <- whole;standAt e.pos;holding [v] (truthy v)):=by intro _;rfl):PT X e (tB t):=by
 intro a s c H Q I j;refine isTrue_plain (thn (h a s c H _ I j) fun v l ⟨x,b,g,f,k⟩=>?_) (i _);obtain⟨d,rfl,q⟩:=k;cases f;exact Yd ⟨b,g,q⟩
variable {tA tB':TT}{rest:List Expr}
def U4 (t u:TT):TT:=fun b H Q=>t b H fun c a=>if c=true then u b a Q else Q false a
def tOr (t u:TT):TT:=fun b H Q=>t b H fun c a=>if c=true then Q true a else u b a Q
def U5 (t:TT):TT:=fun b H Q=>t b H fun c a=>Q (!c) a
theorem Er (d:PT X a tA):PW X (.BoolOp .And [a] pos) tA:=by
 intro i b s f H Q I h;refine isTrue_and (thn (d b s f H Q I h) fun c g e=>?_);cases c with
 |true=>exact isTrue_and_nil e
 |false=>exact e
theorem K3 (d:PT X a tA):PW X (.BoolOp .Or [a] pos) tA:=by
 intro i b s f H Q I h;refine isTrue_or (thn (d b s f H Q I h) fun c g e=>?_);cases c with
 |false=>exact isTrue_or_nil e
 |true=>exact e
theorem K4 (k:PT X a tA) (l:PW X (.BoolOp .And (b::rest) pos) tB'):PW X (.BoolOp .And (a::b::rest) pos) (U4 tA tB'):=by
 intro m d s f H Q I h;refine isTrue_and (thn (k d s f H _ I h) fun c j ⟨e,g,i⟩=>?_);cases c with
 |true=>exact l m d j f e Q g i
 |false=>exact⟨e,g,i⟩
theorem Qh (k:PT X a tA) (l:PW X (.BoolOp .Or (b::rest) pos) tB'):PW X (.BoolOp .Or (a::b::rest) pos) (tOr tA tB'):=by
 intro m d s f H Q I h;refine isTrue_or (thn (k d s f H _ I h) fun c j ⟨e,g,i⟩=>?_);cases c with
 |true=>exact⟨e,g,i⟩
 |false=>exact l m d j f e Q g i
theorem K5 (d:PT X a tA):PT X (.UnaryOp .Not a pos) (U5 tA):=by
 intro b s f H Q I h;exact isTrue_not (d b s f H (fun c e=>Q (!c) e) I h)
def Qi (e d:TE):TE:=fun b H Q=>e b H fun x a=>∃c,x=.bl c/\if c=true then d b a Q else Q (.bl false) a
def U6 (e d:TE):TE:=fun b H Q=>e b H fun x a=>∃c,x=.bl c/\if c=true then Q (.bl true) a else d b a Q
theorem K6 {op}{t:TE}(h:PE X a t):PE X (.BoolOp op [a] pos) t:=fun b s d H Q I c=>BoolOp_one (h b s d H Q I c)
theorem K7 (k:PE X a ta) (m:PE X (.BoolOp .And (b::rest) pos) tb):PE X (.BoolOp .And (a::b::rest) pos) (Qi ta tb):=by
 intro d s g H Q I h;refine BoolOp_and (thn (k d s g H _ I h) fun v j ⟨x,f,i,l,e⟩=>?_);obtain⟨c,rfl,e⟩:=e;cases l;refine Yd ?_;cases c with
 |true=>exact m d j g f Q i e
 |false=>exact⟨.bl false,f,i,rfl,e⟩
theorem Qj (k:PE X a ta) (m:PE X (.BoolOp .Or (b::rest) pos) tb):PE X (.BoolOp .Or (a::b::rest) pos) (U6 ta tb):=by
 intro d s g H Q I h;refine BoolOp_or (thn (k d s g H _ I h) fun v j ⟨x,f,i,l,e⟩=>?_);obtain⟨c,rfl,e⟩:=e;cases l;refine Yd ?_;cases c with
 |false=>exact m d j g f Q i e
 |true=>exact⟨.bl true,f,i,rfl,e⟩
end
def SqL (K:Frag) (H:Hp) (a:Addr) (xs:List V):Prop :=
 Rd H a (.lst xs) \/
  ∃(o:Obj) (b:Array Value) (n:Nat),K.lookup a=some o/\o.cls=.type "list"/\o.dict=none/\o.data=.seq b n/\b.size<=sizeLine/\Vals xs b.toList
def SqT (K:Frag) (H:Hp) (a:Addr) (xs:List V):Prop :=
 Rd H a (.tup xs) \/
  ∃(o:Obj) (b:Array Value) (n:Nat),K.lookup a=some o/\o.cls=.type "tuple"/\o.dict=none/\o.data=.seq b n/\b.size<=sizeLine/\Vals xs b.toList
def U7:Value->Option V
 |.none=>some .non
 |.bool b=>some (.bl b)
 |.int i _=>some (.int i)
 |.str x _=>some (.str x)
 |.bytes b _=>some (.byt b)
 |.float b _=>some (.flt b)
 |.ref a=>some (.ref a)
 |.type n=>some (.ty n)
 |_=>none
theorem RelV.abs {x:V}{u:Value}(r:RelV x u):U7 u=some x:=by
 cases x with
 |non=>cases r;rfl
 |bl _=>cases r;rfl
 |int _=>obtain⟨t,rfl⟩:=r;rfl
 |str _=>obtain⟨t,rfl⟩:=r;rfl
 |byt _=>obtain⟨t,rfl⟩:=r;rfl
 |flt _=>obtain⟨t,rfl⟩:=r;rfl
 |ref _=>cases r;rfl
 |ty _=>cases r;rfl
theorem RelV.inj {x y:V}{u:Value}(r:RelV x u) (q:RelV y u):x=y:=We (r.abs.symm.trans q.abs)
theorem Vals.inj {xs a:List V}{us:List Value}(h:Vals xs us) (h':Vals a us):xs=a:=by
 induction h generalizing a with
 |nil=>cases h';rfl
 |cons r t b =>
 cases h' with
 |cons c t'=>rw[r.inj c,b t']
section
variable {X:Cx}{pins:List (Addr × Obj)}{σ:St}{H:Hp}{s:Shared}{a:Addr}{xs ys:List V}
theorem SqL.of {K:Frag}(h:H a=some (.lst xs)):SqL K H a xs:=.inl (.inl h)
theorem SqT.of {K:Frag}(h:H a=some (.tup xs)):SqT K H a xs:=.inl (.inl h)
theorem Inv.list (I:Inv X pins σ H s) (h:SqL X.K H a xs):∃b:List Value,Vals xs b/\PlainL s.heap a b.toArray/\xs.length<=sizeLine:=by
 rcases h with h | ⟨o,b,n,c,d,g,f,hz,r⟩
 ·obtain⟨z,b,n,r,e⟩:=h.ok I.hok;exact⟨b,r,⟨_,n,e,rfl,rfl,rfl⟩,z⟩
 refine⟨b.toList,r,⟨o,n,I.kIn a o c,d,g,by simpa using f⟩,?_⟩;have e:=r.length;simp only[D_] at e;omega
theorem Inv.tuple (I:Inv X pins σ H s) (h:SqT X.K H a xs):∃b:List Value,Vals xs b/\IsTup s.heap a b.toArray/\xs.length<=sizeLine:=by
 rcases h with h | ⟨o,b,n,d,c,_,f,hz,r⟩
 ·obtain⟨z,b,r,p⟩:=h.ok I.hok;exact⟨b,r,p.is,z⟩
 refine⟨b.toList,r,⟨o,I.kIn a o d,c,n,by simpa using f⟩,?_⟩;have e:=r.length;simp only[D_] at e;omega
theorem Inv.list_inj (I:Inv X pins σ H s) (h:SqL X.K H a xs) (h':SqL X.K H a ys):xs=ys:=by
 obtain⟨b,r,⟨o,n,e,_,_,d⟩,_⟩:=I.list h;obtain⟨its',f,⟨g,i,c,_,_,d'⟩,_⟩:=I.list h';rw[e] at c;cases c;rw[d] at d';injection d' with d1 _;have:b=its':=by simpa using U_ Array.toList d1
 subst this;exact r.inj f
theorem Inv.tuple_inj (I:Inv X pins σ H s) (h:SqT X.K H a xs) (h':SqT X.K H a ys):xs=ys:=by
 obtain⟨b,r,⟨o,e,_,n,d⟩,_⟩:=I.tuple h;obtain⟨its',f,⟨g,c,_,i,d'⟩,_⟩:=I.tuple h';rw[e] at c;cases c;rw[d] at d';injection d' with d1 _;have:b=its':=by simpa using U_ Array.toList d1
 subst this;exact r.inj f
end
abbrev Cx.wish (X:Cx) (E:Value->Shared->Prop):Cx:={ X with xe:=E}
abbrev Cx.nox (X:Cx):Cx:=X.wish fun _ _=>False
theorem Cx.Ok.wish {X:Cx}(a:X.Ok) (E:Value->Shared->Prop):(X.wish E).Ok :=
 ⟨a.mod,a.kind,a.glob,a.blt,a.above,a.inj,a.has,a.cab,a.hd,a.frames,a.stk,a.exf,a.bs,a.bsz,a.noex,a.exfs,a.funs,a.frf⟩
theorem Cx.Ok.unwish {X:Cx}{E:Value->Shared->Prop}(a:(X.wish E).Ok):X.Ok :=
 ⟨a.mod,a.kind,a.glob,a.blt,a.above,a.inj,a.has,a.cab,a.hd,a.frames,a.stk,a.exf,a.bs,a.bsz,a.noex,a.exfs,a.funs,a.frf⟩
section
variable {X:Cx}{pins:List (Addr × Obj)}{σ:St}{H:Hp}{s:Shared}{E:Value->Shared->Prop}
theorem Inv.wish (I:Inv X pins σ H s) (E:Value->Shared->Prop):Inv (X.wish E) pins σ H s:=⟨I.ok.wish E,I.os,I.bare,I.base,I.loc,I.cell,I.free,I.freeC,I.pin,I.hok,I.len⟩
theorem Inv.unwish (I:Inv (X.wish E) pins σ H s):Inv X pins σ H s:=⟨I.ok.unwish,I.os,I.bare,I.base,I.loc,I.cell,I.free,I.freeC,I.pin,I.hok,I.len⟩
theorem SP.unwish {D:Ends}{f:Flow}{s':Shared}(h:SP (X.wish E) pins D f s'):SP X pins D f s':=by
 cases f with
 |next=>obtain⟨a,H',I,q⟩:=h;exact⟨a,H',I.unwish,q⟩
 |brk=>obtain⟨a,H',I,q⟩:=h;exact⟨a,H',I.unwish,q⟩
 |cont=>obtain⟨a,H',I,q⟩:=h;exact⟨a,H',I.unwish,q⟩
 |ret u=>obtain⟨v,a,H',I,r,q⟩:=h;exact⟨v,a,H',I.unwish,r,q⟩
theorem PSs.nox {st:List Stmt}{t:TS}(h:PSs X.nox st t):PSs X st t:=fun a s c H D I b =>
 W_ (h a s c H D (I.wish _) b) (fun _ _ q=>q.unwish) fun _ _ z=>False.elim z
variable {st:Stmt}{rest:List Stmt}{t u:TS}{e:Expr}{te:TE}{pos:Pos}
def Qk:TS:=fun D a H=>D.nx a H
def U8 (t u:TS):TS:=fun D a H=>t { D with nx:=u D} a H
theorem Es:PSs X [] Qk:=fun _ _ a H _ I h=>wpAny_execs_nil ⟨a,H,I,h⟩
theorem zB (h1:PS X st t) (c:PSs X rest u):PSs X (st::rest) (U8 t u):=by
 intro a s e H D I h;refine wpAny_execs_cons (thn (h1 a s e H { D with nx:=u D} I h) fun f d q=>?_);cases f with
 |next=>obtain⟨b,H',g,q⟩:=q;exact c a d b H' D g q
 |ret v=>exact q
 |brk=>exact q
 |cont=>exact q
theorem Et (c:PS X st t):PSs X [st] t:=by
 intro a s b H D I h;refine wpAny_execs_cons (thn (c a s b H D I h) fun f d q=>?_);cases f with
 |next=>exact wpAny_execs_nil q
 |ret v=>exact q
 |brk=>exact q
 |cont=>exact q
def Ql:TS:=fun D a H=>D.ct a H
theorem qD:PS X (.Continue pos) Ql:=fun _ _ a H _ I h=>wpAny_Continue ⟨a,H,I,h⟩
theorem Inv.quiet {a:List (Addr × Obj)}{b:St}{H:Hp}{s:Shared}(I:Inv X a b H s):interactive X.env=false:=by simp [interactive,I.ok.kind]
def Qm (te:TE):TS:=fun D a H=>te a H fun _ b=>D.nx a b
theorem Eu (f:PE X e te) (g:swapsWith e none pos.line X.env=pure false:=by rfl):PS X (.Expr e pos) (Qm te):=by
 intro a s b H D I h;exact wpAny_Expr_any (thn (f a s b H _ I h) fun v j ⟨x,c,d,k,i⟩=>⟨b,c,d,i⟩) I.quiet g
def U9 (te:TE):TS:=fun D a H=>te a H D.rt
theorem K8 (g:PE X e te):PS X (.Return (some e) pos) (U9 te):=by
 intro a s b H D I h;exact wpAny_Return_some (thn (g a s b H _ I h) fun v j ⟨x,c,f,d,i⟩=>⟨x,b,c,f,d,i⟩)
def Va (c:TT) (t u:TS):TS:=fun D a H=>c a H fun b d=>if b=true then t D a d else u D a d
theorem Qn {c:Expr}{a b:List Stmt}{j:TT}(n:PT X c j) (m:PSs X a t) (o:PSs X b u):PS X (.If c a b pos) (Va j t u):=by
 intro e s f H D I h;refine wpAny_If (thn (n e s f H _ I h) fun d g ⟨i,k,l⟩=>?_);cases d with
 |true=>exact m e g f i D k l
 |false=>exact o e g f i D k l
end
abbrev TG:=V->St->Hp->(St->Hp->Prop)->Prop
abbrev TGs:=List V->St->Hp->(St->Hp->Prop)->Prop
def PG (X:Cx) (a:Expr) (t:TG):Prop :=
 ∀(b:List (Addr × Obj)) (s:Shared) (d:St) (H:Hp) (v:V) (u:Value) (Q:St->Hp->Prop),Inv X b d H s->RelV v u->t v d H Q ->
  wpAny (model X.prog X.w) X.A (assign a X.env u) (fun _ s'=>∃c H',Inv X b c H' s'/\Q c H') X.xe s
def PGs (X:Cx) (ts:List Expr) (t:TGs):Prop :=
 ∀(a:List (Addr × Obj)) (s:Shared) (c:St) (H:Hp) (vs:List V) (us:List Value) (Q:St->Hp->Prop),Inv X a c H s->Vals vs us->t vs c H Q ->
  wpAny (model X.prog X.w) X.A (assignInOrder ((assignEach ts X.env).map (·.2)) us) (fun _ s'=>∃b H',Inv X a b H' s'/\Q b H') X.xe s
abbrev zE:=V->V->V->Hp->(Hp->Prop)->Prop
def PSet (X:Cx) (t:zE):Prop :=
 ∀(a:List (Addr × Obj)) (s:Shared) (d:St) (H:Hp) (o i v:V) (b c u:Value) (Q:Hp->Prop),Inv X a d H s->RelV o b->RelV i c->RelV v u->t o i v H Q ->
  wpAny (model X.prog X.w) X.A (setItem b c u) (fun _ s'=>∃H',Inv X a d H' s'/\Q H') X.xe s
section
variable {X:Cx}{pos:Pos}
def Ji (i:Nat):TG:=fun v a H Q=>Q (a.set i (some v)) H
theorem Ew {i:Nat}{x:Str}(f:X.N.Nodup) (b:X.N[i]?=some x) (c:Loc X.env.scope x) (d:X.fn x=true\/X.env.scope.names.lookup x=some .local:=by first | exact .inl rfl | exact .inr rfl | assumption):PG X (.Name x pos) (Ji i):=by
 intro a s g H v u Q I r h;exact wpAny_assign_Name (qC I f b c r (fun s' e=>⟨_,H,e,h⟩) d)
def Vb:TGs:=fun vs a H Q=>vs=[]/\Q a H
def Qo (t:TG) (u:TGs):TGs:=fun vs b H Q=>∃v r,vs=v::r/\t v b H fun a H'=>u r a H' Q
theorem Ex:PGs X [] Vb:=by
 intro a s b H vs us Q I r h;obtain⟨e,h⟩:=h;subst e;cases r;exact assignInOrder_nil ⟨b,H,I,h⟩
theorem zF {e:Expr}{b:List Expr}{t:TG}{u:TGs}(j:PG X e t) (d:PGs X b u)
  (n:(assignEach (e::b) X.env).map (·.2)=assign e X.env::(assignEach b X.env).map (·.2):=by rfl):PGs X (e::b) (Qo t u):=by
 intro a s i H vs us Q I r h;obtain⟨v,p,l,h⟩:=h;subst l;cases r with
 |cons r m =>
 rw[n];refine assignInOrder_cons (thn (j a s i H _ _ _ I r h) fun _ f ⟨c,g,k,o⟩=>?_);exact d a f c g _ _ Q k m o
def Vc (K:Frag) (n:Nat) (t:TGs):TG:=fun v b H Q=>∃a xs,v=.ref a/\SqT K H a xs/\xs.length=n/\t xs b H Q
theorem K9 {d:List Expr}{k:Nat}{t:TGs}{n:Nat}(p:X.calm=true) (h:PGs X d t)
  (w:(assignEach d X.env).length=n:=by rfl) (f:(assignEach d X.env).findIdx? (·.1)=none:=by rfl):PG X (.Tuple d k pos) (Vc X.K n t):=by
 intro c s j H v u Q I r g;obtain⟨a,xs,q,z,y,g⟩:=g;subst q;cases r;obtain⟨x,i,A,hz⟩:=I.tuple z;refine assign_Tuple_tuple (I.ok.hd p) A (by simp [w,<- y,i.length]) f fun h' l=>?_;have m:Inv X c j H { s with heap:=h'}:=I.kept (t':=s.toks) fun b o e=>l b o (Wh (E_ e)) e;exact h c _ j H xs _ Q m (by simpa using i) g
def Vd (b e:TE) (t:zE):TG:=fun v a H Q=>b a H fun o c=>e a c fun i d=>t o i v d fun H3=>Q a H3
theorem La {o i:Expr}{e f:TE}{t:zE}(C:PE X o e) (B:PE X i f) (j:PSet X t)
  (g:∀v,assign (.Subscript o i pos) X.env v=(do
   let b <- holding [v] (eval o X.env)
   let c <- holding [v,b] (eval i X.env)
   standAt pos
   holding [v,b,c] (setItem b c v)
   release [v,b,c] []):=by intro _;rfl):PG X (.Subscript o i pos) (Vd e f t):=by
 intro a s d H v u Q I r h;rw[g];refine b_ (Xu (thn (C a s d H _ I h) fun b k ⟨x,D,z,m,q⟩=>?_));refine b_ (Xu (thn (B a k d D _ z q) fun c l ⟨y,w,F,A,p⟩=>?_));refine b_ (wpAny_standAt (b_ (Xu (thn (j a l d w x y v b c u _ F m A r p) fun _ G ⟨H3,n,E⟩=>?_))));exact wpAny_release ⟨d,H3,n,E⟩
def Qp (te:TE) (g:TG):TS:=fun D a H=>te a H fun x b=>g x a b D.nx
theorem Ld {b e:Expr}{te:TE}{g:TG}(n:PE X e te) (d:PG X b g) (o:swapsWithSole [b] e pos.line X.env=pure false:=by rfl) (k:swappedStores [b] e X.env=pure none:=by rfl)
  (j:(assignEach [b] X.env).map (·.2)=[assign b X.env]:=by rfl):PS X (.Assign [b] e pos) (Qp te g):=by
 intro a s c H D I h;refine wpAny_Assign_stores (thn (n a s c H _ I h) fun v f ⟨x,i,m,l,p⟩=>?_) o k;rw[j];exact thn (d a f c i x v _ m l p) fun _ r q=>q
theorem Le {i:Nat}{x:Str}{e:Expr}{te:TE}{a:Pos}(k:X.N.Nodup) (c:X.N[i]?=some x) (d:Loc X.env.scope x) (n:PE X e te) (o:swapsWith e (some (.Name x a)) pos.line X.env=pure false:=by rfl) (j:X.fn x=true\/X.env.scope.names.lookup x=some .local:=by first | exact .inl rfl | exact .inr rfl | assumption) :
  PS X (.Assign [.Name x a] e pos) (Qp te (Ji i)):=by
 intro b s g H D I h;refine wpAny_Assign_Name (thn (n b s g H _ I h) fun v r ⟨y,f,m,l,q⟩=>?_) o;exact qC m k c d l (fun t p=>⟨_,f,p,q⟩) j
def Lg (c:TT) (g:TS):TS:=fun D a H=>∃W:Nat->St->Hp->Prop,(∃m,W m a H)/\∀m a H,W m a H ->
 c a H fun b f=>if b=true then ∃N:St->Hp->Prop,(∀d H',N d H'->∃e,e<m/\W e d H')/\g { D with nx:=N,ct:=N,bk:=D.nx} a f else D.nx a f
theorem zG {c:Expr}{g:List Stmt}{B:TT}{y:TS}(t:PassesOwn (model X.prog X.w) X.A X.env X.xe) (M:PT X c B) (O:PSs X g y):PS X (.While c g [] pos) (Lg B y):=by
 intro d s E H D I h;obtain⟨W,⟨J,K⟩,i⟩:=h;refine wpAny_While (codeAny_whileLoop (fun n s'=>∃j H',Inv X d j H' s'/\W n j H') ?_ J ⟨E,H,I,K⟩);rintro n F ⟨e,z,L,P⟩;refine X_ t (thn (M d F e z _ L (i n e z P)) fun b G ⟨x,C,k⟩=>?_);cases b with
 |true =>
  obtain⟨N,u,k⟩:=k;rw[if_pos rfl];refine X_ t (thn (O d G e x _ C k) fun f Q l=>?_);cases f with
  |next=>obtain⟨a,H3,q,o⟩:=l;obtain⟨p,r,m⟩:=u a H3 o;exact⟨p,r,a,H3,q,m⟩
  |cont=>obtain⟨a,H3,q,o⟩:=l;obtain⟨p,r,m⟩:=u a H3 o;exact⟨p,r,a,H3,q,m⟩
  |brk=>exact l
  |ret v=>exact l
 |false =>
 rw[if_neg m_];exact wpAny_execs_nil ⟨e,x,C,k⟩
end
structure It where
 go:Nat->Hp->Prop
 yld:Nat->Hp->V->Hp->Prop
 stop:Nat->Hp->Prop
def mJ (X:Cx) (a:List (Addr × Obj)) (H:Hp) (b:Addr):Prop :=
 H b=none/\b≠X.env.locals/\b∉X.fs/\(b∈X.ex\/X.s₀.heap.objs.size<=b)/\(∀x c,X.env.cells.lookup x=some c->c≠b)/\∀p∈X.pn++a,p.1≠b
theorem Inv.fpOk {X:Cx}{a:List (Addr × Obj)}{f:St}{H H':Hp}{s:Shared}{b:Addr}(I:Inv X a f H s) (d:s.heap.objs.size<=b) (h:H' b=none):mJ X a H' b:=by
 refine⟨h,Nat.ne_of_gt (R_ I.lt d),I.nofs d,.inr (Wc I.sz d),fun x c e z=>?_,fun p g z=>?_⟩
 ·obtain⟨v,q⟩:=I.cell x c e;exact absurd (R_ q.lt (by rw[z];exact d)) (WL _)
 exact absurd (R_ (E_ (I.pin p g).1) (by rw[z];exact d)) (WL _)
structure Turn (P:Program) (w:World) (K:Frag) (tg:Expr) (J:It) (fp:List Addr) (it:Addr) (tn:Nat->Heap->Prop):Prop where
 mem:it∈fp
 obj:∀i h,tn i h->∀b∈fp,∃o,h.get? b=some o/\∀v,o.data≠.cell v
 keep:∀i h h',tn i h->(∀b∈fp,∀o,h.get? b=some o->h'.get? b=some o)->tn i h'
 item:∀(X:Cx),X.prog=P->X.w=w->X.K=K->X.calm=true->∀(i:Nat) (pins:List (Addr × Obj)) (s:Shared) (σ:St) (H:Hp) (E:Value->Shared->Prop),Inv X pins σ H s->(∀b∈fp,mJ X pins H b)->tn i s.heap->J.go i H ->
  wpAny (model P w) X.A (pyNext (.ref it)) (fun r s1=>∃u,r=some u /\
   wpAny (model P w) X.A (letOwnedTupleGo tg (.ref it) u) (fun _ s2=>∃x H',Inv X pins σ H' s2/\RelV x u/\J.yld i H x H'/\tn (i+1) s2.heap/\∀b∈fp,H' b=none) E s1) E s
 done:∀(X:Cx),X.prog=P->X.w=w->X.K=K->X.calm=true->∀(i:Nat) (pins:List (Addr × Obj)) (s:Shared) (σ:St) (H:Hp) (E:Value->Shared->Prop),Inv X pins σ H s->(∀b∈fp,mJ X pins H b)->tn i s.heap->J.stop i H ->
  wpAny (model P w) X.A (pyNext (.ref it)) (fun r s1=>r=none/\Inv X pins σ H s1) E s
 self:∀(A:Around) (i:Nat) (s:Shared) (Q:Value->Shared->Prop) (E:Value->Shared->Prop),tn i s.heap->Q (.ref it) s->wpAny (model P w) A (pyIter (.ref it)) Q E s
abbrev TI:=St->Hp->(It->Hp->Prop)->Prop
def PIE (X:Cx) (a:List (Addr × Obj)) (g:St) (h:Expr) (R:It->Hp->Prop) (c:Value) (d:Shared):Prop :=
 ∃(it:Addr) (f:List Addr) (e:Nat->Heap->Prop) (J:It) (H':Hp),c=.ref it/\Inv X a g H' d/\Turn X.prog X.w X.K h J f it e/\e 0 d.heap/\(∀b∈f,mJ X a H' b)/\R J H'
def PI (X:Cx) (f b:Expr) (e:TI):Prop :=
 ∀(a:List (Addr × Obj)) (s:Shared) (c:St) (H:Hp) (R:It->Hp->Prop),Inv X a c H s->e c H R ->
  wpAny (model X.prog X.w) X.A (eval b X.env) (fun v d=>wpAny (model X.prog X.w) X.A (pyIter v) (PIE X a c f R) X.xe d) X.xe s
theorem vI {M:Model}{A:Around}{E:Value->Shared->Prop}{s:Shared}{b:Expr}{it:Addr}{u:Value}{o:Obj}{n:String}{vs:Array Value}{Q:Unit->Shared->Prop}(c:s.heap.get? it=some o) (d:o.cls=.type n) (f:o.data=.fields vs)
  (e:["enumerate","zip","dict_itemiterator","dict_reverseitemiterator","odict_iterator","itertools.zip_longest","itertools.pairwise"].contains n=false) (a:Q () s):wpAny M A (letOwnedTupleGo b (.ref it) u) Q E s:=by
 unfold letOwnedTupleGo;cases b <;> first
  |exact k_ a
  | (cases u <;> first
    |exact k_ a
    | (refine b_ (wpAny_load c ?_)
       rw[d,f]
       show wpAny M A (if (["enumerate","zip","dict_itemiterator","dict_reverseitemiterator","odict_iterator","itertools.zip_longest","itertools.pairwise"].contains n&&vs[0]?==some (rawInt _))=true then _ else _) Q E s
       rw[if_neg (by intro h;rw[e,Bool.false_and] at h;cases h)]
       exact k_ a))
def Itl (K:Frag) (a:Addr):It :=
 ⟨fun i H=>∃xs x,SqL K H a xs/\xs[i]?=some x,fun i H x H'=>H'=H/\∀xs,SqL K H a xs->xs[i]?=some x,fun i H=>∃xs,SqL K H a xs/\xs.length<=i⟩
def Itt (K:Frag) (a:Addr):It :=
 ⟨fun i H=>∃xs x,SqT K H a xs/\xs[i]?=some x,fun i H x H'=>H'=H/\∀xs,SqT K H a xs->xs[i]?=some x,fun i H=>∃xs,SqT K H a xs/\xs.length<=i⟩
def Itr (a:Int) (n:Nat):It:=⟨fun i _=>i<n,fun i H x H'=>H'=H/\x=.int (a+i),fun i _=>n<=i⟩
theorem yf {P:Program}{w:World}{K:Frag}{O:Expr}(a it:Addr):Turn P w K O (Itl K a) [it] it (fun i h=>h.IsListIter it a i) where
 mem:=by simp
 obj:=fun i h st b g=>by
  have e:b=it:=by simpa using g
  subst e
  obtain⟨o,e,c,d⟩:=st
  exact⟨o,e,fun v z=>by rw[d] at z;cases z⟩
 keep:=fun i h h' st k=>st.at fun o e=>k it (by simp) o e
 item:=by
  intro X y B q M i f s L H E I m st C
  subst y B q
  obtain⟨xs,x,l,G⟩:=C
  obtain⟨r,n,p,hz⟩:=I.list l
  obtain⟨u,N,S⟩:=n.get G
  obtain⟨D,J,Q,F,A,t⟩:=m it (by simp)
  refine wpAny_pyNext_list_item st p.isList (x:=u) (by simpa using N) fun h' j sb=>?_
  have R:Inv X f L H { s with heap:=h'}:=I.turned (t':=s.toks) (fun b o g e=>(sb.2 b g).trans e) D J F A t
  obtain⟨o,e,c,d⟩:=id j
  exact⟨u,rfl,vI (s:={ s with heap:=h'}) e c d (by decide) ⟨x,H,R,S,⟨rfl,fun V U=>by rw[I.list_inj U l];exact G⟩,j,fun b g=>(m b g).1⟩⟩
 done:=by
  intro X y B q M i f s L H E I m st C
  subst y B q
  obtain⟨xs,l,G⟩:=C
  obtain⟨r,n,p,hz⟩:=I.list l
  obtain⟨D,J,Q,F,A,t⟩:=m it (by simp)
  have W:=n.length
  exact wpAny_pyNext_list_end (I.ok.hd M) st p.isList (by simp;omega) fun h' T=>⟨rfl,I.turned (t':=s.toks) (fun b o g e=>T b o g e) D J F A t⟩
 self:=fun _ _ _ _ _ st h=>wpAny_pyIter_listiter st h
theorem tU {P:Program}{w:World}{K:Frag}{O:Expr}(a it:Addr):Turn P w K O (Itt K a) [it] it (fun i h=>h.IsTupleIter it a i) where
 mem:=by simp
 obj:=fun i h st b j=>by
  have e:b=it:=by simpa using j
  subst e
  obtain⟨o,e,c,d⟩:=st
  exact⟨o,e,fun v z=>by rw[d] at z;cases z⟩
 keep:=fun i h h' st k=>st.at fun o e=>k it (by simp) o e
 item:=by
  intro X y B r M i f s L H E I n st C
  subst y B r
  obtain⟨xs,x,m,G⟩:=C
  obtain⟨g,q,p,hz⟩:=I.tuple m
  obtain⟨u,N,S⟩:=q.get G
  obtain⟨D,J,Q,F,A,t⟩:=n it (by simp)
  refine wpAny_pyNext_tuple_item st (show s.heap.IsTuple a g.toArray from p) (x:=u) (by simpa using N) fun h' l sb=>?_
  have R:Inv X f L H { s with heap:=h'}:=I.turned (t':=s.toks) (fun b o j e=>(sb.2 b j).trans e) D J F A t
  obtain⟨o,e,c,d⟩:=id l
  exact⟨u,rfl,vI (s:={ s with heap:=h'}) e c d (by decide) ⟨x,H,R,S,⟨rfl,fun V U=>by rw[I.tuple_inj U m];exact G⟩,l,fun b j=>(n b j).1⟩⟩
 done:=by
  intro X y B r M i f s L H E I n st C
  subst y B r
  obtain⟨xs,m,G⟩:=C
  obtain⟨g,q,p,hz⟩:=I.tuple m
  obtain⟨D,J,Q,F,A,t⟩:=n it (by simp)
  have W:=q.length
  exact wpAny_pyNext_tuple_end (I.ok.hd M) st (show s.heap.IsTuple a g.toArray from p) (by simp;omega) fun h' T=>⟨rfl,I.turned (t':=s.toks) (fun b o j e=>T b o j e) D J F A t⟩
 self:=fun _ _ _ _ _ st h=>wpAny_pyIter_tupleiter st h
theorem tV {P:Program}{w:World}{K:Frag}{C:Expr}(it:Addr) (g:Int) (n:Nat):Turn P w K C (Itr g n) [it] it (fun i h=>IsRangeIter h it (g+(i:Nat)*1) ((n:Int) - (i:Nat)) 1) where
 mem:=by simp
 obj:=fun i h st b c=>by
  have e:b=it:=by simpa using c
  subst e
  exact⟨_,st,fun v z=>by
   have L:Data.fields _=Data.cell v:=z
   cases L⟩
 keep:=fun i h h' st k=>k it (by simp) _ st
 item:=by
  intro X m q j A i a s B H E I f st r
  subst m q j
  obtain⟨u,y,F,x,p,l⟩:=f it (by simp)
  have W:=Walks.range (prog:=X.prog) (w:=X.w) (I.ok.hd A) it g 1 n
  refine W.item i s _ _ r st fun v h' tk M d D=>?_
  obtain⟨t,rfl⟩:=M
  have G:Inv X a B H { s with heap:=h',toks:=tk}:=I.turned (fun b o c e=>D b o (by simpa using c) e) u y x p l
  refine⟨_,rfl,vI (s:={ s with heap:=h',toks:=tk}) (n:="range_iterator") d rfl rfl (by decide) ⟨.int (g+i),H,G,⟨t,?_⟩,⟨rfl,rfl⟩,d,fun b c=>(f b c).1⟩⟩
  rw[Int.mul_one]
 done:=by
  intro X m q j A i a s B H E I f st r
  subst m q j
  obtain⟨u,y,F,x,p,l⟩:=f it (by simp)
  exact wpAny_pyNext_range_end (I.ok.hd A) st (by have:n<=i:=r;omega) fun h' J=>⟨rfl,I.turned (t':=s.toks) (fun b o c e=>J b o c e) u y x p l⟩
 self:=fun _ _ _ _ _ st h=>wpAny_pyIter_rangeiter st h
section
variable {X:Cx}{tg:Expr}
def Qq (K:Frag) (c:TE):TI:=fun d H R=>c d H fun x b=>∃a,x=.ref a/\(∃xs,SqL K b a xs)/\R (Itl K a) b
def Ve (K:Frag) (c:TE):TI:=fun d H R=>c d H fun x b=>∃a,x=.ref a/\(∃xs,SqT K b a xs)/\R (Itt K a) b
theorem Ey {l:Expr}{g:TE}(r:PE X l g):PI X tg l (Qq X.K g):=by
 intro c s j H R I h;refine thn (r c s j H _ I h) fun v d ⟨x,i,f,k,u⟩=>?_;obtain⟨a,e,⟨xs,t⟩,q⟩:=u;subst e;cases k;obtain⟨n,w,p,hz⟩:=f.list t;refine wpAny_pyIter_list p.isList ?_;refine⟨d.heap.objs.size,[d.heap.objs.size],_,_,i,rfl,f.kept (t':=d.toks) fun b o e=>e_ _ e,yf a _,⟨_,C_ _ rfl,rfl,rfl⟩,fun b m=>?_,q⟩;have e:b=d.heap.objs.size:=by simpa using m
 subst e;exact f.fpOk (j_ _) (f.hok.fresh (j_ _))
theorem Lh {l:Expr}{i:TE}(r:PE X l i):PI X tg l (Ve X.K i):=by
 intro d s k H R I h;refine thn (r d s k H _ I h) fun v c ⟨x,j,f,m,u⟩=>?_;obtain⟨a,e,⟨xs,t⟩,q⟩:=u;subst e;cases m;obtain⟨g,w,p,hz⟩:=f.tuple t;refine wpAny_pyIter_tuple (show c.heap.IsTuple a g.toArray from p) ?_;refine⟨c.heap.objs.size,[c.heap.objs.size],_,_,j,rfl,f.kept (t':=c.toks) fun b o e=>e_ _ e,tU a _,⟨_,C_ _ rfl,rfl,rfl⟩,fun b n=>?_,q⟩;have e:b=c.heap.objs.size:=by simpa using n
 subst e;exact f.fpOk (j_ _) (f.hok.fresh (j_ _))
theorem qF {d:List (Addr × Obj)}{f:St}{H:Hp}{s:Shared}{R:It->Hp->Prop}{E:Value->Shared->Prop}{a c:Int}{t u v:Tok}{tk:Nat}(I:Inv X d f H s) (j : -(2^62)<=a) (h:a<2^62) (i : -(2^62)<=c) (n:c<2^62)
  (q:R (Itr a (c - a).toNat) H):wpAny (model X.prog X.w) X.A (pyIter (.ref s.heap.objs.size)) (PIE X d f tg R) E { s with heap:=s.heap.push { cls:=.type "range",data:=.fields #[.int a t,.int c u,.int 1 v]},toks:=tk}:=by
 refine wpAny_pyIter_range (IsRange.new ..) (small_one j h i n) ?_;have g:Inv X d f H { s with heap:=s.heap.push { cls:=.type "range",data:=.fields #[.int a t,.int c u,.int 1 v]},toks:=tk}:=I.kept fun b o e=>e_ _ e;refine⟨(s.heap.push { cls:=.type "range",data:=.fields #[.int a t,.int c u,.int 1 v]}).objs.size,[(s.heap.push { cls:=.type "range",data:=.fields #[.int a t,.int c u,.int 1 v]}).objs.size],_,_,H,rfl,
  g.kept (t':=tk) fun b o e=>e_ _ e,tV _ a (c - a).toNat,?_,fun b k=>?_,q⟩
 ·have l:a+((0:Nat):Int)*1=a:=by simp
  have m:(((c - a).toNat:Nat):Int) - ((0:Nat):Int)=Builtin.Range.rangeSize a c 1:=by rw[rangeSize_one];split <;> omega
  show IsRangeIter _ _ (a+((0:Nat):Int)*1) ((((c - a).toNat:Nat):Int) - ((0:Nat):Int)) 1;rw[l,m];exact C_ _ rfl
 have e:b=(s.heap.push { cls:=.type "range",data:=.fields #[.int a t,.int c u,.int 1 v]}).objs.size:=by simpa using k
 subst e;exact g.fpOk (j_ _) (g.hok.fresh (j_ _))
def Qs (a:TA):TI:=fun c H R=>a c H fun vs b=>∃j:Int,vs=[.int j] /\ -(2^62)<=j/\j<2^62/\R (Itr 0 j.toNat) b
def Qt (a:TA):TI:=fun c H R=>a c H fun vs b=>∃i j:Int,vs=[.int i,.int j]/\(-(2^62)<=i/\i<2^62 /\ -(2^62)<=j/\j<2^62)/\R (Itr i (j - i).toNat) b
theorem yg {a:Expr}{f:TA}{p b:Pos}(g:Gl X "range") (k:X.mg "range"=none) (i:PA X [a] f) (u:starEach [a] X.env=[(false,eval a X.env)]:=by rfl):PI X tg (.Call (.Name "range" p) [a] [] b) (Qs f):=by
 intro c s l H R I h;refine Call_ (dM I g k boot_range (Wx (thn (i b c s l H _ I h) fun us w ⟨vs,x,n,m,d⟩=>?_) u rfl));obtain⟨j,e,d,v,q⟩:=d;subst e;cases m with
 |cons r o =>
 cases o;obtain⟨t,rfl⟩:=r;exact call_range_1 (qF n (by omega) (by omega) d v (by simpa using q))
theorem yh {a b:Expr}{l:TA}{p c:Pos}(x:Gl X "range") (y:X.mg "range"=none) (m:PA X [a,b] l) (o:starEach [a,b] X.env=[(false,eval a X.env),(false,eval b X.env)]:=by rfl) (d:starEach [b] X.env=[(false,eval b X.env)]:=by rfl) :
  PI X tg (.Call (.Name "range" p) [a,b] [] c) (Qt l):=by
 intro f s n H R I h;refine Call_ (dM I x y boot_range (Wx (thn (m c f s n H _ I h) fun us C ⟨vs,D,z,u,k⟩=>?_) (by rw[o,d]) (by rw[d];rfl)));obtain⟨i,j,e,⟨k,w,A,B⟩,q⟩:=k;subst e;cases u with
 |cons r g =>
 cases g with
 |cons v g =>
 cases g;obtain⟨t,rfl⟩:=r;obtain⟨t',rfl⟩:=v;exact call_range_2 (qF z k w A B q)
def Vf (h:TI) (g:TG) (j:TS):TS:=fun D a H=>h a H fun J e=>∃W:Nat->Nat->St->Hp->Prop,(∃m,W 0 m a e)/\∀i m a H,W i m a H ->
 (J.stop i H/\D.nx a H)\/(J.go i H/\∃N:St->Hp->Prop,(∀b H',N b H'->∃d,d<m/\W (i+1) d b H')/\∀x H',J.yld i H x H'->g x a H' fun c f=>j { D with nx:=N,ct:=N,bk:=D.nx} c f)
def kE (a : List Addr) (h : Heap) : List (Addr × Obj):=a.filterMap fun b => (h.get? b).map fun o => (b,o)
theorem fX {a : List Addr} {h : Heap} {b : Addr} {o : Obj} (c : b ∈ a) (e : h.get? b = some o) : (b,o) ∈ kE a h:=List.mem_filterMap.mpr ⟨b,c,by rw [e]; rfl⟩
theorem yj {a:List Addr}{h:Heap}{p:Addr × Obj}(d:p∈kE a h):p.1∈a/\h.get? p.1=some p.2:=by
 obtain ⟨b,c,e⟩:=List.mem_filterMap.mp d;cases q : h.get? b with
 |none=>rw[q] at e;cases e
 |some o =>
 rw[q] at e;have f:(b,o)=p:=We e;subst f;exact⟨c,q⟩
theorem Inv.pinned {a:List (Addr × Obj)}{f:St}{H:Hp}{s:Shared}{c:List Addr}(I:Inv X a f H s) (l:∀b∈c,mJ X a H b) (j:∀b∈c,∃o,s.heap.get? b=some o/\∀v,o.data≠.cell v):Inv X (a++kE c s.heap) f H s :=
 I.pins_of fun p m=>(u_.mp m).elim (fun z=>I.pin p (V_ _ z)) fun z=>by
  obtain⟨g,e⟩:=yj z;obtain⟨n,k,i,_⟩:=l p.1 g;obtain⟨o,h,d⟩:=j p.1 g;rw[e] at h;cases h;exact⟨e,n,k,i,d⟩
theorem Inv.unpinned {a pl:List (Addr × Obj)}{b:St}{H:Hp}{s:Shared}(I:Inv X (a++pl) b H s):Inv X a b H s:=I.pins_of fun p c=>I.pin p (V_ _ (Wn _ c))
theorem Li {l:Expr}{B:List Stmt}{wi:TI}{g:TG}{tb:TS}{S:Pos}(G:PassesOwn (model X.prog X.w) X.A X.env X.xe) (hc:X.calm=true) (hi:PI X tg l wi) (hg:PG X tg g) (q:PSs X B tb)
  (hs:∀x,foldedSetIterable l X.env x=pure x:=by intro _;rfl):PS X (.For tg l B [] S) (Vf wi g tb):=by
 intro c s σ H D I h;refine wpAny_For (thn (hi c s σ H _ I h) fun v s1 h1=>thn h1 fun itv s2 h2=>?_) hs;obtain⟨it,K,tn,J,H2,e,I2,T,st2,f2,W,⟨m0,w0⟩,Q⟩:=h2;subst e
 have z:∀{H':Hp},(∀b∈K,H' b=none)->∀b∈K,mJ X c H' b:=fun hn b q=>⟨hn b q,(f2 b q).2⟩;refine codeAny_forLoop_any (fun n s'=>∃i y H',Inv X c y H' s'/\tn i s'.heap/\(∀b∈K,H' b=none)/\W i n y H') ?_ m0 ⟨0,σ,H2,I2,st2,fun b q=>(f2 b q).1,w0⟩;rintro n s3 ⟨i,p,H3,I3,L,P,w3⟩;rcases Q i n p H3 w3 with ⟨O,qn⟩ | ⟨go,N,hN,M⟩
 ·refine X_ G (thn (T.done X rfl rfl rfl hc i c s3 p H3 X.xe I3 (z P) L O) fun r s4 ⟨V,I4⟩=>?_);subst V;exact wpAny_execs_nil ⟨p,H3,I4,qn⟩
 refine X_ G (thn (T.item X rfl rfl rfl hc i c s3 p H3 X.xe I3 (z P) L go) fun r s4 ⟨u,V,h4⟩=>?_);subst V;refine X_ G (thn h4 fun _ s5 ⟨x,H5,I5,r5,y5,E,U⟩=>?_);have Z:=I5.pinned (z U) (T.obj _ _ E);refine X_ G (thn (hg _ s5 p H5 x u _ Z r5 (M x H5 y5)) fun _ s6 ⟨R,H6,I6,q6⟩=>?_);refine X_ G (thn (q _ s6 R H6 _ I6 q6) fun f Y C=>?_);have t:∀{a:St} {j:Hp},Inv X (c++kE K s5.heap) a j Y->N a j->∃m,m<n/\∃i y H',Inv X c y H' Y/\tn i Y.heap/\(∀b∈K,H' b=none)/\W i m y H':=fun {a j} k F=>by obtain⟨m',hm,w7⟩:=hN a j F;refine⟨m',hm,i+1,a,j,k.unpinned,T.keep _ _ _ E fun b q o e=>(k.pin (b,o) (V_ _ (V_ _ (fX q e)))).1,fun b q=>?_,w7⟩;obtain⟨o,e,d⟩:=T.obj _ _ E b q;exact (k.pin (b,o) (V_ _ (V_ _ (fX q e)))).2.1
 cases f with
 |next=>obtain⟨a,j,k,F⟩:=C;exact t k F
 |cont=>obtain⟨a,j,k,F⟩:=C;exact t k F
 |brk=>obtain⟨a,j,k,C⟩:=C;exact⟨a,j,k.unpinned,C⟩
 |ret v=>obtain⟨x7,a,j,k,r7,C⟩:=C;exact⟨x7,a,j,k.unpinned,r7,C⟩
end
abbrev R2:=V->V->Hp->VK->Prop
def OpR (X:Cx) (f:Value->Value->Sem Value) (r:R2):Prop :=
 ∀(a:List (Addr × Obj)) (s:Shared) (b:St) (H:Hp) (x y:V) (v u:Value) (Q:VK),Inv X a b H s->RelV x v->RelV y u->r x y H Q ->
  wpAny (model X.prog X.w) X.A (f v u) (EP X a b Q) X.xe s
def UnR (X:Cx) (f:Value->Sem Value) (r:V->Hp->VK->Prop):Prop :=
 ∀(a:List (Addr × Obj)) (s:Shared) (b:St) (H:Hp) (x:V) (v:Value) (Q:VK),Inv X a b H s->RelV x v->r x H Q ->
  wpAny (model X.prog X.w) X.A (f v) (EP X a b Q) X.xe s
def CallR (X:Cx) (f:Value) (r:List V->Hp->VK->Prop):Prop :=
 ∀(a:List (Addr × Obj)) (s:Shared) (b:St) (H:Hp) (xs:List V) (us:List Value) (Q:VK),Inv X a b H s->Vals xs us->r xs H Q ->
  wpAny (model X.prog X.w) X.A (call f us) (EP X a b Q) X.xe s
def tOp (r:R2) (b e:TE):TE:=fun a H Q=>b a H fun x c=>e a c fun y d=>r x y d Q
def tUn (r:V->Hp->VK->Prop) (a:TE):TE:=fun c H Q=>a c H fun x b=>r x b Q
def rI (C:Int->Int->Prop) (g:Int->Int->V):R2:=fun x y H Q=>∃i j,x=.int i/\y=.int j/\C i j/\Q (g i j) H
def rI0 (g:Int->Int->V):R2:=fun x y H Q=>∃i j,x=.int i/\y=.int j/\Q (g i j) H
def rU (g:Int->V):V->Hp->VK->Prop:=fun x H Q=>∃i,x=.int i/\Q (g i) H
section
variable {X:Cx}{a b c:Expr}{ta tb tc:TE}{pos:Pos}
theorem Lj (l:PE X a ta) (q:PE X b tb) {c:List (Addr × Obj)}{s:Shared}{d:St}{H:Hp}{R:V->V->Hp->Prop}(I:Inv X c d H s)
  (h:ta d H fun x k=>tb d k fun y e=>R x y e) {Q:Value->Shared->Prop} {f:Value->Value->Sem Value}
  (n:∀v u j x y e,Inv X c d e j->RelV x v->RelV y u->R x y e->wpAny (model X.prog X.w) X.A (f v u) Q X.xe j) :
  wpAny (model X.prog X.w) X.A (eval a X.env) (fun v g=>wpAny (model X.prog X.w) X.A (eval b X.env) (fun u i=>wpAny (model X.prog X.w) X.A (f v u) Q X.xe i) X.xe g) X.xe s:=by
 refine thn (l c s d H _ I h) fun v m ⟨x,k,p,o,B⟩=>?_;refine thn (q c m d k _ p B) fun u j ⟨y,e,z,t,r⟩=>?_;exact n v u j x y e z o t r
theorem Qu {d:Operator}{r:R2}(g:OpR X (binaryOp d) r) (e:PE X a ta) (m:PE X b tb):PE X (.BinOp a d b pos) (tOp r ta tb):=by
 intro c s i H Q I h;exact wpAny_BinOp (Lj e m I h fun v u j x y l n f k q=>g c j i l x y v u Q n f k q)
theorem Qv {c:UnaryOp}{r:V->Hp->VK->Prop}(g:UnR X (unaryOp c) r) (f:PE X a ta):PE X (.UnaryOp c a pos) (tUn r ta):=by
 intro b s d H Q I h;exact UnaryOp_ (thn (f b s d H _ I h) fun v e ⟨x,i,k,j,l⟩=>g b e d i x v Q k j l)
theorem opI {f:Value->Value->Sem Value}{C:Int->Int->Prop}{g:Int->Int->Int}
  (a:∀(i j:Int) (t u:Tok) (s:Shared) (Q:Value->Shared->Prop) (E:Value->Shared->Prop),C i j->Q (.int (g i j) s.toks) { s with toks:=s.toks+1}->wpAny (model X.prog X.w) X.A (f (.int i t) (.int j u)) Q E s) :
  OpR X f (rI C fun i j=>.int (g i j)):=by
 intro b s k H x y v u Q I c d h;obtain⟨i,j,rfl,rfl,e,q⟩:=h;obtain⟨t,rfl⟩:=c;obtain⟨t',rfl⟩:=d;exact a i j t t' s _ _ e ⟨.int (g i j),H,I.tok _,⟨_,rfl⟩,q⟩
theorem Ez {f:Value->Value->Sem Value}{g:Int->Int->Int}
  (a:∀(i j:Int) (t u:Tok) (s:Shared) (Q:Value->Shared->Prop) (E:Value->Shared->Prop),Q (.int (g i j) s.toks) { s with toks:=s.toks+1}->wpAny (model X.prog X.w) X.A (f (.int i t) (.int j u)) Q E s) :
  OpR X f (rI0 fun i j=>.int (g i j)):=by
 intro b s e H x y v u Q I c d h;obtain⟨i,j,rfl,rfl,q⟩:=h;obtain⟨t,rfl⟩:=c;obtain⟨t',rfl⟩:=d;exact a i j t t' s _ _ ⟨.int (g i j),H,I.tok _,⟨_,rfl⟩,q⟩
theorem EY {f:Value->Value->Sem Value}{g:Int->Int->Bool}
  (a:∀(i j:Int) (t u:Tok) (s:Shared) (Q:Value->Shared->Prop) (E:Value->Shared->Prop),Q (.bool (g i j)) s->wpAny (model X.prog X.w) X.A (f (.int i t) (.int j u)) Q E s) :
  OpR X f (rI0 fun i j=>.bl (g i j)):=by
 intro b s e H x y v u Q I c d h;obtain⟨i,j,rfl,rfl,q⟩:=h;obtain⟨t,rfl⟩:=c;obtain⟨t',rfl⟩:=d;exact a i j t t' s _ _ ⟨.bl (g i j),H,I,rfl,q⟩
def Qw (i j:Int):Prop:=0<=j/\j<=1000000/\i.natAbs<2^64
def CMul (i j:Int):Prop:=(-(2^64)<i/\i<2^64)\/(-(2^64)<j/\j<2^64)
theorem CMul.ok {i j:Int}(h:CMul i j):IntMulOk i j:=by
 rcases h with ⟨b,a⟩ | ⟨b,a⟩
 ·exact .of_left (intBits_le_64 b a)
 exact .of_right (intBits_le_64 b a)
theorem op_add:OpR X (binaryOp .Add) (rI0 fun i j=>.int (i+j)):=Ez fun _ _ _ _ _ _ _ q=>add_int q
theorem Lk:OpR X (binaryOp .Sub) (rI0 fun i j=>.int (i - j)):=Ez fun _ _ _ _ _ _ _ q=>sub_int q
theorem Ln:OpR X (binaryOp .Mult) (rI CMul fun i j=>.int (i*j)):=opI fun _ _ _ _ _ _ _ a q=>mul_int q a.ok
theorem Lp:OpR X (binaryOp .Mod) (rI (fun _ j=>0<j) fun i j=>.int (i%j)):=opI fun i j _ _ _ _ _ a q=>by
 have b:(0:Int)<j:=a;exact mod_int' (by omega) (by rw[Int.fmod_eq_emod_of_nonneg i (by omega)];exact q)
theorem Lq:OpR X (binaryOp .Pow) (rI Qw fun i j=>.int (i^j.toNat)):=opI fun _ _ _ _ _ _ _ a q=>pow_int_small a.1 a.2.1 a.2.2 q
theorem Lr:OpR X (binaryOp .BitAnd) (rI0 fun i j=>.int (Builtin.bitAnd i j)):=Ez fun _ _ _ _ _ _ _ q=>and_int q
theorem Qx:OpR X (binaryOp .BitOr) (rI0 fun i j=>.int (Builtin.bitOr i j)):=Ez fun _ _ _ _ _ _ _ q=>or_int q
theorem unI {f:Value->Sem Value}{g:Int->Int}
  (a:∀(i:Int) (t:Tok) (s:Shared) (Q:Value->Shared->Prop) (E:Value->Shared->Prop),Q (.int (g i) s.toks) { s with toks:=s.toks+1}->wpAny (model X.prog X.w) X.A (f (.int i t)) Q E s) :
  UnR X f (rU fun i=>.int (g i)):=by
 intro b s d H x v Q I c h;obtain⟨i,rfl,q⟩:=h;obtain⟨t,rfl⟩:=c;exact a i t s _ _ ⟨.int (g i),H,I.tok _,⟨_,rfl⟩,q⟩
theorem Ls:UnR X (unaryOp .USub) (rU fun i=>.int (-i)):=unI fun _ _ _ _ _ q=>neg_int q
end
def iD:V->V->Bool
 |.non,.non=>true | .non,.int _=>true | .int _,.non=>true | .non,.bl _=>true | .bl _,.non=>true | .non,.str _=>true | .str _,.non=>true
 |.int _,.int _=>true | .bl _,.bl _=>true | .str _,.str _=>true | .byt _,.byt _=>true
 |.int _,.str _=>true | .str _,.int _=>true | .bl _,.str _=>true | .str _,.bl _=>true
 |_,_=>false
def rEq:R2:=fun x y H Q=>iD x y=true/\Q (.bl (decide (x=y))) H
def rNe:R2:=fun x y H Q=>iD x y=true/\Q (.bl (!decide (x=y))) H
theorem vJ {i j:Int}:decide (V.int i=V.int j)=(i==j):=by
 rw[Wv];simp
theorem zH {i j:Bool}:decide (V.bl i=V.bl j)=(i==j):=by
 rw[Wv];simp
theorem vK {i j:Str}:decide (V.str i=V.str j)=(i==j):=by
 rw[Wv];simp
theorem vL {i j:Array UInt8}:decide (V.byt i=V.byt j)=(i.toList==j.toList):=by
 rw[Wv];cases i;cases j;simp
section
variable {X:Cx}{a b c:Expr}{ta tb tc:TE}{pos:Pos}
theorem bz {a:List (Addr × Obj)}{b:St}{H:Hp}{s:Shared}{Q:VK}{k c:Bool}(I:Inv X a b H s) (q:Q (.bl k) H) (e:k=c):EP X a b Q (.bool c) s:=by
 subst e;exact⟨.bl k,H,I,rfl,q⟩
theorem Qy:OpR X (compareOp .Eq) rEq:=by
 intro d s e H x y v u Q I c a h;obtain⟨b,q⟩:=h;cases x with
 |non =>
  cases c;cases y with
  |non=>cases a;exact PySem.EqNone.eq_none_none (bz I q (by simp))
  |bl j=>cases a;exact PySem.EqNone.eq_none_bool (bz I q (by simp))
  |int j=>obtain⟨t',rfl⟩:=a;exact PySem.EqNone.eq_none_int (bz I q (by simp))
  |str j=>obtain⟨t',rfl⟩:=a;exact PySem.EqNone.eq_none_str (bz I q (by simp))
  |_=>exact absurd (show false=true from b) m_
 |bl i =>
  cases c;cases y with
  |non=>cases a;exact PySem.EqNone.eq_bool_none (bz I q (by simp))
  |bl j=>cases a;exact eq_bool (bz I q zH)
  |str j=>obtain⟨t',rfl⟩:=a;exact PySem.EqMixed.eq_bool_str (bz I q (by simp))
  |_=>exact absurd (show false=true from b) m_
 |int i =>
  obtain⟨t,rfl⟩:=c;cases y with
  |non=>cases a;exact PySem.EqNone.eq_int_none (bz I q (by simp))
  |int j=>obtain⟨t',rfl⟩:=a;exact eq_int (bz I q vJ)
  |str j=>obtain⟨t',rfl⟩:=a;exact PySem.EqMixed.eq_int_str (bz I q (by simp))
  |_=>exact absurd (show false=true from b) m_
 |str i =>
  obtain⟨t,rfl⟩:=c;cases y with
  |non=>cases a;exact PySem.EqNone.eq_str_none (bz I q (by simp))
  |bl j=>cases a;exact PySem.EqMixed.eq_str_bool (bz I q (by simp))
  |int j=>obtain⟨t',rfl⟩:=a;exact PySem.EqMixed.eq_str_int (bz I q (by simp))
  |str j=>obtain⟨t',rfl⟩:=a;exact eq_str (bz I q vK)
  |_=>exact absurd (show false=true from b) m_
 |byt i =>
  obtain⟨t,rfl⟩:=c;cases y with
  |byt j=>obtain⟨t',rfl⟩:=a;exact PySem.W.eq_bytes (bz I q vL)
  |_=>exact absurd (show false=true from b) m_
 |_=>cases y <;> exact absurd (show false=true from b) m_
theorem Qz:OpR X (compareOp .NotEq) rNe:=by
 intro d s e H x y v u Q I c a h;obtain⟨b,q⟩:=h;cases x with
 |non =>
  cases c;cases y with
  |non=>cases a;exact PySem.EqNone.ne_none_none (bz I q (by simp))
  |bl j=>cases a;exact PySem.EqNone.ne_none_bool (bz I q (by simp))
  |int j=>obtain⟨t',rfl⟩:=a;exact PySem.EqNone.ne_none_int (bz I q (by simp))
  |str j=>obtain⟨t',rfl⟩:=a;exact PySem.EqNone.ne_none_str (bz I q (by simp))
  |_=>exact absurd (show false=true from b) m_
 |bl i =>
  cases c;cases y with
  |non=>cases a;exact PySem.EqNone.ne_bool_none (bz I q (by simp))
  |bl j=>cases a;exact ne_bool (bz I q (U_ not zH))
  |str j=>obtain⟨t',rfl⟩:=a;exact PySem.EqMixed.ne_bool_str (bz I q (by simp))
  |_=>exact absurd (show false=true from b) m_
 |int i =>
  obtain⟨t,rfl⟩:=c;cases y with
  |non=>cases a;exact PySem.EqNone.ne_int_none (bz I q (by simp))
  |int j=>obtain⟨t',rfl⟩:=a;exact ne_int (bz I q (U_ not vJ))
  |str j=>obtain⟨t',rfl⟩:=a;exact PySem.EqMixed.ne_int_str (bz I q (by simp))
  |_=>exact absurd (show false=true from b) m_
 |str i =>
  obtain⟨t,rfl⟩:=c;cases y with
  |non=>cases a;exact PySem.EqNone.ne_str_none (bz I q (by simp))
  |bl j=>cases a;exact PySem.EqMixed.ne_str_bool (bz I q (by simp))
  |int j=>obtain⟨t',rfl⟩:=a;exact PySem.EqMixed.ne_str_int (bz I q (by simp))
  |str j=>obtain⟨t',rfl⟩:=a;exact ne_str (bz I q (U_ not vK))
  |_=>exact absurd (show false=true from b) m_
 |byt i =>
  obtain⟨t,rfl⟩:=c;cases y with
  |byt j=>obtain⟨t',rfl⟩:=a;exact PySem.W.ne_bytes (bz I q (U_ not vL))
  |_=>exact absurd (show false=true from b) m_
 |_=>cases y <;> exact absurd (show false=true from b) m_
theorem QB:OpR X (compareOp .Lt) (rI0 fun i j=>.bl (decide (i<j))):=EY fun _ _ _ _ _ _ _ q=>lt_int q
theorem QC:OpR X (compareOp .LtE) (rI0 fun i j=>.bl (decide (i<=j))):=EY fun _ _ _ _ _ _ _ q=>le_int q
theorem QD:OpR X (compareOp .Gt) (rI0 fun i j=>.bl (decide (j<i))):=EY fun _ _ _ _ _ _ _ q=>gt_int q
theorem QF:OpR X (compareOp .GtE) (rI0 fun i j=>.bl (decide (j<=i))):=EY fun _ _ _ _ _ _ _ q=>ge_int q
theorem ym:OpR X (compareOp .In) (fun x y H Q=>∃i j,x=.str i/\y=.str j/\Q (.bl (!(Builtin.Str.occurrences j i 0 j.length 1).isEmpty)) H):=by
 intro a s d H x y v u Q I b c h;obtain⟨i,j,rfl,rfl,q⟩:=h;obtain⟨t,rfl⟩:=b;obtain⟨t',rfl⟩:=c;exact in_str (bz I q rfl)
theorem Lw:OpR X (compareOp .Is) (fun x y H Q=>y=.non/\Q (.bl (decide (x=.non))) H):=by
 intro b s d H x y v u Q I a c h;obtain⟨rfl,q⟩:=h;cases c;refine is_none_gen (bz I q ?_);cases x <;> first
  | (cases a;rfl)
  | (obtain⟨t,rfl⟩:=a;rfl)
theorem Fb:OpR X (compareOp .IsNot) (fun x y H Q=>y=.non/\Q (.bl (!decide (x=.non))) H):=by
 intro b s d H x y v u Q I a c h;obtain⟨rfl,q⟩:=h;cases c;refine isnot_none_gen (bz I q ?_);cases x <;> first
  | (cases a;rfl)
  | (obtain⟨t,rfl⟩:=a;rfl)
theorem oV:OpR X (compareOp .NotIn) (fun x y H Q=>∃i j,x=.str i/\y=.str j/\Q (.bl (!(!(Builtin.Str.occurrences j i 0 j.length 1).isEmpty))) H):=by
 intro a s d H x y v u Q I b c h;obtain⟨i,j,rfl,rfl,q⟩:=h;obtain⟨t,rfl⟩:=b;obtain⟨t',rfl⟩:=c;exact notIn_str (bz I q rfl)
theorem OpR.or {f:Value->Value->Sem Value}{r e:R2}(h:OpR X f r) (h':OpR X f e):OpR X f (fun x y H Q=>r x y H Q\/e x y H Q):=by
 intro a s c H x y v u Q I b d q;rcases q with q | q
 ·exact h a s c H x y v u Q I b d q
 exact h' a s c H x y v u Q I b d q
theorem zJ (b:Expr) {a:CmpOp}(h:a≠.In:=by decide) (c:a≠.NotIn:=by decide):behindInMarks a b=false:=by
 have e:(a==CmpOp.In)=false:=by cases a <;> first | rfl | exact absurd rfl h
 have d:(a==CmpOp.NotIn)=false:=by cases a <;> first | rfl | exact absurd rfl c
 cases b <;> simp [behindInMarks,e,d]
theorem Fe {d:CmpOp}{r:R2}(g:OpR X (compareOp d) r) (e:PE X a ta) (n:PE X b tb) (i:behindInMarks d b=false):PE X (.Compare a [d] [b] pos) (tOp r ta tb):=by
 intro c s j H Q I h;exact wpAny_Compare1 (Lj e n I h fun v u k x y l o f m q=>g c k j l x y v u Q o f m q) i
def QG (t:TE):TT:=fun a H Q=>t a H fun x H'=>∃k,x=.bl k/\Q k H'
theorem Ff {f:CmpOp}{r:R2}(C:OpR X (compareOp f) r) (i:PE X a ta) (F:PE X b tb) (t:behindInMarks f b=false):PT X (.Compare a [f] [b] pos) (QG (tOp r ta tb)):=by
 intro d s g H Q I h;refine wpAny_isTrue_Compare1 (thn (i d s g H _ I h) fun v l ⟨x,D,A,n,q⟩=>thn (F d l g D _ A q) fun u m ⟨y,w,G,B,p⟩ =>
  thn (C d m g w x y v u _ G n B p) fun c J ⟨z,H3,o,j,k,e,E⟩=>?_) t
 subst e;cases j;exact Yd ⟨H3,o,E⟩
theorem iG:(sizeLine:Nat)<2^63:=by rw[sizeLine_eq];decide
theorem op_add_str:OpR X (binaryOp .Add) (fun x y H Q=>∃i j,x=.str i/\y=.str j/\i.length+j.length<=sizeLine/\Q (.str (i++j)) H):=by
 intro a s d H x y v u Q I b c h;obtain⟨i,j,rfl,rfl,hz,q⟩:=h;obtain⟨t,rfl⟩:=b;obtain⟨t',rfl⟩:=c;exact add_str (fun t' tk=>⟨.str (i++j),H,I.tok _,⟨_,rfl⟩,q⟩) hz
theorem vals1 {x:V}{us:List Value}(r:Vals [x] us):∃u,us=[u]/\RelV x u:=by
 cases r with
 |cons a b=>cases b;exact⟨_,rfl,a⟩
theorem vals2 {x y:V}{us:List Value}(r:Vals [x,y] us):∃u a,us=[u,a]/\RelV x u/\RelV y a:=by
 cases r with
 |cons d e =>
 cases e with
 |cons c b=>cases b;exact⟨_,_,rfl,d,c⟩
theorem yo:CallR X (.type "int") (fun xs H Q=>(∃i,xs=[.int i]/\Q (.int i) H)\/∃k,xs=[.bl k]/\Q (.int (if k then 1 else 0)) H):=by
 intro a s c H xs us Q I r h;rcases h with ⟨i,rfl,q⟩ | ⟨k,rfl,q⟩
 ·obtain⟨u,rfl,t,rfl⟩:=vals1 r;exact call_int_int ⟨.int i,H,I,⟨_,rfl⟩,q⟩
 obtain⟨u,rfl,b⟩:=vals1 r;cases b;exact call_int_bool ⟨.int (if k then 1 else 0),H,I.tok _,⟨_,rfl⟩,q⟩
end
structure ObjM (h:Heap) (x dx C:Addr) (mA:Str->Option Value):Prop where
 obj:h.get? x=some (instObj C dx)
 ns:h.Ns1 dx mA
 ne:dx≠x
theorem yp {h:Heap}{f:Addr}{d:Str->Option Value}(n:h.Ns1 f d):∃od,h.get? f=some od/\∀name,lookIn name od=some (d name):=by
 obtain⟨o,c,ep,i,m,g,_,j⟩:=n;refine⟨o,i,fun name=>?_⟩;have e:=j name;unfold nsFind findBy at e;rw[<- Array.find?_toList] at e;unfold lookIn;rw[m];dsimp only;split
 ·rename_i y q;rw[q] at e;exact U_ some e
 rename_i q;rw[q] at e;have a:c.toList.any (·.refKey)=false:=by rw[List.any_eq_false];intro y k;obtain⟨z,t,b⟩:=g y (Array.mem_toList_iff.mp k);simp [DictEntry.refKey,b]
 have l:¬c.toList.any (·.refKey)=true:=by rw[a];exact m_
 rw[if_neg l];exact U_ some e
theorem ObjM.look {h:Heap}{x a C:Addr}{b:Str->Option Value}(I:ObjM h x a C b):∃od,InstAt h x (instObj C a) C (some od)/\∀name,lookIn name od=some (b name) :=
 let ⟨od,ho,hl⟩:=yp I.ns
 ⟨od,⟨I.obj,rfl,rfl,ho⟩,hl⟩
section
variable {prog:Program}{w:World}{A:Around}{E:Value->Shared->Prop}{s:Shared}{K:Frag}{x dx C f:Addr}{mA:Str->Option Value}{name:Str}{v:Value}
theorem Fg {a:Bool}{Q:Value->Shared->Prop}(X:K.In s.heap) (I:ObjM s.heap x dx C mA) (c:plainGet K C name=true) (e:hasDictIn K C=true)
  (d:findIn K (.ref C) name=some none) (g:mA name=some v) (b:handedIn v=true) (h:Q v { s with toks:=s.toks+1}) :
  wpAny (model prog w) A (getAttr (.ref x) name a) Q E s:=by
 obtain⟨od,J,f⟩:=I.look;exact PySem.W.get_value X J (plainGet_of c).1 (PySem.W.findObj_own e d rfl (by rw[f,g])) b h
theorem zK {pl:Sem Bool}{Q:Value × List Value->Shared->Prop}(X:K.In s.heap) (I:ObjM s.heap x dx C mA) (a:plainGet K C name=true)
  (b:findIn K (.ref C) name=some (some (.ref f))) (d:isFn K (.ref f)=true) (e:mA name=none) (h:Q (.ref f,[.ref x]) s) :
  wpAny (model prog w) A (getMethod (.ref x) name pl) Q E s:=by
 obtain⟨od,J,c⟩:=I.look;exact PySem.W.method_fn X J (plainGet_of a).1 (plainGet_of a).2 b (Yj.mp d) (by show (lookIn name od).map (·.isSome)=some false;rw[c,e];rfl) h
theorem Fi {ns:List Str}{Q:Unit->Shared->Prop}(X:K.In s.heap) (I:ObjM s.heap x dx C mA)
  (q:findIn K (.ref C) "__setattr__"=some (some (.builtin "object.__setattr__"))) (n:plainOver K C=true) (t:takerIn K C name=some none) (m:hasDictIn K C=true)
  (k:PySem.Within mA ns) (hsz:ns.length<=sizeLine)
  (h:∀h',ObjM h' x dx C (fun y=>if y=name then some v else mA y)->Heap.SameBut dx s.heap h'->Q () { s with heap:=h',toks:=s.toks+2}) :
  wpAny (model prog w) A (setAttr (.ref x) name v) Q E s:=by
 obtain⟨od,J,z⟩:=I.look;refine PySem.W.set_plain X J q (PySem.W.osa_open (s:={ s with toks:=s.toks+1}) (r:=none) X J n t fun b=>?_);obtain⟨u,o,f⟩:=PySem.W.any_some m;have j:s.heap.get? x=some ⟨.ref C,some dx,.plain,#[]⟩:=I.obj;refine b_ (k_ (b_ (b_ (wpAny_loadPart j (b_ (PySem.W.Looks.here (s:={ s with toks:=s.toks+1}) (PySem.W.looks_clsIn X o) ?_))))));rw[f];refine k_ (a:=some dx) (b_ (k_ (b_ ?_)));refine wpAny_nsSet1 (s:={ s with toks:=s.toks+1}) I.ns fun h' d c=>?_;obtain⟨oD,l,p,g,i,e⟩:=d.count (PySem.Within.cons name v k);refine b_ (wpAny_lookBehind g (by rw[i];exact pastItsLine_dict (Wc e (by rw[i_];omega))) ?_);exact k_ (h _ ⟨(c.2 _ (Ne.symm I.ne)).trans I.obj,d,I.ne⟩ c)
theorem zL {R:Result->Shared->Prop}{vs:List Value}{b:List (Str × Value)}(X:K.In s.heap) (e:makesIn K C=true)
  (c:findIn K (.ref C) "__init__"=some (some (.ref f))) (i:typeIn K (.ref f)=some (.type "function"))
  (h:codeAny (model prog w) (A.under (.builtin "type.__call__" ⟨.ref C::vs,b⟩)) (.call (.ref f) ⟨.ref (s.heap.objs.size+1)::vs,b⟩) (PySem.W.InitBack (s.heap.objs.size+1) R)
   { s with heap:=(s.heap.push emptyDict).push (instObj C s.heap.objs.size)}) :
  codeAny (model prog w) A (.call (.ref C) ⟨vs,b⟩) R s:=by
 obtain⟨j,g,d,t,k⟩:=s;exact PySem.W.make_core (PySem.W.makes_of X e) (PySem.W.looks_findIn X c) (fun a=>PySem.W.bind_fn X a i) (.inl rfl) h
end
def fZ (f:Str) (v:V):List (Str × V)->List (Str × V)
 |[]=>[(f,v)]
 | (g,x)::r=>if g=f then (g,v)::r else (g,x)::fZ f v r
theorem jM (f g:Str) (v:V):∀c:List (Str × V),(fZ f v c).lookup g=if g=f then some v else c.lookup g
 |[]=>by
  show List.lookup g [(f,v)]=_
  by_cases h:g=f
  ·
   have a:(g==f)=true:=Yj.mpr h
   simp only[List.lookup,a,if_pos h]
  ·
   have a:(g==f)=false:=Xf.mpr h
   simp only[List.lookup,a,if_neg h]
 | (k,x)::r=>by
  have d:=jM f g v r
  rw[show fZ f v ((k,x)::r)=(if k=f then (k,v)::r else (k,x)::fZ f v r) from rfl]
  by_cases b:k=f
  ·
   rw[if_pos b]
   by_cases h:g=k
   ·
    have a:(g==k)=true:=Yj.mpr h
    simp only[List.lookup,a,if_pos (h.trans b)]
   ·
    have a:(g==k)=false:=Xf.mpr h
    simp only[List.lookup,a,if_neg (fun e:g=f=>h (e.trans b.symm))]
  ·
   rw[if_neg b]
   by_cases h:g=k
   ·
    have a:(g==k)=true:=Yj.mpr h
    simp only[List.lookup,a,if_neg (fun e:g=f=>b (h.symm.trans e))]
   ·
    have a:(g==k)=false:=Xf.mpr h
    simp only[List.lookup,a]
    exact d
theorem jy (f:Str) (v:V):∀b:List (Str × V),f∈(fZ f v b).map (·.1)/\∀g,g∈b.map (·.1)->g∈(fZ f v b).map (·.1)
 |[]=>⟨by simp [fZ],fun g h=>by simp at h⟩
 | (k,x)::r=>by
  obtain⟨c,d⟩:=jy f v r
  rw[show fZ f v ((k,x)::r)=(if k=f then (k,v)::r else (k,x)::fZ f v r) from rfl]
  by_cases a:k=f
  ·
   rw[if_pos a]
   subst a
   exact⟨by simp,fun g h=>by simpa using h⟩
  ·
   rw[if_neg a]
   refine⟨?_,fun g h=>?_⟩
   ·
    rw[B_]
    exact z_ _ c
   ·
    rw[B_] at h ⊢
    rcases n_.mp h with e | e
    ·
     exact n_.mpr (.inl e)
    ·
     exact z_ _ (d g e)
theorem jN (f:Str) (v:V):∀a:List (Str × V),(fZ f v a).length<=a.length+1
 |[]=>by simp [fZ]
 | (k,x)::r=>by
  have c:=jN f v r
  rw[show fZ f v ((k,x)::r)=(if k=f then (k,v)::r else (k,x)::fZ f v r) from rfl]
  by_cases b:k=f
  ·
   rw[if_pos b,i_,i_];omega
  ·
   rw[if_neg b,i_,i_];omega
theorem RelO.some_of {v:V}{o:Option Value}(r:RelO (some v) o):∃u,o=some u/\RelV v u:=by
 cases o with
 |none=>exact (show False from r).elim
 |some u=>exact⟨u,rfl,r⟩
theorem RelO.none_of {o:Option Value}(r:RelO none o):o=none:=by
 cases o with
 |none=>rfl
 |some u=>exact (show False from r).elim
theorem yq {v:V}{u:Value}(r:RelV v u):handedIn u=true:=by
 cases v with
 |non=>cases (show u=Value.none from r);rfl
 |bl b=>cases (show u=Value.bool b from r);rfl
 |int i=>obtain⟨t,e⟩:=(show ∃t,u=Value.int i t from r);cases e;rfl
 |str x=>obtain⟨t,e⟩:=(show ∃t,u=Value.str x t from r);cases e;rfl
 |byt b=>obtain⟨t,e⟩:=(show ∃t,u=Value.bytes b t from r);cases e;rfl
 |flt b=>obtain⟨t,e⟩:=(show ∃t,u=Value.float b t from r);cases e;rfl
 |ref a=>cases (show u=Value.ref a from r);rfl
 |ty n=>cases (show u=Value.type n from r);rfl
section
variable {P:Program}{w:World}{H H':Hp}{h h':Heap}{a C dx:Addr}{fs fs':List (Str × V)}
theorem j4 (c:HOk P w H h) (e:H a=some (.ins C dx fs)):∃b,ObjM h a dx C b/\(∀f,RelO (fs.lookup f) (b f))/\PySem.Within b (fs.map (·.1))/\fs.length<=1000/\H dx=some (.own a):=by
 obtain⟨d,z,g,i,b,n,r,q⟩:=(show ObjOk P w H h a (.ins C dx fs) from c a _ e);exact⟨b,⟨i,n,g⟩,r,q,z,d⟩
end
structure Cls (K:Frag) (C:Addr):Prop where
 pg:plainGet K C Str.empty=true
 hd:hasDictIn K C=true
 po:plainOver K C=true
 sa:findIn K (.ref C) "__setattr__"=some (some (.builtin "object.__setattr__"))
theorem Cls.get {K:Frag}{C:Addr}(c:Cls K C) (f:Str):plainGet K C f=true:=c.pg
def NoAttr (K:Frag) (C:Addr) (f:Str):Prop:=findIn K (.ref C) f=some none
theorem NoAttr.taker {K:Frag}{C:Addr}{f:Str}(n:NoAttr K C f):takerIn K C f=some none:=by
 unfold takerIn;rw[show findIn K (.ref C) f=some none from n];rfl
structure Meth (K:Frag) (C:Addr) (m:Str) (f:Addr):Prop where
 at_:findIn K (.ref C) m=some (some (.ref f))
 fn:isFn K (.ref f)=true
 kp:keepIn K (.ref f)=true
section
variable {X:Cx}{pins:List (Addr × Obj)}{σ:St}{H:Hp}{s:Shared}{a C dx:Addr}{fs:List (Str × V)}{f:Str}{v:V}{A:Around}{E:Value->Shared->Prop}
theorem tW {b:Bool}{Q:Value->Shared->Prop}(I:Inv X pins σ H s) (e:H a=some (.ins C dx fs)) (c:Cls X.K C) (n:NoAttr X.K C f) (l:fs.lookup f=some v)
  (h:∀u s',Inv X pins σ H s'->RelV v u->Q u s'):wpAny (model X.prog X.w) A (getAttr (.ref a) f b) Q E s:=by
 obtain⟨i,O,r,_,_,_⟩:=j4 I.hok e;obtain⟨u,g,d⟩:=RelO.some_of (v:=v) (o:=i f) (by rw[<- l];exact r f);exact Fg I.kIn O (c.get f) c.hd n g (yq d) (h u _ (I.tok _) d)
theorem tX {m:Str}{g:Addr}{pl:Sem Bool}{Q:Value × List Value->Shared->Prop}(I:Inv X pins σ H s) (e:H a=some (.ins C dx fs)) (c:Cls X.K C) (k:Meth X.K C m g) (l:fs.lookup m=none)
  (h:Q (.ref g,[.ref a]) s):wpAny (model X.prog X.w) A (getMethod (.ref a) m pl) Q E s:=by
 obtain⟨d,O,r,_,_,_⟩:=j4 I.hok e;have b:d m=none:=RelO.none_of (by rw[<- l];exact r m);exact zK I.kIn O (c.get m) k.at_ k.fn b h
theorem tY {y:V}{u:Value}{Q:Unit->Shared->Prop}(I:Inv X pins σ H s) (e:H a=some (.ins C dx fs)) (c:Cls X.K C) (n:NoAttr X.K C f) (v:fs.length<1000) (m:RelV y u)
  (h:∀s',Inv X pins σ (upd H a (.ins C dx (fZ f y fs))) s'->Q () s'):wpAny (model X.prog X.w) A (setAttr (.ref a) f u) Q E s:=by
 obtain⟨j,O,r,k,_,i⟩:=j4 I.hok e;have hz:(fs.map (·.1)).length<=sizeLine:=by rw[g_,sizeLine_eq];omega
 refine Fi I.kIn O c.sa c.po n.taker c.hd k hz fun h' d sb=>h _ ?_;have t:∃o,h'.get? dx=some o:=let ⟨o,_,_,e',_⟩:=d.ns;⟨o,e'⟩;refine I.write (x:=a) (e:=dx) (by rw[e];exact True.intro) (.inr i) (fun b q p z=>(sb.2 b p).trans z) t ?_;refine⟨by rw[aQ O.ne];exact i,?_,O.ne,d.obj,_,d.ns,fun g=>?_,fun g l=>?_⟩
 ·have:=jN f y fs;omega
 ·show RelO ((fZ f y fs).lookup g) (if g=f then some u else j g);rw[jM];by_cases q:g=f
  ·rw[if_pos q,if_pos q];exact m
  rw[if_neg q,if_neg q];exact r g
 by_cases q:g=f
 ·rw[q];exact (jy f y fs).1
 refine (jy f y fs).2 g (k g fun z=>l ?_);show (if g=f then some u else j g)=none;rw[if_neg q];exact z
theorem Inv.made (I:Inv X pins σ H s):Inv X pins σ (upd (upd H s.heap.objs.size (.own (s.heap.objs.size+1))) (s.heap.objs.size+1) (.ins C s.heap.objs.size []))
  { s with heap:=(s.heap.push emptyDict).push (instObj C s.heap.objs.size)}:=by
 have d:(s.heap.push emptyDict).get? s.heap.objs.size=some emptyDict:=C_ s.heap rfl;have i:((s.heap.push emptyDict).push (instObj C s.heap.objs.size)).get? (s.heap.objs.size+1)=some (instObj C s.heap.objs.size):=by
  have:=C_ (s.heap.push emptyDict) (o:=instObj C s.heap.objs.size) rfl
  rwa [XM] at this
 have j:(s.heap.push emptyDict).Ns s.heap.objs.size (fun _=>none):=⟨emptyDict,#[],_,d,rfl,(fun e h=>absurd h (by simp)),fun _=>rfl⟩;have g:=I.laid (a:=s.heap.objs.size) (o:=.own (s.heap.objs.size+1)) (h':=s.heap.push emptyDict) (t':=s.toks) (fun b u q=>e_ _ q) (j_ _) ⟨_,d⟩;refine g.laid (a:=s.heap.objs.size+1) (o:=.ins C s.heap.objs.size []) (t':=s.toks) (fun b u q=>e_ _ q) (Yw (XM _ _)) ?_;have c:s.heap.objs.size≠s.heap.objs.size+1:=Wh (Yn _);refine⟨by rw[aQ c,bU],Xa _,c,i,fun _=>none,(Heap.Ns1.of_empty j).at fun o q=>e_ _ q,fun _=>True.intro,fun y f=>absurd rfl f⟩
theorem Fj {prog:Program}{w:World}{env:Env}{e:Expr}{f:Str}{a:Pos}{s:Shared}{Q:Value->Shared->Prop}(b:attributeBase e f env (eval e env)=eval e env)
  (h:wpAny (model prog w) A (eval e env) (fun o s₁=>wpAny (model prog w) A (getAttr o f true) Q E s₁) E s):wpAny (model prog w) A (eval (.Attribute e f a) env) Q E s :=
 Attribute_any_ h (by rw[arm_eval_Attribute,b])
end
def Vg (K:Frag) (d:TE) (f:Str):TE:=fun e H Q=>d e H fun x c=>∃a C g b v,x=.ref a/\c a=some (.ins C g b)/\Cls K C/\NoAttr K C f/\b.lookup f=some v/\Q v c
def Vh (K:Frag) (g i:TE) (f:Str):TS:=fun D c H=>i c H fun y h=>g c h fun x d=>∃a C e b,x=.ref a/\d a=some (.ins C e b)/\Cls K C/\NoAttr K C f/\b.length<1000 /\
 D.nx c (upd d a (.ins C e (fZ f y b)))
section
variable {X:Cx}{o e value:Expr}{f:Str}{pos pos' tpos:Pos}{ta tv:TE}
theorem Lx (r:PE X e ta) (p:attributeBase e f X.env (eval e X.env)=eval e X.env):PE X (.Attribute e f pos) (Vg X.K ta f):=by
 intro b s k H Q I h;refine Fj p (thn (r b s k H _ I h) fun u y ⟨x,j,o,g,a,C,A,w,v,m,i,c,n,l,q⟩=>?_);subst m;obtain rfl:u=Value.ref a:=g;exact tW o i c n l fun B z t d=>⟨v,j,t,d,q⟩
theorem Ly (e:PE X o ta) (g:PE X value tv) (i:swapsWith value (some (.Attribute o f pos')) pos.line X.env=pure false):PS X (.Assign [.Attribute o f pos'] value pos) (Vh X.K ta tv f):=by
 intro b s d H D I h;refine plainObj_wpAny_Assign_Attribute (thn (g b s d H _ I h) fun u j ⟨y,z,w,t,q⟩=>thn (e b j d z _ w q) fun A F ⟨x,J,B,m,a,C,L,E,v,k,c,n,l,r⟩=>?_) i;subst v;obtain rfl:A=Value.ref a:=m;exact tY B k c n l t fun G p=>⟨d,_,p,r⟩
variable {pins:List (Addr × Obj)}{σ:St}{H:Hp}{s:Shared}{A:Around}{E Q:Value->Shared->Prop}{c:Value}{b:Bool}
inductive TyOf (K:Frag) (H:Hp):V->Value->Prop where
 |non:TyOf K H .non (.type "NoneType")
 |bl (x:Bool):TyOf K H (.bl x) (.type "bool")
 |int (i:Int):TyOf K H (.int i) (.type "int")
 |str (x:Str):TyOf K H (.str x) (.type "str")
 |flt (x:UInt64):TyOf K H (.flt x) (.type "float")
 |lst {a:Addr} {xs:List V} (e:H a=some (.lst xs)):TyOf K H (.ref a) (.type "list")
 |frz {a:Addr} {o:Obj} {xs:List V} (e:H a=some (.frz o (.lst xs))):TyOf K H (.ref a) (.type "list")
 |tup {a:Addr} {xs:List V} (e:H a=some (.tup xs)):TyOf K H (.ref a) (.type "tuple")
 |dK {a:Addr} {kvs:List (Key × V)} (e:H a=some (.dK kvs)):TyOf K H (.ref a) (.type "dict")
 |dT {a:Addr} {kvs:List (List Key × V)} (e:H a=some (.dT kvs)):TyOf K H (.ref a) (.type "dict")
 |ins {a C dx:Addr} {fs:List (Str × V)} (e:H a=some (.ins C dx fs)) (cl:Cls K C) (ha:findIn K (.ref C) "__class__"=some (some (.builtin "object.__class__")))
   (hn:PySem.W.specialIn K (.builtin "object.__class__") "__get__"=some (some (.builtin "getset_descriptor.__get__"))) (htk:PySem.W.takesIn K (.builtin "object.__class__")=some true)
   (hm:mroIn K C (.type "object")=some true):TyOf K H (.ref a) (.ref C)
theorem dX {x:V}{u t:Value}(I:Inv X pins σ H s) (f:RelV x u) (m:TyOf X.K H x t) (e:kitOne X.K t c=some b) (h:∀tk,Q (.bool b) { s with toks:=tk}) :
  wpAny (model X.prog X.w) A (call (.builtin "isinstance") [u,c]) Q E s:=by
 cases m with
 |non=>cases (show u=Value.none from f);exact kia_one PySem.W.kitx_none I.kIn True.intro e (fun z=>nomatch z) h
 |bl y=>cases (show u=Value.bool y from f);exact kia_one PySem.W.kitx_bool I.kIn True.intro e (fun z=>nomatch z) h
 |int i=>obtain⟨t,q⟩:=(show ∃t,u=Value.int i t from f);cases q;exact kia_one PySem.W.kitx_int I.kIn True.intro e (fun z=>nomatch z) h
 |str y=>obtain⟨t,q⟩:=(show ∃t,u=Value.str y t from f);cases q;exact kia_one PySem.W.kitx_str I.kIn True.intro e (fun z=>nomatch z) h
 |flt y=>obtain⟨t,q⟩:=(show ∃t,u=Value.float y t from f);cases q;exact kia_one PySem.W.kitx_float I.kIn True.intro e (fun z=>nomatch z) h
 |@lst a xs d=>cases (show u=Value.ref a from f);obtain⟨_,_,n,_,g⟩:=(show ObjOk X.prog X.w H s.heap a (.lst xs) from I.hok a _ d);exact kia_one kitx_list I.kIn ⟨_,g,rfl⟩ e (fun z=>nomatch z) h
 |@frz a F xs d=>cases (show u=Value.ref a from f);obtain⟨_,_,_,n,_,g⟩:=(show ObjOk X.prog X.w H s.heap a (.frz F (.lst xs)) from I.hok a _ d);exact kia_one kitx_list I.kIn ⟨_,g,rfl⟩ e (fun z=>nomatch z) h
 |@tup a xs d=>cases (show u=Value.ref a from f);obtain⟨_,_,_,p⟩:=(show ObjOk X.prog X.w H s.heap a (.tup xs) from I.hok a _ d);obtain⟨o,g,j,_⟩:=p;exact kia_one kitx_tuple I.kIn ⟨o,g,j⟩ e (fun z=>nomatch z) h
 |@dK a kvs d=>cases (show u=Value.ref a from f);obtain⟨_,_,vs,_,p⟩:=(show ObjOk X.prog X.w H s.heap a (.dK kvs) from I.hok a _ d);obtain⟨o,B,ep,g,j,_⟩:=p;exact kia_one kitx_dict I.kIn ⟨o,g,j.1⟩ e (fun z=>nomatch z) h
 |@dT a kvs d=>cases (show u=Value.ref a from f);obtain⟨_,_,xs,_,o,B,ep,g,j,_⟩:=(show ObjOk X.prog X.w H s.heap a (.dT kvs) from I.hok a _ d);exact kia_one kitx_dict I.kIn ⟨o,g,j.1⟩ e (fun z=>nomatch z) h
 |@ins a C M G d l r D k v =>
 cases (show u=Value.ref a from f);obtain⟨L,O,_⟩:=j4 I.hok d;obtain⟨od,J,_⟩:=O.look;exact kia_one (PySem.W.kitx_own (l.get _) l.hd r D k v) I.kIn J e (fun z=>nomatch z) h
end
structure Room (k:Nat) (A:Around):Prop where
 hd:A.handled=none
 dp:A.depth+3*k+5<recursionLimit
 un:A.units+16*k+200<cLine
 gd:A.guards=some []
theorem Room.mono {j k:Nat}{A:Around}(r:Room k A) (h:j<=k):Room j A:=⟨r.hd,by have:=r.dp;omega,by have:=r.un;omega,r.gd⟩
theorem Room.deeper {k:Nat}{A:Around}(r:Room (k+1) A) (env:Env):Room k (A.deeper env) :=
 ⟨r.hd,by have:=r.dp;show A.depth+1+3*k+5<_;omega,by have:=r.un;show A.units+3+16*k+200<_;omega,r.gd⟩
theorem tZ {A:Around}{C:Addr}{us:List Value}{a:List (Str × Value)}:(A.under (.builtin "type.__call__" ⟨.ref C::us,a⟩)).depth=A.depth+1:=by
 first | rfl | simp [Around.under,Code.weight,Code.isCreation,Code.isGuard,Code.isCaller,Code.frames,Code.isFrame,guardIds]
theorem t6 {A:Around}{C:Addr}{us:List Value}{a:List (Str × Value)}:(A.under (.builtin "type.__call__" ⟨.ref C::us,a⟩)).units=A.units+1:=by
 first | rfl | simp [Around.under,Code.cUnits,Code.frames,Code.isFrame]
theorem Room.make {k:Nat}{A:Around}(r:Room (k+1) A) (C:Addr) (us:List Value) (a:List (Str × Value)):Room k (A.under (.builtin "type.__call__" ⟨.ref C::us,a⟩)) :=
 ⟨r.hd,by have:=r.dp;rw[tZ];omega,by have:=r.un;rw[t6];omega,by first | exact r.gd | (simp [Around.under,Code.guards,Code.isGuard,guardIds,pushGuards,r.gd])⟩
theorem Room.depth {k:Nat}{A:Around}(r:Room k A):A.depth<recursionLimit:=by have:=r.dp;omega
def Vi:TA:=fun _ H Q=>Q [] H
def QH (b:TE) (e:TA):TA:=fun a H Q=>b a H fun x c=>e a c fun xs d=>Q (x::xs) d
section
variable {X:Cx}{e:Expr}{es:List Expr}{te:TE}{t:TA}{pos:Pos}
theorem Lz:PA X [] Vi:=fun _ _ _ _ H Q I h=>Xh ⟨[],H,I,.nil,h⟩
theorem Fl (d:PE X e te) (m:PA X es t) (n:starEach (e::es) X.env=(false,eval e X.env)::starEach es X.env:=by rfl):PA X (e::es) (QH te t):=by
 intro b a s c H Q I h;rw[n];show wpAny _ _ (spliced ((false,eval e X.env)::backTo b (starEach es X.env))) _ _ s;refine W2 (thn (d a s c H _ I h) fun u f ⟨x,g,l,j,k⟩=>?_);exact thn (m b a f c g _ l k) fun us r ⟨xs,i,p,o,q⟩=>⟨x::xs,i,p,.cons j o,q⟩
def Vj (t:TA):TE:=fun b H Q=>t b H fun xs a=>xs.length<=sizeLine/\∀p,a p=none->Q (.ref p) (upd a p (.tup xs))
def Vk (t:TA):TE:=fun b H Q=>t b H fun xs a=>xs.length<=sizeLine/\∀p,a p=none->Q (.ref p) (upd a p (.lst xs))
theorem LC {x1}(h:PA X es t):PE X (.Tuple es x1 pos) (Vj t):=by
 intro a s g H Q I j;refine wpAny_Tuple_spliced (thn (h pos a s g H _ I j) fun us c ⟨xs,d,f,r,z,q⟩=>⟨by rw[<- r.length];exact z,?_⟩);have i:d c.heap.objs.size=none:=f.hok.fresh (j_ _);refine⟨.ref c.heap.objs.size,upd d c.heap.objs.size (.tup xs),f.laid (t':=c.toks) (fun b u e=>e_ _ e) (j_ _) ?_,rfl,q _ i⟩;exact⟨z,us,r,⟨_,C_ _ rfl,rfl,_,rfl,rfl⟩⟩
theorem LK (h:PA X es t):PE X (.List es pos) (Vk t):=by
 intro a s g H Q I j;refine wpAny_List_spliced (thn (h pos a s g H _ I j) fun us c ⟨xs,d,f,r,z,q⟩=>⟨by rw[<- r.length];exact z,?_⟩);have i:d c.heap.objs.size=none:=f.hok.fresh (j_ _);refine⟨.ref c.heap.objs.size,upd d c.heap.objs.size (.lst xs),f.laid (t':=c.toks) (fun b u e=>e_ _ e) (j_ _) ?_,rfl,q _ i⟩;exact⟨z,us,0,r,C_ _ rfl⟩
end
abbrev Sp:=List V->Hp->VK->XK->Prop
abbrev CXT:=List Env->Hp->Shared->XK->Value->Shared->Prop
structure Env0 (P:Program) (w:World) (K:Frag) (mg:Str->Option Value) (base:Heap) (A:Around) (outer:List Env) (s:Shared) (H:Hp):Prop where
 frames:A.frames=some outer
 mod:Mod K mg base
 bs:∀b o,base.get? b=some o->s.heap.get? b=some o/\H b=none
 bsz:base.objs.size<=s.heap.objs.size
 funs:s.heap.FunFrames base outer
 frf:∀b∈frs outer,H b=none
 hok:HOk P w H s.heap
 bare:AllBare s.gens
def CE (a:List Env) (P:Program) (w:World) (H:Hp) (s:Shared) (Q:VK) (u:Value) (s':Shared):Prop :=
 ∃v H',s'.os=s.os/\AllBare s'.gens/\Un (frs a) [] H H' s.heap s'.heap/\HOk P w H' s'.heap/\RelV v u/\Q v H'
def CR (CX:CXT) (a:List Env) (P:Program) (w:World) (H:Hp) (s:Shared) (Q:VK) (E:XK) (r:Result) (s':Shared):Prop :=
 match r with
 |.ok (.ret u)=>CE a P w H s Q u s'
 |.ok _=>False
 |.error e=>CX a H s E e s'
structure FnOk (P:Program) (w:World) (K:Frag) (mg:Str->Option Value) (base:Heap) (CX:CXT) (k:Nat) (f:Addr) (fd:FuncData) (ps:List Str) (sp:Sp):Prop where
 len:∀vs H Q E,sp vs H Q E->vs.length=ps.length
 run:∀(A:Around) (outer:List Env) (s:Shared) (H:Hp) (args:Args) (us:List Value) (vs:List V) (Q:VK) (E:XK),Room k A->Env0 P w K mg base A outer s H->BindsTo s fd args (ps.zip us)->Vals vs us->sp vs H Q E ->
  codeAny (model P w) A (.call (.ref f) args) (CR CX outer P w H s Q E) s
theorem Env0.make {P:Program}{w:World}{K:Frag}{b:Str->Option Value}{base:Heap}{A:Around}{a:List Env}{s:Shared}{H:Hp}(e:Env0 P w K b base A a s H) (C:Addr) (us:List Value) (c:List (Str × Value)) :
  Env0 P w K b base (A.under (.builtin "type.__call__" ⟨.ref C::us,c⟩)) a s H:=⟨by first | exact e.frames | (simpa [Around.under,Code.envs,Code.isFrame,pushEnvs] using e.frames),e.mod,e.bs,e.bsz,e.funs,e.frf,e.hok,e.bare⟩
section
variable {X:Cx}{pins:List (Addr × Obj)}{σ:St}{H:Hp}{s s':Shared}
theorem Inv.env0 (I:Inv X pins σ H s):Env0 X.prog X.w X.K X.mg X.base X.A X.stack s H :=
 ⟨I.ok.frames,I.ok.mod,I.bs,Wc I.ok.bsz I.sz,I.stack,I.stkFree,I.hok,I.bare⟩
theorem Inv.after {Q:VK}{u:Value}(I:Inv X pins σ H s) (h:CE X.stack X.prog X.w H s Q u s'):EP X pins σ Q u s':=by
 obtain⟨v,H',i,a,j,e,r,q⟩:=h;obtain⟨f,g,d,t,c⟩:=s';obtain rfl:c=s.os:=i;exact⟨v,H',I.call (h':=f) (g':=g) (d':=d) (t':=t) (ch:=[]) j e a (fun b z=>absurd z (by simp)),r,q⟩
end
def QJ (sp:Sp) (dvs:List V) (E:XK) (t:TA):TE:=fun b H Q=>t b H fun vs a=>sp (vs++dvs) a Q E
def QK (C:Addr) (m:Str) (sp:Sp) (dvs:List V) (E:XK) (e:TE) (t:TA):TE:=fun d H Q=>e d H fun x c=>∃a g b,x=.ref a/\c a=some (.ins C g b)/\b.lookup m=none /\
 t d c fun vs f=>sp (x::(vs++dvs)) f Q E
def QL (C:Addr) (sp:Sp) (dvs:List V) (E:XK) (t:TA):TE:=fun d H Q=>t d H fun vs b=>∀x a,b x=none->b a=none->a≠x ->
 sp (.ref x::(vs++dvs)) (upd (upd b a (.own x)) x (.ins C a [])) (fun v c=>v=.non/\Q (.ref x) c) E
def Binds (K:Frag) (b:FuncData) (ps:List Str) (a:List Value):Prop :=
 ∀(s:Shared) (us:List Value),K.In s.heap->(us++a).length=ps.length->BindsTo s b ⟨us,[]⟩ (ps.zip (us++a))
theorem Binds.all {K:Frag}{b:FuncData}{ps:List Str}(h:∀us:List Value,us.length=ps.length->bindArgs b ⟨us,[]⟩=pure (ps.zip us)):Binds K b ps []:=fun s us _ a=>by
 rw[N_] at a ⊢;exact .of_eq (h us a)
def jz (CX:CXT) (X:Cx) (E:XK):Prop:=∀(a:List (Addr × Obj)) (b:St) (H:Hp) (s:Shared) (e:Value) (s':Shared),Inv X a b H s->CX X.stack H s E e s'->X.xe e s'
section
variable {X:Cx}{CX:CXT}{k:Nat}{f C:Addr}{fd:FuncData}{ps:List Str}{sp:Sp}{dvs:List V}{ds:List Value}{E:XK}{x m:Str}{p pos apos:Pos}{e o:Expr}{es:List Expr}{ta:TE}{t:TA}
theorem zM {a:List (Addr × Obj)}{c:St}{H:Hp}{s:Shared}{Q:VK}{us:List Value}{vs:List V}(F:FnOk X.prog X.w X.K X.mg X.base CX k f fd ps sp) (m:Room k X.A) (i:Binds X.K fd ps ds) (n:Vals dvs ds) (g:jz CX X E)
  (I:Inv X a c H s) (r:Vals vs us) (h:sp (vs++dvs) H Q E):wpAny (model X.prog X.w) X.A (call (.ref f) us) (EP X a c Q) X.xe s:=by
 have d:Vals (vs++dvs) (us++ds):=r.append n;have l:(us++ds).length=ps.length:=by rw[<- d.length];exact F.len _ _ _ _ h
 refine wpAny_call (Y7 (F.run X.A X.stack s H ⟨us,[]⟩ (us++ds) (vs++dvs) Q E m I.env0 (i s us I.kIn l) d h) fun r s' b=>?_);cases r with
 |error e=>exact g a c H s e s' I b
 |ok j =>
 cases j with
 |ret u=>exact I.after b
 |next=>exact False.elim b
 |brk=>exact False.elim b
 |cont=>exact False.elim b
theorem Fo (F:FnOk X.prog X.w X.K X.mg X.base CX k f fd ps sp) (y:Room k X.A) (g:Gl X x) (m:X.mg x=some (.ref f)) (l:keepIn X.K (.ref f)=true) (o:Binds X.K fd ps ds) (v:Vals dvs ds) (j:jz CX X E)
  (i:PA X (e::es) t) (c:(x==("__debug__":Str))=false:=by decide) (u:starEach (e::es) X.env=(false,eval e X.env)::starEach es X.env:=by rfl) (b:(backTo pos (starEach es X.env)).any (·.1)=false:=by rfl) :
  PE X (.Call (.Name x p) (e::es) [] pos) (QJ sp dvs E t):=by
 intro a s n H Q I h;refine WR (vH I g m ?_ c);refine callWith_K (h₀:=X.base) I.ok.mod.kin l (thn (i pos a s n H _ I h) fun us z ⟨vs,B,d,r,q⟩=>⟨d.kIn,?_⟩) u b;exact zM F y o v j d r q
theorem Fp {pl:Sem Bool}(D:PE X o ta) (c:Cls X.K C) (j:Meth X.K C m f) (F:FnOk X.prog X.w X.K X.mg X.base CX k f fd ps sp) (J:Room k X.A) (P:Binds X.K fd ps ds) (L:Vals dvs ds) (N:jz CX X E) (v:PA X (e::es) t)
  (d:starEach (e::es) X.env=(false,eval e X.env)::starEach es X.env:=by rfl) (g:(backTo pos (starEach es X.env)).any (·.1)=false:=by rfl)
  (R:eval (.Call (.Attribute o m apos) (e::es) [] pos) X.env=(do
   let ov <- eval o X.env
   standAt apos.atName
   let (f,first) <- holding [ov] (getMethod ov m pl)
   callWith pos f first (backTo pos (starEach (e::es) X.env)) (backToKw pos (keywordEach [] X.env))):=by rfl) :
  PE X (.Call (.Attribute o m apos) (e::es) [] pos) (QK C m sp dvs E ta t):=by
 intro b s i H Q I h;refine PySem.W.methodCall_KW (pl:=pl) (thn (D b s i H _ I h) fun u y ⟨x,O,n,z,a,V,S,M,B,l,q⟩=>?_) R;subst M;obtain rfl:u=Value.ref a:=z;refine tX n B c j l ?_;refine callWith_K (first:=[.ref a]) (h₀:=X.base) I.ok.mod.kin j.kp (thn (v pos b y i O _ n q) fun us T ⟨vs,U,p,r,G⟩=>⟨p.kIn,?_⟩) d g;exact zM (us:=.ref a::us) (vs:=.ref a::vs) F J P L N p (.cons rfl r) G
structure Mk (K:Frag) (C f:Addr):Prop where
 makes:makesIn K C=true
 init:findIn K (.ref C) "__init__"=some (some (.ref f))
 fn:isFn K (.ref f)=true
 kp:keepIn K (.ref C)=true
theorem zN {b:List (Addr × Obj)}{d:St}{H:Hp}{s:Shared}{Q:VK}{us:List Value}{vs:List V}(M:Mk X.K C f) (F:FnOk X.prog X.w X.K X.mg X.base CX k f fd ps sp) (y:Room (k+1) X.A) (n:Binds X.K fd ps ds) (z:Vals dvs ds)
  (l:jz CX X E) (I:Inv X b d H s) (r:Vals vs us)
  (h:∀x dx,H x=none->H dx=none->dx≠x->sp (.ref x::(vs++dvs)) (upd (upd H dx (.own x)) x (.ins C dx [])) (fun v H2=>v=.non/\Q (.ref x) H2) E) :
  wpAny (model X.prog X.w) X.A (call (.ref C) us) (EP X b d Q) X.xe s:=by
 have i:=h (s.heap.objs.size+1) s.heap.objs.size (I.hok.fresh (Nat.le_succ _)) (I.hok.fresh (j_ _)) (Wh (Yn _));have c:=Inv.made (C:=C) I;have g:Vals (V.ref (s.heap.objs.size+1)::(vs++dvs)) (Value.ref (s.heap.objs.size+1)::(us++ds)):=.cons rfl (r.append z);have p:(Value.ref (s.heap.objs.size+1)::us++ds).length=ps.length:=by have e:=g.length;rw[F.len _ _ _ _ i] at e;exact e.symm
 refine wpAny_call (zL (f:=f) I.kIn M.makes M.init (Yj.mp M.fn) (Y7 (F.run _ X.stack _ _ ⟨Value.ref (s.heap.objs.size+1)::us,[]⟩ (Value.ref (s.heap.objs.size+1)::(us++ds)) _ _ E (y.make C us [])
  (c.env0.make C us []) (n _ (Value.ref (s.heap.objs.size+1)::us) c.kIn p) g i) fun r s' a=>?_))
 cases r with
 |error e=>exact l b d _ _ e s' c a
 |ok q =>
 cases q with
 |ret u=>obtain⟨v,H',o,j,t,m⟩:=c.after a;subst t;exact⟨j,⟨V.ref (s.heap.objs.size+1),H',o,rfl,m⟩⟩
 |next=>exact False.elim a
 |brk=>exact False.elim a
 |cont=>exact False.elim a
theorem Fq (M:Mk X.K C f) (F:FnOk X.prog X.w X.K X.mg X.base CX k f fd ps sp) (v:Room (k+1) X.A) (g:Gl X x) (l:X.mg x=some (.ref C)) (n:Binds X.K fd ps ds) (u:Vals dvs ds) (j:jz CX X E)
  (i:PA X (e::es) t) (c:(x==("__debug__":Str))=false:=by decide) (o:starEach (e::es) X.env=(false,eval e X.env)::starEach es X.env:=by rfl) (b:(backTo pos (starEach es X.env)).any (·.1)=false:=by rfl) :
  PE X (.Call (.Name x p) (e::es) [] pos) (QL C sp dvs E t):=by
 intro a s m H Q I h;refine WR (vH I g l ?_ c);refine callWith_K (h₀:=X.base) I.ok.mod.kin M.kp (thn (i pos a s m H _ I h) fun us y ⟨vs,z,d,r,q⟩=>⟨d.kIn,?_⟩) o b;exact zN M F v n u j d r q
variable {ks:List Str}{kpos:Pos}{kws:List Keyword}{te:TE}{tk:TA}{nm:Option Str}{g:List Value->List Value->List Value}{gV:List V->List V->List V}
end
structure FnScope (N P:List Str) (sc:Scope):Prop where
 kind:sc.kind=.function
 co:sc.isCoroutine=false
 gen:sc.isGenerator=false
 nd:N.Nodup
 pre:N.take P.length=P
 par:∀x∈P,sc.names.lookup x=some .local\/sc.names.lookup x=some .cell
 nofree:∀y∈sc.names,y.2≠.free
theorem nq {b:Str->Option NameKind}{x:Str}:∀{a:List (Str × Value)}{m:Str->Option Value},(∀v,(x,v)∉a)->bindL b a m x=m x
 |[],_,_=>rfl
 | (n,v)::r,m,h=>by
  unfold bindL
  rw[nq fun w c=>h w (z_ _ c)]
  split
  ·
   have:x≠n:=by rintro rfl;exact h v q_
   simp [this]
  ·
   rfl
theorem nA {b:Str->Option NameKind}{x:Str}:∀{a:List (Str × Value)}{m:Str->Option Value},(∀v,(x,v)∉a)->bindC b a m x=m x
 |[],_,_=>rfl
 | (n,v)::r,m,h=>by
  unfold bindC
  rw[nA fun w c=>h w (z_ _ c)]
  split
  ·
   rfl
  ·
   have:x≠n:=by rintro rfl;exact h v q_
   simp [this]
theorem nF {a:Str->Option NameKind}{x:Str}{v:Value}:∀{P:List Str}{vs:List Value}{i:Nat}{m:Str->Option Value},P.Nodup->P[i]?=some x->vs[i]?=some v->a x=some .local ->
  bindL a (P.zip vs) m x=some v
 |[],_,_,_,_,h,_,_=>by simp at h
 |_::_,[],_,_,_,_,h,_=>by simp at h
 |p::P,w::vs,0,m,nd,h1,h2,hk=>by
  simp at h1 h2;subst h1;subst h2
  show bindL a ((p,w)::P.zip vs) m p=_
  unfold bindL
  rw[nq fun v b=>(W6.mp nd).1 (List.of_mem_zip b).1,if_pos hk]
  simp
 |p::P,w::vs,i+1,m,nd,h1,h2,hk=>by
  show bindL a ((p,w)::P.zip vs) m x=_
  unfold bindL
  exact nF (i:=i) (W6.mp nd).2 (by simpa using h1) (by simpa using h2) hk
theorem nG {a:Str->Option NameKind}{x:Str}{v:Value}:∀{P:List Str}{vs:List Value}{i:Nat}{m:Str->Option Value},P.Nodup->P[i]?=some x->vs[i]?=some v->a x≠some .local ->
  bindC a (P.zip vs) m x=some v
 |[],_,_,_,_,h,_,_=>by simp at h
 |_::_,[],_,_,_,_,h,_=>by simp at h
 |p::P,w::vs,0,m,nd,h1,h2,hk=>by
  simp at h1 h2;subst h1;subst h2
  show bindC a ((p,w)::P.zip vs) m p=_
  unfold bindC
  rw[nA fun v b=>(W6.mp nd).1 (List.of_mem_zip b).1,if_neg hk]
  simp
 |p::P,w::vs,i+1,m,nd,h1,h2,hk=>by
  show bindC a ((p,w)::P.zip vs) m x=_
  unfold bindC
  exact nG (i:=i) (W6.mp nd).2 (by simpa using h1) (by simpa using h2) hk
def start (N:List Str) (vs:List V):St:=vs.map some++List.replicate (N.length - vs.length) none
def t7 (CX:CXT) (P:Program) (w:World) (K:Frag) (mg:Str->Option Value) (base:Heap) (N:List Str) (a:Str) (scope:Scope) (f:Addr) (c:Value) (A:Around) (outer:List Env) (s:Shared) (H:Hp) (E:XK):Cx where
 prog:=P
 w:=w
 K:=K
 mg:=mg
 base:=base
 A:=A.deeper (envOfC a scope s.heap.objs.size f c)
 N:=N
 s₀:=s
 H₀:=H
 env:=envOfC a scope s.heap.objs.size f c
 outer:=outer
 stack:=envOfC a scope s.heap.objs.size f c::outer
 ex:=[]
 calm:=true
 fn:=fun _=>true
 pn:=[]
 xe:=fun e s'=>wpAny (model P w) (A.deeper (envOfC a scope s.heap.objs.size f c)) (leaving (envOfC a scope s.heap.objs.size f c) e) (fun _ b=>CX outer H s E e b) (fun d b=>CX outer H s E d b) s'
theorem iZ {a:Scope}{n:Nat}{x:Str}(h:a.names.lookup x=some .cell):∃c,(cellsFrom n a.names []).lookup x=some c:=by
 have q:=cellsFrom_some a.names n [] (.inl h);exact Option.isSome_iff_exists.mp q
theorem yr {CX:CXT}{P:Program}{w:World}{K:Frag}{G:Str->Option Value}{base:Heap}{N ps:List Str}{g:Str}{scope:Scope}{f:Addr}{C:Value}{A:Around}{d:List Env}{s J:Shared}{H:Hp}{E:XK}{us:List Value}{vs:List V}
  (S:FnScope N ps scope) (Q:A.handled=none) (l:Env0 P w K G base A d s H) (U:vs.length=ps.length) (r:Vals vs us)
  (x:InCallC s s.heap.objs.size (bindL (envOfC g scope s.heap.objs.size f C).kindOf (ps.zip us) fun _=>none) (cellsFrom (s.heap.objs.size+1) scope.names []) (bindC (envOfC g scope s.heap.objs.size f C).kindOf (ps.zip us) fun _=>none) J) :
  Inv (t7 CX P w K G base N g scope f C A d s H E) [] (start N vs) H J:=by
 have R:ps.length<=N.length:=by have:=U_ List.length S.pre;rw[Wi] at this;omega
 obtain⟨D,tk,rfl,L⟩:=x.done;have m:∀b:Addr,b∉(t7 CX P w K G base N g scope f C A d s H E).ex:=fun b z=>absurd (show b∈([]:List Addr) from z) (by simp);refine⟨⟨l.mod,S.kind,rfl,rfl,j_ _,fun y z c D j=>?_,fun y o=>?_,fun y c _ h=>?_,fun _=>Q,Around.frames_deeper l.frames,.inr ⟨rfl,rfl⟩,fun b z=>absurd z (m b),l.bs,l.bsz,fun b _ _=>m b,fun b z=>absurd z (m b),l.funs,l.frf⟩,
  rfl,l.bare,Un.kept L,⟨_,x.toInCall.ns,fun i y v D j T=>?_⟩,fun y c h=>⟨_,x.cell y c h⟩,l.hok.fresh (j_ _),fun y c h=>?_,fun p B=>absurd (show p∈([]:List (Addr × Obj)) from B) (by simp),l.hok.kept L,?_⟩
 ·exact name_of_addr x.apart (mem_of_lookup D) (mem_of_lookup j)
 ·have o:scope.names.lookup y=some .cell\/scope.names.lookup y=some .free:=o;rcases o with o | o
  ·exact iZ o
  exact absurd rfl (S.nofree _ (mem_of_lookup o))
 ·exact Xc (x.above y c (mem_of_lookup h))
 ·have F:i<vs.length:=by
   unfold start at j;by_cases F:i<vs.length
   ·exact F
   rw[M_ (by simpa using F)] at j;rw[Yo] at j;split at j <;> cases j
  have M:vs[i]?=some v:=by
   unfold start at j;rw[Wb (by simpa using F),J_] at j;cases e:vs[i]? with
   |none=>rw[e] at j;cases j
   |some a=>rw[e] at j;cases j;rfl
  obtain⟨u,I,O⟩:=r.get M;have B:ps[i]?=some y:=by rw[<- S.pre,List.getElem?_take_of_lt (by omega)];exact D
  have t:ps.Nodup:=by rw[<- S.pre];exact S.nd.sublist (List.take_sublist _ _)
  refine⟨u,O,?_⟩;rcases S.par y (Xp B) with k | k
  ·exact .inl ⟨k,nF t B I k⟩
  obtain⟨c,e⟩:=iZ (n:=s.heap.objs.size+1) k;refine .inr ⟨.inl k,c,e,?_⟩;have q:=x.cell y c e;rw[nG t B I (by show scope.names.lookup y≠_;rw[k];decide)] at q;exact q
 ·exact l.hok.fresh (Xc (x.above y c (mem_of_lookup h)))
 unfold start;show _=N.length;rw[a_,g_,YH];omega
theorem QM {CX:CXT}{P:Program}{w:World}{K:Frag}{F:Str->Option Value}{base:Heap}{k:Nat}{f:Addr}{name c:Str}{g:Arguments}{h:List Stmt}{scope:Scope}{R kV p pm d U oc:Value}{Z od:Option Addr}
  {osl:Array (Option Value)} {N ps:List Str} {sp:Sp} (lk:K.lookup f=some ⟨oc,od,.func (fnOf name c g h scope R kV p pm Z d U),osl⟩) (O:codeIn K d c=true) (S:FnScope N ps scope)
  (z:∀vs H Q E,sp vs H Q E->vs.length=ps.length)
  (j:∀(A:Around) (a:List Env) (s:Shared) (H:Hp) (vs:List V) (Q:VK) (E:XK),Room k (A.deeper (envOfC c scope s.heap.objs.size f d))->sp vs H Q E ->
   ∃t,PSs (t7 CX P w K F base N c scope f d A a s H E) h t/\t { nx:=fun _ H'=>Q .non H',rt:=Q} (start N vs) H) :
  FnOk P w K F base CX (k+1) f (fnOf name c g h scope R kV p pm Z d U) ps sp:=by
 refine⟨z,fun A a s H Y us vs Q E M B hb r C=>?_⟩;have hl:=z _ _ _ _ C;have X:K.In s.heap:=B.mod.kin.keeps fun b o e=>(B.bs b o e).1;have L:s.heap.NoLimit:=B.mod.nolimit.keeps fun b o e=>(B.bs b o e).1;have l:∀y∈ps.zip us,scope.names.lookup y.1=some .local\/(scope.names.lookup y.1=some .cell/\((cellsFrom (s.heap.objs.size+1) scope.names []).lookup y.1).isSome=true):=fun ⟨n,v⟩ hy=>by
  rcases S.par n (List.of_mem_zip hy).1 with q | q
  ·exact .inl q
  exact .inr ⟨q,cellsFrom_some _ _ _ (.inl q)⟩
 refine codeAny_call_function M.depth (X _ _ lk) rfl S.co S.gen rfl (PySem.W.codeRec_of X O) (hb _ _ _ _ ?_);refine wpAny_newFunctionEnv_cells S.kind l fun env he T x=>?_;subst he;refine⟨L.keeps x.toInCall.keep,codeAny_func ?_⟩;obtain⟨t,ht,hq⟩:=j A a s H vs Q E (M.deeper _) C;have I:Inv (t7 CX P w K F base N c scope f d A a s H E) [] (start N vs) H T:=yr S M.hd B hl r x;refine W_ (ht [] T (start N vs) H _ I hq) (fun fl s' m=>?_) fun e s' m=>m;have D:∀{i:St} {H':Hp} {v:V} {u:Value},Inv (t7 CX P w K F base N c scope f d A a s H E) [] i H' s'->RelV v u->Q v H'->CE a P w H s Q u s' :=
  fun {i H' v u} J G q=>⟨v,H',J.os,J.bare,J.base,J.hok,G,q⟩
 cases fl with
 |ret u=>obtain⟨v,i,H',J,G,q⟩:=m;exact D J G q
 |next=>obtain⟨i,H',J,q⟩:=m;exact D (v:=V.non) (u:=Value.none) J rfl q
 |brk=>obtain⟨_,_,_,q⟩:=m;exact False.elim q
 |cont =>
 obtain⟨_,_,_,q⟩:=m;exact False.elim q
section
variable {X:Cx}{x:Str}{p pos:Pos}{e:Expr}{es:List Expr}{t:TA}{id T:String}{r:List V->Hp->VK->Prop}
def tCB (r:List V->Hp->VK->Prop) (t:TA):TE:=fun b H Q=>t b H fun vs a=>r vs a Q
theorem zO (o:CallR X (.builtin id) r) (f:Gl X x) (j:X.mg x=none) (m:bootBuiltins x=some (.builtin id)) (g:PA X (e::es) t) (q:x≠"__name__":=by decide) (b:(x==("__debug__":Str))=false:=by decide)
  (u:starEach (e::es) X.env=(false,eval e X.env)::starEach es X.env:=by rfl) (c:(backTo pos (starEach es X.env)).any (·.1)=false:=by rfl):PE X (.Call (.Name x p) (e::es) [] pos) (tCB r t):=by
 intro a s d H Q I h;refine WR (dM I f j m ?_ q b);exact PyProof.Rows.callWith_builtin1 (thn (g pos a s d H _ I h) fun us i ⟨vs,k,n,l,v⟩=>o a i d k vs us Q n l v) u c
theorem yt (o:CallR X (.type T) r) (f:Gl X x) (j:X.mg x=none) (m:bootBuiltins x=some (.type T)) (g:PA X (e::es) t) (q:x≠"__name__":=by decide) (b:(x==("__debug__":Str))=false:=by decide)
  (u:starEach (e::es) X.env=(false,eval e X.env)::starEach es X.env:=by rfl) (c:(backTo pos (starEach es X.env)).any (·.1)=false:=by rfl):PE X (.Call (.Name x p) (e::es) [] pos) (tCB r t):=by
 intro a s d H Q I h;refine WR (dM I f j m ?_ q b);exact Wx (thn (g pos a s d H _ I h) fun us i ⟨vs,k,n,l,v⟩=>o a i d k vs us Q n l v) u c
end
end L2
namespace HT
open PySem PyProof.Rows
section
open PySem.SeqAt
open PySem.AutoSeq1 (wpAny_loadPart')
open PySem.MeetsSeq PySem.MeetsSeq2 PySem.MeetsSeq3
variable {prog:Program}{w:World}{A:Around}{E:Value->Shared->Prop}{s:Shared}
theorem cat_tup {t b:Addr}{vs ws:List Value}{Q:Value->Shared->Prop}(u:IsTup s.heap t vs.toArray) (y:IsTup s.heap b ws.toArray) (r:vs≠[])
  (x:ws=[]->Q (.ref t) s) (v:ws≠[]->Q (.ref s.heap.objs.size) { s with heap:=s.heap.push { cls:=.type "tuple",data:=.seq (vs++ws).toArray}})
  (hsz:vs.length+ws.length<=sizeLine):wpAny (model prog w) A (binaryOp .Add (.ref t) (.ref b)) Q E s:=by
 obtain⟨⟨cls,l,data,o⟩,i,p,n,m⟩:=id u;obtain⟨⟨k,f,j,g⟩,a,c,q,d⟩:=id y;simp only at p m c d;subst p m c d;have e:vs.toArray++ws.toArray=(vs++ws).toArray:=by simp
 by_cases h:ws=[]
 ·exact concat_meets ⟨_,i,rfl⟩ ⟨_,a,rfl⟩ noFill_tuple_add seq_tuple_add PySem.F.slot_tuple_add PySem.F.entry_tuple_add (Zb _ _)
   (tuple_addW1 t b vs.toArray ws.toArray n q l f o g (by simpa using r) (by simp [h])) ⟨i,a,x h⟩
 refine concat_meets ⟨_,i,rfl⟩ ⟨_,a,rfl⟩ noFill_tuple_add seq_tuple_add PySem.F.slot_tuple_add PySem.F.entry_tuple_add (Zb _ _)
  (tuple_addW2 t b vs.toArray ws.toArray n q l f o g (by simpa using r) (by simpa using h) (by rw[l_,l_];exact hsz)) ⟨i,a,?_⟩
 rw[e];exact v h
def sIx (n d:Nat):Option Int->Nat
 |none=>d
 |some v=>if v<0 then (v+(n:Int)).toNat else min v.toNat n
theorem sIx_none (n d:Nat):sIx n d none=d:=rfl
theorem sIx_nat (n d k:Nat):sIx n d (some (k:Int))=min k n:=by
 show (if (k:Int)<0 then ((k:Int)+(n:Int)).toNat else min (k:Int).toNat n)=min k n;rw[if_neg (by omega),Xi]
theorem LQ (n d:Nat) (b:d<=n) (o:Option Int):sIx n d o<=n:=by
 cases o with
 |none=>exact b
 |some v =>
  show (if v<0 then (v+(n:Int)).toNat else min v.toNat n)<=n
  by_cases a:v<0
  ·
   rw[if_pos a];omega
  ·
   rw[if_neg a];exact Nat.min_le_right _ _
theorem vM (v:Int) (n d:Nat):(if v<0 then max (v+(n:Int)) 0 else min v (n:Int))=((sIx n d (some v):Nat):Int):=by
 show (if v<0 then max (v+(n:Int)) 0 else min v (n:Int))=(((if v<0 then (v+(n:Int)).toNat else min v.toNat n):Nat):Int);by_cases a:v<0
 ·simp only[if_pos a];omega
 simp only[if_neg a];omega
theorem ud (a b:Option Int) (n:Nat):Builtin.Slice.sliceAdjust a b 1 (n:Int)=(((sIx n 0 a:Nat):Int),((sIx n n b:Nat):Int)):=by
 have c:¬((1:Int)<0):=by omega
 unfold Builtin.Slice.sliceAdjust;simp only[c,Wl];refine Prod.ext ?_ ?_
 ·cases a with
  |none=>rfl
  |some v=>exact vM v n 0
 cases b with
 |none=>rfl
 |some v=>exact vM v n n
theorem ue (i j:Nat):Builtin.Slice.slicePlaces (i:Int) (j:Int) 1=j - i:=by
 unfold Builtin.Slice.slicePlaces;have a:(1:Int)>0:=by omega
 simp only[a,if_true,Int.ediv_one];split <;> omega
theorem kI {v:Value}{o:Option Int}{Q:Option Int->Shared->Prop}(p:IsPart v o) (h:Q o s):wpAny (model prog w) A (Builtin.Slice.slicePartIndex v) Q E s:=by
 cases p with
 |none=>exact slicePart_none h
 |int i t=>exact slicePart_int h
theorem jA {g:Addr}{f e:Value}{a b:Option Int}{n:Nat}{Q:Int × Int × Nat->Shared->Prop}(k:s.heap.IsSliceOf g f e .none) (pl:IsPart f a) (j:IsPart e b)
  (h:Q (((sIx n 0 a:Nat):Int),1,sIx n n b - sIx n 0 a) s):wpAny (model prog w) A (Builtin.Slice.sliceApplied (.ref g) (pure (n:Int))) Q E s:=by
 obtain⟨l,d,i,c⟩:=id k;unfold Builtin.Slice.sliceApplied Builtin.Slice.sliceFields;refine b_ (b_ (wpAny_field d c (x:=f) rfl (b_ (wpAny_field d c (x:=e) rfl (b_ (wpAny_field d c (x:=.none) rfl (k_ ?_)))))));refine b_ (slicePart_none ?_);show wpAny _ _ (if ((1:Int)==0)=true then _ else _) _ _ s;rw[if_neg (by decide)];refine b_ (kI pl (b_ (kI j (b_ (k_ ?_)))));show wpAny _ _ (match Builtin.Slice.sliceAdjust a b 1 (n:Int) with | (a,b)=>pure (a,(1:Int),Builtin.Slice.slicePlaces a b 1)) _ _ s;rw[ud a b n];show wpAny _ _ (pure (((sIx n 0 a:Nat):Int),(1:Int),Builtin.Slice.slicePlaces ((sIx n 0 a:Nat):Int) ((sIx n n b:Nat):Int) 1)) _ _ s;rw[ue];exact k_ h
theorem zP (xs : Array Value) (i k : Nat) : ((List.range k).filterMap fun (m : Nat) => xs[((i : Int) + (m : Int) * 1).toNat]?).toArray = ((xs.toList.drop i).take k).toArray:=by
 have e:(fun (m:Nat)=>xs[((i:Int)+(m:Int)*1).toNat]?)=fun m=>xs[i+m]?:=by
  funext m;have:((i:Int)+(m:Int)*1).toNat=i+m:=by omega
  rw[this]
 rw [e];have:=pick_run xs i k;rw [List.filterMap_map] at this;have a : ((fun x => xs[x]?) ∘ fun x => i + x) = fun m => xs[i + m]?:=rfl;rw [a] at this;rw [this]
theorem getItem_tuple_cut {t j:Addr}{a:Array Value}{l o:Value}{c d:Option Int}{Q:Value->Shared->Prop}(e:IsTup s.heap t a) (n:s.heap.IsSliceOf j l o .none) (pl:IsPart l c) (u:IsPart o d)
  (r:¬(sIx a.size 0 c=0/\sIx a.size a.size d=a.size))
  (h:Q (.ref s.heap.objs.size) { s with heap:=s.heap.push { cls:=.type "tuple",data:=.seq ((a.toList.drop (sIx a.size 0 c)).take (sIx a.size a.size d - sIx a.size 0 c)).toArray}})
  (hsz:a.size<=sizeLine):wpAny (model prog w) A (getItem (.ref t) (.ref j)) Q E s:=by
 have b:sizeOk (.seq ((a.toList.drop (sIx a.size 0 c)).take (sIx a.size a.size d - sIx a.size 0 c)).toArray):=by show ((a.toList.drop (sIx a.size 0 c)).take (sIx a.size a.size d - sIx a.size 0 c)).toArray.size<=sizeLine;rw[l_,Wi,Wo,D_];omega
 have z:sIx a.size a.size d<=a.size:=LQ _ _ (j_ _) d;obtain⟨p,k,f,v⟩:=id n;have g:s.TypeIs (.ref j) "slice":=⟨p,k,f⟩;unfold getItem;try with_reducible refine Xu ?_
 first | refine b_ (k_ ?_) | skip
 refine b_ (wpAny_sequenceKey e.typeIs (by decide) ?_);refine b_ (wpAny_callSpecial?_slot (name:=Str.ofString "__getitem__") e.typeIs Yk
  (XX Yk e.typeIs entry_tuple_getitem ?_ (args_tuple_getitem _ _)))
 show wpAny _ _ (Builtin.Tuple.tupleItemsOf (.ref t) >>= _) _ _ s;refine b_ (tupleItemsOf_ e ?_);refine b_ (wpAny_typeOf g ?_);rw[if_pos (by decide)];refine b_ (jA n pl u ?_);have i:¬((((sIx a.size 0 c:Nat):Int)==0&&(1:Int)==1&&(sIx a.size a.size d - sIx a.size 0 c)==a.size)=true):=by intro q;rw[Wr,Wr] at q;have y:((sIx a.size 0 c:Nat):Int)=0:=eq_of_beq q.1.1;have x:sIx a.size a.size d - sIx a.size 0 c=a.size:=eq_of_beq q.2;exact r ⟨by omega,by omega⟩
 show wpAny _ _ (if (((sIx a.size 0 c:Nat):Int)==0&&(1:Int)==1&&(sIx a.size a.size d - sIx a.size 0 c)==a.size)=true then _ else _) _ _ s;rw[if_neg i,zP];first
  |exact b_ (m:=Builtin.Tuple.tupleExact _) (Xj (k_ ⟨_,rfl,k_ h⟩) b)
  |exact b_ (m:=Builtin.Tuple.tupleExact _) (Xj (b_ (k_ (k_ ⟨_,rfl,k_ h⟩))) b)
  |exact b_ (b_ (m:=Builtin.Tuple.tupleExact _) (Xj (k_ (k_ ⟨_,rfl,k_ h⟩)) b))
  |exact b_ (b_ (m:=Builtin.Tuple.tupleExact _) (Xj (k_ ⟨_,rfl,k_ h⟩) b))
end
end HT
namespace L2
abbrev TO:=St->Hp->(Option Int->Hp->Prop)->Prop
def PO (X:Cx) (e:Option Expr) (t:TO):Prop :=
 ∀(a:List (Addr × Obj)) (s:Shared) (b:St) (H:Hp) (Q:Option Int->Hp->Prop),Inv X a b H s->t b H Q ->
  wpAny (model X.prog X.w) X.A (evalPart e X.env) (fun u s'=>∃o H',Inv X a b H' s'/\IsPart u o/\Q o H') X.xe s
def Ft:TO:=fun _ H Q=>Q none H
def QQ (t:TE):TO:=fun b H Q=>t b H fun x a=>∃i,x=.int i/\Q (some i) a
section
variable {X:Cx}{e:Expr}{te:TE}{lo hi:Option Expr}{tl th:TO}{pos p2:Pos}
theorem Fv:PO X none Ft:=by
 intro a s b H Q I h;rw[evalPart_none];exact k_ ⟨none,H,I,.none,h⟩
theorem Fw (h:PE X e te):PO X (some e) (QQ te):=by
 intro a s c H Q I g;rw[evalPart_some];refine thn (h a s c H _ I g) fun u k ⟨x,b,f,d,j⟩=>?_;obtain⟨i,rfl,q⟩:=j;obtain⟨t,rfl⟩:=d;exact⟨some i,b,f,.int i t,q⟩
def SlR (X:Cx) (r:V->Option Int->Option Int->Hp->VK->Prop):Prop :=
 ∀(a:List (Addr × Obj)) (s:Shared) (d:St) (H:Hp) (x:V) (v g f:Value) (b c:Option Int) (e:Addr) (Q:VK),Inv X a d H s->RelV x v->s.heap.IsSliceOf e g f .none->IsPart g b->IsPart f c->r x b c H Q ->
  ∃T id,typeLookup (.type T) "__getitem__"=pure (some (.builtin id))/\s.TypeIs v T/\wpAny (model X.prog X.w) X.A (getItem v (.ref e)) (EP X a d Q) X.xe s
theorem SlR.or {r i:V->Option Int->Option Int->Hp->VK->Prop}(h:SlR X r) (h':SlR X i):SlR X (fun x b c H Q=>r x b c H Q\/i x b c H Q):=by
 intro a s f H x v k j b c g Q I e l pl d q;rcases q with q | q
 ·exact h a s f H x v k j b c g Q I e l pl d q
 exact h' a s f H x v k j b c g Q I e l pl d q
def tSl (r:V->Option Int->Option Int->Hp->VK->Prop) (te:TE) (d b:TO):TE:=fun a H Q=>te a H fun x c=>d a c fun l e=>b a e fun u H3=>r x l u H3 Q
theorem zQ {r:V->Option Int->Option Int->Hp->VK->Prop}(y:SlR X r) (p:PE X e te) (J:PO X lo tl) (i:PO X hi th):PE X (.Subscript e (.Slice lo hi none p2) pos) (tSl r te tl th):=by
 intro a s c H Q I h;refine Subscript_ (thn (p a s c H _ I h) fun v k ⟨x,F,E,n,z⟩=>?_);refine wpAny_Slice (thn (J a k c F _ E z) fun d m ⟨l,D,L,pl,t⟩=>thn (i a m c D _ L t) fun f s3 ⟨u,H3,o,C,G⟩=>?_);rw[evalPart_none];refine k_ ?_;have g:Inv X a c H3 { s3 with heap:=s3.heap.push { cls:=.type "slice",data:=.fields #[d,f,.none]}}:=o.kept (t':=s3.toks) fun b M q=>e_ _ q;obtain⟨T,id,j,K,B⟩:=y a { s3 with heap:=s3.heap.push { cls:=.type "slice",data:=.fields #[d,f,.none]}} c H3 x v d f l u s3.heap.objs.size Q g n (Heap.IsSliceOf.new ..) pl C G;show wpAny (model X.prog X.w) X.A (subscriptTail e (.Slice lo hi none p2) v (.ref s3.heap.objs.size)) (EP X a c Q) X.xe { s3 with heap:=s3.heap.push { cls:=.type "slice",data:=.fields #[d,f,.none]}};exact tail_any (ops:=[.ref s3.heap.objs.size,v]) K j B (by with_unfolding_all rfl)
def qG (xs:List V) (a b:Option Int):List V:=(xs.drop (HT.sIx xs.length 0 a)).take (HT.sIx xs.length xs.length b - HT.sIx xs.length 0 a)
theorem jO (xs:List V) (a b:Option Int):(qG xs a b).length<=xs.length:=by
 unfold qG;rw[Wi,Wo];omega
def Vl (K:Frag):V->Option Int->Option Int->Hp->VK->Prop:=fun x b c H Q=>∃a xs,x=.ref a/\SqT K H a xs /\
 ¬(HT.sIx xs.length 0 b=0/\HT.sIx xs.length xs.length c=xs.length)/\∀p,H p=none->Q (.ref p) (upd H p (.tup (qG xs b c)))
theorem sl_tup:SlR X (Vl X.K):=by
 intro g s p H x v w u d e t Q I k n pl j h;obtain⟨a,xs,rfl,l,m,q⟩:=h;cases k;obtain⟨f,r,i,hz⟩:=I.tuple l;have c:f.toArray.size=xs.length:=by rw[l_];exact r.length.symm
 refine⟨"tuple",_,Yk.lookup,i.typeIs,?_⟩;refine HT.getItem_tuple_cut i n pl j (by rw[c];exact m) ?_ (by rw[c];exact hz);rw[c];refine⟨.ref s.heap.objs.size,_,I.laid (t':=s.toks) (o:=.tup (qG xs d e)) (fun b y q=>e_ _ q) (j_ _) ?_,rfl,q _ (I.hok.fresh (j_ _))⟩;exact⟨Wc (jO xs d e) hz,_,(r.drop (HT.sIx xs.length 0 d)).take (HT.sIx xs.length xs.length e - HT.sIx xs.length 0 d),Tup0.new _ _⟩
def QR (K:Frag):R2:=fun x y H Q=>∃a b xs c,x=.ref a/\y=.ref b/\SqT K H a xs/\SqT K H b c/\xs≠[]/\xs.length+c.length<=sizeLine /\
 (c=[]->Q (.ref a) H)/\(c≠[]->∀p,H p=none->Q (.ref p) (upd H p (.tup (xs++c))))
theorem Vals.nil_iff {xs:List V}{us:List Value}(r:Vals xs us):us=[]↔xs=[]:=by
 cases r with
 |nil=>simp
 |cons _ _=>simp
theorem op_catT:OpR X (binaryOp .Add) (QR X.K):=by
 intro f s B H x y v u Q I l m h;obtain⟨a,b,xs,g,rfl,rfl,j,n,k,hz,A,r⟩:=h;cases l;cases m;obtain⟨p,d,i,_⟩:=I.tuple j;obtain⟨e,c,t,_⟩:=I.tuple n;refine HT.cat_tup i t (fun z=>k (d.nil_iff.mp z)) (fun z=>⟨.ref a,H,I,rfl,A (c.nil_iff.mp z)⟩) (fun z=>?_) (by rw[<- d.length,<- c.length];exact hz);refine⟨.ref s.heap.objs.size,_,I.laid (t':=s.toks) (o:=.tup (xs++g)) (fun b C q=>e_ _ q) (j_ _) ?_,rfl,r (fun w=>z (c.nil_iff.mpr w)) _ (I.hok.fresh (j_ _))⟩;exact⟨by rw[a_];exact hz,_,d.append c,Tup0.new _ _⟩
end
def ixN (n:Nat) (i:Int):Option Nat:=if 0<=i then (if i<n then some i.toNat else none) else if -(n:Int)<=i then some (i+n).toNat else none
def atI {a:Type}(xs:List a) (i:Int):Option a:=(ixN xs.length i).bind fun j=>xs[j]?
theorem oW {n:Nat}{i:Int}{j:Nat}(h:ixN n i=some j):seqIndex? i n=some j/\j<n /\ -(n:Int)<=i/\i<n:=by
 unfold ixN at h;by_cases b:0<=i
 ·rw[if_pos b] at h;by_cases a:i<n
  ·rw[if_pos a] at h;have e:i.toNat=j:=We h;exact⟨by rw[seqIndex_of b a,e],by omega,by omega,a⟩
  rw[if_neg a] at h;cases h
 rw[if_neg b] at h;by_cases a : -(n:Int)<=i
 ·rw[if_pos a] at h;have e:(i+n).toNat=j:=We h;exact⟨by rw[seqIndex_neg (by omega) a,e],by omega,a,by omega⟩
 rw[if_neg a] at h;cases h
theorem oX {a:Type}{xs:List a}{i:Int}{v:a}(h:atI xs i=some v):∃j,seqIndex? i xs.length=some j/\xs[j]?=some v/\j<xs.length /\ -(xs.length:Int)<=i/\i<xs.length:=by
 unfold atI at h;cases e:ixN xs.length i with
 |none=>rw[e] at h;cases h
 |some j =>
 rw[e] at h;obtain⟨d,b,c,f⟩:=oW e;exact⟨j,d,h,b,c,f⟩
theorem bD {a:Type}{xs:List a}{j:Nat}{v:a}(h:xs[j]?=some v):atI xs (j:Int)=some v:=by
 have b:j<xs.length:=(WY.mp h).1;have e:ixN xs.length (j:Int)=some j:=by unfold ixN;rw[if_pos (by omega),if_pos (by omega)];simp
 unfold atI;rw[e];exact h
theorem zR {a:Type}(xs:List a) (v:a):atI (xs++[v]) (-1)=some v:=by
 have b:(xs++[v]).length=xs.length+1:=by simp
 have e:ixN (xs++[v]).length (-1)=some xs.length:=by unfold ixN;rw[b,if_neg (by decide),if_pos (by omega)];congr 1;omega
 unfold atI;rw[e];show (xs++[v])[xs.length]?=some v;simp
def vN (b:Expr):Prop:=∀o i,subscripted b false o i=operate [o,i] (getItem o i)
def IxR (X:Cx) (r:R2):Prop :=
 ∀(c a:Expr) (b:List (Addr × Obj)) (s:Shared) (d:St) (H:Hp) (x y:V) (v u:Value) (Q:VK),Inv X b d H s->RelV x v->RelV y u->r x y H Q ->
  subscripted a false v u=operate [v,u] (getItem v u)->wpAny (model X.prog X.w) X.A (subscriptTail c a v u) (EP X b d Q) X.xe s
def MtR (X:Cx) (id:String) (r:V->List V->Hp->VK->Prop):Prop :=
 ∀(a:List (Addr × Obj)) (s:Shared) (b:St) (H:Hp) (x:V) (xs:List V) (v:Value) (us:List Value) (Q:VK),Inv X a b H s->RelV x v->Vals xs us->r x xs H Q ->
  wpAny (model X.prog X.w) X.A (call (.builtin id) (v::us)) (EP X a b Q) X.xe s
section
variable {X:Cx}{a b:Expr}{ta tb:TE}{pos:Pos}
theorem IxR.or {r g:R2}(h:IxR X r) (h':IxR X g):IxR X (fun x y H Q=>r x y H Q\/g x y H Q):=by
 intro a b c s e H x y v u Q I d f q i;rcases q with q | q
 ·exact h a b c s e H x y v u Q I d f q i
 exact h' a b c s e H x y v u Q I d f q i
theorem QS {r:R2}(m:IxR X r) (d:PE X a ta) (k:PE X b tb) (l:vN b):PE X (.Subscript a b pos) (tOp r ta tb):=by
 intro c s g H Q I h;exact Subscript_ (Lj d k I h fun v u f x y j n e i q=>m a b c f g j x y v u Q n e i q (l _ _))
def QT (K:Frag):R2:=fun x y H Q=>∃p xs i v,x=.ref p/\y=.int i/\SqL K H p xs/\atI xs i=some v/\Q v H
def QV (K:Frag):R2:=fun x y H Q=>∃p xs i v,x=.ref p/\y=.int i/\SqT K H p xs/\atI xs i=some v/\Q v H
def QW:R2:=fun x y H Q=>∃z i c,x=.str z/\y=.int i/\z.length<=sizeLine/\atI z.cps.toList i=some c/\Q (.str ⟨#[c]⟩) H
theorem ix_list:IxR X (QT X.K):=by
 intro d k a s l H x y v u Q I C G h m;obtain⟨p,xs,i,z,rfl,rfl,B,D,q⟩:=h;cases C;obtain⟨t,rfl⟩:=G;obtain⟨e,r,pl,hz⟩:=I.list B;obtain⟨j,c,F,L,E,A⟩:=oX D;obtain⟨w,n,f⟩:=r.get F;have J:=r.length;have M:=iG;have b:EP X a l Q w s:=⟨z,H,I,f,q⟩;by_cases o:0<=i
 ·have g:i.toNat=j:=by rw[seqIndex_of o A] at c;exact We c
  exact item_listR pl.isList o (by omega) (by rw[g];simpa using n) b m
 have g:(i+(e.toArray.size:Int)).toNat=j:=by rw[seqIndex_neg (by omega) E] at c;rw[l_,<- J];exact We c
 exact subscriptTail_builtinR (x:=w) pl.isList.typeIs slot_list_getitem.lookup
  (wpAny_getItem_list_neg (Q:=fun r s'=>r=w/\EP X a l Q r s') pl.isList (by omega) (by rw[l_] <;> omega) (by omega) (by rw[g];simpa using n) ⟨rfl,b⟩) m
theorem ix_tup:IxR X (QV X.K):=by
 intro b d a s f H x y v u Q I n C h k;obtain⟨p,xs,i,z,rfl,rfl,l,o,q⟩:=h;cases n;obtain⟨t,rfl⟩:=C;obtain⟨g,r,pl,hz⟩:=I.tuple l;obtain⟨j,B,A,F,G,E⟩:=oX o;obtain⟨w,m,c⟩:=r.get A;have D:=r.length;have J:=iG;have e:EP X a f Q w s:=⟨z,H,I,c,q⟩;exact subscriptTail_builtinR (x:=w) pl.typeIs slot_tuple_getitem.lookup
  (getItem_tuple (j:=j) (Q:=fun r s'=>r=w/\EP X a f Q r s') pl (by omega) (by omega) (by rw[l_,<- D];exact B) (by simpa using m) ⟨rfl,e⟩) k
theorem LR:IxR X QW:=by
 intro a b e s B H x y v u Q I g k h r;obtain⟨z,i,c,rfl,rfl,hz,p,q⟩:=h;obtain⟨t,rfl⟩:=g;obtain⟨t',rfl⟩:=k;obtain⟨j,d,f,A,w,l⟩:=oX p;have n:z.cps.toList.length=z.length:=by simp [Str.length]
 rw[n] at d w l;have C:=iG;exact tail_any (typeIs_str s z t) slot_str_getitem.lookup (getItem_str (c:=c) (by
  have m:decide (i < -(2^63:Int))=false:=A_ (by omega)
  have o:decide (i ≥ 2^63)=false:=A_ (by omega)
  rw[m,o,Bool.or_false]) (by rw[d];simpa using f) ⟨.str ⟨#[c]⟩,H,I.tok _,⟨_,rfl⟩,q⟩) r
def rIx (K:Frag):R2:=fun x y H Q=>QT K x y H Q\/QV K x y H Q\/QW x y H Q
theorem Ma:IxR X (rIx X.K):=ix_list.or (ix_tup.or LR)
theorem uf (a:List Value) (n j:Nat) (u:Value):Obj.mapSeq (·.setIfInBounds j u) { cls:=.type "list",data:=.seq a.toArray n}={ cls:=.type "list",data:=.seq (a.set j u).toArray n}:=by
 simp [Obj.mapSeq]
theorem Inv.lst {b:List (Addr × Obj)}{c:St}{H:Hp}{s:Shared}{p:Addr}{xs:List V}(I:Inv X b c H s) (h:H p=some (.lst xs)) :
  ∃(a:List Value) (n:Nat),Vals xs a/\s.heap.get? p=some { cls:=.type "list",data:=.seq a.toArray n}/\xs.length<=sizeLine:=by
 obtain⟨z,a,n,r,e⟩:=I.hok p _ h;exact⟨a,n,r,e,z⟩
theorem Inv.lstUpd {a:List (Addr × Obj)}{j:St}{H:Hp}{s:Shared}{p:Addr}{xs d:List V}{c its':List Value}{n g:Nat}{f:Obj->Obj}(I:Inv X a j H s) (h:H p=some (.lst xs))
  (k:s.heap.get? p=some { cls:=.type "list",data:=.seq c.toArray n}) (i:f { cls:=.type "list",data:=.seq c.toArray n}={ cls:=.type "list",data:=.seq its'.toArray g}) (r:Vals d its') (hz:d.length<=sizeLine) (t:Nat) :
  Inv X a j (upd H p (.lst d)) { s with heap:=s.heap.update p f,toks:=t}:=by
 have e:(s.heap.update p f).get? p=some { cls:=.type "list",data:=.seq its'.toArray g}:=by rw[XH f k (by rw[i] <;> rfl),i]
 refine I.write (x:=p) (e:=p) (by rw[h];trivial) (.inl rfl) (fun b u l q=>(Xv _ _ (Ne.symm l)).trans q) ⟨_,e⟩ ?_;exact⟨hz,its',g,r,e⟩
def QX:V->V->V->Hp->(Hp->Prop)->Prop:=fun o i v H Q=>∃p xs k j,o=.ref p/\i=.int k/\H p=some (.lst xs)/\ixN xs.length k=some j/\Q (upd H p (.lst (xs.set j v)))
theorem set_list:PSet X QX:=by
 intro b s A H o i v G D u Q I C z y h;obtain⟨p,xs,k,j,rfl,rfl,l,B,q⟩:=h;cases C;obtain⟨t,rfl⟩:=z;obtain⟨a,n,r,e,hz⟩:=I.lst l;obtain⟨c,E,g,m⟩:=oW B;have f:=r.length;have F:=iG;have x:Inv X b A (upd H p (.lst (xs.set j v))) { s with heap:=s.heap.update p (Obj.mapSeq (·.setIfInBounds j u))} :=
  I.lstUpd l e (uf a n j u) (r.set y j) (by rw[List.length_set];exact hz) s.toks
 by_cases w:0<=k
 ·have d:k.toNat=j:=by rw[seqIndex_of w m] at c;exact We c
  exact PySem.W.ki_setAt e w (by omega) (by rw[l_,<- f];exact m) (by rw[d];exact⟨_,x,q⟩)
 have d:(k+(a.toArray.size:Int)).toNat=j:=by rw[seqIndex_neg (by omega) g] at c;rw[l_,<- f];exact We c
 exact PySem.W.ki_setBack e (by omega) (by rw[l_,<- f];exact g) (by omega) (by rw[d];exact⟨_,x,q⟩)
theorem oY (a b:Option Int) (n:Nat):(sliceBounds a b none n).1=((HT.sIx n 0 a:Nat):Int)/\(sliceBounds a b none n).2.1=((HT.sIx n n b:Nat):Int)/\(sliceBounds a b none n).2.2=1:=by
 refine⟨?_,?_,rfl⟩
 ·cases a with
  |none=>simp [sliceBounds,HT.sIx]
  |some i =>
  simp only[sliceBounds,HT.sIx,Option.getD_none,show (1:Int)>0 by decide,if_true];by_cases h:i<0
  ·simp only[h,if_true] <;> omega
  simp only[h,Wl] <;> omega
 cases b with
 |none=>simp [sliceBounds,HT.sIx]
 |some i =>
 simp only[sliceBounds,HT.sIx,Option.getD_none,show (1:Int)>0 by decide,if_true];by_cases h:i<0
 ·simp only[h,if_true] <;> omega
 simp only[h,Wl] <;> omega
theorem mK (a:List Value) (b c:Option Int):slicePick a.toArray b c none=((a.drop (HT.sIx a.length 0 b)).take (HT.sIx a.length a.length c - HT.sIx a.length 0 b)).toArray:=by
 obtain⟨f,d,e⟩:=oY b c a.toArray.size;unfold slicePick;rw[f,d,e];simp only[sliceRange_one,pick_run,l_] <;> rfl
def Vm (K:Frag):V->Option Int->Option Int->Hp->VK->Prop:=fun x b c H Q=>∃a xs,x=.ref a/\SqL K H a xs/\∀p,H p=none->Q (.ref p) (upd H p (.lst (qG xs b c)))
theorem sl_list:SlR X (Vm X.K):=by
 intro f s n H x v u t d e p Q I j m pl i h;obtain⟨a,xs,rfl,k,q⟩:=h;cases j;obtain⟨l,r,g,hz⟩:=I.list k;have c:=r.length;refine⟨"list",_,slot_list_getitem.lookup,g.isList.typeIs,?_⟩;refine wpAny_getItem_list_slice g.isList m pl i .none (by simp) ?_ (by rw[l_] <;> omega);rw[mK,<- c];refine⟨.ref s.heap.objs.size,_,I.laid (t':=s.toks) (o:=.lst (qG xs d e)) (fun b w q=>e_ _ q) (j_ _) ?_,rfl,q _ (I.hok.fresh (j_ _))⟩;exact⟨Wc (jO xs d e) hz,_,0,(r.drop (HT.sIx xs.length 0 d)).take (HT.sIx xs.length xs.length e - HT.sIx xs.length 0 d),C_ _ rfl⟩
theorem call_len_seq:CallR X (.builtin "len") (fun xs H Q=>∃p b,xs=[.ref p]/\(SqL X.K H p b\/SqT X.K H p b)/\Q (.int b.length) H):=by
 intro f s i H xs us Q I r h;obtain⟨p,b,rfl,c,q⟩:=h;obtain⟨u,rfl,g⟩:=vals1 r;cases g;have j:=iG;rcases c with c | c
 ·obtain⟨d,e,pl,hz⟩:=I.list c;have a:=e.length;exact Calls.call_len_list pl.isList (by simp only[l_] <;> omega) ⟨.int b.length,H,I.tok _,⟨s.toks+1,by rw[l_,a]⟩,q⟩
 obtain⟨d,e,pl,hz⟩:=I.tuple c;have a:=e.length;exact len_tuple pl (by simp only[l_] <;> omega) ⟨.int b.length,H,I.tok _,⟨s.toks+1,by rw[l_,a]⟩,q⟩
theorem oZ:CallR X (.builtin "len") (fun xs H Q=>∃z,xs=[.str z]/\z.length<=sizeLine/\Q (.int z.length) H):=by
 intro a s c H xs us Q I r h;obtain⟨z,rfl,hz,q⟩:=h;obtain⟨u,rfl,t,rfl⟩:=vals1 r;have b:=iG;exact len_str (by omega) ⟨.int z.length,H,I.tok _,⟨_,rfl⟩,q⟩
theorem CallR.or {f:Value}{r c:List V->Hp->VK->Prop}(h:CallR X f r) (h':CallR X f c):CallR X f (fun xs H Q=>r xs H Q\/c xs H Q):=by
 intro a s d H xs us Q I b q;rcases q with q | q
 ·exact h a s d H xs us Q I b q
 exact h' a s d H xs us Q I b q
theorem o4:CallR X (.type "list") (fun xs H Q=>∃p c,xs=[.ref p]/\(SqL X.K H p c\/SqT X.K H p c)/\∀l,H l=none->Q (.ref l) (upd H l (.lst c))):=by
 intro m s A H xs us Q I r h;obtain⟨p,c,rfl,k,q⟩:=h;obtain⟨u,rfl,z⟩:=vals1 r;cases z;have j:∀(a:List Value),Vals c a->c.length<=sizeLine->∀(h':Heap) (f:Nat),(∀b y,s.heap.get? b=some y->h'.get? b=some y) ->
   h'.get? s.heap.objs.size=some { cls:=.type "list",dict:=none,data:=.seq a.toArray f,slots:=#[]}->EP X m A Q (.ref s.heap.objs.size) { s with heap:=h'}:=fun a d hz h' f i e =>
  ⟨.ref s.heap.objs.size,_,I.laid (t':=s.toks) i (j_ _) (show ObjOk X.prog X.w _ h' _ (.lst c) from ⟨hz,a,f,d,e⟩),rfl,q _ (I.hok.fresh (j_ _))⟩
 rcases k with k | k
 ·obtain⟨a,d,pl,hz⟩:=I.list k;have g:=d.length;obtain⟨o,t,v,n,x⟩:=pl.isList;exact call_list_seq p (.inl rfl) t v x (fun h' f i e=>j a d hz h' f i e) (by simp only[l_] <;> omega)
 obtain⟨a,d,pl,hz⟩:=I.tuple k;have g:=d.length;obtain⟨o,t,v,n,x⟩:=pl;exact call_list_seq p (.inr rfl) t v x (fun h' f i e=>j a d hz h' f i e) (by simp only[l_] <;> omega)
theorem mL:CallR X (.type "tuple") (fun xs H Q=>∃p d,xs=[.ref p]/\((SqL X.K H p d/\∀l,H l=none->Q (.ref l) (upd H l (.tup d)))\/(SqT X.K H p d/\Q (.ref p) H))):=by
 intro a s j H xs us Q I r h;obtain⟨p,d,rfl,h⟩:=h;obtain⟨u,rfl,m⟩:=vals1 r;cases m;rcases h with ⟨g,q⟩ | ⟨g,q⟩
 ·obtain⟨c,f,pl,hz⟩:=I.list g;have i:=f.length;refine call_tuple_list pl.isList (fun h' n=>?_) (by simp only[l_] <;> omega);have k:Inv X a j H { s with heap:=h'}:=I.kept (t':=s.toks) n;have t:Inv X a j (upd H h'.objs.size (.tup d)) { s with heap:=h'.push { cls:=.type "tuple",data:=.seq c.toArray}} :=
   k.laid (t':=s.toks) (fun b o e=>e_ _ e) (j_ _) (show ObjOk X.prog X.w _ _ _ (.tup d) from ⟨hz,c,f,Tup0.new _ _⟩)
  exact⟨.ref h'.objs.size,_,t,rfl,q _ (k.hok.fresh (j_ _))⟩
 obtain⟨c,f,pl,hz⟩:=I.tuple g;exact call_tuple_same pl ⟨.ref p,H,I,rfl,q⟩
def tyV (K:Frag) (T:String) (x:V) (H:Hp):Prop:=match x with
 |.str _=>T="str"
 |.int _=>T="int"
 |.ref p=>(T="list"/\∃xs,SqL K H p xs)\/(T="tuple"/\∃xs,SqT K H p xs) \/
   (T="dict"/\((∃kvs,H p=some (.dK kvs))\/∃kvs,H p=some (.dT kvs)))\/(T="set"/\∃S n,H p=some (.set S n))
 |_=>False
theorem zT {g:List (Addr × Obj)}{u:St}{H:Hp}{s:Shared}{T:String}{x:V}{v:Value}(I:Inv X g u H s) (r:RelV x v) (h:tyV X.K T x H) :
  s.TypeIs v T/\∀a,v=.ref a->∃q,s.heap.get? a=some q/\q.dict=none:=by
 cases x with
 |str z=>obtain⟨t,rfl⟩:=r;cases (show T="str" from h);exact⟨typeIs_str s z t,fun _ e=>nomatch e⟩
 |int i=>obtain⟨t,rfl⟩:=r;cases (show T="int" from h);exact⟨typeIs_int s i t,fun _ e=>nomatch e⟩
 |ref p =>
  cases r;rcases h with ⟨rfl,xs,y⟩ | ⟨rfl,xs,b⟩ | ⟨rfl,b⟩ | ⟨rfl,S,n,b⟩
  ·obtain⟨f,_,pl,_⟩:=I.list y;refine⟨pl.isList.typeIs,fun a e=>?_⟩;cases e;obtain⟨o,n,e,c,j,_⟩:=pl;exact⟨o,e,j⟩
  ·rcases b with b | ⟨o,f,n,b,k,j,_⟩
   ·obtain⟨_,f,r,o,m,k,n,j,w⟩:=b.ok I.hok;refine⟨⟨o,m,k⟩,fun a e=>?_⟩;cases e;exact⟨o,m,w⟩
   refine⟨⟨o,I.kIn p o b,k⟩,fun a e=>?_⟩;cases e;exact⟨o,I.kIn _ o b,j⟩
  ·have z:∃o,s.heap.get? p=some o/\o.ExactDict:=by
    rcases b with ⟨kvs,b⟩ | ⟨kvs,b⟩
    ·obtain⟨_,_,_,_,o,_,_,e,d,_⟩:=I.hok p _ b;exact⟨o,e,d⟩
    obtain⟨_,_,_,_,o,_,_,e,d,_⟩:=I.hok p _ b;exact⟨o,e,d⟩
   obtain⟨o,e,d⟩:=z;refine⟨⟨o,e,d.1⟩,fun a l=>?_⟩;cases l;exact⟨o,e,d.2.1⟩
  obtain⟨o,_,_,_,e,d,_⟩:=I.hok p _ b;refine⟨⟨o,e,d.1⟩,fun a l=>?_⟩;cases l;exact⟨o,e,d.2.1⟩
 |_=>exact False.elim h
def Vn (K:Frag) (T:String) (r:V->List V->Hp->VK->Prop) (b:TE):TE:=fun c H Q=>b c H fun x a=>tyV K T x a/\r x [] a Q
def tBM (K:Frag) (T:String) (r:V->List V->Hp->VK->Prop) (d:TE) (t:TA):TE:=fun b H Q=>d b H fun x a=>tyV K T x a/\t b a fun xs c=>r x xs c Q
variable {o e:Expr}{es:List Expr}{to:TE}{t:TA}{name:Str}{apos cpos:Pos}{T id:String}{r:V->List V->Hp->VK->Prop}
theorem Mf (t:PlainAttrs T) (d:Slot T name id) (e:typeOf (.builtin id)=pure (.type "method_descriptor")) (l:MtR X id r) (p:PE X o to)
  (c:attributeBase o name X.env (eval o X.env)=eval o X.env:=by rfl) (b:(apos.endLine==cpos.line)=true:=by rfl):PE X (.Call (.Attribute o name apos) [] [] cpos) (Vn X.K T r to):=by
 intro a s f H Q I h;refine wpAny_Call_method0_late c b (thn (p a s f H _ I h) fun v n ⟨x,q,i,g,j,u⟩=>?_);obtain⟨m,k⟩:=zT i g j;exact⟨T,id,t,d,e,m,k,Yx rfl (PySem.evalArgs_none (l a n f q x [] v [] Q i g .nil u))⟩
theorem QZ (J:PlainAttrs T) (g:Slot T name id) (j:typeOf (.builtin id)=pure (.type "method_descriptor")) (B:MtR X id r) (F:PE X o to) (n:PA X (e::es) t)
  (d:attributeBase o name X.env (eval o X.env)=eval o X.env:=by rfl)
  (f:((backTo cpos (starEach (e::es) X.env)).all (fun x=>!x.1)&&(backToKw cpos (keywordEach [] X.env)).all (fun x=>x.1.isSome)
   && decide ((e::es).length+([]:List Keyword).length+(if ([]:List Keyword).isEmpty then 0 else 1)<30))=true:=by rfl)
  (c:(apos.endLine==cpos.line)=true:=by rfl) (p:starEach (e::es) X.env=(false,eval e X.env)::starEach es X.env:=by rfl) (b:(backTo cpos (starEach es X.env)).any (·.1)=false:=by rfl) :
  PE X (.Call (.Attribute o name apos) (e::es) [] cpos) (tBM X.K T r to t):=by
 intro a s i H Q I h;refine wpAny_Call_method_late d f c rfl (thn (F a s i H _ I h) fun v q ⟨x,G,l,k,A,y⟩=>?_);obtain⟨C,z⟩:=zT l k A;refine⟨T,id,J,g,j,C,z,?_⟩;have m:=n cpos a q i G _ l y;rw[p] at m ⊢;refine Yx (by show (false||(backTo cpos (starEach es X.env)).any (·.1))=false;rw[b] <;> rfl) (Calls.evalArgs_plain ?_);exact thn m fun us u ⟨vs,D,L,E,w⟩=>B a u i D x vs v us Q L k E w
/- xs.append(e),list.index on a module's tuple .. are MtR facts of 06m -/
end
def MtM (X:Cx) (id:String) (r:V->List V->Hp->VK->Prop):Prop :=
 ∀(a:List (Addr × Obj)) (s:Shared) (b:St) (H:Hp) (x:V) (xs:List V) (v:Value) (us:List Value) (Q:VK),Inv X a b H s->RelV x v->Vals xs us->r x xs H Q ->
  wpAny (model X.prog X.w) X.A (call (.builtin id) (v::us)) (EP X a b Q) X.xe s
theorem Vals.one {x:V}{us:List Value}(r:Vals [x] us):∃u,us=[u]/\RelV x u:=vals1 r
theorem Vals.zero:∀{us:List Value},Vals [] us->us=[]
 |_,.nil=>rfl
theorem Vals.dropLast {xs:List V}{us:List Value}(h:Vals xs us):Vals xs.dropLast us.dropLast:=by
 induction h with
 |nil=>exact .nil
 |cons r t a =>
 cases t with
 |nil=>exact .nil
 |cons q t'=>exact .cons r a
theorem Vals.eraseIdx:∀{xs:List V}{us:List Value}(i:Nat),Vals xs us->Vals (xs.eraseIdx i) (us.eraseIdx i)
 |_,_,_,.nil=>.nil
 |_,_,0,.cons _ t=>t
 |_,_,i+1,.cons r t=>.cons r (Vals.eraseIdx i t)
theorem Vals.reverse {xs:List V}{us:List Value}(h:Vals xs us):Vals xs.reverse us.reverse:=by
 induction h with
 |nil=>exact .nil
 |cons r t a=>rw[Zj,Zj];exact Vals.append a (.cons r .nil)
theorem Vals.rep {xs:List V}{us:List Value}(h:Vals xs us):∀k:Nat,Vals (List.replicate k xs).flatten (List.replicate k us).flatten
 |0=>.nil
 |k+1=>by
  rw[XC,XC,Xw,Xw]
  exact Vals.append h (Vals.rep h k)
theorem ug {d:Type}(l:List d):l.eraseIdx (l.length - 1)=l.dropLast:=by
 induction l with
 |nil=>rfl
 |cons a r c =>
 cases r with
 |nil=>rfl
 |cons b r =>
  have e:(a::b::r).length - 1=((b::r).length - 1)+1:=by
   have g:(a::b::r).length=r.length+2:=rfl
   have f:(b::r).length=r.length+1:=rfl
   omega
  rw[e,List.eraseIdx_cons_succ,c]
  all_goals rfl
theorem nH {a:Type}:∀(l:List a) (i:Nat),(l.eraseIdx i).length<=l.length
 |[],_=>j_ _
 |_::_,0=>Nat.le_succ _
 |_::r,i+1=>Nat.succ_le_succ (nH r i)
theorem foldl_rep (b:List Value):∀(k:Nat) (a:List Value),
  List.foldl (fun d c=>d++c) a.toArray (List.replicate k b.toArray)=(a++(List.replicate k b).flatten).toArray
 |0,a=>by simp
 |k+1,a=>by
  have e:a.toArray++b.toArray=(a++b).toArray:=by simp
  have f:(a++b)++(List.replicate k b).flatten=a++(List.replicate (k+1) b).flatten:=by
   rw[XC,Xw,t_]
  rw[<- f,<- foldl_rep b k (a++b),<- e,XC,List.foldl_cons]
section
variable {X:Cx}{pins:List (Addr × Obj)}{σ:St}{H:Hp}{s:Shared}{l b:Addr}{xs ys zs:List V}
theorem Inv.lset {a its':List Value}{n:Nat}{f:Array Value->Array Value}{t':Nat}(I:Inv X pins σ H s) (c:H l=some (.lst xs))
  (e:s.heap.get? l=some { cls:=.type "list",data:=.seq a.toArray n}) (b:f a.toArray=its'.toArray) (h:Vals ys its') (hz:ys.length<=sizeLine) :
  Inv X pins σ (upd H l (.lst ys)) { s with heap:=s.heap.update l (Obj.mapSeq f),toks:=t'}:=by
 have q:=PySem.IsL.update e f;rw[b] at q;refine I.write (x:=l) (e:=l) (by rw[c];exact trivial) (.inl rfl) (fun i u d g=>(Xv s.heap (Obj.mapSeq f) (Ne.symm d)).trans g) ⟨_,q⟩ ?_;exact⟨hz,its',_,h,q⟩
theorem Inv.lnew {a:List Value}{t':Nat}(I:Inv X pins σ H s) (b:Vals ys a) (hz:ys.length<=sizeLine) :
  Inv X pins σ (upd H s.heap.objs.size (.lst ys)) { s with heap:=s.heap.push { cls:=.type "list",data:=.seq a.toArray},toks:=t'} :=
 I.laid (fun _ _ q=>e_ _ q) (j_ _) ⟨hz,a,0,b,C_ _ rfl⟩
theorem Inv.fresh (I:Inv X pins σ H s):H s.heap.objs.size=none:=I.hok.fresh (j_ _)
theorem Inv.lstM (I:Inv X pins σ H s) (b:H l=some (.lst xs)):xs.length<=sizeLine/\∃(a:List Value) (n:Nat),Vals xs a/\xs.length=a.length/\s.heap.get? l=some { cls:=.type "list",data:=.seq a.toArray n}:=by
 obtain⟨z,a,n,r,e⟩:=I.hok l _ b;exact⟨z,a,n,r,r.length,e⟩
theorem zU {n:Nat}(h:n<=sizeLine):Builtin.List.listTooLong n=false:=by
 unfold Builtin.List.listTooLong;exact A_ (by omega)
def Fx:V->List V->Hp->VK->Prop:=fun x vs H Q=>∃l xs y,x=.ref l/\vs=[y]/\H l=some (.lst xs)/\xs.length<sizeLine/\Q .non (upd H l (.lst (xs++[y])))
theorem yu:MtM X "list.append" Fx:=by
 intro c s i H x vs v us Q I g f h;obtain⟨l,xs,y,rfl,rfl,b,hz,q⟩:=h;cases g;obtain⟨u,rfl,d⟩:=f.one;obtain⟨z,a,n,r,j,e⟩:=I.lstM b;refine Zx F.slot_list_append ⟨_,e,rfl⟩ F.entry_list_append (F.args_list_append_2 _ _) (list_append l a.toArray n u (by rw[l_];omega)) ⟨e,?_⟩;refine⟨.non,_,I.lset (its':=a++[u]) b e (by simp) (r.append (.cons d .nil)) ?_,rfl,q⟩;rw[a_,L_];omega
def Vo:V->List V->Hp->VK->Prop:=fun x vs H Q=>∃l xs y,x=.ref l/\vs=[]/\H l=some (.lst xs)/\xs[xs.length - 1]?=some y/\Q y (upd H l (.lst xs.dropLast))
theorem Mg:MtM X "list.pop" Vo:=by
 intro f s p H x vs v us Q I j i h;obtain⟨l,xs,y,rfl,rfl,d,k,q⟩:=h;cases j;have c:=i.zero;subst c;obtain⟨z,a,n,r,m,e⟩:=I.lstM d;obtain⟨u,o,g⟩:=r.get k;have b:a.toArray[a.toArray.size - 1]?=some u:=by show a.toArray[a.length - 1]?=some u;rw[<- Wq,<- m];exact o
 refine Zx F.slot_list_pop ⟨_,e,rfl⟩ F.entry_list_pop (F.args_list_pop_1 _) (MeetsSeq.list_pop_last l a.toArray n u b (by rw[l_];omega)) ⟨e,?_⟩;refine⟨y,_,I.lset (its':=a.dropLast) d e ?_ r.dropLast ?_,g,q⟩
 ·show a.toArray.eraseIdxIfInBounds (a.toArray.size - 1)=a.dropLast.toArray;rw[l_,List.eraseIdxIfInBounds_toArray,ug]
 rw[List.length_dropLast];omega
def Mh:V->List V->Hp->VK->Prop:=fun x vs H Q=>∃l xs i k y,x=.ref l/\vs=[.int i]/\H l=some (.lst xs) /\ -(2^63)<=i/\i<2^63/\seqIndex? i xs.length=some k/\xs[k]?=some y/\Q y (upd H l (.lst (xs.eraseIdx k)))
theorem zV:MtM X "list.pop" Mh:=by
 intro d s D H x vs v us Q I m j h;obtain⟨l,xs,i,k,y,rfl,rfl,c,p,f,o,A,q⟩:=h;cases m;obtain⟨u,rfl,g⟩:=j.one;obtain⟨t,rfl⟩:=g;obtain⟨z,a,n,r,B,e⟩:=I.lstM c;obtain⟨w,C,b⟩:=r.get A;refine Zx F.slot_list_pop ⟨_,e,rfl⟩ F.entry_list_pop (F.args_list_pop_2 _ _)
  (MeetsSeq.list_pop_at l a.toArray n i t k w (fitsIndex_both p f) (by rw[l_,<- B];exact o) (by rw[<- Wq];exact C) (by rw[l_];omega)) ⟨e,?_⟩
 refine⟨y,_,I.lset (its':=a.eraseIdx k) c e ?_ (r.eraseIdx k) ?_,b,q⟩
 ·show a.toArray.eraseIdxIfInBounds k=(a.eraseIdx k).toArray;rw[List.eraseIdxIfInBounds_toArray]
 have:=nH xs k;omega
def Vp:R2:=fun x y H Q=>∃l b xs a,x=.ref l/\y=.ref b/\H l=some (.lst xs)/\H b=some (.lst a)/\xs.length+a.length<=sizeLine/\∀p,H p=none->Q (.ref p) (upd H p (.lst (xs++a)))
theorem op_cat:OpR X (binaryOp .Add) Vp:=by
 intro d s w H x y v u Q I i j h;obtain⟨l,b,xs,t,rfl,rfl,m,k,hz,q⟩:=h;cases i;cases j;obtain⟨z,c,n,r,A,e⟩:=I.lstM m;obtain⟨C,a,B,p,f,o⟩:=I.lstM k;refine PySem.P.add_list e o ?_ (by rw[l_,l_];omega);have g:c.toArray++a.toArray=(c++a).toArray:=by simp
 rw[g];exact⟨.ref _,_,I.lnew (t':=s.toks) (r.append p) (by rw[a_];omega),rfl,q _ I.fresh⟩
def Vq:R2:=fun x y H Q=>∃l k xs,x=.ref l/\y=.int k/\H l=some (.lst xs) /\ -(2^63)<=k/\k<2^63/\xs.length*k.toNat<=sizeLine /\
 ∀p,H p=none->Q (.ref p) (upd H p (.lst (List.replicate k.toNat xs).flatten))
theorem len_rep {b:Type}(xs:List b) (k:Nat):(List.replicate k xs).flatten.length=k*xs.length:=by
 induction k with
 |zero=>simp
 |succ k a=>rw[XC,Xw,a_,a,Nat.succ_mul,Nat.add_comm]
theorem Mi:OpR X (binaryOp .Mult) Vq:=by
 intro p s J H x y v u Q I A C h;obtain⟨l,k,xs,rfl,rfl,D,B,w,hz,q⟩:=h;cases A;obtain⟨t,rfl⟩:=C;obtain⟨z,b,n,r,E,e⟩:=I.lstM D;have d:b.toArray.size*k.toNat<=sizeLine:=by rw[l_,<- E];exact hz
 have g:¬b.toArray.size*k.toNat>(2^63 - 1) / 8:=by
  have:(sizeLine:Nat)<=(2^63 - 1) / 8:=by decide
  omega
 have i:¬(!Builtin.List.listFitsIndex k)=true:=by rw[fitsIndex_both B w];exact m_
 have c:¬Builtin.List.listTooLong (b.toArray.size*k.toNat)=true:=by rw[zU d];exact m_
 have f:List.foldl (fun o j=>o++j) #[] (List.replicate (if b.toArray.isEmpty=true then 0 else k.toNat) b.toArray)=(List.replicate k.toNat b).flatten.toArray:=by
  have G:∀m:Nat,List.foldl (fun o j=>o++j) #[] (List.replicate m b.toArray)=(List.replicate m b).flatten.toArray:=fun m=>by have:=foldl_rep b m [];rw[Yb] at this;exact this
  rw[G];cases b with
  |nil=>simp
  |cons a K=>rw[if_neg (by simp)]
 refine wpAny_binaryOp_repeat_ref (T:="list") (U:="int") (by decide) ⟨_,e,rfl⟩ (fun s'=>typeIs_int s' k t) noFill_list_mul F.fills_int_mul F.slot_int_rmul repeat_list F.slot_int_index.lookup
  (Zx F.slot_int_rmul (typeIs_int s k t) F.entry_int_rmul (F.args_int_rmul_2 _ _) (int___rmul___int_list k t l b.toArray n)
   ⟨e,rfl,⟨_,e,rfl⟩,Zx F.slot_list_mul ⟨_,e,rfl⟩ F.entry_list_mul (F.args_list_mul_2 _ _) (AutoListH.list___mul___list_int_3 l b.toArray n k t i g c) ⟨e,?_⟩⟩)
 rw[f];exact⟨.ref _,_,I.lnew (t':=s.toks) (r.rep k.toNat) (by rw[len_rep,Nat.mul_comm];exact hz),rfl,q _ I.fresh⟩
variable {prog:Program}{w:World}{A:Around}{E:Value->Shared->Prop}
set_option maxRecDepth 100000 in
end
section
variable {κ:Type} [DecidableEq κ]
def eN (kvs:List (κ × V)) (k:κ):Option V:=(kvs.find? fun a=>decide (a.1=k)).map (·.2)
def putK (kvs:List (κ × V)) (k:κ) (v:V):List (κ × V) :=
 if (kvs.any fun a=>decide (a.1=k))=true then kvs.map (fun a=>if a.1=k then (a.1,v) else a) else kvs++[(k,v)]
theorem fC {p:κ × V}{r:List (κ × V)}{k:κ}(e:p.1=k):eN (p::r) k=some p.2:=by simp [eN,YB,e]
theorem fG {p:κ × V}{r:List (κ × V)}{k:κ}(e:¬p.1=k):eN (p::r) k=eN r k:=by simp [eN,YB,e]
theorem qH (k:κ):∀kvs:List (κ × V),(kvs.any fun a=>decide (a.1=k))=(eN kvs k).isSome
 |[]=>rfl
 |p::r=>by
  rw[Zc]
  by_cases e:p.1=k
  ·
   simp only[fC e,F_ e,Bool.true_or,Option.isSome_some]
  ·
   rw[fG e,A_ e,Bool.false_or];exact qH k r
theorem eQ (kvs:List (κ × V)) (k:κ) (v:V):(putK kvs k v).length<=kvs.length+1:=by
 unfold putK;split
 ·rw[g_];omega
 rw[a_,i_,Xn];omega
theorem RelO.isSome_eq {o:Option V}{u:Option Value}(r:RelO o u):o.isSome=u.isSome:=by
 cases o with
 |none=>cases u with
  |none=>rfl
  |some _=>exact (show False from r).elim
 |some _=>cases u with
  |none=>exact (show False from r).elim
  |some _=>rfl
theorem KV.val {kvs:List (κ × V)}{vs:List (κ × Value)}(r:KV kvs vs) (k:κ):RelO (eN kvs k) (valueAt vs k):=by
 unfold KV at r;induction r with
 |nil=>exact True.intro
 |@cons p q ps a h t g =>
 obtain⟨d,f⟩:=h;by_cases e:p.1=k
 ·have c:q.1=k:=d.symm.trans e;have b:valueAt (q::a) k=some q.2:=by simp [valueAt,YB,c]
  rw[fC e,b];exact f
 have c:¬q.1=k:=fun z=>e (d.trans z);have b:valueAt (q::a) k=valueAt a k:=by simp [valueAt,YB,c]
 rw[fG e,b];exact g
theorem KV.any {kvs:List (κ × V)}{vs:List (κ × Value)}(r:KV kvs vs) (k:κ):(kvs.any fun a=>decide (a.1=k))=vs.any fun a=>decide (a.1=k):=by
 unfold KV at r;induction r with
 |nil=>rfl
 |cons h t b=>rw[Zc,Zc,b,h.1]
theorem KV.repl {kvs:List (κ × V)}{vs:List (κ × Value)}(r:KV kvs vs) (k:κ) {y:V}{u:Value}(f:RelV y u) :
  KV (kvs.map fun a=>if a.1=k then (a.1,y) else a) (vs.map fun a=>if a.1=k then (a.1,u) else a):=by
 unfold KV at r ⊢;induction r with
 |nil=>exact .nil
 |@cons p q ps g h t d =>
 rw[B_,B_];refine .cons ?_ d;obtain⟨b,c⟩:=h;by_cases e:p.1=k
 ·rw[if_pos e,if_pos (b.symm.trans e)];exact⟨b,f⟩
 rw[if_neg e,if_neg (fun z=>e (b.trans z))];exact⟨b,c⟩
theorem KV.put {kvs:List (κ × V)}{vs:List (κ × Value)}(r:KV kvs vs) (k:κ) {y:V}{u:Value}(a:RelV y u):KV (putK kvs k y) (stored vs k u):=by
 unfold putK stored;rw[r.any k];by_cases e:(vs.any fun b=>decide (b.1=k))=true
 ·rw[if_pos e,if_pos e];exact r.repl k a
 rw[if_neg e,if_neg e];exact Paired.snoc r ⟨rfl,a⟩
theorem KV.length {kvs:List (κ × V)}{vs:List (κ × Value)}(r:KV kvs vs):kvs.length=vs.length:=YF r
end
theorem kJ {P:Program}{w:World}{k:Key}{u:Value}(r:RelV (kV k) u):(bK P w).is k u=true:=by
 cases k with
 |inl i=>obtain⟨t,e⟩:=(show ∃t,u=Value.int i t from r);subst e;exact qx P w i t
 |inr x=>obtain⟨t,e⟩:=(show ∃t,u=Value.str x t from r);subst e;exact qy P w x t
theorem nM {P:Program}{w:World}:∀{a:List Key}{us:List Value},Vals (a.map kV) us->ItemsAre (bK P w) a us
 |[],_,r=>by rw[WW] at r;cases r;exact .nil
 |k::a,_,r=>by
  rw[B_] at r
  cases r with
  |cons h t=>exact .cons (kJ h) (nM t)
abbrev KT (H:Hp):List (List Key × V)->List (List Key × Addr × Value)->Prop:=Paired fun p q=>p.1=q.1/\H q.2.1=some (.tup (p.1.map kV))/\RelV p.2 q.2.2
theorem KT.val {H:Hp}{kvs:List (List Key × V)}{xs:List (List Key × Addr × Value)}(r:KT H kvs xs) (k:List Key):RelO (eN kvs k) ((atKey xs k).map (·.2)):=by
 induction r with
 |nil=>exact True.intro
 |@cons p q ps a h t g =>
 obtain⟨d,_,f⟩:=h;by_cases e:p.1=k
 ·have c:q.1=k:=d.symm.trans e;have b:atKey (q::a) k=some q.2:=by simp [atKey,YB,c]
  rw[fC e,b];exact f
 have c:¬q.1=k:=fun z=>e (d.trans z);have b:atKey (q::a) k=atKey a k:=by simp [atKey,YB,c]
 rw[fG e,b];exact g
theorem KT.repl {H:Hp}{kvs:List (List Key × V)}{xs:List (List Key × Addr × Value)}(r:KT H kvs xs) (k:List Key) {y:V}{u:Value}(g:RelV y u) :
  KT H (kvs.map fun b=>if b.1=k then (b.1,y) else b) (xs.map (putAt k u)):=by
 induction r with
 |nil=>exact .nil
 |@cons p q ps i h t f =>
 rw[B_,B_];refine .cons ?_ f;obtain⟨a,c,d⟩:=h;unfold putAt;by_cases e:p.1=k
 ·rw[if_pos e,if_pos (a.symm.trans e)];exact⟨a,c,g⟩
 rw[if_neg e,if_neg (fun z=>e (a.trans z))];exact⟨a,c,d⟩
theorem KT.put {H:Hp}{kvs:List (List Key × V)}{xs:List (List Key × Addr × Value)}(r:KT H kvs xs) (k:List Key) {b:Addr}{y:V}{u:Value}(d:H b=some (.tup (k.map kV))) (a:RelV y u) :
  KT H (putK kvs k y) (storedH xs k b u):=by
 have e:(kvs.any fun c=>decide (c.1=k))=(atKey xs k).isSome:=by rw[qH,(r.val k).isSome_eq,Option.isSome_map]
 unfold putK storedH;rw[e];by_cases q:(atKey xs k).isSome=true
 ·rw[if_pos q,if_pos q];exact r.repl k a
 rw[if_neg q,if_neg q];exact Paired.snoc r ⟨rfl,d,a⟩
theorem KT.keeps {H H':Hp}{kvs:List (List Key × V)}{xs:List (List Key × Addr × Value)}(r:KT H kvs xs) (a:∀b ys,H b=some (.tup ys)->H' b=some (.tup ys)):KT H' kvs xs :=
 Paired.mapP r fun _ _ z=>⟨z.1,a _ _ z.2.1,z.2.2⟩
section
variable {P:Program}{w:World}{H:Hp}{h:Heap}{a:Addr}
theorem Jj {u:HO}(b:HOk P w H h) (e:Rd H a u):ObjOk P w H h a u:=e.ok b
theorem nO {kvs:List (Key × V)}(b:HOk P w H h) (e:Rd H a (.dK kvs)):kvs.length<=sizeLine/\(a==sysModules)=false/\∃vs,KV kvs vs/\h.DictOf (bK P w) a vs :=
 show ObjOk P w H h a (.dK kvs) from Jj b e
theorem vO {kvs:List (Key × V)}(b:HOk P w H h) (e:H a=some (.dK kvs)):kvs.length<=sizeLine/\(a==sysModules)=false/\∃vs,KV kvs vs/\h.DictOf (bK P w) a vs:=nO b (.inl e)
theorem kO {c:List Key}(i:HOk P w H h) (e:H a=some (.tup (c.map kV))):(tupleKind (bK P w)).is h c a:=by
 obtain⟨_,b,r,o,g,d,n,f,_⟩:=(show ObjOk P w H h a (.tup (c.map kV)) from i a _ e);exact⟨o,b.toArray,n,g,d,f,by simpa using nM r⟩
theorem nP {kvs:List (List Key × V)}(d:HOk P w H h) (e:Rd H a (.dT kvs)):kvs.length<=sizeLine/\(a==sysModules)=false /\
  ∃xs,KT H kvs xs/\h.DictOfH (tupleKind (bK P w)) a xs:=by
 obtain⟨z,y,xs,r,o,k,ep,j,g,i,u,s⟩:=(show ObjOk P w H h a (.dT kvs) from Jj d e);refine⟨z,y,xs,r,o,k,ep,j,g,i,u,fun x b=>?_,s⟩;have c:∀{l:List (List Key × V)} {m:List (List Key × Addr × Value)},KT H l m->∀x∈m,(tupleKind (bK P w)).is h x.1 x.2.1:=by
  intro l m q;induction q with
  |nil=>intro x b;exact nomatch b
  |@cons p q ps v f t n =>
  intro x b;rcases n_.mp b with e | b
  ·subst e;exact kO d (by rw[<- f.1];exact f.2.1)
  exact n x b
 exact c r x b
theorem Q0 {kvs:List (List Key × V)}(b:HOk P w H h) (e:H a=some (.dT kvs)):kvs.length<=sizeLine/\(a==sysModules)=false /\
  ∃xs,KT H kvs xs/\h.DictOfH (tupleKind (bK P w)) a xs:=nP b (.inl e)
end
def DGet (H:Hp) (a:Addr) (y:V) (r:Option V):Prop :=
 (∃kvs k,Rd H a (.dK kvs)/\y=kV k/\r=eN kvs k)\/∃kvs k b,Rd H a (.dT kvs)/\y=.ref b/\H b=some (.tup (k.map kV))/\r=eN kvs k
def DPut (H:Hp) (a:Addr) (y v:V) (H':Hp):Prop :=
 (∃kvs k,H a=some (.dK kvs)/\y=kV k/\kvs.length<sizeLine/\H'=upd H a (.dK (putK kvs k v))) \/
 ∃kvs k b,H a=some (.dT kvs)/\y=.ref b/\H b=some (.tup (k.map kV))/\kvs.length<sizeLine/\H'=upd H a (.dT (putK kvs k v))
theorem DGet.k {H:Hp}{a:Addr}{kvs:List (Key × V)}{k:Key}(e:H a=some (.dK kvs)):DGet H a (kV k) (eN kvs k):=.inl ⟨kvs,k,.inl e,rfl,rfl⟩
theorem DGet.t {H:Hp}{a b:Addr}{kvs:List (List Key × V)}{k:List Key}(e:H a=some (.dT kvs)) (c:H b=some (.tup (k.map kV))):DGet H a (.ref b) (eN kvs k):=.inr ⟨kvs,k,b,.inl e,rfl,c,rfl⟩
theorem DPut.k {H:Hp}{a:Addr}{kvs:List (Key × V)}{k:Key}{v:V}(e:H a=some (.dK kvs)) (b:kvs.length<sizeLine):DPut H a (kV k) v (upd H a (.dK (putK kvs k v))):=.inl ⟨kvs,k,e,rfl,b,rfl⟩
theorem DPut.t {H:Hp}{a b:Addr}{kvs:List (List Key × V)}{k:List Key}{v:V}(e:H a=some (.dT kvs)) (c:H b=some (.tup (k.map kV))) (d:kvs.length<sizeLine) :
  DPut H a (.ref b) v (upd H a (.dT (putK kvs k v))):=.inr ⟨kvs,k,b,e,rfl,c,d,rfl⟩
section
variable {X:Cx}{pins:List (Addr × Obj)}{σ:St}{H:Hp}{s:Shared}{a:Addr}{y v:V}{u r:Value}{o:Option V}{A:Around}{E:Value->Shared->Prop}
theorem Inv.big (I:Inv X pins σ H s):sysModules<s.heap.objs.size:=by
 have h:mainGlobals<s.heap.objs.size:=(I.mod.glob.keeps I.bk).lt;exact Y8 (by decide) h
theorem yw {Q:Value->Shared->Prop}(x:A.units+1<cLine) (I:Inv X pins σ H s) (g:DGet H a y (some v)) (q:RelV y u) (h:∀f s',Inv X pins σ H s'->RelV v f->Q f s') :
  wpAny (model X.prog X.w) A (getItem (.ref a) u) Q E s:=by
 rcases g with ⟨kvs,k,e,n,l⟩ | ⟨kvs,k,b,e,n,r,l⟩
 ·subst n;obtain⟨z,t,vs,d,j⟩:=nO I.hok e;obtain⟨f,m,c⟩:=RelO.some_of (v:=v) (o:=valueAt vs k) (by rw[l];exact d.val k);exact wpAny_getItem_of (kJ q) j.mapOf m (h f _ (I.tok _) c)
 subst n;cases (show u=Value.ref b from q);obtain⟨z,t,xs,d,j⟩:=nP I.hok e;obtain⟨f,m,c⟩:=RelO.some_of (v:=v) (o:=(atKey xs k).map (·.2)) (by rw[l];exact d.val k);obtain⟨p,B,i⟩:=Option.map_eq_some_iff.mp m;refine wpAny_getItem_heap (Zf x) (kO I.hok r) j B ?_;rw[i];exact h f _ (I.tok _) c
theorem Vr {Q:Value->Shared->Prop}(n:A.units+1<cLine) (I:Inv X pins σ H s) (g:DGet H a y o) (j:RelV y u) (h:∀s',Inv X pins σ H s'->Q (.bool o.isSome) s') :
  wpAny (model X.prog X.w) A (compareOp .In u (.ref a)) Q E s:=by
 rcases g with ⟨kvs,k,e,i,l⟩ | ⟨kvs,k,b,e,i,m,l⟩
 ·subst i;obtain⟨z,d,vs,c,f⟩:=nO I.hok e;refine wpAny_in_of (kJ j) d f.mapOf ?_;rw[<- (c.val k).isSome_eq,<- l];exact h _ (I.tok _)
 subst i;cases (show u=Value.ref b from j);obtain⟨z,d,xs,c,f⟩:=nP I.hok e;refine wpAny_in_heap (Zf n) (kO I.hok m) d f ?_;have q:=(c.val k).isSome_eq;rw[Option.isSome_map] at q;rw[<- q,<- l];exact h _ (I.tok _)
theorem Fy {Q:Value->Shared->Prop}(n:A.units+1<cLine) (I:Inv X pins σ H s) (g:DGet H a y o) (j:RelV y u) (h:∀s',Inv X pins σ H s'->Q (.bool (!o.isSome)) s') :
  wpAny (model X.prog X.w) A (compareOp .NotIn u (.ref a)) Q E s:=by
 rcases g with ⟨kvs,k,e,i,l⟩ | ⟨kvs,k,b,e,i,m,l⟩
 ·subst i;obtain⟨z,d,vs,c,f⟩:=nO I.hok e;refine wpAny_notIn_of (kJ j) d f.mapOf ?_;rw[<- (c.val k).isSome_eq,<- l];exact h _ (I.tok _)
 subst i;cases (show u=Value.ref b from j);obtain⟨z,d,xs,c,f⟩:=nP I.hok e;refine wpAny_notIn_heap (Zf n) (kO I.hok m) d f ?_;have q:=(c.val k).isSome_eq;rw[Option.isSome_map] at q;rw[<- q,<- l];exact h _ (I.tok _)
theorem j5 {h':Heap}{t':Nat}{d:HO}(I:Inv X pins σ H s) (mu:Mut (H a)) (h:Heap.SameBut a s.heap h') (g:∃q,h'.get? a=some q) (c:ObjOk X.prog X.w (upd H a d) h' a d) :
  Inv X pins σ (upd H a d) { s with heap:=h',toks:=t'} :=
 I.write (x:=a) (e:=a) mu (.inl rfl) (fun b q f z=>(h.2 b f).trans z) g c
theorem uh {P:Program}{w:World}{H':Hp}{h':Heap}{kvs:List (Key × V)}{vs:List (Key × Value)}(z:kvs.length<=sizeLine) (d:(a==sysModules)=false) (b:KV kvs vs) (c:h'.DictOf (bK P w) a vs) :
  ObjOk P w H' h' a (.dK kvs):=⟨z,d,vs,b,c⟩
theorem yz {H':Hp}{Q:Unit->Shared->Prop}(G:A.units+1<cLine) (I:Inv X pins σ H s) (g:DPut H a y v H') (C:RelV y u) (x:RelV v r) (h:∀s',Inv X pins σ H' s'->Q () s') :
  wpAny (model X.prog X.w) A (setItem (.ref a) u r) Q E s:=by
 rcases g with ⟨kvs,k,e,n,l,p⟩ | ⟨kvs,k,b,e,n,D,l,p⟩
 ·subst n p;obtain⟨z,o,vs,d,j⟩:=vO I.hok e;have hz:vs.length<=sizeLine:=by rw[<- d.length];exact z
  have t:(putK kvs k v).length<=sizeLine:=by have:=eQ kvs k v;omega
  refine wpAny_setItem_pairs (hsz:=hz) (kJ C) j fun h' f m=>h _ ?_;have L:∃q,h'.get? a=some q:=let ⟨q,_,_,i,_⟩:=f;⟨q,i⟩;exact j5 I (by rw[e];exact True.intro) m L (uh t o (d.put k x) f)
 subst n p;cases (show u=Value.ref b from C);obtain⟨z,o,xs,d,j⟩:=Q0 I.hok e;have hz:xs.length<=sizeLine:=by rw[<- YF d];exact z
 have t:(putK kvs k v).length<=sizeLine:=by have:=eQ kvs k v;omega
 refine wpAny_setItem_heap (hsz:=hz) (Zf G) (kO I.hok D) j fun h' f m=>h _ ?_;obtain⟨q,K,ep,i,N,J,M,_,F⟩:=f;refine j5 I (by rw[e];exact True.intro) m ⟨q,i⟩ ⟨t,o,_,(d.put k D x).keeps fun c O B=>?_,q,K,ep,i,N,J,M,F⟩;rw[aQ (Qe B e (fun z=>nomatch z))];exact B
variable {kvs:List (Key × V)}{k:Key}
end
def Mj (i:Expr):Prop:=∀a b,subscripted i false a b=operate [a,b] (getItem a b)
theorem Fz {prog:Program}{w:World}{A:Around}{E:Value->Shared->Prop}{s:Shared}{env:Env}{b a:Expr}{l:Pos}{T id:String}{Q:Value->Shared->Prop}
  (n:typeLookup (.type T) "__getitem__"=pure (some (.builtin id))) (p:Mj a)
  (h:wpAny (model prog w) A (eval b env) (fun o e=>wpAny (model prog w) A (eval a env) (fun i c=>c.TypeIs o T/\wpAny (model prog w) A (getItem o i) Q E c) E e) E s) :
  wpAny (model prog w) A (eval (.Subscript b a l) env) Q E s:=by
 refine Subscript_ (W_ h (fun o e j=>W_ j (fun i c d=>?_) fun _ _ x=>x) fun _ _ x=>x);obtain⟨m,d⟩:=d;unfold subscriptTail;refine b_ ?_;rw[getitemInPython_of_ne m.not_modules];refine b_ (wpAny_specialOf m n ?_);have g:wpAny (model prog w) A (subscripted a false o i) (fun r f=>wpAny (model prog w) A (letTemporaryGo b o r >>= fun _=>pure r) Q E f) E c:=by rw[p o i];exact wpAny_operating (W_ d (fun r f k=>b_ (wpAny_letTemporaryGo (k_ k))) fun _ _ x=>x)
 first
  |exact k_ (b_ g)
  |exact b_ (k_ (b_ g))
  |exact b_ g
theorem qI {X:Cx}{c:List (Addr × Obj)}{f:St}{H:Hp}{s:Shared}{a:Addr}{y:V}{o:Option V}(I:Inv X c f H s) (g:DGet H a y o):s.TypeIs (.ref a) "dict":=by
 rcases g with ⟨kvs,k,e,_,_⟩ | ⟨kvs,k,b,e,_,_,_⟩
 ·obtain⟨_,_,vs,_,d⟩:=nO I.hok e;exact d.typeIs
 obtain⟨_,_,xs,_,d⟩:=nP I.hok e;exact d.typeIs
def Q4 (f d:TE):TE:=fun b H Q=>f b H fun x e=>d b e fun y c=>∃a v,x=.ref a/\DGet c a y (some v)/\Q v c
def Vs (d f:TE):TE:=fun b H Q=>d b H fun y e=>f b e fun x c=>∃a o,x=.ref a/\DGet c a y o/\Q (.bl o.isSome) c
def FJ (d f:TE):TE:=fun b H Q=>d b H fun y e=>f b e fun x c=>∃a o,x=.ref a/\DGet c a y o/\Q (.bl (!o.isSome)) c
def Q5 (h d f:TE):TS:=fun D b H=>f b H fun v e=>h b e fun x g=>d b g fun y H3=>∃a c,x=.ref a/\DPut H3 a y v c/\D.nx b c
section
variable {X:Cx}{o i e value:Expr}{pos pos' tpos:Pos}{td ty tv:TE}
theorem FN (f:X.A.units+1<cLine) (B:PE X o td) (z:PE X i ty) (j:Mj i):PE X (.Subscript o i pos) (Q4 td ty):=by
 intro b s d H Q I h;refine Fz PySem.F.slot_dict_getitem.lookup j (thn (B b s d H _ I h) fun u k ⟨x,C,w,l,p⟩=>thn (z b k d C _ w p) fun D E ⟨y,r,e,q,a,v,t,g,n⟩=>?_);subst t;obtain rfl:u=Value.ref a:=l;exact⟨qI e g,yw f e g q fun J G m c=>⟨v,r,m,c,n⟩⟩
theorem Ml (d:X.A.units+1<cLine) (r:PE X i ty) (t:PE X o td):PC X .In i o (Vs ty td):=by
 intro b s c H Q I h;refine thn (r b s c H _ I h) fun B e ⟨y,v,q,p,l⟩=>thn (t b e c v _ q l) fun u C ⟨x,n,z,f,a,w,m,g,k⟩=>?_;subst m;obtain rfl:u=Value.ref a:=f;exact Vr d z g p fun D j=>⟨.bl w.isSome,n,j,rfl,k⟩
theorem nQ (d:X.A.units+1<cLine) (r:PE X i ty) (t:PE X o td):PC X .NotIn i o (FJ ty td):=by
 intro b s c H Q I h;refine thn (r b s c H _ I h) fun B e ⟨y,v,q,p,l⟩=>thn (t b e c v _ q l) fun u C ⟨x,n,z,f,a,w,m,g,k⟩=>?_;subst m;obtain rfl:u=Value.ref a:=f;exact Fy d z g p fun D j=>⟨.bl (!w.isSome),n,j,rfl,k⟩
theorem FP (f:X.A.units+1<cLine) (E:PE X o td) (C:PE X i ty) (L:PE X value tv) (j:swapsWith value (some (.Subscript o i pos')) pos.line X.env=pure false) :
  PS X (.Assign [.Subscript o i pos'] value pos) (Q5 td ty tv):=by
 intro b s c H D I h;refine wpAny_Assign_Subscript (thn (L b s c H _ I h) fun r k ⟨v,F,B,d,q⟩=>thn (E b k c F _ B q) fun u m ⟨x,t,G,l,p⟩=>thn (C b m c t _ G p) fun M N ⟨y,H3,n,w,a,K,z,g,J⟩=>?_) j;subst z;obtain rfl:u=Value.ref a:=l;exact yz f n g w d fun O e=>⟨c,K,e,J⟩
end
theorem qJ {P:Program}{w:World}{H:Hp}(h:Heap) (a:sysModules<h.objs.size):ObjOk P w H (h.push { cls:=.type "dict",data:=.dict #[]}) h.objs.size (.dK []) :=
 ⟨Xa _,Xf.mpr (Ne.symm (Wh a)),[],.nil,Heap.DictOf.new h⟩
def Mm:TE:=fun _ H Q=>∀p,H p=none->Q (.ref p) (upd H p (.dK []))
section
variable {X:Cx}{pos:Pos}
theorem zW:PE X (.Dict [] [] pos) Mm:=fun b s c H Q I h =>
 wpAny_Dict_empty ⟨.ref s.heap.objs.size,_,I.laid (a:=s.heap.objs.size) (o:=.dK []) (t':=s.toks) (fun _ _ q=>e_ _ q) (j_ _) (qJ s.heap I.big),rfl,h _ (I.hok.fresh (j_ _))⟩
end
def ul:List (TE × TE)->St->Hp->(List (V × V)->Hp->Prop)->Prop
 |[],_,H,Q=>Q [] H
 | (tk,tv)::r,σ,H,Q=>tk σ H fun x b=>tv σ b fun y a=>ul r σ a fun ps H3=>Q ((x,y)::ps) H3
abbrev VV:List (V × V)->List (Value × Value)->Prop:=Paired fun p q=>RelV p.1 q.1/\RelV p.2 q.2
def PPs (X:Cx) (d:Pos) (c:List (Option Expr)) (a:List Expr) (e:List (TE × TE)):Prop :=
 ∀(b:List (Addr × Obj)) (s:Shared) (f:St) (H:Hp) (Q:List (V × V)->Hp->Prop),Inv X b f H s->ul e f H Q ->
  wpAny (model X.prog X.w) X.A (evalPairs (pairTrees c a X.env d)) (fun vs s'=>∃ps H',Inv X b f H' s'/\VV ps vs/\Q ps H') X.xe s
theorem vP {X:Cx}{a:Pos}:PPs X a [] [] []:=fun b s c H Q I h=>pairTrees_nil_walk ⟨[],H,I,.nil,h⟩
theorem qK {X:Cx}{b:Pos}{k v:Expr}{f:List (Option Expr)}{vs:List Expr}{tk g:TE}{c:List (TE × TE)}(l:PE X k tk) (i:PE X v g) (q:PPs X b f vs c) :
  PPs X b (some k::f) (v::vs) ((tk,g)::c):=fun a s d H Q I h =>
 pairTrees_cons_walk (thn (l a s d H _ I h) fun u j ⟨x,A,z,m,r⟩=>thn (i a j d A _ z r) fun E n ⟨y,w,C,t,p⟩ =>
  thn (q a n d w _ C p) fun ws D ⟨ps,H3,o,e,B⟩=>⟨(x,y)::ps,H3,o,.cons ⟨m,t⟩ e,B⟩)
def iH (kvs a:List (Key × V)):List (Key × V):=a.foldl (fun b c=>putK b c.1 c.2) kvs
theorem KV.merge:∀{a:List (Key × V)}{b:List (Key × Value)}{kvs:List (Key × V)}{vs:List (Key × Value)},KV a b->KV kvs vs->KV (iH kvs a) (merged vs b):=by
 intro a b kvs vs r;unfold KV at r;induction r generalizing kvs vs with
 |nil=>intro q;exact q
 |@cons p q ps f h t c =>
 intro d;have e:KV (putK kvs p.1 p.2) (stored vs q.1 q.2):=by have:=d.put p.1 h.2;rw[<- h.1];exact this
 exact c e
theorem iB:∀(a kvs:List (Key × V)),(iH kvs a).length<=kvs.length+a.length
 |[],kvs=>by show kvs.length<=kvs.length+0;omega
 |p::r,kvs=>by
  have c:=iB r (putK kvs p.1 p.2)
  have b:=eQ kvs p.1 p.2
  show (iH (putK kvs p.1 p.2) r).length<=_
  rw[i_];omega
theorem kW {P:Program}{w:World}:∀{kvs:List (Key × V)}{ws:List (Value × Value)},VV (kvs.map fun e=>(kV e.1,e.2)) ws->∃d,Carries (bK P w) ws d/\KV kvs d
 |[],_,r=>by rw[WW] at r;cases r;exact⟨[],True.intro,.nil⟩
 |p::kvs,_,r=>by
  rw[B_] at r
  cases r with
  |@cons a b i g h t =>
   obtain⟨d,c,q⟩:=kW (P:=P) (w:=w) t
   obtain⟨j,f⟩:=b
   exact⟨(p.1,f)::d,⟨kJ h.1,rfl,c⟩,.cons ⟨rfl,h.2⟩ q⟩
def Q6 (a:List (TE × TE)):TE:=fun d H Q=>∀p,H p=none->ul a d (upd H p (.dK [])) fun ps c=>c p=some (.dK [])/\∃kvs:List (Key × V),ps=kvs.map (fun b=>(kV b.1,b.2))/\kvs.length<=15/\Q (.ref p) (upd c p (.dK (iH [] kvs)))
theorem vQ {X:Cx}{g:Pos}{b:List (Option Expr)}{d:List Expr}{j:List (TE × TE)}(h:PPs X g b d j) (i:b.all (·.isSome)=true) (G:b.length=d.length) (F:b≠[])
  (m:b.length<=15):PE X (.Dict b d g) (Q6 j):=by
 intro k s p H Q I q;have E:=I.hok.fresh (j_ s.heap.objs.size);have C:=I.laid (a:=s.heap.objs.size) (o:=.dK []) (h':=s.heap.push { cls:=.type "dict",data:=.dict #[]}) (t':=s.toks) (fun _ _ q=>e_ _ q) (j_ _) (qJ s.heap I.big);refine wpAny_Dict_walk (knd:=bK X.prog X.w) i G F m (thn (h k _ p _ _ C (q _ E)) fun ws K ⟨ps,L,n,l,e,kvs,ep,M,x⟩=>?_);subst ep;obtain⟨B,c,J⟩:=kW (P:=X.prog) (w:=X.w) l;obtain⟨z,y,u,D,r⟩:=vO n.hok e;cases D;refine⟨B,c,r,fun h' f t=>⟨.ref s.heap.objs.size,_,?_,rfl,x⟩⟩;have hz:(iH [] kvs).length<=sizeLine:=by have A:=iB kvs [];rw[Xn] at A;rw[sizeLine_eq];omega
 have v:∃q,h'.get? s.heap.objs.size=some q:=let ⟨q,_,_,hq,_⟩:=f;⟨q,hq⟩;exact j5 n (by rw[e];exact True.intro) t v (uh hz y (J.merge .nil) f)
structure M2 (X:Cx) (o:Expr) (m:Str) (apos:Pos) (e f:Expr) (cpos:Pos):Prop where
 base:attributeBase o m X.env (eval o X.env)=eval o X.env
 few:((backTo cpos (starEach [e,f] X.env)).all (fun x=>!x.1)&&(backToKw cpos (keywordEach [] X.env)).all (fun x=>x.1.isSome)
  && decide (([e,f]:List Expr).length+([]:List Keyword).length+(if ([]:List Keyword).isEmpty then 0 else 1)<30))=true
 line:(apos.endLine==cpos.line)=true
 trees:backTo cpos (starEach [e,f] X.env)=[(false,eval e X.env),(false,eval f X.env)]
def IsD (H:Hp) (a:Addr):Prop:=(∃kvs,Rd H a (.dK kvs))\/∃kvs,Rd H a (.dT kvs)
theorem zX {X:Cx}{g:List (Addr × Obj)}{k:St}{H:Hp}{s:Shared}{a:Addr}(I:Inv X g k H s) (d:IsD H a) :
  s.TypeIs (.ref a) "dict"/\(∀b,Value.ref a=.ref b->∃c,s.heap.get? b=some c/\c.dict=none)/\(a==sysModules)=false:=by
 rcases d with ⟨kvs,e⟩ | ⟨kvs,e⟩
 ·obtain⟨_,j,vs,_,f⟩:=nO I.hok e;refine⟨f.typeIs,fun b q=>?_,j⟩;cases q;obtain⟨c,_,_,i,h,_⟩:=f;exact⟨c,i,h.2.1⟩
 obtain⟨_,j,xs,_,f⟩:=nP I.hok e;refine⟨f.typeIs,fun b q=>?_,j⟩;cases q;obtain⟨c,_,_,i,h,_⟩:=f;exact⟨c,i,h.2.1⟩
section
variable {X:Cx}{pins:List (Addr × Obj)}{σ:St}{H:Hp}{s:Shared}{a:Addr}{y d:V}{u r:Value}{o:Option V}{A:Around}{E:Value->Shared->Prop}
end
section
variable {X:Cx}{o e f:Expr}{apos cpos:Pos}{td ty tx:TE}
variable {pins:List (Addr × Obj)}{σ:St}{H:Hp}{s:Shared}{a:Addr}{kvs:List (Key × V)}{A:Around}{E:Value->Shared->Prop}
variable {y:V}{u:Value}
end
end L2
namespace Att
open PySem PySem.W PySem.Calls PyProof.Rows
theorem jX {P:Params}{h:Heap}:∀(ns:List Int) (vs:List Value),WellAll P h vs (ns.map WData.int)->IntsAre vs ns:=by
 intro ns;induction ns with
 |nil=>intro vs w;rw[WW] at w;cases w;exact .nil
 |cons n ns c =>
 intro vs w;rw[B_] at w;cases w with
 |cons a b =>
 cases a;exact .cons _ _ (c _ b)
theorem yC {l:OpenLaw}{n:Nat}(u:l.most=some n) {P:Params}{h:Heap}{args:List WData}{b:List Value}
  (c:l.row.toRowW.claim.pre args=true) (k:WellAll P h b args) :
  ∃a vs ns,b=[Value.ref a]/\args=[WData.list (ns.map WData.int)]/\h.get? a=some { cls:=.type "list",data:=.seq vs.toArray}/\IntsAre vs ns/\ns.length<=n:=by
 have j:WShape.hasAll [] args [.list .int]=true:=(pre_splitW c).1;have m:l.pre.holds [] { args:=args}=true:=(pre_splitW c).2;obtain⟨d,r,rfl,t,o⟩:=hasAllW_cons j;obtain rfl:=hasAllW_nil o;obtain⟨xs,rfl,s⟩:=hasW_list t;obtain⟨ns,rfl⟩:=items_int s;have f:ns.length<=n:=by
  unfold OpenLaw.pre at m;have i:(WTm.not (.lt (.lit (.int (n:Int))) (.len (.arg 0)))).holds [] { args:=[.list (ns.map .int)]}=true:=by have i:=(holds_andW m).1;rw[u] at i;exact i
  have g:=condW_of i (w_not (w_lt w_lit (w_len_list (w_arg rfl))));rw[g_] at g;refine Nat.le_of_not_lt fun q=>?_;have v:(n:Int)<((ns.length:Nat):Int):=by omega
  first
   | (rw[F_ v] at g;exact absurd g (by decide))
   | (simp at g;omega)
 cases k with
 |cons x w =>
 cases w;cases x with
 |list p e=>exact⟨_,_,ns,rfl,rfl,p,jX ns _ e,f⟩
theorem yD (l:OpenLaw) (args:List WData):l.row.toRowW.claim.post args (.bool true) args=true :=
 postW_of (r:=l.row.toRowW) (X:=(true==true))
  (show WShape.has [] (.bool true) .bool=true by first | rfl | decide | simp [WShape.has,WShape.arms,WShape.armsAll])
  (show (WTm.eq .res (.lit (.bool true))).value [] { args:=args,res:=some (.bool true),after:=args}=some (.bool (true==true)) from w_eq_bool (w_res rfl) w_lit) rfl
theorem attach_call {l:OpenLaw}{n:Nat}{q:Program}{loose:List Str}{XP:(Str->Option Value)->Heap->Prop}{YP:World->Heap->Prop}{d:DefRec}
  (P:l.most=some n) (z:d.params.defaults=[])
  (h:∀(w:World) (c b:Shared) (p u:Str->Option Value) (i:Addr) (o:Obj) (y s e:Value) (a:Addr) (vs:List Value) (ns:List Int),
   Ground q loose [] XP w c p u b.heap->YP w b.heap ->
   b.heap.get? i=some o->o.data=.func (docDef d.name d.params d.body d.scope y s e)->b.heap.CodeRec s d.name->p d.name=some (.ref i) ->
   b.heap.get? a=some { cls:=.type "list",data:=.seq vs.toArray}->IntsAre vs ns->ns.length<=n->b.gens=#[] ->
   codeAny (model l.prog w) callerA (.call (.ref i) ⟨[.ref a],[]⟩) (fun r s'=>r=.ok (.ret (.bool true))/\OldK b.heap s'.heap/\s'.os=b.os/\AllBare s'.gens) b) :
  WalkO q loose XP YP l.row.toRowW d [] (fun f vs=>PySem.call f vs):=by
 intro w c b p u G Y i o y s e E kV Q K v C t M D B R k A J x H;obtain rfl:E=.none:=Dflts.none C z;obtain rfl:kV=.none:=Dflts.noKw C;obtain⟨a,vs,ns,rfl,rfl,j,g,m⟩:=yC P k x;refine enter_call (Y7 (h w c b p u i o y s e a vs ns G Y Q (fd_plain K) v t j g m M) fun r s' F=>?_);obtain⟨rfl,N,I,L⟩:=F;exact⟨.inl ⟨.bool true,.bool true,[],rfl,fun _=>rfl,.bool true,yD l _,fun _=>⟨List.Pairwise.nil,fun _ O=>(nomatch O)⟩⟩,N,I,L⟩
section
variable {prog:Program}{w:World}{A:Around}{E:Value->Shared->Prop}{s:Shared}{K:Frag}
def ledger (h : Heap) (L d : Addr) : List (Addr × Obj):=(List.range h.objs.size).filterMap fun a => if a = L \/ a = d then none else (h.get? a).map fun o => (a,o)
end
end Att
namespace L2
theorem nR:∀{vs:List Value}{ns:List Int},IntsAre vs ns->Vals (ns.map V.int) vs
 |_,_,.nil=>.nil
 |_,_,.cons n t h=>.cons ⟨t,rfl⟩ (nR h)
def Only (H:Hp):Prop:=∀b,H b=none\/∃o xs,H b=some (.frz o (.lst xs))
theorem zY {P:Program}{w:World}{K:Frag}{p L:Str->Option Value}{CX:CXT}{k:Nat}{O a:Addr}{Y:FuncData}{x:Str}{sp:Sp}{c:Shared}{vs:List Value}{ns:List Int}
  (X:K.In c.heap) (I:c.heap.Ns mainGlobals p) (g:c.heap.Ns builtinsNs L) (M:∀x:Str,x≠"__name__"->L x=bootBuiltins x) (B:c.heap.NoLimit) (hg:c.gens=#[])
  (J:c.heap.get? a=some { cls:=.type "list",data:=.seq vs.toArray}) (hi:IntsAre vs ns) (hl:ns.length<=sizeLine) (hr:Room k callerA)
  (F:∀base:Heap,K.In base->base.Ns mainGlobals p->FnOk P w K p base CX k O Y [x] sp) (l:∀(s:Shared) (u:Value),BindsTo s Y ⟨[u],[]⟩ [(x,u)])
  (T:∀H:Hp,Only H->SqL K H a (ns.map V.int)->sp [.ref a] H (fun v _=>v=.bl true) fun _ _ _=>False)
  (R:∀H e s',CX [] H c (fun _ _ _=>False) e s'->False) :
  codeAny (model P w) callerA (.call (.ref O) ⟨[.ref a],[]⟩) (fun r s'=>r=.ok (.ret (.bool true))/\OldK c.heap s'.heap/\s'.os=c.os/\AllBare s'.gens) c:=by
 have U:=nR hi;have D:=hi.length
 have j:∀H:Hp,Only H->SqL K H a (ns.map V.int)->HOk P w H c.heap->(∀b,H b≠none->b=a)->(H a≠none->K.lookup a=none) ->
   codeAny (model P w) callerA (.call (.ref O) ⟨[.ref a],[]⟩) (fun r s'=>r=.ok (.ret (.bool true))/\OldK c.heap s'.heap/\s'.os=c.os/\AllBare s'.gens) c:=by
  intro H hO hS C hA hK
  have f:∀{b:Addr} {o:Obj},c.heap.get? b=some o->H b=none->(oU c.heap H).get? b=some o:=fun e n=>zz e n
  have S:∀{b:Addr} {o:Obj} {t:Array DictEntry} {ep:Nat},c.heap.get? b=some o->o.data=.dict t ep->H b=none:=fun {b o t ep} e d=>by
   cases q:H b with
   |none=>rfl
   |some u =>
    have N:b=a:=hA b (by rw[q];simp)
    subst N
    rw[J] at e;cases e
    have d':Data.seq vs.toArray _=Data.dict t ep:=d
    cases d'
  have i:∀{b:Addr} {m:Str->Option Value},c.heap.Ns b m->(oU c.heap H).Ns b m:=fun {b m} ⟨o,t,ep,e,d,r⟩=>⟨o,t,ep,f e (S e d),d,r⟩
  have E:K.In (oU c.heap H):=fun b o e=>f (X b o e) (by
   cases q:H b with
   |none=>rfl
   |some u =>
    have N:b=a:=hA b (by rw[q];simp)
    subst N
    rw[hK (by rw[q];simp)] at e;cases e)
  have hM:Mod K p (oU c.heap H):=⟨E,i I,⟨L,i g,M⟩,let ⟨mc,h1,h2⟩:=B;⟨mc,i h1,h2⟩⟩
  have e0:Env0 P w K p (oU c.heap H) callerA [] c H:=⟨rfl,hM,fun b o e=>En e,Yw (ye _ _),trivial,fun b g=>absurd (show b∈([]:List Addr) from g) (by simp),C,.of_eq hg⟩
  refine Y7 ((F _ E (i I)).run callerA [] c H ⟨[.ref a],[]⟩ [.ref a] [.ref a] _ _ hr e0 (l c (.ref a)) (.cons rfl .nil) (T H hO hS)) fun r s' h=>?_
  cases r with
  |error e=>exact (R H e s' h).elim
  |ok fl =>
   cases fl with
   |next=>exact False.elim h
   |brk=>exact False.elim h
   |cont=>exact False.elim h
   |ret u =>
    obtain⟨v,H',os,A,Z,y,r',q⟩:=h
    have q':v=.bl true:=q
    subst q'
    obtain rfl:u=Value.bool true:=r'
    refine⟨rfl,OldK.of_keep fun b o e=>?_,os,A⟩
    cases q:H b with
    |none=>exact Z.keep b o e q (by intro z;exact absurd (show b∈([]:List Addr) from z) (by simp)) (by simp)
    |some u =>
     rcases hO b with z | ⟨ob,xs,z⟩
     ·
      rw[q] at z;cases z
     ·
      have z2:=Z.frzs b ob _ z
      obtain⟨W,_⟩:=C b _ z
      obtain⟨e2,_⟩:=y b _ z2
      rw[e] at W;cases W
      exact e2
 cases Q:K.lookup a with
 |some o =>
  have e:=X a o Q
  rw[J] at e
  cases e
  refine j (fun _=>none) (fun _=>.inl rfl) (.inr ⟨_,vs.toArray,_,Q,rfl,rfl,rfl,by rw[l_,D];exact hl,by simpa using U⟩) (fun b u z=>by have G:(none:Option HO)=some u:=z;cases G) (fun b z=>absurd rfl z) fun z=>absurd rfl z
 |none =>
 refine j (fun b=>if b=a then some (.frz { cls:=.type "list",data:=.seq vs.toArray} (.lst (ns.map V.int))) else none) (fun b=>?_) (.inl (.inr ⟨{ cls:=.type "list",data:=.seq vs.toArray},if_pos rfl⟩)) (fun b u z=>?_) (fun b z=>?_) fun _=>Q
 ·by_cases g:b=a
  ·exact .inr ⟨_,_,if_pos g⟩
  exact .inl (if_neg g)
 ·by_cases g:b=a
  ·have G:=(if_pos g).symm.trans z;cases G;subst g;exact⟨J,by rw[g_];exact hl,vs,_,U,J⟩
  have G:=(if_neg g).symm.trans z;cases G
 by_cases g:b=a
 ·exact g
 exact absurd (if_neg g) z
abbrev KOf {K:Frag}{h:Heap}(_:K.In h):Frag:=K
theorem walk_of {l:PySem.W.OpenLaw}{n k:Nat}{q:Program}{loose:List Str}{XP:(Str->Option Value)->Heap->Prop}{YP:World->Heap->Prop}{d:DefRec}{K:Params->Frag}{CX:World->CXT}{sp:World->Sp}{x:Str}
  (P:l.most=some n) (A:n<=sizeLine) (C:d.params.defaults=[]) (L:Room k callerA)
  (O:∀(w:World) (h:Heap),YP w h->(K w.params).In h)
  (F:∀(w:World) (j:Str->Option Value) (r:Addr) (h:Heap),(K w.params).In h->h.Ns mainGlobals j->j d.name=some (.ref r) ->
   ∃y:FuncData,(∀(s:Shared) (u:Value),BindsTo s y ⟨[u],[]⟩ [(x,u)]) /\
    ∀base:Heap,(K w.params).In base->base.Ns mainGlobals j->FnOk l.prog w (K w.params) j base (CX w) k r y [x] (sp w))
  (B:∀(w:World) (H:Hp) (a:Addr) (ns:List Int),ns.length<=n->Only H->SqL (K w.params) H a (ns.map V.int)->sp w [.ref a] H (fun v _=>v=.bl true) fun _ _ _=>False)
  (z:∀(w:World) (H:Hp) (s:Shared) (e:Value) (s':Shared),CX w [] H s (fun _ _ _=>False) e s'->False) :
  PySem.W.WalkO q loose XP YP l.row.toRowW d [] (fun f vs=>PySem.call f vs):=by
 refine Att.attach_call P C fun w D m j U r o pm X I a vs ns G Y ho Z N t p i c M=>?_;have E:=O w _ Y;obtain⟨y,S,J⟩:=F w j r _ E G.T.g t;exact zY E G.T.g G.T.b G.T.builtins G.T.nolimit M p i (Wc c A) L J S (fun H Q R=>B w H a ns c Q R) fun H e s'=>z w H m e s'
end L2
/- THE LAST THEOREM (shape;LID,My.* are yours):
  My.Adr: a structure of the addresses that your layer names (classes,functions);My.Txt K t: a structure (Prop) of the equations over K;
  My.txt_mk:{K} {implicit addresses ..} (e1:nsIn K mainGlobals "law"=some (some (.ref f))) (e2:K.lookup f=some ⟨oc,od,.func (fnOf "law" "law" params body scope dV kV doc pm an cdv ct),sl⟩) (e3:codeIn K cdv "law"=true) .. : ∃t,My.Txt K t
set_option maxRecDepth 100000 in
set_option maxHeartbeats 0 in
theorem PySem.Challenge.cw_LID_holds : PySem.Challenge.rw_LID.Holds := by
 w_on;o_law;k_head;(case hw=>w_witness2)
 k_fill
 refine L2.walk_of (l:=PySem.Challenge.rw_LID) (n:=63) (k:=40) (x:="script") (CX:=fun w=>..) (sp:=fun _=>My.sp_law) rfl (by decide) rfl ⟨rfl,by decide,by decide⟩ (fun w h Y=>PySem.W.kIn_of Y) ?F ?S ?C
 case F =>
  intro w j f h e G c
  have T:∃t,My.Txt (L2.KOf e) t:=by
   dsimp only[L2.KOf]                          -- K must stand as «<heap const> w.params» for k_is
   refine' My.txt_mk ?e1 ?e2 ?e3 ..
   (case e1=>PySem.W.k_is)                    -- in the order: a name->its address->its object->its parts
   (case e2=>PySem.W.k_is)
   ..
  obtain⟨t,T⟩:=T
  have g:=c.symm.trans (mg_of e G T.law)
  cases g                                       -- f is the law's own address
  exact⟨_,fun s u=>.of_eq rfl,fun base d nb=>My.law_fn T d nb⟩     -- if «.of_eq rfl» comes too early: refine'⟨_,?b,fun base d nb=>My.law_fn T d nb⟩;exact fun s u=>.of_eq rfl
 case S=>exact fun w H a ns m o i=>..
 case C=>exact ..
(the tactic k_is has no namespace: write k_is) -/
namespace L2
abbrev CX0:CXT:=fun _ _ _ _ _ _=>False
abbrev E0:XK:=fun _ _ _=>False
theorem zZ {X:Cx}:jz CX0 X E0:=fun _ _ _ _ _ _ _ h=>h.elim
structure Fun (K:Frag) (x qual:Str) (st:Stmt) (f:Addr) (fd:FuncData):Prop where
 ex:∃(oc:Value) (od:Option Addr) (kV doc pm:Value) (an:Option Addr) (cdv ct:Value) (osl:Array (Option Value)),
  fd=fnOf x qual (bZ st) (bN st) (aA st) .none kV doc pm an cdv ct/\K.lookup f=some ⟨oc,od,.func fd,osl⟩/\codeIn K cdv qual=true
 kp:keepIn K (.ref f)=true
section
variable {P:Program}{w:World}{K:Frag}{mg:Str->Option Value}{base:Heap}
theorem Fun.ok {x b:Str}{st:Stmt}{f:Addr}{j:FuncData}{N ps:List Str}{k:Nat}{sp:Sp}(F:Fun K x b st f j) (S:FnScope N ps (aA st)) (g:∀vs H Q E,sp vs H Q E->vs.length=ps.length)
  (d:∀(c:Value) (A:Around) (a:List Env) (s:Shared) (H:Hp) (vs:List V) (Q:VK) (E:XK),Room k (A.deeper (envOfC b (aA st) s.heap.objs.size f c))->sp vs H Q E ->
   ∃t,PSs (t7 CX0 P w K mg base N b (aA st) f c A a s H E).nox (bN st) t/\t { nx:=fun _ H'=>Q .non H',rt:=Q} (start N vs) H):FnOk P w K mg base CX0 (k+1) f j ps sp:=by
 obtain⟨oc,od,kV,l,r,p,c,o,osl,rfl,m,i⟩:=F.ex;refine QM m i S g fun A a s H vs Q E n e=>?_;obtain⟨t,h,q⟩:=d c A a s H vs Q E n e;exact⟨t,h.nox,q⟩
theorem Fun.binds {x a:Str}{st:Stmt}{f:Addr}{i:FuncData}{ps:List Str}(F:Fun K x a st f i)
  (h:∀(kV b g:Value) (e:Option Addr) (c d:Value) (us:List Value),us.length=ps.length->bindArgs (fnOf x a (bZ st) (bN st) (aA st) .none kV b g e c d) ⟨us,[]⟩=pure (ps.zip us)):Binds K i ps []:=by
 obtain⟨oc,od,kV,b,g,e,c,d,osl,rfl,k,j⟩:=F.ex;exact .all (h kV b g e c d)
theorem kY {x a:Str}{st:Stmt}{f:Addr}{oc:Value}{od g:Option Addr}{osl:Array (Option Value)}{kV d h b e:Value}(l:K.lookup f=some ⟨oc,od,.func (fnOf x a (bZ st) (bN st) (aA st) .none kV d h g b e),osl⟩)
  (c:codeIn K b a=true) (k:keepIn K (.ref f)=true):Fun K x a st f (fnOf x a (bZ st) (bN st) (aA st) .none kV d h g b e):=⟨⟨oc,od,kV,d,h,g,b,e,osl,rfl,l,c⟩,k⟩
variable {X:Cx}
theorem pv (i:Nat) {x:Str}{a:Pos}(e:X.N[i]?=some x:=by rfl) (c:Vis X.env.scope x:=by first | exact Or.inl rfl | exact Or.inr (Or.inl rfl) | exact Or.inr (Or.inr rfl)) (d:(x==("__debug__":Str))=false:=by decide)
  (b:(x==("__classdict__":Str))=false:=by decide):PE X (.Name x a) (Qf i):=KQ e c d b
end
theorem Vt {A B:Prop}(h:B):if false=true then A else B:=by
 rw[if_neg m_];exact h
theorem Vu {A B:Prop}(h:A):if true=true then A else B:=by
 rw[if_pos rfl];exact h
section
variable {κ:Type} [DecidableEq κ]
theorem j6:∀{l:List κ}{k:κ},l.Nodup->¬k∈l->(l++[k]).Nodup
 |[],k,_,_=>by simp
 |a::r,k,h,hk=>by
  obtain⟨c,b⟩:=W6.mp h
  show (a::(r++[k])).Nodup
  refine W6.mpr ⟨fun m=>?_,j6 b fun m=>hk (n_.mpr (Or.inr m))⟩
  rcases u_.mp m with q | q
  ·
   exact c q
  ·
   exact hk (n_.mpr (Or.inl (h_.mp q).symm))
end
theorem jP {F:Str × NameKind->Str × NameKind}(b:∀p,(F p).1=p.1) {x:Str}{k:NameKind}:∀{a:List (Str × NameKind)},a.lookup x=some k->(a.map F).lookup x=some (F (x,k)).2
 |[],h=>by cases h
 | (m,q)::r,h=>by
  have d:=b (m,q)
  rw[B_,show F (m,q)=(m,(F (m,q)).2) from Prod.ext d rfl]
  by_cases e:x=m
  ·
   subst e
   rw[List.lookup_cons_self] at h ⊢
   cases h
   rfl
  ·
   have c:(x==m)=false:=Xf.mpr e
   simp only[List.lookup,c] at h ⊢
   exact jP b h
theorem iw {env:Env}{x:Str}{a:List (Str × NameKind)}(h:a.lookup x=some .free) :
  (a.map fun (n,k)=>if (k==NameKind.free&&env.scope.kind==.function&&env.kindOf n==some .cell) then (n,NameKind.cell) else (n,k)).lookup x=some .cell \/
  (a.map fun (n,k)=>if (k==NameKind.free&&env.scope.kind==.function&&env.kindOf n==some .cell) then (n,NameKind.cell) else (n,k)).lookup x=some .free:=by
 rw[jP (F:=fun (n,k)=>if (k==NameKind.free&&env.scope.kind==.function&&env.kindOf n==some .cell) then (n,NameKind.cell) else (n,k)) (fun p=>by dsimp only;split <;> rfl) h];dsimp only;split
 ·exact .inl rfl
 exact .inr rfl
theorem kZ {scope:Scope}{env:Env}(h:∀y∈scope.names,y.2=.free->∃c,env.cells.lookup y.1=some c) :
  ∃d,closureFor scope env=pure d/\(∀x c,d.lookup x=some c->env.cells.lookup x=some c)/\∀y∈scope.names,y.2=.free->∃c,d.lookup y.1=some c:=by
 have w:∀(b:List (Str × NameKind)) (g:List (Str × Addr)),(∀y∈b,y.2=.free->∃c,env.cells.lookup y.1=some c)->(∀x c,g.lookup x=some c->env.cells.lookup x=some c) ->
   ∃d:List (Str × Addr),(forIn b g (fun (x:Str × NameKind) (r:List (Str × Addr))=>(do
    if x.2==.free then do
     let a <- cellOf env x.1
     pure (ForInStep.yield ((x.1,a)::r))
    else pure (ForInStep.yield r):Sem (ForInStep (List (Str × Addr))))):Sem (List (Str × Addr)))=pure d/\(∀x c,d.lookup x=some c->env.cells.lookup x=some c) /\
    (∀x c,g.lookup x=some c->∃s,d.lookup x=some s)/\∀y∈b,y.2=.free->∃c,d.lookup y.1=some c:=by
  intro b
  induction b with
  |nil=>intro g _ u;exact⟨g,rfl,u,fun x c e=>⟨c,e⟩,fun y f=>nomatch f⟩
  |cons y r A =>
   intro g z u
   obtain⟨n,k⟩:=y
   by_cases v:k=.free
   ·
    subst v
    obtain⟨c,B⟩:=z (n,.free) q_ rfl
    have i:cellOf env n=pure c:=by unfold cellOf;rw[B]
    obtain⟨d,e,o,l,p⟩:=A ((n,c)::g) (fun y f=>z y (z_ _ f)) (fun x s q=>by
     simp only[Xd] at q
     cases j:x==n with
     |true=>rw[j] at q;cases q;rw[eq_of_beq j];exact B
     |false=>rw[j] at q;exact u x s q)
    refine⟨d,?_,o,fun x s q=>?_,fun y f t=>?_⟩
    ·
     rw[List.forIn_cons]
     show ((if (NameKind.free==NameKind.free)=true then (cellOf env n >>= fun a=>pure (ForInStep.yield ((n,a)::g))) else pure (ForInStep.yield g)) >>= _)=_
     rw[i]
     exact e
    ·
     cases j:x==n with
     |true=>exact l x c (by simp only[Xd,j])
     |false=>exact l x s (by simp only[Xd,j];exact q)
    ·
     rcases n_.mp f with rfl | f
     ·
      exact l n c (by simp [Xd])
     ·
      exact p y f t
   ·
    obtain⟨d,e,o,l,p⟩:=A g (fun y f=>z y (z_ _ f)) u
    have C:(k==NameKind.free)=false:=by simpa using v
    refine⟨d,?_,o,l,fun y f t=>?_⟩
    ·
     rw[List.forIn_cons]
     show ((if (k==NameKind.free)=true then (cellOf env n >>= fun a=>pure (ForInStep.yield ((n,a)::g))) else pure (ForInStep.yield g)) >>= _)=_
     rw[C]
     exact e
    ·
     rcases n_.mp f with rfl | f
     ·
      exact absurd t v
     ·
      exact p y f t
 obtain⟨d,e,o,_,p⟩:=w scope.names [] h (fun x c q=>by simp at q);refine⟨d,?_,o,p⟩;unfold closureFor;exact U_ (fun m=>m >>= fun r=>pure r) e
def bM (X:Cx) (N':List Str) (scope:Scope) (c:List (Str × Addr)) (a:List (Addr × Obj)) (s:Shared) (H:Hp) (C:Addr) (b:List Addr):Cx where
 prog:=X.prog
 w:=X.w
 K:=X.K
 mg:=X.mg
 base:=X.base
 A:=X.A
 N:=N'
 s₀:=s
 H₀:=H
 env:=compEnvC scope c C X.env
 outer:=X.stack
 stack:=X.stack
 ex:=b
 fn:=fun x=>scope.names.lookup x==some .cell
 calm:=X.calm
 pn:=X.pn++a
 xe:=fun _ _=>False
def PIf (X:Cx) (b:List Expr) (t:TT):Prop :=
 ∀(a:List (Addr × Obj)) (s:Shared) (d:St) (H:Hp) (Q:Bool->Hp->Prop),Inv X a d H s->t d H Q ->
  wpAny (model X.prog X.w) X.A (forIn b true fun c r=>if r=true then do let e <- isTrue c X.env (eval c X.env);pure (ForInStep.yield e) else pure (ForInStep.yield r)) (TP X a d Q) X.xe s
def Vv:TT:=fun _ H Q=>Q true H
theorem FQ {X:Cx}:PIf X [] Vv:=fun _ _ _ H _ I h=>wpAny_tests_nil ⟨H,I,h⟩
theorem FT {X:Cx}{c:Expr}{t:TT}(h:PT X c t):PIf X [c] t:=fun a s d H Q I b=>wpAny_tests_one (h a s d H Q I b)
section
variable {prog:Program}{w:World}{A:Around}{R:Result->Shared->Prop}{s:Shared}
theorem o5 {t a p:Expr}{q:List Expr}{scope:Scope}{B:Pos}{it u:Value}{env:Env}(I:Nat->Shared->Prop)
  (D:∀n s,I n s->wpAny (model prog w) A (pyNext it) (fun r b=>match r with | .none=>R (.ok .next) b | .some v=>wpAny (model prog w) A (letOwnedTupleGo a it v) (fun _ e=>wpAny (model prog w) A (assign a env v) (fun _ i=>wpAny (model prog w) A (forIn q true fun c r=>if r=true then do let z <- isTrue c env (eval c env);pure (ForInStep.yield z) else pure (ForInStep.yield r)) (fun z d=>if z=true then wpAny (model prog w) A (eval t env) (fun x o=>wpAny (model prog w) A (call (.builtin "list.append") [u,x]) (fun _ k=>∃m,m<n/\I m k) (fun _ _=>False) o) (fun _ _=>False) d else ∃m,m<n/\I m d) (fun _ _=>False) i) (fun _ _=>False) e) (fun _ _=>False) b) (fun _ _=>False) s)
  (n:Nat) (h:I n s):codeAny (model prog w) A (.compLoop (.ListComp t [⟨a,p,q,0⟩] scope B) 0 it u env) R s:=by
 refine codeAny_loop rfl I (fun j g G=>?_) n h;show wpAny _ A ((compTurn (.ListComp t [⟨a,p,q,0⟩] scope B) 0 it u env).onRaise (fun x=>do noteFrame x env;theTreesLotGoes x)) _ _ g;refine wpAny_noted ?_;rw[compTurn_list];refine b_ (wpAny_standAt (b_ (W_ (D j g G) (fun r b f=>?_) fun _ _ h'=>h'.elim)));cases r with
 |none=>exact k_ f
 |some v =>
 refine b_ (W_ f (fun _ e y=>?_) fun _ _ h'=>h'.elim);refine b_ (W_ y (fun _ i C=>b_ (W_ C (fun z d l=>?_) fun _ _ h'=>h'.elim)) fun _ _ h'=>h'.elim);cases z with
 |false=>exact (k_ (And.intro rfl l))
 |true =>
 exact b_ (b_ (W_ l (fun x o E=>b_ (W_ E (fun _ k F=>k_ (k_ ⟨rfl,F⟩)) fun _ _ h'=>h'.elim)) fun _ _ h'=>h'.elim))
end
def vR (J:It) (g:TG) (tt:TT) (te:TE) (h:List V->Hp->Prop) (c:St) (f:Hp):Prop :=
 ∃W:Nat->Nat->List V->St->Hp->Prop,(∃m,W 0 m [] c f)/\∀i m d j H,W i m d j H ->
  (J.stop i H/\d.length<=sizeLine/\h d H) \/
  (J.go i H/\∀x H',J.yld i H x H'->g x j H' fun a k=>tt a k fun b H3=>if b=true then te a H3 fun y l=>d.length<sizeLine/\∃e,e<m/\W (i+1) e (d++[y]) a l else ∃e,e<m/\W (i+1) e d a H3)
def mO (nt:Nat) (cap:List Nat) (a:St):St:=List.replicate nt none++cap.map fun j=>(a[j]?).getD none
structure CompSc (X:Cx) (N':List Str) (nt:Nat) (cap:List Nat) (scope:Scope):Prop where
 kind:scope.kind=.function
 cells:∀y∈scope.names,y.2=.cell->scope.names.lookup y.1=some .cell
 names:∀x∈scope.names,x.2=.local->scope.names.lookup x.1=some .local
 free:∀y∈scope.names,y.2=.free->X.env.kindOf y.1=some .cell\/X.env.kindOf y.1=some .free
 len:N'.length=nt+cap.length
 caps:∀(j:Nat) (x:Str),N'[nt+j]?=some x->∃i,cap[j]?=some i/\X.N[i]?=some x/\scope.names.lookup x=some .free
theorem jY {l:Addr}{a:List Value}{n:Nat}{u:Value}{P:Program}{w:World}{A:Around}{E:Value->Shared->Prop}{s:Shared}{Q:Value->Shared->Prop}
  (e:s.heap.get? l=some { cls:=.type "list",data:=.seq a.toArray n}) (hz:a.length<sizeLine)
  (h:∀h' n',h'.get? l=some { cls:=.type "list",data:=.seq (a++[u]).toArray n'}->(∀b o,b≠l->s.heap.get? b=some o->h'.get? b=some o)->Q .none { s with heap:=h'}) :
  wpAny (model P w) A (call (.builtin "list.append") [.ref l,u]) Q E s:=by
 refine Zx F.slot_list_append ⟨_,e,rfl⟩ F.entry_list_append (F.args_list_append_2 _ _) (list_append l a.toArray n u (by rw[l_];omega)) ⟨e,?_⟩;have q:=PySem.IsL.update e (·.push u);rw[List.push_toArray] at q;exact h _ _ q (fun b o d c=>(Xv s.heap _ (Ne.symm d)).trans c)
theorem bQ:∀(a:List (Str × NameKind)) (n:Nat) (b:List (Str × Addr)),cellsFrom n a b=cellsFrom n a []++b
 |[],_,_=>rfl
 | (x,k)::r,n,b=>by
  unfold cellsFrom
  split
  ·
   rw[bQ r (n+1) ((x,n)::b),bQ r (n+1) [(x,n)],t_]
   rfl
  ·
   exact bQ r n b
theorem dB {a:Type}(x:Str):∀(l m:List (Str × a)),(l++m).lookup x=(l.lookup x).or (m.lookup x)
 |[],_=>rfl
 | (y,v)::r,m=>by
  rw[Yp,Xd,Xd,dB x r m]
  cases x==y <;> rfl
theorem f9 {a:List (Str × NameKind)}{n:Nat}{b:List (Str × Addr)}{x:Str}{c:Addr}(h:(cellsFrom n a b).lookup x=some c):(cellsFrom n a []).lookup x=some c\/((cellsFrom n a []).lookup x=none/\b.lookup x=some c):=by
 rw[bQ,dB] at h;cases e:(cellsFrom n a []).lookup x with
 |some d=>rw[e] at h;exact .inl h
 |none=>rw[e] at h;exact .inr ⟨rfl,h⟩
theorem iI {x:Str}{c:Addr}:∀{a:List (Str × NameKind)}{n:Nat}{b:List (Str × Addr)},(x,c)∈cellsFrom n a b->(x,NameKind.cell)∈a\/(x,c)∈b
 |[],_,_,h=>.inr h
 | (y,k)::r,n,b,h=>by
  unfold cellsFrom at h
  split at h
  ·
   rename_i d
   rcases iI h with q | q
   ·
    exact .inl (z_ _ q)
   ·
    rcases n_.mp q with q | q
    ·
     cases q
     have:k=.cell:=by simpa using d
     subst this
     exact .inl q_
    ·
     exact .inr q
  ·
   rcases iI h with q | q
   ·
    exact .inl (z_ _ q)
   ·
    exact .inr q
theorem FW {M:Model}{A:Around}{E:Value->Shared->Prop}{s:Shared}{scope:Scope}{b:Addr}{a:List (Str × Addr)}{c:Str}{env:Env}{Q:Env->Shared->Prop}
  (g:Q (newEnv scope s.heap.objs.size b (cellsFrom (s.heap.objs.size+1) scope.names a) c none .none (some env) builtinsNs) { s with heap:=pushCells (s.heap.push { cls:=.type "dict",data:=.dict #[]}) scope.names}) :
  wpAny M A (newFunctionEnv scope b a [] c none .none (some env)) Q E s:=by
 simp only[newFunctionEnv,Option.isSome_some,if_true];refine b_ (wpAny_alloc ?_);refine b_ (wpAny_layCells _ (fun name d e=>by cases f:d==NameKind.cell <;> simp [f]) _ _ _ _ ?_);rw[show ({ s with heap:=s.heap.push { cls:=.type "dict",data:=.dict #[]}}:Shared).heap.objs.size=s.heap.objs.size+1 from XM ..];refine b_ ?_;rw[List.forIn_nil];exact k_ (k_ g)
theorem z6 {X:Cx}{g:List (Addr × Obj)}{L:St}{H:Hp}{s:Shared}{N':List Str}{nt:Nat}{cap:List Nat}{scope:Scope}{t:List (Str × Addr)}{U:List Addr}{h':Heap}{C:Addr}{tk:Nat}{pl:List (Addr × Obj)}
  (S:CompSc X N' nt cap scope) (I:Inv X g L H s) (M:∀x c,t.lookup x=some c->X.env.cells.lookup x=some c) (E:∀y∈scope.names,y.2=.free->∃c,t.lookup y.1=some c)
  (hf:∀b∈U,mJ X g H b) (O:∀b∈U,b<s.heap.objs.size) (w:s.heap.objs.size<C) (hn:h'.Ns C fun _=>none) (G:∀b o,s.heap.get? b=some o->h'.get? b=some o)
  (hp:∀p∈pl,h'.get? p.1=some p.2/\s.heap.objs.size=p.1/\∀v,p.2.data≠.cell v) (B:CellsOk h' (C+1) (cellsFrom (C+1) scope.names [])) :
  Inv (bM X N' scope (cellsFrom (C+1) scope.names t) g s H C U) pl (mO nt cap L) H { s with heap:=h',toks:=tk}:=by
 have h:∀x c,(cellsFrom (C+1) scope.names t).lookup x=some c->(C+1<=c/\(cellsFrom (C+1) scope.names []).lookup x=some c)\/X.env.cells.lookup x=some c:=fun x c e=>by
  rcases f9 e with q | q
  ·exact .inl ⟨(B.empty x c (mem_of_lookup q)).2,q⟩
  exact .inr (M x c q.2)
 have Q:∀x c,X.env.cells.lookup x=some c->c<s.heap.objs.size:=fun x c e=>by obtain⟨v,q⟩:=I.cell x c e;exact q.lt
 have hok:(bM X N' scope (cellsFrom (C+1) scope.names t) g s H C U).Ok:=by
  refine⟨I.ok.mod,S.kind,I.ok.glob,I.ok.blt,Xc w,fun x y c Y r=>?_,fun x hx=>?_,fun x c z e=>?_,I.ok.hd,I.ok.frames,.inl rfl,fun b A=>?_,I.bs,Wc I.ok.bsz I.sz,fun b o e A=>?_,fun b A z=>?_,I.stack,I.stkFree⟩
  ·rcases h x c Y with ⟨V,p1⟩ | V
   ·rcases h y c r with ⟨K,p2⟩ | K
    ·exact name_of_addr B.apart (mem_of_lookup p1) (mem_of_lookup p2)
    exact absurd (R_ (Xk (Y8 (Q y c K) w)) V) (WL _)
   rcases h y c r with ⟨K,p2⟩ | K
   ·exact absurd (R_ (Xk (Y8 (Q x c V) w)) K) (WL _)
   exact I.ok.inj x y c V K
  ·have hx':(relabel scope X.env).names.lookup x=some .cell\/(relabel scope X.env).names.lookup x=some .free:=hx;have hm:∃k,(x,k)∈(relabel scope X.env).names/\(k=.cell\/k=.free):=by
    rcases hx' with z | z
    ·exact⟨_,mem_of_lookup z,.inl rfl⟩
    exact⟨_,mem_of_lookup z,.inr rfl⟩
   obtain⟨k,hm,G⟩:=hm;obtain⟨⟨n,W⟩,P,e⟩:=x_.mp hm;have D:(if (W==NameKind.free&&X.env.scope.kind==.function&&X.env.kindOf n==some .cell)=true then (n,NameKind.cell) else (n,W))=(x,k):=e;by_cases F:W=.free
   ·subst F;have en:n=x:=by split at D <;> exact U_ Prod.fst D
    subst en;obtain⟨c,Z⟩:=E (n,.free) P rfl;show ∃c,(cellsFrom (C+1) scope.names t).lookup n=some c;rw[bQ,dB,Z];cases (cellsFrom (C+1) scope.names []).lookup n with
    |none=>exact⟨c,rfl⟩
    |some d=>exact⟨d,rfl⟩
   have A:(W==NameKind.free)=false:=by simpa using F
   rw[A] at D;simp only[Bool.false_and,H_,Wl] at D;cases D;rcases G with rfl | rfl
   ·obtain⟨c,Z⟩:=iZ (n:=C+1) (S.cells _ P rfl);refine⟨c,?_⟩;show (cellsFrom (C+1) scope.names t).lookup _=some c;rw[bQ,dB,Z];rfl
   exact absurd rfl F
  ·have z':scope.names.lookup x=some .cell:=by simpa [bM] using z
   obtain⟨d,ed⟩:=iZ (n:=C+1) z';have D:(cellsFrom (C+1) scope.names t).lookup x=some c:=e;rw[bQ,dB,ed] at D;cases D;have:=(B.empty x _ (mem_of_lookup ed)).2;show s.heap.objs.size<=_;omega
  ·obtain⟨f0,f1,f2,f3,f4,f5⟩:=hf b A;refine⟨fun z=>absurd (O b A) (YZ.mpr (by rw[show b=C from z];exact Xc w)),fun x c e=>?_⟩;rcases h x c e with ⟨q,_⟩ | q
   ·intro z;rw[z] at q;exact absurd (R_ (Xk (Y8 (O b A) w)) q) (WL _)
   exact f4 x c q
  ·obtain⟨f0,f1,f2,f3,f4,f5⟩:=hf b A;rcases f3 with q | q
   ·exact I.ok.noex b o e q
   exact absurd (E_ (I.ok.bs b o e).1) (YZ.mpr q)
  obtain⟨f0,f1,f2,f3,f4,f5⟩:=hf b A;rcases n_.mp (I.stkSub b z) with q | q
  ·exact f1 q
  exact f2 q
 obtain⟨m,hnm,hl⟩:=id I.loc;refine⟨hok,rfl,I.bare,Un.kept G,⟨_,hn,fun i x v Y r e3=>?_⟩,fun x c e=>?_,I.hok.fresh (Xc w),fun x c e=>?_,fun p hp'=>?_,I.hok.kept G,?_⟩
 ·-- a name of the block: one that it takes from around
  unfold mO at r;by_cases hi:i<nt
  ·rw[Wb (by simpa using hi),Yo] at r;split at r <;> cases r
  obtain⟨j,rfl⟩:∃j,i=nt+j:=⟨i - nt,by omega⟩;obtain⟨k,ck,hN,f⟩:=S.caps j x Y;rw[M_ (by simp),YH,Nat.add_sub_cancel_left,J_,ck] at r;have l:(L[k]?).getD none=some v:=We r;have T:L[k]?=some (some v):=by
   cases q:L[k]? with
   |none=>rw[q] at l;cases l
   |some z=>rw[q] at l;exact U_ some l
  have R:=S.free (x,.free) (mem_of_lookup f) rfl;obtain⟨u,ru,lk⟩:=hl k x v hN T (.inr R);refine⟨u,ru,.inr ⟨iw f,?_⟩⟩;rcases lk with ⟨kl,_⟩ | ⟨_,c,hc,J⟩
  ·rcases R with z | z <;> (rw[kl] at z;cases z)
  obtain⟨c',N⟩:=E (x,.free) (mem_of_lookup f) rfl;have e:=M x c' N;rw[hc] at e;cases e;obtain⟨o,ho,hd⟩:=J;refine⟨c,?_,o,G _ _ ho,hd⟩;show (cellsFrom (C+1) scope.names t).lookup x=some c;rw[bQ,dB];cases q:(cellsFrom (C+1) scope.names []).lookup x with
  |none=>exact N
  |some d =>
  rcases iI (mem_of_lookup q) with z | z
  ·have:=S.cells _ z rfl;rw[f] at this;cases this
  cases z
 ·rcases h x c e with ⟨_,q⟩ | q
  ·exact⟨none,(B.empty x c (mem_of_lookup q)).1⟩
  obtain⟨v,o,ho,hd⟩:=I.cell x c q;exact⟨v,o,G _ _ ho,hd⟩
 ·rcases h x c e with ⟨q,_⟩ | q
  ·exact I.hok.fresh (Xc (R_ (Xk w) q))
  exact I.freeC x c q
 ·rcases u_.mp hp' with z | z
  ·obtain⟨e,n,n1,n2,d⟩:=I.pin p z;refine⟨G _ _ e,n,fun q=>?_,fun q=>?_,d⟩
   ·exact absurd (E_ e) (YZ.mpr (by rw[show p.1=C from q];exact Xc w))
   rcases n_.mp (I.stkSub p.1 q) with q | q
   ·exact n1 q
   exact n2 q
  obtain⟨e,n,d⟩:=hp p z;refine⟨e,I.hok.fresh (by omega),fun q=>?_,fun q=>?_,d⟩
  ·exact absurd (n.trans (show p.1=C from q)) (Wh w)
  have:=I.stkSub p.1 q;rcases n_.mp this with q | q
  ·exact absurd I.lt (YZ.mpr (by rw[<- q,n];exact j_ _))
  exact I.nofs (by omega) q
 unfold mO;show _=N'.length;rw[a_,YH,g_,S.len]
theorem HOk.track {P:Program}{w:World}{H:Hp}{h h':Heap}{a C:Addr}{o:HO}(x:HOk P w H h) (j:H a=none) (l:H C=none) (k:∀b u,b≠C->h.get? b=some u->h'.get? b=some u) (d:ObjOk P w (upd H a o) h' a o):HOk P w (upd H a o) h':=fun b u e=>by
 by_cases i:b=a
 ·subst i;rw[bU] at e;cases e;exact d
 rw[aQ i] at e;have g:∀c z,H c=some z->c≠C:=fun c z q r=>by rw[r,l] at q;cases q
 refine (x b u e).stay (fun c v f q=>k c v ?_ q) (fun c q=>by rw[aQ (cg q j)];exact q) fun c xs q=>by rw[aQ (cg q j)];exact q
 rcases f with rfl | f
 ·exact g c u e
 exact g c _ f
theorem qL {X:Cx}{a:List (Addr × Obj)}{σ:St}{f:Hp}{s₂:Shared}{N':List Str}{nt:Nat}{cap:List Nat}{scope:Scope}{L:List (Str × Addr)}{elt tg iter:Expr}{ifs:List Expr}{pos:Pos}{g:TG}{tt:TT}{te:TE}
  {it:Addr} {l:List Addr} {tn:Nat->Heap->Prop} {J:It} {fin:List V->Hp->Prop} {E:Value->Shared->Prop} {RR:Value->Addr->Result->Shared->Prop}
  (hc:X.calm=true) (S:CompSc X N' nt cap scope) (hcl:∀x c,L.lookup x=some c->X.env.cells.lookup x=some c) (hclh:∀y∈scope.names,y.2=.free->∃c,L.lookup y.1=some c)
  (hX:∀L a s H C l,PG (bM X N' scope L a s H C l) tg g/\PIf (bM X N' scope L a s H C l) ifs tt/\PE (bM X N' scope L a s H C l) elt te)
  (I:Inv X a σ f s₂) (T:Turn X.prog X.w X.K tg J l it tn) (st:tn 0 s₂.heap) (hf:∀b∈l,mJ X a f b) (hw:vR J g tt te fin (mO nt cap σ) f)
  (hRR:∀(D C:Addr) (s₄:Shared) (m:Str->Option Value) (U:List V) (H':Hp),s₄.heap.Ns C m->s₂.heap.objs.size<=D->s₂.heap.objs.size<=C->C≠D->H' D=none->H' C=none->U.length<=sizeLine->fin U H' ->
   (∀h',(∀b o,b≠C->s₄.heap.get? b=some o->h'.get? b=some o)->Inv X a σ (upd H' D (.lst U)) { s₄ with heap:=h'})->RR (.ref D) C (.ok .next) s₄) :
  wpAny (model X.prog X.w) X.A (newList []) (fun acc G=>wpAny (model X.prog X.w) X.A (newFunctionEnv scope X.env.globals L [] X.env.qual none .none (some X.env)) (fun cenv s₄ =>
   codeAny (model X.prog X.w) X.A (.compStart (.ListComp elt [⟨tg,iter,ifs,0⟩] scope pos) 0 (.ref it) acc { cenv with scope:=relabel scope X.env}) (RR acc cenv.locals) s₄) E G) E s₂:=by
 refine Xj (FW ?_);dsimp only;generalize hH2:s₂.heap.push { cls:=.type "list",dict:=none,data:=.seq ([]:List Value).toArray}=B;generalize hD:s₂.heap.objs.size=D;have hB:B.objs.size=D+1:=by rw[<- hH2,XM,hD]
 have F:CellsOk (pushCells (B.push { cls:=.type "dict",data:=.dict #[]}) scope.names) (B.objs.size+1) (cellsFrom (B.objs.size+1) scope.names []):=by have:=cellsFrom_ok scope.names (B.push { cls:=.type "dict",data:=.dict #[]}) (B.objs.size+1) [] ⟨fun _ _ hm=>(nomatch hm),List.Pairwise.nil⟩ (by rw[XM];exact j_ _);rw[XM] at this;exact this
 have t:(pushCells (B.push { cls:=.type "dict",data:=.dict #[]}) scope.names).Ns B.objs.size fun _=>none:=(Heap.Ns.new B (.type "dict")).keeps (pushCells_keeps _ _);have M:∀b o,B.get? b=some o->(pushCells (B.push { cls:=.type "dict",data:=.dict #[]}) scope.names).get? b=some o:=fun b o e=>pushCells_keeps _ _ b o (e_ _ e);generalize hCe:B.objs.size=C at t F ⊢;generalize pushCells (B.push { cls:=.type "dict",data:=.dict #[]}) scope.names=P at t F M ⊢;have hCD:C=D+1:=hCe.symm.trans hB;have hDC:D≠C:=by rw[hCD];exact Wh (Yn _)
 have O:s₂.heap.objs.size<C:=by rw[hD,hCD];exact Yn _
 have Y:∀b o,s₂.heap.get? b=some o->b≠C/\b≠D:=fun b o e=>by have:=E_ e;rw[hD] at this;exact⟨by rw[hCD];exact Wh (Xk this),Wh this⟩
 have old:∀b o,s₂.heap.get? b=some o->P.get? b=some o:=fun b o e=>M b o (hH2▸e_ _ e);have hacc:P.get? D=some { cls:=.type "list",data:=.seq ([]:List Value).toArray 0}:=M _ _ (hH2▸hD▸C_ _ rfl);have Q:tn 0 P:=T.keep _ _ _ st fun b j o e=>old b o e;have hfl:∀b∈l,b<s₂.heap.objs.size:=fun b j=>by obtain⟨o,e,_⟩:=T.obj _ _ st b j;exact E_ e
 obtain⟨W,⟨m0,w0⟩,turn⟩:=hw;obtain⟨hg,hi,he⟩:=hX (cellsFrom (C+1) scope.names L) a s₂ f C l;have Z:∀{H':Hp} {k:Nat} {h:List Value},(∀b∈l,H' b=none)->∀b∈l,mJ (bM X N' scope (cellsFrom (C+1) scope.names L) a s₂ f C l) [(D,{ cls:=.type "list",data:=.seq h.toArray k})] H' b:=fun {H' k h} hn b j=>by
  obtain⟨f0,f1,f2,f3,f4,f5⟩:=hf b j;have hlt:=hfl b j;refine⟨hn b j,fun z=>?_,fun z=>?_,.inl j,fun x c e=>?_,fun p hp=>?_⟩
  ·rw[show b=C from z] at hlt;exact absurd hlt (YZ.mpr (Xc O))
  ·rcases n_.mp (I.stkSub b z) with q | q
   ·exact f1 q
   exact f2 q
  ·rcases f9 e with q | q
   ·have:=(F.empty x c (mem_of_lookup q)).2;intro z;rw[z] at this;exact absurd (R_ (Xk (Y8 hlt O)) this) (WL _)
   exact f4 x c (hcl x c q.2)
  rcases u_.mp hp with z | z
  ·exact f5 p z
  rw[h_.mp z];intro e;rw[<- (show D=b from e),hD] at hlt;exact WL _ hlt
 have loop:∀G:Shared,G={ s₂ with heap:=P}->codeAny (model X.prog X.w) X.A (.compLoop (.ListComp elt [⟨tg,iter,ifs,0⟩] scope pos) 0 (.ref it) (.ref D) (compEnvC scope (cellsFrom (C+1) scope.names L) C X.env)) (RR (.ref D) C) G:=by
  rintro G rfl;refine o5 (fun n s'=>∃i U h k σ' H',Inv (bM X N' scope (cellsFrom (C+1) scope.names L) a s₂ f C l) [(D,{ cls:=.type "list",data:=.seq h.toArray k})] σ' H' s'/\Vals U h/\tn i s'.heap/\(∀b∈l,H' b=none)/\W i n U σ' H'/\U.length<=sizeLine) ?_ m0
   ⟨0,[],[],0,mO nt cap σ,f,z6 (tk:=s₂.toks) S I hcl hclh hf hfl O t old (fun p hp=>?_) F,.nil,Q,fun b j=>(hf b j).1,w0,Xa _⟩
  ·rintro n s3 ⟨i,U,h,k,σ3,H3,I3,rv,st3,fr3,w3,hz⟩;have pD:=I3.pin (D,{ cls:=.type "list",data:=.seq h.toArray k}) (V_ _ (h_.mpr rfl));rcases turn i n U σ3 H3 w3 with ⟨stop,hz',hfin⟩ | ⟨go,step⟩
   ·refine thn (T.done (bM X N' scope (cellsFrom (C+1) scope.names L) a s₂ f C l) rfl rfl rfl hc i _ s3 σ3 H3 (fun _ _=>False) I3 (Z fr3) st3 stop) fun r s4 ⟨hr,I4⟩=>?_;subst hr;obtain⟨m4,hn4,_⟩:=I4.loc;have pD4:=I4.pin (D,{ cls:=.type "list",data:=.seq h.toArray k}) (V_ _ (h_.mpr rfl));refine hRR D C s4 m4 U H3 hn4 (by rw[hD];exact j_ _) (Xc O) (Ne.symm hDC) pD4.2.1 I4.free hz' hfin fun h' k'=>?_;have nD:∀b u,H3 b=some u->b≠D:=fun b u e z=>by rw[z,pD4.2.1] at e;cases e
    have nDs:∀b o,s₂.heap.get? b=some o->b≠D/\b≠C:=fun b o e=>⟨(Y b o e).2,(Y b o e).1⟩;have B4:=I4.base;refine I.call' (s':={ s4 with heap:=h'}) (ch:=l) I4.os ⟨fun b o e n j hx=>k' b o (nDs b o e).2 (B4.keep b o e n j hx),fun b o e n j hx=>?_,fun b o e n hx=>?_,fun b o e hx=>?_,fun b xs e=>?_,fun b o u e=>?_,fun b ps e=>?_⟩ ?_ I4.bare fun b j=>?_
    ·obtain⟨sl,q⟩:=B4.slot b o e n j hx;exact⟨sl,k' b _ (nDs b o e).2 q⟩
    ·rw[aQ (nDs b o e).1];exact B4.free b o e n hx
    ·obtain⟨o',q⟩:=B4.there b o e hx;exact⟨o',k' b _ (nDs b o e).2 q⟩
    ·have q:=B4.tups b xs e;rw[aQ (nD _ _ q)];exact q
    ·have q:=B4.frzs b o u e;rw[aQ (nD _ _ q)];exact q
    ·obtain⟨more,q⟩:=B4.tbls b ps e;exact⟨more,by rw[aQ (nD _ _ q)];exact q⟩
    ·exact I4.hok.track pD4.2.1 I4.free k' ⟨hz',h,k,rv,k' D _ hDC pD4.1⟩
    obtain⟨f0,f1,f2,f3,f4,f5⟩:=hf b j;exact⟨f3,f1,f4,f5⟩
   refine thn (T.item (bM X N' scope (cellsFrom (C+1) scope.names L) a s₂ f C l) rfl rfl rfl hc i _ s3 σ3 H3 (fun _ _=>False) I3 (Z fr3) st3 go) fun r s4 ⟨u,hr,h4⟩=>?_;subst hr;refine thn h4 fun _ s5 ⟨x,H5,I5,r5,y5,st5,fr5⟩=>?_;have I5':=I5.pinned (Z fr5) (T.obj _ _ st5);refine thn (hg _ s5 σ3 H5 x u _ I5' r5 (step x H5 y5)) fun _ s6 ⟨σ6,H6,I6,q6⟩=>?_;refine thn (hi _ s6 σ6 H6 _ I6 q6) fun ok s7 ⟨H7,I7,q7⟩=>?_;have N:∀{σ8:St} {H8:Hp} {s8:Shared},Inv (bM X N' scope (cellsFrom (C+1) scope.names L) a s₂ f C l) ([(D,{ cls:=.type "list",data:=.seq h.toArray k})]++kE l s5.heap) σ8 H8 s8->tn (i+1) s8.heap/\∀b∈l,H8 b=none:=fun {σ8 H8 s8} I8 =>
    ⟨T.keep _ _ _ st5 fun b j o e=>(I8.pin (b,o) (V_ _ (V_ _ (fX j e)))).1,fun b j=>by
     obtain⟨o,e,d⟩:=T.obj _ _ st5 b j
     exact (I8.pin (b,o) (V_ _ (V_ _ (fX j e)))).2.1⟩
   cases ok with
   |false=>rw[if_neg m_] at q7 ⊢;obtain⟨m',hm,w7⟩:=q7;exact⟨m',hm,i+1,U,h,k,σ6,H7,I7.unpinned,rv,(N I7).1,(N I7).2,w7,hz⟩
   |true =>
   rw[if_pos rfl] at q7 ⊢;refine thn (he _ s7 σ6 H7 _ I7 q7) fun uy s8 ⟨y,H8,I8,ry,hz8,m',hm,w8⟩=>?_;have R:=I8.pin (D,{ cls:=.type "list",data:=.seq h.toArray k}) (V_ _ (Wn _ (h_.mpr rfl)));have hl:=rv.length;refine jY R.1 (by omega) fun h' k' e' kk=>?_;have I9:Inv (bM X N' scope (cellsFrom (C+1) scope.names L) a s₂ f C l) [] σ6 H8 { s8 with heap:=h'}:=by
    refine Inv.turned (t':=s8.toks) (it:=D) (I8.pins_of (pins':=[]) (fun p hp=>nomatch hp)) (fun b o j e=>kk b o j e) R.2.1 R.2.2.1 (.inr (by show s₂.heap.objs.size<=D;rw[hD];exact j_ _)) (fun x c e z=>?_) (fun p hp z=>?_)
    ·rcases f9 e with q | q
     ·have:=(F.empty x c (mem_of_lookup q)).2;rw[z,hCD] at this;omega
     obtain⟨v,q⟩:=I.cell x c (hcl x c q.2);have:=q.lt;rw[z,hD] at this;exact WL _ this
    rw[N_] at hp;have:=E_ (I.pin p hp).1;rw[z,hD] at this;exact WL _ this
   refine⟨m',hm,i+1,U++[y],h++[uy],k',σ6,H8,I9.pins_of fun p hp=>?_,rv.append (.cons ry .nil),?_,(N I8).2,w8,?_⟩
   ·rw[h_.mp hp];exact⟨e',R.2.1,R.2.2.1,R.2.2.2.1,fun v z=>by cases z⟩
   ·refine T.keep _ _ _ (N I8).1 fun b j o e=>kk b o (fun z=>?_) e;have:=hfl b j;rw[z,hD] at this;exact WL _ this
   rw[a_,L_];omega
  rw[h_.mp hp];exact⟨hacc,hD,fun v z=>by cases z⟩
 exact codeAny_compStart_list (loop _ rfl) (T.self _ 0 _ _ _ Q (loop _ rfl))
def Q7 (d:TI) (g:TG) (tt:TT) (te:TE) (nt:Nat) (cap:List Nat):TE:=fun a H Q=>d a H fun J c=>vR J g tt te (fun b H'=>∀p,H' p=none->Q (.ref p) (upd H' p (.lst b))) (mO nt cap a) c
theorem FZ {X:Cx}{N':List Str}{nt:Nat}{cap:List Nat}{scope:Scope}{i t c:Expr}{f:List Expr}{u:Pos}{F:TI}{g:TG}{tt:TT}{te:TE}(hc:X.calm=true) (S:CompSc X N' nt cap scope) (Y:PI X t c F)
  (M:∀p a s H C n,PG (bM X N' scope p a s H C n) t g/\PIf (bM X N' scope p a s H C n) f tt/\PE (bM X N' scope p a s H C n) i te)
  (L:∀x,foldedSetIterable c X.env x=pure x:=by intro _;rfl):PE X (.ListComp i [⟨t,c,f,0⟩] scope u) (Q7 F g tt te nt cap):=by
 intro a s E H Q I h;rw[eval_ListComp];obtain⟨p,d,q,l⟩:=kZ (scope:=scope) (env:=X.env) fun y Z N=>I.ok.has y.1 (S.free y Z N);refine wpAny_comprehension_free (use:=none) rfl L d S.kind S.names (thn (Y a s E H _ I h) fun v s1 V=>thn V fun K s2 R=>?_);obtain⟨it,n,tn,J,H2,rfl,I2,T,B,U,O⟩:=R;refine qL (RR:=fun z C=>compPost (model X.prog X.w) X.A X.xe none (EP X a E Q) z C) hc S q l M I2 T B U O fun D C s4 m ys H' W hD hC G P nC hz j k=>?_;refine⟨m,W,fun h' r=>?_⟩;exact⟨.ref D,_,k h' fun b o hb e=>r.extBut b o hb e,rfl,j D P⟩
def z7 (d:TI) (g:TG) (tt:TT) (te:TE) (nt:Nat) (cap:List Nat) (i:Nat):TS:=fun D a H=>d a H fun J c=>vR J g tt te (fun b H'=>∀p,H' p=none->D.nx (a.set i (some (.ref p))) (upd H' p (.lst b))) (mO nt cap a) c
theorem Ga {X:Cx}{N':List Str}{nt:Nat}{cap:List Nat}{scope:Scope}{n E f:Expr}{l:List Expr}{u j r:Pos}{wi:TI}{g:TG}{tt:TT}{te:TE}{i:Nat}{x:Str}(hc:X.calm=true) (hN:X.N.Nodup) (Y:X.N[i]?=some x) (hx:Loc X.env.scope x) (S:CompSc X N' nt cap scope) (hi:PI X E f wi)
  (hX:∀O d s H C M,PG (bM X N' scope O d s H C M) E g/\PIf (bM X N' scope O d s H C M) l tt/\PE (bM X N' scope O d s H C M) n te)
  (hsw:swapsWith (.ListComp n [⟨E,f,l,0⟩] scope u) (some (.Name x j)) r.line X.env=pure true:=by rfl)
  (hs:∀x,foldedSetIterable f X.env x=pure x:=by intro _;rfl) (Z:X.fn x=true\/X.env.scope.names.lookup x=some .local:=by first | exact .inl rfl | exact .inr rfl | assumption) :
  PS X (.Assign [.Name x j] (.ListComp n [⟨E,f,l,0⟩] scope u) r) (z7 wi g tt te nt cap i):=by
 intro d s σ H Dn I h;rw[exec_Assign_Name_used _ _ _ _ hsw];obtain⟨O,t,V,K⟩:=kZ (scope:=scope) (env:=X.env) fun y hy Z=>I.ok.has y.1 (S.free y hy Z);refine b_ (wpAny_standAt (b_ ?_));show wpAny _ X.A (do let _ <- comprehension (.ListComp n [⟨E,f,l,0⟩] scope u) scope X.env _ (newList []) false (eval f X.env) (some (assign (.Name x j) X.env))) _ _ s;refine b_ (W_ (wpAny_comprehension_free (use:=some (assign (.Name x j) X.env)) (Q:=fun _ s'=>SP X d Dn .next s') rfl hs t S.kind S.names
  (thn (hi d s σ H _ I h) fun v s1 h1=>thn h1 fun itv s2 h2=>?_)) (fun _ s' hq=>k_ (k_ hq)) fun _ _ e=>e)
 obtain⟨it,M,tn,J,H2,rfl,L,T,st2,f2,hw⟩:=h2;refine qL (RR:=fun acc C=>compPost (model X.prog X.w) X.A X.xe (some (assign (.Name x j) X.env)) (fun _ s'=>SP X d Dn .next s') acc C) hc S V K hX L T st2 f2 hw fun D C s4 m ys H' hn hD P U nD nC hz F k=>?_;show wpAny _ X.A (assign (.Name x j) X.env (.ref D)) _ _ s4;have I4:=k s4.heap fun b o _ e=>e;have G:C≠X.env.locals:=fun z=>by have:=L.lt;rw[<- z] at this;exact absurd this (YZ.mpr P)
 have B:∀y c,X.env.cells.lookup y=some c->c≠C:=fun y c e z=>by obtain⟨v,q⟩:=L.cell y c e;have:=q.lt;rw[z] at this;exact absurd this (YZ.mpr P)
 refine wpAny_assign_Name (nj I4 hN Y hx (show RelV (.ref D) (.ref D) from rfl) (fun s5 I5 ⟨a,sb,R⟩=>?_) Z);have nCa:C≠a:=by
  rcases R with rfl | R
  ·exact G
  exact fun z=>B x a R z.symm
 refine⟨m,hn.sameBut sb nCa,fun h' W=>⟨_,_,Inv.turned (t':=s5.toks) (it:=C) I5 (fun b o hb e=>W.extBut b o hb e) (by rw[aQ U];exact nC) G (.inr (Wc L.sz P)) B (fun p hp z=>?_),F D nD⟩⟩;have:=E_ (L.pin p hp).1;rw[z] at this;exact absurd this (YZ.mpr P)
def exP (e C:Addr) (d:Option Addr) (a:Bool) (h:Heap):Prop:=∃vs b,h.get? e=some ⟨.ref C,d,.fields vs,b⟩/\(a=true->vs[1]?=some .none)
def exO (e C:Addr) (d:Option Addr) (a:Bool):HO:=.ext (exP e C d a)
def dxP (c:Addr) (b:List (Str × V)) (h:Heap):Prop:=∃a,h.Ns1 c a/\(∀f,RelO (b.lookup f) (a f))/\PySem.Within a (b.map (·.1))
def dxO (b:Addr) (a:List (Str × V)):HO:=.ext (dxP b a)
section
variable {P:Program}{w:World}{H:Hp}{h:Heap}{e C dx:Addr}{d:Option Addr}{rd:Bool}{fs:List (Str × V)}
end
end L2
set_option maxHeartbeats 1000000
namespace L3
open L2
inductive T where
 |non | bl (b:Bool) | int (i:Int) | str (x:Str) | tup (ts:List T) | ref (a:Addr) | ty (n:String)
mutual
def Rep (K:Frag) (H:Hp):T->V->Prop
 |.non,v=>v=.non
 |.bl b,v=>v=.bl b
 |.int i,v=>v=.int i
 |.str x,v=>v=.str x
 |.tup ts,v=>∃a xs,v=.ref a/\SqT K H a xs/\Reps K H ts xs
 |.ref a,v=>v=.ref a
 |.ty n,v=>v=.ty n
def Reps (K:Frag) (H:Hp):List T->List V->Prop
 |[],xs=>xs=[]
 |t::ts,xs=>∃x r,xs=x::r/\Rep K H t x/\Reps K H ts r
end
def TupLe (K:Frag) (H H':Hp):Prop:=∀a xs,SqT K H a xs->SqT K H' a xs
theorem TupLe.refl {K:Frag}{H:Hp}:TupLe K H H:=fun _ _ h=>h
theorem TupLe.trans {K:Frag}{H e d:Hp}(a:TupLe K H e) (b:TupLe K e d):TupLe K H d:=fun c xs h=>b c xs (a c xs h)
mutual
theorem Rep.mono {K:Frag}{H H':Hp}(b:TupLe K H H'):∀{t:T}{v:V},Rep K H t v->Rep K H' t v
 |.non,_,h=>by simp only[Rep] at h ⊢;exact h
 |.bl _,_,h=>by simp only[Rep] at h ⊢;exact h
 |.int _,_,h=>by simp only[Rep] at h ⊢;exact h
 |.str _,_,h=>by simp only[Rep] at h ⊢;exact h
 |.ref _,_,h=>by simp only[Rep] at h ⊢;exact h
 |.ty _,_,h=>by simp only[Rep] at h ⊢;exact h
 |.tup ts,_,h=>by
  simp only[Rep] at h ⊢
  obtain⟨a,xs,e,s,r⟩:=h
  exact⟨a,xs,e,b a xs s,Reps.mono b r⟩
theorem Reps.mono {K:Frag}{H H':Hp}(c:TupLe K H H'):∀{ts:List T}{xs:List V},Reps K H ts xs->Reps K H' ts xs
 |[],_,h=>by simp only[Reps] at h ⊢;exact h
 |t::ts,_,h=>by
  simp only[Reps] at h ⊢
  obtain⟨x,r,e,a,b⟩:=h
  exact⟨x,r,e,Rep.mono c a,Reps.mono c b⟩
end
section
variable {K:Frag}{H:Hp}
theorem Reps.nil:Reps K H [] []:=by simp only[Reps]
theorem Reps.cons {t:T}{v:V}{ts:List T}{vs:List V}(a:Rep K H t v) (b:Reps K H ts vs):Reps K H (t::ts) (v::vs):=by simp only[Reps];exact⟨v,vs,rfl,a,b⟩
theorem Reps.inv {t:T}{ts:List T}{vs:List V}(h:Reps K H (t::ts) vs):∃v r,vs=v::r/\Rep K H t v/\Reps K H ts r:=by simp only[Reps] at h;exact h
theorem Reps.inv0 {vs:List V}(h:Reps K H [] vs):vs=[]:=by simp only[Reps] at h;exact h
theorem Reps.length:∀{ts:List T}{vs:List V},Reps K H ts vs->ts.length=vs.length
 |[],_,h=>by rw[h.inv0];rfl
 |t::ts,_,h=>by obtain⟨v,r,rfl,_,b⟩:=h.inv;simp [Reps.length b]
theorem Reps.get:∀{ts:List T}{vs:List V}{i:Nat}{t:T},Reps K H ts vs->ts[i]?=some t->∃v,vs[i]?=some v/\Rep K H t v
 |[],_,_,_,_,e=>by simp at e
 |a::ts,_,0,t,h,e=>by obtain⟨v,r,rfl,q,_⟩:=h.inv;simp at e;subst e;exact⟨v,rfl,q⟩
 |a::ts,_,i+1,t,h,e=>by obtain⟨v,r,rfl,_,b⟩:=h.inv;simpa using Reps.get b (by simpa using e)
theorem Reps.get':∀{ts:List T}{vs:List V}{i:Nat}{v:V},Reps K H ts vs->vs[i]?=some v->∃t,ts[i]?=some t/\Rep K H t v
 |[],_,_,_,h,e=>by rw[h.inv0] at e;simp at e
 |a::ts,_,0,v,h,e=>by obtain⟨x,r,rfl,q,_⟩:=h.inv;simp at e;subst e;exact⟨a,rfl,q⟩
 |a::ts,_,i+1,v,h,e=>by obtain⟨x,r,rfl,_,b⟩:=h.inv;simpa using Reps.get' b (by simpa using e)
theorem Reps.append:∀{ts us:List T}{xs c:List V},Reps K H ts xs->Reps K H us c->Reps K H (ts++us) (xs++c)
 |[],_,_,_,h,h'=>by rw[h.inv0];exact h'
 |t::ts,_,_,_,h,h'=>by obtain⟨v,r,rfl,a,b⟩:=h.inv;exact .cons a (Reps.append b h')
theorem Reps.take:∀{ts:List T}{xs:List V}(n:Nat),Reps K H ts xs->Reps K H (ts.take n) (xs.take n)
 |[],_,n,h=>by rw[h.inv0];simp only[List.take_nil];exact .nil
 |t::ts,_,0,h=>.nil
 |t::ts,_,n+1,h=>by obtain⟨v,r,rfl,a,b⟩:=h.inv;exact .cons a (Reps.take n b)
theorem Reps.drop:∀{ts:List T}{xs:List V}(n:Nat),Reps K H ts xs->Reps K H (ts.drop n) (xs.drop n)
 |[],_,n,h=>by rw[h.inv0];simp only[List.drop_nil];exact .nil
 |t::ts,_,0,h=>h
 |t::ts,_,n+1,h=>by obtain⟨v,r,rfl,a,b⟩:=h.inv;exact Reps.drop n b
theorem Reps.set:∀{ts:List T}{xs:List V}{t:T}{v:V}(n:Nat),Reps K H ts xs->Rep K H t v->Reps K H (ts.set n t) (xs.set n v)
 |[],_,_,_,n,h,r=>by rw[h.inv0];exact .nil
 |t::ts,_,_,_,0,h,q=>by obtain⟨v,r,rfl,a,b⟩:=h.inv;exact .cons q b
 |t::ts,_,_,_,n+1,h,q=>by obtain⟨v,r,rfl,a,b⟩:=h.inv;exact .cons a (Reps.set n b q)
theorem Reps.reverse {ts:List T}{xs:List V}(h:Reps K H ts xs):Reps K H ts.reverse xs.reverse:=by
 induction ts generalizing xs with
 |nil=>rw[h.inv0];exact .nil
 |cons t ts c=>obtain⟨v,r,rfl,a,b⟩:=h.inv;simp only[Zj];exact (c b).append (.cons a .nil)
theorem Reps.eraseIdx:∀{ts:List T}{xs:List V}(n:Nat),Reps K H ts xs->Reps K H (ts.eraseIdx n) (xs.eraseIdx n)
 |[],_,n,h=>by rw[h.inv0];exact .nil
 |t::ts,_,0,h=>by obtain⟨v,r,rfl,a,b⟩:=h.inv;exact b
 |t::ts,_,n+1,h=>by obtain⟨v,r,rfl,a,b⟩:=h.inv;exact .cons a (Reps.eraseIdx n b)
theorem Rep.non {v:V}(h:Rep K H .non v):v=.non:=by simp only[Rep] at h;exact h
theorem Rep.bl {b:Bool}{v:V}(h:Rep K H (.bl b) v):v=.bl b:=by simp only[Rep] at h;exact h
theorem Rep.int {i:Int}{v:V}(h:Rep K H (.int i) v):v=.int i:=by simp only[Rep] at h;exact h
theorem Rep.str {x:Str}{v:V}(h:Rep K H (.str x) v):v=.str x:=by simp only[Rep] at h;exact h
theorem Rep.ref {a:Addr}{v:V}(h:Rep K H (.ref a) v):v=.ref a:=by simp only[Rep] at h;exact h
theorem Rep.ty {n:String}{v:V}(h:Rep K H (.ty n) v):v=.ty n:=by simp only[Rep] at h;exact h
theorem Rep.tup {ts:List T}{v:V}(h:Rep K H (.tup ts) v):∃a xs,v=.ref a/\SqT K H a xs/\Reps K H ts xs:=by simp only[Rep] at h;exact h
theorem Rep.ofNon:Rep K H .non .non:=by simp only[Rep]
theorem Rep.ofBl {b:Bool}:Rep K H (.bl b) (.bl b):=by simp only[Rep]
theorem Rep.ofInt {i:Int}:Rep K H (.int i) (.int i):=by simp only[Rep]
theorem Rep.ofStr {x:Str}:Rep K H (.str x) (.str x):=by simp only[Rep]
theorem Rep.ofRef {a:Addr}:Rep K H (.ref a) (.ref a):=by simp only[Rep]
theorem Rep.ofTy {n:String}:Rep K H (.ty n) (.ty n):=by simp only[Rep]
theorem Rep.ofTup {ts:List T}{a:Addr}{xs:List V}(h:SqT K H a xs) (r:Reps K H ts xs):Rep K H (.tup ts) (.ref a):=by simp only[Rep];exact⟨a,xs,rfl,h,r⟩
end
inductive O3 where
 |lst (ts:List T) | rol (ts:List T) | dct (kvs:List (Str × T)) | dcp (kvs:List (List Key × T))
 |exc (C dx:Addr) | xdt (fs:List (Str × T))
 |dci (kvs:List (Int × T)) | dif (o:Obj) (kvs:List (Int × T)) | ins (C:Addr) (fs:List (Str × T))
abbrev Hp3:=Addr->Option O3
def up3 (H:Hp3) (a:Addr) (o:O3):Hp3:=fun b=>if b=a then some o else H b
theorem aB {H:Hp3}{a:Addr}{o:O3}:up3 H a o a=some o:=by unfold up3;rw[if_pos rfl]
theorem aD {H:Hp3}{a b:Addr}{o:O3}(h:b≠a):up3 H a o b=H b:=by unfold up3;rw[if_neg h]
theorem vU {H:Hp3}{a:Addr}{o u:O3}:up3 (up3 H a o) a u=up3 H a u:=by funext b;unfold up3;split <;> rfl
def RepD (K:Frag) (H:Hp):List (Str × T)->List (Key × V)->Prop:=Paired fun (p:Str × T) (q:Key × V)=>q.1=Sum.inr p.1/\Rep K H p.2 q.2
def RepP (K:Frag) (H:Hp):List (List Key × T)->List (List Key × V)->Prop:=Paired fun (p:List Key × T) (q:List Key × V)=>q.1=p.1/\Rep K H p.2 q.2
def RepF (K:Frag) (H:Hp):List (Str × T)->List (Str × V)->Prop:=Paired fun (p:Str × T) (q:Str × V)=>q.1=p.1/\Rep K H p.2 q.2
def RepI (K:Frag) (H:Hp):List (Int × T)->List (Key × V)->Prop:=Paired fun (p:Int × T) (q:Key × V)=>q.1=Sum.inl p.1/\Rep K H p.2 q.2
def RepO (K:Frag) (H:Hp) (a:Addr):O3->Prop
 |.lst ts=>∃xs,H a=some (.lst xs)/\Reps K H ts xs
 |.rol ts=>∃xs,Rd H a (.lst xs)/\Reps K H ts xs
 |.dct kvs=>∃vs,H a=some (.dK vs)/\RepD K H kvs vs
 |.dcp kvs=>∃vs,H a=some (.dT vs)/\RepP K H kvs vs
 |.exc C c=>H a=some (exO a C (some c) false)
 |.xdt b=>∃vs,H a=some (dxO a vs)/\RepF K H b vs
 |.dci kvs=>∃vs,H a=some (.dK vs)/\RepI K H kvs vs
 |.dif o kvs=>∃vs,H a=some (.frz o (.dK vs))/\RepI K H kvs vs
 |.ins C b=>∃c vs,H a=some (.ins C c vs)/\RepF K H b vs
def SimH (K:Frag) (H3:Hp3) (H:Hp):Prop:=∀a o,H3 a=some o->RepO K H a o
abbrev St3:=List (Option T)
structure SimS (K:Frag) (H:Hp) (σ3:St3) (σ:L2.St):Prop where
 len:σ3.length=σ.length
 at':∀(i:Nat) (t:T),σ3[i]?=some (some t)->∃v,σ[i]?=some (some v)/\Rep K H t v
section
variable {K:Frag}{H H':Hp}{H3:Hp3}{σ3:St3}{σ:L2.St}
theorem SimS.mono (s:SimS K H σ3 σ) (a:TupLe K H H'):SimS K H' σ3 σ:=⟨s.len,fun i t e=>let ⟨v,e',r⟩:=s.at' i t e;⟨v,e',r.mono a⟩⟩
theorem SimS.set (s:SimS K H σ3 σ) {i:Nat}{t:T}{v:V}(r:Rep K H t v):SimS K H (σ3.set i (some t)) (σ.set i (some v)):=by
 refine⟨by simp [s.len],fun j u e=>?_⟩;by_cases b:i=j
 ·subst b;by_cases a:i<σ3.length
  ·rw[Yv a] at e;have c:t=u:=We (We e);subst c;exact⟨v,by rw[Yv (by rw[<- s.len];exact a)],r⟩
  rw[Wf (by simpa using a)] at e;cases e
 rw[YX b] at e;rw[YX b];exact s.at' j u e
theorem RepD.mono {kvs:List (Str × T)}{vs:List (Key × V)}(h:RepD K H kvs vs) (c:TupLe K H H'):RepD K H' kvs vs:=Paired.mapP h fun _ _ ⟨a,b⟩=>⟨a,b.mono c⟩
theorem RepF.mono {kvs:List (Str × T)}{vs:List (Str × V)}(h:RepF K H kvs vs) (c:TupLe K H H'):RepF K H' kvs vs:=Paired.mapP h fun _ _ ⟨a,b⟩=>⟨a,b.mono c⟩
theorem RepI.mono {kvs:List (Int × T)}{vs:List (Key × V)}(h:RepI K H kvs vs) (c:TupLe K H H'):RepI K H' kvs vs:=Paired.mapP h fun _ _ ⟨a,b⟩=>⟨a,b.mono c⟩
theorem RepP.mono {kvs:List (List Key × T)}{vs:List (List Key × V)}(h:RepP K H kvs vs) (c:TupLe K H H'):RepP K H' kvs vs:=Paired.mapP h fun _ _ ⟨a,b⟩=>⟨a,b.mono c⟩
theorem ne3 {a b:Addr}{o u:O3}(h:H3 a=some o) (h':H3 b=some u) (d:o≠u):a≠b:=by
 intro e;subst e;rw[h] at h';exact d (We h')
theorem bh {a b:Addr}{o:O3}(h:H3 a=some o) (h':H3 b=none):a≠b:=by
 intro e;subst e;rw[h] at h';cases h'
theorem aN {p:Addr}{o:HO}(b:H p=none):TupLe K H (upd H p o):=fun a xs h=>by
 rcases h with (h | ⟨c,h⟩) | h
 ·exact .inl (.inl (by rw[aQ (cg h b)];exact h))
 ·exact .inl (.inr ⟨c,by rw[aQ (cg h b)];exact h⟩)
 exact .inr h
theorem bH {p:Addr}{o:HO}(c:Mut (H p)):TupLe K H (upd H p o):=fun a xs h=>by
 have b:∀u,H a=some u->¬Mut (some u)->a≠p:=fun u e nm z=>by subst z;rw[e] at c;exact nm c
 rcases h with (h | ⟨d,h⟩) | h
 ·exact .inl (.inl (by rw[aQ (b _ h fun z=>z)];exact h))
 ·exact .inl (.inr ⟨d,by rw[aQ (b _ h fun z=>z)];exact h⟩)
 exact .inr h
theorem RepO.stay {a:Addr}{o:O3}(h:RepO K H a o) (c:TupLe K H H') (b:∀u,H a=some u->H' a=some u):RepO K H' a o:=by
 cases o with
 |lst ts=>obtain⟨xs,e,r⟩:=h;exact⟨xs,b _ e,r.mono c⟩
 |rol ts =>
  obtain⟨xs,e,r⟩:=h;refine⟨xs,?_,r.mono c⟩;rcases e with e | ⟨g,e⟩
  ·exact .inl (b _ e)
  exact .inr ⟨g,b _ e⟩
 |dct kvs=>obtain⟨vs,e,r⟩:=h;exact⟨vs,b _ e,r.mono c⟩
 |dcp kvs=>obtain⟨vs,e,r⟩:=h;exact⟨vs,b _ e,r.mono c⟩
 |exc C d=>exact b _ h
 |xdt f=>obtain⟨vs,e,r⟩:=h;exact⟨vs,b _ e,r.mono c⟩
 |dci kvs=>obtain⟨vs,e,r⟩:=h;exact⟨vs,b _ e,r.mono c⟩
 |dif o kvs=>obtain⟨vs,e,r⟩:=h;exact⟨vs,b _ e,r.mono c⟩
 |ins C f=>obtain⟨d,vs,e,r⟩:=h;exact⟨d,vs,b _ e,r.mono c⟩
theorem SimH.new {p:Addr}{o:HO}(s:SimH K H3 H) (b:H p=none):SimH K H3 (upd H p o):=fun a u e =>
 (s a u e).stay (aN b) fun w q=>by rw[aQ (cg q b)];exact q
theorem SimH.fresh {p:Addr}(s:SimH K H3 H) (a:H p=none):H3 p=none:=by
 cases e:H3 p with
 |none=>rfl
 |some o =>
  have q:=s p o e
  cases o with
  |lst ts=>obtain⟨xs,z,_⟩:=q;rw[a] at z;cases z
  |dct ts=>obtain⟨xs,z,_⟩:=q;rw[a] at z;cases z
  |dcp ts=>obtain⟨xs,z,_⟩:=q;rw[a] at z;cases z
  |exc C b=>have z:H p=_:=q;rw[a] at z;cases z
  |xdt ts=>obtain⟨xs,z,_⟩:=q;rw[a] at z;cases z
  |dci ts=>obtain⟨xs,z,_⟩:=q;rw[a] at z;cases z
  |dif o ts=>obtain⟨xs,z,_⟩:=q;rw[a] at z;cases z
  |ins C ts=>obtain⟨b,xs,z,_⟩:=q;rw[a] at z;cases z
  |rol ts =>
   obtain⟨xs,z,_⟩:=q
   rcases z with z | ⟨c,z⟩
   ·
    rw[a] at z;cases z
   ·
    rw[a] at z;cases z
end
abbrev VK3:=T->Hp3->Prop
abbrev TE3:=St3->Hp3->VK3->Prop
abbrev TT3:=St3->Hp3->(Bool->Hp3->Prop)->Prop
abbrev TA3:=St3->Hp3->(List T->Hp3->Prop)->Prop
structure Ends3 where
 nx:St3->Hp3->Prop
 rt:VK3
 bk:St3->Hp3->Prop:=fun _ _=>False
 ct:St3->Hp3->Prop:=fun _ _=>False
abbrev TS3:=Ends3->St3->Hp3->Prop
abbrev TG3:=T->St3->Hp3->(St3->Hp3->Prop)->Prop
abbrev mQ:=List T->St3->Hp3->(St3->Hp3->Prop)->Prop
abbrev R3:=T->T->Hp3->VK3->Prop
section
variable (K:Frag)
def KV3 (H:Hp) (b:VK3) (Q:VK):Prop:=∀v H' t a,TupLe K H H'->SimH K a H'->Rep K H' t v->b t a->Q v H'
def KS3 (H:Hp) (d:St3->Hp3->Prop) (N:L2.St->Hp->Prop):Prop:=∀b H' a c,TupLe K H H'->SimS K H' a b->SimH K c H'->d a c->N b H'
def lft (c:TE3):TE:=fun d H Q=>∃a H3 b,SimS K H a d/\SimH K H3 H/\c a H3 b/\KV3 K H b Q
def yE (f:TT3):TT:=fun e H Q=>∃a H3 d,SimS K H a e/\SimH K H3 H/\f a H3 d/\∀b H' c,TupLe K H H'->SimH K c H'->d b c->Q b H'
def Vw (e:TA3):TA:=fun d H Q=>∃a H3 c,SimS K H a d/\SimH K H3 H/\e a H3 c/\∀vs H' ts b,TupLe K H H'->SimH K b H'->Reps K H' ts vs->c ts b->Q vs H'
def Q8 (c:TS3):TS:=fun D d H=>∃a H3 b,SimS K H a d/\SimH K H3 H/\c b a H3/\KS3 K H b.nx D.nx/\KV3 K H b.rt D.rt/\KS3 K H b.bk D.bk/\KS3 K H b.ct D.ct
def Gb (c:TG3):TG:=fun v d H Q=>∃t a H3 b,Rep K H t v/\SimS K H a d/\SimH K H3 H/\c t a H3 b/\KS3 K H b Q
def Q9 (c:mQ):TGs:=fun vs d H Q=>∃ts a H3 b,Reps K H ts vs/\SimS K H a d/\SimH K H3 H/\c ts a H3 b/\KS3 K H b Q
def Mp (d:R3):R2:=fun x y H Q=>∃c b H3 a,Rep K H c x/\Rep K H b y/\SimH K H3 H/\d c b H3 a/\KV3 K H a Q
def Vx (b:List T->Hp3->VK3->Prop):List V->Hp->VK->Prop:=fun xs H Q=>∃ts H3 a,Reps K H ts xs/\SimH K H3 H/\b ts H3 a/\KV3 K H a Q
def Vy (c:T->List T->Hp3->VK3->Prop):V->List V->Hp->VK->Prop:=fun x xs H Q=>∃b ts H3 a,Rep K H b x/\Reps K H ts xs/\SimH K H3 H/\c b ts H3 a/\KV3 K H a Q
end
section
variable {K:Frag}{H H1:Hp}
theorem KV3.at {b:VK3}{Q:VK}(k:KV3 K H b Q) (c:TupLe K H H1):KV3 K H1 b Q:=fun v H' t a l=>k v H' t a (c.trans l)
theorem KS3.at {e:St3->Hp3->Prop}{N:L2.St->Hp->Prop}(k:KS3 K H e N) (f:TupLe K H H1):KS3 K H1 e N:=fun a b c d l=>k a b c d (f.trans l)
end
def PE3 (X:Cx) (e:Expr) (t:TE3):Prop:=PE X e (lft X.K t)
def PT3 (X:Cx) (e:Expr) (t:TT3):Prop:=PT X e (yE X.K t)
def PW3 (X:Cx) (e:Expr) (t:TT3):Prop:=PW X e (yE X.K t)
def PA3 (X:Cx) (a:List Expr) (t:TA3):Prop:=PA X a (Vw X.K t)
def PS3 (X:Cx) (st:Stmt) (t:TS3):Prop:=PS X st (Q8 X.K t)
def o6 (X:Cx) (st:List Stmt) (t:TS3):Prop:=PSs X st (Q8 X.K t)
def PG3 (X:Cx) (e:Expr) (t:TG3):Prop:=PG X e (Gb X.K t)
def Gd (X:Cx) (a:List Expr) (t:mQ):Prop:=PGs X a (Q9 X.K t)
def dH (X:Cx) (f:Value->Value->Sem Value) (r:R3):Prop:=OpR X f (Mp X.K r)
def eZ (X:Cx) (f:Value) (r:List T->Hp3->VK3->Prop):Prop:=CallR X f (Vx X.K r)
def Ra (X:Cx) (r:R3):Prop:=IxR X (Mp X.K r)
def um (X:Cx) (id:String) (r:T->List T->Hp3->VK3->Prop):Prop:=MtR X id (Vy X.K r)
theorem PE.imp {X:Cx}{e:Expr}{t t':TE}(h:PE X e t) (w:∀b H Q,t' b H Q->t b H Q):PE X e t':=fun a s b H Q I q=>h a s b H Q I (w b H Q q)
theorem PT.imp {X:Cx}{e:Expr}{t t':TT}(h:PT X e t) (w:∀b H Q,t' b H Q->t b H Q):PT X e t':=fun a s b H Q I q=>h a s b H Q I (w b H Q q)
theorem PW.imp {X:Cx}{e:Expr}{t t':TT}(h:PW X e t) (w:∀b H Q,t' b H Q->t b H Q):PW X e t':=fun c a s b H Q I q=>h c a s b H Q I (w b H Q q)
theorem PA.imp {X:Cx}{d:List Expr}{t t':TA}(h:PA X d t) (w:∀b H Q,t' b H Q->t b H Q):PA X d t':=fun c a s b H Q I q=>h c a s b H Q I (w b H Q q)
theorem PS.imp {X:Cx}{e:Stmt}{t t':TS}(h:PS X e t) (w:∀D b H,t' D b H->t D b H):PS X e t':=fun a s b H D I q=>h a s b H D I (w D b H q)
theorem PSs.imp {X:Cx}{e:List Stmt}{t t':TS}(h:PSs X e t) (w:∀D b H,t' D b H->t D b H):PSs X e t':=fun a s b H D I q=>h a s b H D I (w D b H q)
theorem PG.imp {X:Cx}{e:Expr}{t t':TG}(h:PG X e t) (w:∀v b H Q,t' v b H Q->t v b H Q):PG X e t':=fun a s b H v u Q I r q=>h a s b H v u Q I r (w v b H Q q)
theorem PGs.imp {X:Cx}{e:List Expr}{t t':TGs}(h:PGs X e t) (w:∀v b H Q,t' v b H Q->t v b H Q):PGs X e t':=fun a s b H v u Q I r q=>h a s b H v u Q I r (w v b H Q q)
theorem OpR.imp {X:Cx}{f:Value->Value->Sem Value}{t t':R2}(h:OpR X f t) (w:∀x y H Q,t' x y H Q->t x y H Q):OpR X f t':=fun a s d H x y v u Q I b c q=>h a s d H x y v u Q I b c (w x y H Q q)
theorem CallR.imp {X:Cx}{f:Value}{t t':List V->Hp->VK->Prop}(h:CallR X f t) (w:∀x H Q,t' x H Q->t x H Q):CallR X f t':=fun a s c H x v Q I b q=>h a s c H x v Q I b (w x H Q q)
theorem IxR.imp {X:Cx}{t t':R2}(h:IxR X t) (w:∀x y H Q,t' x y H Q->t x y H Q):IxR X t':=fun a b c s f H x y v u Q I d e q=>h a b c s f H x y v u Q I d e (w x y H Q q)
theorem MtR.imp {X:Cx}{id:String}{t t':V->List V->Hp->VK->Prop}(h:MtR X id t) (w:∀x xs H Q,t' x xs H Q->t x xs H Q):MtR X id t':=fun a s d H x xs v us Q I b c q=>h a s d H x xs v us Q I b c (w x xs H Q q)
section
variable {X:Cx}{pos:Pos}
def qM (i:Nat):TE3:=fun a H Q=>match a[i]? with
 |some (some t)=>Q t H
 |_=>False
def tC3 (t:T):TE3:=fun _ H Q=>Q t H
theorem v3 (i:Nat) {x:Str}{a:Pos}(g:X.N[i]?=some x:=by rfl) (l:Vis X.env.scope x:=by first | exact Or.inl rfl | exact Or.inr (Or.inl rfl) | exact Or.inr (Or.inr rfl)) (j:(x==("__debug__":Str))=false:=by decide)
  (b:(x==("__classdict__":Str))=false:=by decide):PE3 X (.Name x a) (qM i):=by
 refine PE.imp (pv i g l j b) ?_;rintro o H Q ⟨c,H3,n,d,f,h,k⟩;unfold qM at h;split at h
 ·rename_i t e;obtain⟨v,m,r⟩:=d.at' i t e;exact⟨v,m,k v H t H3 .refl f r h⟩
 exact h.elim
theorem aq {i:Int}{j:Nat}:PE3 X (.Constant (.int i) j pos) (tC3 (.int i)):=by
 refine PE.imp KR ?_;rintro e H Q ⟨a,H3,c,d,b,h,k⟩;exact k _ _ _ H3 .refl b .ofInt h
theorem fH {b:Bool}{j:Nat}:PE3 X (.Constant (.bool b) j pos) (tC3 (.bl b)):=by
 refine PE.imp Qg ?_;rintro f H Q ⟨a,H3,d,e,c,h,k⟩;exact k _ _ _ H3 .refl c .ofBl h
theorem gH {j:Nat}:PE3 X (.Constant .none j pos) (tC3 .non):=by
 refine PE.imp KY ?_;rintro e H Q ⟨a,H3,c,d,b,h,k⟩;exact k _ _ _ H3 .refl b .ofNon h
theorem gh {x:Str}{j:Nat}:PE3 X (.Constant (.str x) j pos) (tC3 (.str x)):=by
 refine PE.imp KZ ?_;rintro e H Q ⟨a,H3,c,d,b,h,k⟩;exact k _ _ _ H3 .refl b .ofStr h
variable {a b c:Expr}{ta tb tc:TE3}
def uo (r:R3) (b e:TE3):TE3:=fun a H Q=>b a H fun x c=>e a c fun y d=>r x y d Q
theorem gZ {r:R3}{j:L2.St}{H:Hp}{Q:VK}(h:lft X.K (uo r ta tb) j H Q):tOp (Mp X.K r) (lft X.K ta) (lft X.K tb) j H Q:=by
 obtain⟨b,H3,m,i,l,h,k⟩:=h;exact⟨b,H3,_,i,l,h,fun x v o d c e n q=>⟨b,d,_,i.mono c,e,q,fun y u s g a f t p=>⟨o,s,g,m,n.mono a,t,f,p,k.at (c.trans a)⟩⟩⟩
theorem aH {c:Operator}{r:R3}(f:dH X (binaryOp c) r) (e:PE3 X a ta) (d:PE3 X b tb):PE3 X (.BinOp a c b pos) (uo r ta tb):=PE.imp (Qu f e d) fun _ _ _ h=>gZ h
theorem gm {c:CmpOp}{r:R3}(e:dH X (compareOp c) r) (d:PE3 X a ta) (g:PE3 X b tb) (f:behindInMarks c b=false:=by first | exact zJ _ | rfl):PE3 X (.Compare a [c] [b] pos) (uo r ta tb):=PE.imp (Fe e d g f) fun _ _ _ h=>gZ h
theorem aJ {r:R3}(e:Ra X r) (d:PE3 X a ta) (c:PE3 X b tb) (f:vN b:=by exact fun _ _=>rfl):PE3 X (.Subscript a b pos) (uo r ta tb):=PE.imp (QS e d c f) fun _ _ _ h=>gZ h
def jB (t:TE3):TT3:=fun a H Q=>t a H fun x H'=>match x with
 |.bl k=>Q k H'
 |_=>False
theorem aW {d:CmpOp}{r:R3}(m:dH X (compareOp d) r) (g:PE3 X a ta) (n:PE3 X b tb) (l:behindInMarks d b=false:=by first | exact zJ _ | rfl):PT3 X (.Compare a [d] [b] pos) (jB (uo r ta tb)):=by
 refine PT.imp (Ff m g n l) ?_;rintro s H Q ⟨c,H3,p,i,j,h,k⟩;refine gZ (X:=X) ⟨c,H3,_,i,j,h,fun v H' t e o f r q=>?_⟩;cases t with
 |bl b=>exact⟨b,r.bl,k b H' e o f q⟩
 |_=>exact q.elim
variable {tA tB':TT3}{rest:List Expr}
theorem cP (h:PE3 X a ta) (i:∀whole,isTrue a X.env whole=(do let v <- whole;standAt a.pos;holding [v] (truthy v)):=by intro _;rfl):PT3 X a (jB ta):=by
 refine PT.imp (K1 h i) ?_;rintro m H Q ⟨c,H3,l,f,g,h,k⟩;refine⟨c,H3,_,f,g,h,fun v H' t d j e r q=>?_⟩;cases t with
 |bl b=>exact⟨b,r.bl,k b H' d j e q⟩
 |_=>exact q.elim
def Jk (t u:TT3):TT3:=fun b H Q=>t b H fun c a=>if c=true then u b a Q else Q false a
def Rb (t u:TT3):TT3:=fun b H Q=>t b H fun c a=>if c=true then Q true a else u b a Q
def Jl (t:TT3):TT3:=fun b H Q=>t b H fun c a=>Q (!c) a
theorem PW3.pt (h:PW3 X a tA):PT3 X a tA:=PW.pt h
theorem cJ (b:PT3 X a tA):PW3 X (.BoolOp .And [a] pos) tA:=Er b
theorem jC (b:PT3 X a tA):PW3 X (.BoolOp .Or [a] pos) tA:=K3 b
theorem cG (n:PT3 X a tA) (p:PW3 X (.BoolOp .And (b::rest) pos) tB'):PW3 X (.BoolOp .And (a::b::rest) pos) (Jk tA tB'):=by
 refine PW.imp (K4 n p) ?_;rintro t H Q ⟨c,H3,s,m,o,h,k⟩;refine⟨c,H3,_,m,o,h,fun b H' f j g q=>?_⟩;cases b with
 |true=>exact⟨c,f,_,m.mono j,g,q,fun b l e i d r=>k b l e (j.trans i) d r⟩
 |false=>exact k false H' f j g q
theorem lg (n:PT3 X a tA) (p:PW3 X (.BoolOp .Or (b::rest) pos) tB'):PW3 X (.BoolOp .Or (a::b::rest) pos) (Rb tA tB'):=by
 refine PW.imp (Qh n p) ?_;rintro t H Q ⟨c,H3,s,m,o,h,k⟩;refine⟨c,H3,_,m,o,h,fun b H' f j g q=>?_⟩;cases b with
 |true=>exact k true H' f j g q
 |false=>exact⟨c,f,_,m.mono j,g,q,fun b l e i d r=>k b l e (j.trans i) d r⟩
theorem iJ (f:PT3 X a tA):PT3 X (.UnaryOp .Not a pos) (Jl tA):=by
 refine PT.imp (K5 f) ?_;rintro m H Q ⟨c,H3,l,g,i,h,k⟩;exact⟨c,H3,_,g,i,h,fun b H' d j e q=>k _ H' d j e q⟩
def z8 (e d:TE3):TE3:=fun b H Q=>e b H fun x a=>match x with
 |.bl c=>if c=true then d b a Q else Q (.bl false) a
 |_=>False
def Jm (e d:TE3):TE3:=fun b H Q=>e b H fun x a=>match x with
 |.bl c=>if c=true then Q (.bl true) a else d b a Q
 |_=>False
theorem o7 {b:PySem.BoolOp}{t:TE3}(h:PE3 X a t):PE3 X (.BoolOp b [a] pos) t:=K6 h
theorem z9 (i:PE3 X a ta) (l:PE3 X (.BoolOp .And (b::rest) pos) tb):PE3 X (.BoolOp .And (a::b::rest) pos) (z8 ta tb):=by
 refine PE.imp (K7 i l) ?_;rintro n H Q ⟨c,H3,m,g,j,h,k⟩;refine⟨c,H3,_,g,j,h,fun v H' t d f e r q=>?_⟩;cases t with
 |bl b =>
  refine⟨b,r.bl,?_⟩;cases b with
  |true=>exact⟨c,d,_,g.mono f,e,q,k.at f⟩
  |false=>exact k _ H' _ d f e .ofBl q
 |_=>exact q.elim
theorem Jo (i:PE3 X a ta) (l:PE3 X (.BoolOp .Or (b::rest) pos) tb):PE3 X (.BoolOp .Or (a::b::rest) pos) (Jm ta tb):=by
 refine PE.imp (Qj i l) ?_;rintro n H Q ⟨c,H3,m,g,j,h,k⟩;refine⟨c,H3,_,g,j,h,fun v H' t d f e r q=>?_⟩;cases t with
 |bl b =>
  refine⟨b,r.bl,?_⟩;cases b with
  |true=>exact k _ H' _ d f e .ofBl q
  |false=>exact⟨c,d,_,g.mono f,e,q,k.at f⟩
 |_=>exact q.elim
def Vz (t:TT3) (e d:TE3):TE3:=fun a H Q=>t a H fun c b=>if c=true then e a b Q else d a b Q
variable {e:Expr}{es:List Expr}{te:TE3}{t:TA3}
def Jp:TA3:=fun _ H Q=>Q [] H
def Aa (b:TE3) (e:TA3):TA3:=fun a H Q=>b a H fun x c=>e a c fun xs d=>Q (x::xs) d
theorem ak:PA3 X [] Jp:=by
 refine PA.imp Lz ?_;rintro e H Q ⟨a,H3,c,d,b,h,k⟩;exact k _ _ _ _ .refl b .nil h
theorem aa (l:PE3 X e te) (s:PA3 X es t) (p:starEach (e::es) X.env=(false,eval e X.env)::starEach es X.env:=by rfl):PA3 X (e::es) (Aa te t):=by
 refine PA.imp (Fl l s p) ?_;rintro x H Q ⟨a,H3,w,g,m,h,k⟩;exact⟨a,H3,_,g,m,h,fun v H' t d j f r q=>⟨a,d,_,g.mono j,f,q,fun vs u ts i c b n o=>k _ _ _ _ (j.trans c) b (.cons (r.mono c) n) o⟩⟩
def Jq (t:TA3):TE3:=fun b H Q=>t b H fun xs a=>xs.length<=sizeLine/\Q (.tup xs) a
def Jr (t:TA3):TE3:=fun b H Q=>t b H fun xs a=>xs.length<=sizeLine/\∀p,a p=none->Q (.ref p) (up3 a p (.lst xs))
theorem SimH.newTup {K:Frag}{H:Hp}{H3:Hp3}{ts:List T}{xs:List V}{p:Addr}(a:H p=none) (r:Reps K H ts xs):Rep K (upd H p (.tup xs)) (.tup ts) (.ref p) :=
 .ofTup (.of bU) (r.mono (aN a))
theorem SimH.newLst {K:Frag}{H:Hp}{H3:Hp3}{ts:List T}{xs:List V}{p:Addr}(s:SimH K H3 H) (c:H p=none) (r:Reps K H ts xs):SimH K (up3 H3 p (.lst ts)) (upd H p (.lst xs)):=fun a o e=>by
 by_cases b:a=p
 ·subst b;rw[aB] at e;cases e;exact⟨xs,bU,r.mono (aN c)⟩
 rw[aD b] at e;exact s.new c a o e
theorem cA {x1}(h:PA3 X es t):PE3 X (.Tuple es x1 pos) (Jq t):=by
 refine PE.imp (LC h) ?_;rintro j H Q ⟨b,H3,i,e,f,h,k⟩;refine⟨b,H3,_,e,f,h,fun vs H' ts a g d r q=>⟨by rw[<- r.length];exact q.1,fun p c=>?_⟩⟩;exact k _ _ _ a (g.trans (aN c)) (d.new c) (SimH.newTup (H3:=a) c r) q.2
theorem bI (h:PA3 X es t):PE3 X (.List es pos) (Jr t):=by
 refine PE.imp (LK h) ?_;rintro j H Q ⟨b,H3,i,d,e,h,k⟩;refine⟨b,H3,_,d,e,h,fun vs H' ts f g a r q=>⟨by rw[<- r.length];exact q.1,fun p c=>?_⟩⟩;exact k _ _ _ _ (g.trans (aN c)) (a.newLst c r) .ofRef (q.2 p (a.fresh c))
end
section
variable {X:Cx}{st:Stmt}{rest:List Stmt}{e c:Expr}{te:TE3}{tc:TT3}{t u:TS3}{pos:Pos}
def Ab:TS3:=fun D a H=>D.nx a H
def vV (t u:TS3):TS3:=fun D a H=>t { D with nx:=u D} a H
theorem bu:o6 X [] Ab:=by
 refine PSs.imp Es ?_;rintro D e H ⟨a,H3,f,b,c,h,d,_⟩;exact d _ _ _ _ .refl b c h
theorem ao (n:PS3 X st t) (k:o6 X rest u):o6 X (st::rest) (vV t u):=by
 refine PSs.imp (zB n k) ?_;rintro D s H ⟨c,H3,r,l,m,h,p,g,i,j⟩;exact⟨c,H3,_,l,m,h,fun o H' a e b d f q=>⟨a,e,r,d,f,q,p.at b,g.at b,i.at b,j.at b⟩,g,i,j⟩
theorem au (a:PS3 X st t):o6 X [st] t:=Et a
def Mq:TS3:=fun D a H=>D.ct a H
theorem qN:PS3 X (.Continue pos) Mq:=by
 refine PS.imp qD ?_;rintro D e H ⟨a,H3,f,b,c,h,i,g,j,d⟩;exact d _ _ _ _ .refl b c h
def Ac (te:TE3):TS3:=fun D a H=>te a H fun _ b=>D.nx a b
theorem bY (j:PE3 X e te) (k:swapsWith e none pos.line X.env=pure false:=by rfl):PS3 X (.Expr e pos) (Ac te):=by
 refine PS.imp (Eu j k) ?_;rintro D l H ⟨a,H3,m,c,f,h,g,_⟩;exact⟨a,H3,_,c,f,h,fun v H' t i d b r q=>g _ _ _ _ d (c.mono d) b q⟩
def Js (te:TE3):TS3:=fun D a H=>te a H D.rt
theorem aM (f:PE3 X e te):PS3 X (.Return (some e) pos) (Js te):=by
 refine PS.imp (K8 f) ?_;rintro D g H ⟨a,H3,i,b,c,h,j,d,_⟩;exact⟨a,H3,_,b,c,h,d⟩
def Mr:TS3:=fun D _ H=>D.rt .non H
def Jt (c:TT3) (t u:TS3):TS3:=fun D a H=>c a H fun b d=>if b=true then t D a d else u D a d
theorem bV {a b:List Stmt}(r:PT3 X c tc) (o:o6 X a t) (s:o6 X b u):PS3 X (.If c a b pos) (Jt tc t u):=by
 refine PS.imp (Qn r o s) ?_;rintro D v H ⟨e,H3,k,i,p,h,j,l,m,n⟩;refine⟨e,H3,_,i,p,h,fun b H' f d g q=>?_⟩;cases b with
 |true=>exact⟨e,f,k,i.mono d,g,q,j.at d,l.at d,m.at d,n.at d⟩
 |false=>exact⟨e,f,k,i.mono d,g,q,j.at d,l.at d,m.at d,n.at d⟩
def dZ (i:Nat):TG3:=fun v a H Q=>Q (a.set i (some v)) H
theorem aF {i:Nat}{x:Str}(g:X.N.Nodup) (b:X.N[i]?=some x:=by rfl) (c:Loc X.env.scope x:=by first | exact Or.inl rfl | exact Or.inr rfl) (f:X.fn x=true\/X.env.scope.names.lookup x=some .local:=by first | exact .inl rfl | exact .inr rfl | assumption):PG3 X (.Name x pos) (dZ i):=by
 refine PG.imp (Ew g b c f) ?_;rintro v l H Q ⟨t,a,H3,j,r,d,e,h,k⟩;exact k _ _ _ _ .refl (d.set r) e h
def vW:mQ:=fun ts a H Q=>match ts with
 |[]=>Q a H
 |_=>False
def iK (t:TG3) (u:mQ):mQ:=fun ts b H Q=>match ts with
 |x::r=>t x b H fun a H'=>u r a H' Q
 |[]=>False
theorem cW:Gd X [] vW:=by
 refine PGs.imp Ex ?_;rintro vs e H Q ⟨ts,a,H3,d,r,b,c,h,k⟩;cases ts with
 |nil=>exact⟨r.inv0,k _ _ _ _ .refl b c h⟩
 |cons _ _=>exact h.elim
theorem aO {e:Expr}{b:List Expr}{t:TG3}{u:mQ}(p:PG3 X e t) (j:Gd X b u)
  (z:(assignEach (e::b) X.env).map (·.2)=assign e X.env::(assignEach b X.env).map (·.2):=by rfl):Gd X (e::b) (iK t u):=by
 refine PGs.imp (zF p j z) ?_;rintro vs A H Q ⟨ts,c,H3,l,r,n,o,h,k⟩;cases ts with
 |nil=>exact h.elim
 |cons x ts =>
 obtain⟨v,w,rfl,m,y⟩:=r.inv;exact⟨v,w,rfl,x,c,H3,_,m,n,o,h,fun s H' a f i d g q=>⟨ts,a,f,l,y.mono i,d,g,q,k.at i⟩⟩
def vX (n:Nat) (g:mQ):TG3:=fun t a H Q=>match t with
 |.tup ts=>ts.length=n/\g ts a H Q
 |_=>False
theorem dN {b:List Expr}{k:Nat}{t:mQ}{n:Nat}(j:X.calm=true) (h:Gd X b t)
  (l:(assignEach b X.env).length=n:=by rfl) (d:(assignEach b X.env).findIdx? (·.1)=none:=by rfl):PG3 X (.Tuple b k pos) (vX n t):=by
 refine PG.imp (K9 j h l d) ?_;rintro v m H Q ⟨t,c,H3,f,r,g,i,h,k⟩;cases t with
 |tup ts=>obtain⟨a,xs,rfl,s,e⟩:=r.tup;exact⟨a,xs,rfl,s,by rw[<- e.length];exact h.1,ts,c,H3,f,e,g,i,h.2,k⟩
 |_=>exact h.elim
def vY (te:TE3) (g:TG3):TS3:=fun D a H=>te a H fun x b=>g x a b D.nx
theorem Ad {a e:Expr}{te:TE3}{g:TG3}(n:PE3 X e te) (j:PG3 X a g) (p:swapsWithSole [a] e pos.line X.env=pure false:=by rfl) (m:swappedStores [a] e X.env=pure none:=by rfl)
  (l:(assignEach [a] X.env).map (·.2)=[assign a X.env]:=by rfl):PS3 X (.Assign [a] e pos) (vY te g):=by
 refine PS.imp (Ld n j p m l) ?_;rintro D s H ⟨b,H3,u,f,k,h,o,_⟩;exact⟨b,H3,_,f,k,h,fun v H' t c i d r q=>⟨t,b,c,_,r,f.mono i,d,q,o.at i⟩⟩
theorem aG {i:Nat}{x:Str}{e:Expr}{te:TE3}{a:Pos}(n:X.N.Nodup) (p:PE3 X e te) (g:X.N[i]?=some x:=by rfl) (j:Loc X.env.scope x:=by first | exact Or.inl rfl | exact Or.inr rfl)
  (s:swapsWith e (some (.Name x a)) pos.line X.env=pure false:=by rfl) (l:X.fn x=true\/X.env.scope.names.lookup x=some .local:=by first | exact .inl rfl | exact .inr rfl | assumption) :
  PS3 X (.Assign [.Name x a] e pos) (vY te (dZ i)):=by
 refine PS.imp (Le n g j p s l) ?_;rintro D u H ⟨b,H3,w,d,k,h,m,_⟩;exact⟨b,H3,_,d,k,h,fun v H' t o f c r q=>m _ _ _ _ f ((d.mono f).set r) c q⟩
end
abbrev qO:=T->T->T->Hp3->(Hp3->Prop)->Prop
def Ms (K:Frag) (f:qO):zE:=fun o i v H Q=>∃c e d H3 b,Rep K H c o/\Rep K H e i/\Rep K H d v/\SimH K H3 H/\f c e d H3 b/\∀H' a,TupLe K H H'->SimH K a H'->b a->Q H'
def Ju (X:Cx) (t:qO):Prop:=PSet X (Ms X.K t)
theorem PSet.imp {X:Cx}{t t':zE}(h:PSet X t) (w:∀o i v H Q,t' o i v H Q->t o i v H Q):PSet X t':=fun a s b H o i v f e u Q I d g c q=>h a s b H o i v f e u Q I d g c (w o i v H Q q)
section
variable {X:Cx}{pos:Pos}
def Jv (b e:TE3) (t:qO):TG3:=fun v a H Q=>b a H fun o c=>e a c fun i d=>t o i v d fun H3=>Q a H3
theorem Mt {o i:Expr}{d e:TE3}{t:qO}(D:PE3 X o d) (B:PE3 X i e) (x:Ju X t)
  (s:∀v,assign (.Subscript o i pos) X.env v=(do
   let ov <- holding [v] (eval o X.env)
   let iv <- holding [v,ov] (eval i X.env)
   standAt pos
   holding [v,ov,iv] (setItem ov iv v)
   release [v,ov,iv] []):=by intro _;rfl):PG3 X (.Subscript o i pos) (Jv d e t):=by
 refine PG.imp (La D B x s) ?_;rintro v E H Q ⟨t,c,H3,F,r,f,w,h,k⟩;exact⟨c,H3,_,f,w,h,fun o I d g b j C A=>⟨c,g,_,f.mono b,j,A,fun i G e n a m u z=>⟨d,e,t,n,_,C.mono a,u,r.mono (b.trans a),m,z,fun H' y p l q=>k _ _ _ _ (b.trans (a.trans p)) (f.mono (b.trans (a.trans p))) l q⟩⟩⟩
end
abbrev TI3:=St3->Hp3->(List T->(Hp3->Prop)->Hp3->Prop)->Prop
def lq (K:Frag) (J:It) (ts:List T) (still:Hp3->Prop) (H:Hp):Prop:=∀H' b,TupLe K H H'->SimH K b H'->still b ->
 (∀i,ts.length<=i->J.stop i H')/\∀i t,ts[i]?=some t->J.go i H'/\∀x a,J.yld i H' x a->TupLe K H' a/\SimH K b a/\Rep K a t x
def VB (K:Frag) (c:TI3):TI:=fun d H R=>∃a H3 R3,SimS K H a d/\SimH K H3 H/\c a H3 R3/\∀J ts still H' b,TupLe K H H'->SimH K b H'->lq K J ts still H'->R3 ts still b->R J H'
def PI3 (X:Cx) (b a:Expr) (t:TI3):Prop:=PI X b a (VB X.K t)
theorem PI.imp {X:Cx}{c e:Expr}{t t':TI}(h:PI X c e t) (w:∀b H R,t' b H R->t b H R):PI X c e t':=fun a s b H R I q=>h a s b H R I (w b H R q)
def cR:Hp3->Prop:=fun _=>True
def cB (a:Addr) (ts:List T):Hp3->Prop:=fun H=>H a=some (.lst ts)\/H a=some (.rol ts)
theorem SimH.sqL {K:Frag}{H:Hp}{H3:Hp3}{a:Addr}{ts:List T}(s:SimH K H3 H) (h:cB a ts H3):∃xs,SqL K H a xs/\Reps K H ts xs:=by
 rcases h with h | h
 ·obtain⟨xs,e,r⟩:=s a _ h;exact⟨xs,.of e,r⟩
 obtain⟨xs,e,r⟩:=s a _ h;exact⟨xs,.inl e,r⟩
section
variable {X:Cx}{tg l:Expr}{tl:TE3}{pos p:Pos}
def Ae (c:TE3):TI3:=fun d H R=>c d H fun x b=>match x with
 |.ref a=>match b a with
  |some (.lst ts)=>R ts (cB a ts) b
  |some (.rol ts)=>R ts (cB a ts) b
  |_=>False
 |_=>False
theorem nT {K:Frag}{H:Hp}{a:Addr}{ts:List T}:lq K (Itl K a) ts (cB a ts) H:=fun H' h n c st=>by
 obtain⟨xs,b,d⟩:=c.sqL st;have m:=d.length;refine⟨fun i l=>⟨xs,b,by omega⟩,fun i t e=>?_⟩;obtain⟨v,f,g⟩:=d.get e;refine⟨⟨xs,v,b,f⟩,fun x k y=>?_⟩;obtain⟨j,y⟩:=y;subst j;have:=y xs b;rw[f] at this;cases this;exact⟨.refl,c,g⟩
theorem cL (o:PE3 X l tl):PI3 X tg l (Ae tl):=by
 refine PI.imp (Ey o) ?_;rintro p H R ⟨f,H3,R3,j,m,h,k⟩;refine⟨f,H3,_,j,m,h,fun v H' t b i c r q=>?_⟩;cases t with
 |ref a =>
  have d:(match b a with
   |some (.lst ts)=>R3 ts (cB a ts) b
   |some (.rol ts)=>R3 ts (cB a ts) b
   |_=>False):=q
  split at d
  ·
   rename_i ts e
   obtain⟨xs,g,n⟩:=c.sqL (.inl e)
   exact⟨a,r.ref,⟨xs,g⟩,k _ ts (cB a ts) H' b i c nT d⟩
  ·
   rename_i ts e
   obtain⟨xs,g,n⟩:=c.sqL (.inr e)
   exact⟨a,r.ref,⟨xs,g⟩,k _ ts (cB a ts) H' b i c nT d⟩
  ·
   exact d.elim
 |_=>exact q.elim
def Jw (a:TE3):TI3:=fun c H R=>a c H fun x b=>match x with
 |.tup ts=>R ts cR b
 |_=>False
theorem Af {K:Frag}{H:Hp}{a:Addr}{ts:List T}{xs:List V}(c:SqT K H a xs) (d:Reps K H ts xs):lq K (Itt K a) ts cR H:=fun H' j b h st=>by
 have n:=d.length;refine⟨fun i m=>⟨xs,b _ _ c,by omega⟩,fun i t e=>?_⟩;obtain⟨v,f,g⟩:=d.get e;refine⟨⟨xs,v,b _ _ c,f⟩,fun x l y=>?_⟩;obtain⟨k,y⟩:=y;subst k;have:=y xs (b _ _ c);rw[f] at this;cases this;exact⟨.refl,h,g.mono b⟩
theorem dO (m:PE3 X l tl):PI3 X tg l (Jw tl):=by
 refine PI.imp (Lh m) ?_;rintro o H R ⟨b,H3,R3,g,i,h,k⟩;refine⟨b,H3,_,g,i,h,fun v H' t c n d r q=>?_⟩;cases t with
 |tup ts=>obtain⟨a,xs,e,f,j⟩:=r.tup;exact⟨a,e,⟨xs,f⟩,k _ ts cR H' c n d (Af f j) q⟩
 |_=>exact q.elim
def di (a:Int) (n:Nat):List T:=(List.range n).map fun (i:Nat)=>T.int (a+i)
theorem qP {K:Frag}{H:Hp}{b:Int}{n:Nat}:lq K (Itr b n) (di b n) cR H:=fun H' d j c st=>by
 refine⟨fun i a=>by unfold di at a;simp at a;exact a,fun i t e=>?_⟩;unfold di at e;rw[J_] at e;by_cases a:i<n
 ·rw[XD a] at e;cases e;refine⟨a,fun x h y=>?_⟩;obtain⟨f,g⟩:=y;subst f;subst g;exact⟨.refl,c,.ofInt⟩
 rw[Wf (by simpa using a)] at e;cases e
def Ag (b:TA3):TI3:=fun c H R=>b c H fun vs a=>match vs with
 |[.int j]=>-(2^62)<=j/\j<2^62/\R (di 0 j.toNat) cR a
 |[.int i,.int j]=>(-(2^62)<=i/\i<2^62 /\ -(2^62)<=j/\j<2^62)/\R (di i (j - i).toNat) cR a
 |_=>False
theorem aU {a:Expr}{e:TA3}(i:Gl X "range") (n:X.mg "range"=none) (l:PA3 X [a] e) (y:starEach [a] X.env=[(false,eval a X.env)]:=by rfl):PI3 X tg (.Call (.Name "range" p) [a] [] pos) (Ag (fun f H Q=>e f H fun vs u=>vs.length=1/\Q vs u)):=by
 refine PI.imp (yg i n l y) ?_;rintro f H R ⟨b,H3,R3,m,o,h,k⟩;refine⟨b,H3,_,m,o,h,fun vs H' ts c x d r q=>?_⟩;obtain⟨g,q⟩:=q;cases ts with
 |nil=>cases g
 |cons t ts =>
 cases ts with
 |cons _ _=>simp at g
 |nil =>
 cases t with
 |int j=>obtain⟨v,_,rfl,s,w⟩:=r.inv;rw[w.inv0,s.int];exact⟨j,rfl,q.1,q.2.1,k _ _ _ H' c x d qP q.2.2⟩
 |_=>exact q.elim
theorem nU {a b:Expr}{m:TA3}(y:Gl X "range") (z:X.mg "range"=none) (n:PA3 X [a,b] m) (w:starEach [a,b] X.env=[(false,eval a X.env),(false,eval b X.env)]:=by rfl) (c:starEach [b] X.env=[(false,eval b X.env)]:=by rfl) :
  PI3 X tg (.Call (.Name "range" p) [a,b] [] pos) (Ag (fun l H Q=>m l H fun vs B=>vs.length=2/\Q vs B)):=by
 refine PI.imp (yh y z n w c) ?_;rintro l H R ⟨f,H3,R3,s,t,h,k⟩;refine⟨f,H3,_,s,t,h,fun vs H' ts d u e r q=>?_⟩;obtain⟨C,q⟩:=q
 match ts,C,r with
 |[t1,t2],_,r =>
 obtain⟨v,_,rfl,o,x⟩:=r.inv;obtain⟨D,_,rfl,g,A⟩:=x.inv;cases t1 with
 |int i =>
  cases t2 with
  |int j=>rw[A.inv0,o.int,g.int];exact⟨i,j,rfl,q.1,k _ _ _ H' d u e qP q.2⟩
  |_=>exact q.elim
 |_=>cases t2 <;> exact q.elim
end
def iter3 (g:TG3) (b:TS3) (D:Ends3) (still:Hp3->Prop):List T->St3->Hp3->Prop
 |[],σ,H=>still H/\D.nx σ H
 |t::r,σ,H=>still H/\g t σ H fun a c=>b { D with nx:=iter3 g b D still r,ct:=iter3 g b D still r,bk:=D.nx} a c
theorem iter3.st {g:TG3}{a:TS3}{D:Ends3}{still:Hp3->Prop}{ts:List T}{b:St3}{H:Hp3}(h:iter3 g a D still ts b H):still H:=by
 cases ts with
 |nil=>exact h.1
 |cons t r=>exact h.1
def Jx (d:TI3) (g:TG3) (b:TS3):TS3:=fun D a H=>d a H fun ts still c=>iter3 g b D still ts a c
section
variable {X:Cx}{tg iter:Expr}{pos:Pos}
theorem bA {n:List Stmt}{wi:TI3}{g:TG3}{r:TS3}(hp:PassesOwn (model X.prog X.w) X.A X.env X.xe) (hc:X.calm=true) (Z:PI3 X tg iter wi) (hg:PG3 X tg g) (hb:o6 X n r)
  (hs:∀x,foldedSetIterable iter X.env x=pure x:=by intro _;rfl):PS3 X (.For tg iter n [] pos) (Jx wi g r):=by
 refine PS.imp (Li hp hc Z hg hb hs) ?_;rintro D I H ⟨f,H3,G,V,sh,h,W,k2,k3,k4⟩;refine⟨f,H3,_,V,sh,h,fun J ts still z L F P wk q=>?_⟩;refine⟨fun i m I H=>∃f H3,TupLe X.K z H/\SimS X.K H f I/\SimH X.K H3 H/\m=ts.length - i/\i<=ts.length/\iter3 g r G still (ts.drop i) f H3,⟨ts.length,f,L,.refl,V.mono F,P,rfl,Xa _,by simpa using q⟩,?_⟩;rintro i m I H ⟨N,H4,p,C,v,rfl,Z,it⟩;have w:=wk H H4 p v it.st;by_cases o:i<ts.length
 ·have e:=d_ o;have ed:ts.drop i=ts[i]::ts.drop (i+1):=W0 o;rw[ed] at it;obtain⟨st,it⟩:=it;obtain⟨go,yl⟩:=w.2 i _ e;refine .inr ⟨go,fun j H'=>∃f H3,TupLe X.K z H'/\SimS X.K H' f j/\SimH X.K H3 H'/\iter3 g r G still (ts.drop (i+1)) f H3,fun j H' ⟨s5,h5,a,b,c,d⟩=>⟨ts.length - (i+1),by omega,s5,h5,a,b,c,rfl,o,d⟩,fun x H' y=>?_⟩;obtain⟨u,Q,rx⟩:=yl x H' y;refine⟨ts[i],N,H4,_,rx,C.mono u,Q,it,fun σ2 R t U S M T q2=>?_⟩;have k:TupLe X.K z R:=p.trans (u.trans S);have Y:∀(B:TupLe X.K z R),KS3 X.K R (iter3 g r G still (ts.drop (i+1))) (fun j H'=>∃f H3,TupLe X.K z H'/\SimS X.K H' f j/\SimH X.K H3 H'/\iter3 g r G still (ts.drop (i+1)) f H3) :=
   fun B j H' E O l s h q=>⟨E,O,B.trans l,s,h,q⟩
  exact⟨t,U,_,M,T,q2,Y k,k2.at (F.trans k),W.at (F.trans k),Y k⟩
 have e:i=ts.length:=by omega
 subst e;rw[List.drop_length] at it;exact .inl ⟨w.1 _ (j_ _),W _ _ _ _ (F.trans p) C v it.2⟩
def o8 (c:TT3) (g:TS3):TS3:=fun D d H=>∃W:Nat->St3->Hp3->Prop,(∃m,W m d H)/\∀m d H,W m d H ->
 c d H fun b f=>if b=true then g { D with nx:=fun a H'=>∃e,e<m/\W e a H',ct:=fun a H'=>∃e,e<m/\W e a H',bk:=D.nx} d f else D.nx d f
theorem jc {c:Expr}{g:List Stmt}{x:TT3}{v:TS3}(I:PassesOwn (model X.prog X.w) X.A X.env X.xe) (P:PT3 X c x) (Q:o6 X g v):PS3 X (.While c g [] pos) (o8 x v):=by
 refine PS.imp (zG I P Q) ?_;rintro D R H ⟨d,H3,S,B,C,⟨W,⟨J,L⟩,o⟩,y,G,U,V⟩;refine⟨fun m a H'=>∃d H3,TupLe X.K H H'/\SimS X.K H' d a/\SimH X.K H3 H'/\W m d H3,⟨J,d,H3,.refl,B,C,L⟩,?_⟩;rintro m O T ⟨j,z,f,k,t,E⟩;refine⟨j,z,_,k,t,o m j z E,fun b N F e n q=>?_⟩;cases b with
 |true =>
  rw[if_pos rfl] at q ⊢;have u:KS3 X.K N (fun a H'=>∃i,i<m/\W i a H') (fun a H'=>∃i,i<m/\∃d H3,TupLe X.K H H'/\SimS X.K H' d a/\SimH X.K H3 H'/\W i d H3) :=
   fun a H' p r l s h ⟨i,M,w⟩=>⟨i,M,p,r,f.trans (e.trans l),s,h,w⟩
  exact⟨_,fun a H' h=>h,j,F,_,k.mono e,n,q,u,G.at (f.trans e),y.at (f.trans e),u⟩
 |false =>
 rw[if_neg m_] at q ⊢;exact y _ _ _ _ (f.trans e) (k.mono e) n q
end
def Ge (X:Cx) (a:List Expr) (t:TT3):Prop:=PIf X a (yE X.K t)
def vZ:TT3:=fun _ H Q=>Q true H
theorem b7 {X:Cx}:Ge X [] vZ:=fun a s d H Q I ⟨b,H3,e,f,c,h,k⟩=>FQ a s d H Q I (k _ _ _ .refl c h)
theorem ie {X:Cx}{c:Expr}{t:TT3}(h:PT3 X c t):Ge X [c] t:=FT h
def o9 (nt:Nat) (cap:List Nat) (a:St3):St3:=List.replicate nt none++cap.map fun j=>(a[j]?).getD none
theorem wg {K:Frag}{H:Hp}{a:St3}{d:L2.St}{nt:Nat}{cap:List Nat}(s:SimS K H a d):SimS K H (o9 nt cap a) (mO nt cap d):=by
 refine⟨by simp [o9,mO],fun i t e=>?_⟩;unfold o9 at e;unfold mO;by_cases c:i<nt
 ·rw[Wb (by simpa using c),Yo] at e;split at e <;> cases e
 rw[M_ (by simpa using c),J_] at e;rw[M_ (by simpa using c),J_];simp only[YH] at e ⊢;cases q:cap[i - nt]? with
 |none=>rw[q] at e;cases e
 |some j =>
 rw[q] at e;have b:(a[j]?).getD none=some t:=We e;have g:a[j]?=some (some t):=by
  cases z:a[j]? with
  |none=>rw[z] at b;cases b
  |some y=>rw[z] at b;exact U_ some b
 obtain⟨v,f,r⟩:=s.at' j t g;exact⟨v,by simp [f],r⟩
def cIter3 (g:TG3) (tt:TT3) (te:TE3) (still:Hp3->Prop) (c:List T->Hp3->Prop):List T->List T->St3->Hp3->Prop
 |[],ys,σ,H=>still H/\ys.length<=sizeLine/\c ys H
 |t::r,ys,σ,H=>still H/\g t σ H fun a e=>tt a e fun b H3=>if b=true then te a H3 fun y d=>ys.length<sizeLine/\cIter3 g tt te still c r (ys++[y]) a d else cIter3 g tt te still c r ys a H3
theorem cIter3.st {g:TG3}{tt:TT3}{te:TE3}{still:Hp3->Prop}{a:List T->Hp3->Prop}{ts b:List T}{c:St3}{H:Hp3}(h:cIter3 g tt te still a ts b c H):still H:=by
 cases ts with
 |nil=>exact h.1
 |cons t r=>exact h.1
theorem Ah {K:Frag}{J:It}{g:TG3}{tt:TT3}{te:TE3}{still:Hp3->Prop}{d:List T->Hp3->Prop}{C:List V->Hp->Prop}{ts:List T}{c:St3}{s:L2.St}{r:Hp}{p:Hp3}
  (wk:lq K J ts still r) (U:SimS K r c s) (W:SimH K p r) (h:cIter3 g tt te still d ts [] c p)
  (Z:∀o us H' H3',TupLe K r H'->SimH K H3' H'->Reps K H' o us->d o H3'->C us H'):vR J (Gb K g) (yE K tt) (lft K te) C s r:=by
 refine⟨fun i m us s H=>∃c H3 o,TupLe K r H/\SimS K H c s/\SimH K H3 H/\Reps K H o us/\m=ts.length - i/\i<=ts.length/\cIter3 g tt te still d (ts.drop i) o c H3,⟨ts.length,c,p,[],.refl,U,W,.nil,rfl,Xa _,by simpa using h⟩,?_⟩;rintro i m us s H ⟨F,R,o,n,O,A,z,rfl,hi,it⟩;have w:=wk H R n A it.st;by_cases l:i<ts.length
 ·have e:=d_ l;have Y:ts.drop i=ts[i]::ts.drop (i+1):=W0 l;rw[Y] at it;obtain⟨st,it⟩:=it;obtain⟨go,S⟩:=w.2 i _ e;refine .inr ⟨go,fun x H' y=>?_⟩;obtain⟨u,I,X⟩:=S x H' y;refine⟨ts[i],F,R,_,X,O.mono u,I,it,fun σ2 H2 a N L j M q2=>?_⟩;refine⟨a,N,_,j,M,q2,fun b H3 B f D E=>?_⟩;have k:TupLe K H H3:=u.trans (L.trans f);cases b with
  |true=>rw[if_pos rfl] at E;refine Vu ?_;refine⟨a,B,_,j.mono f,D,E,fun v H5 t P q G rt Q=>⟨by rw[<- z.length];exact Q.1,ts.length - (i+1),by omega,a,P,o++[t],n.trans (k.trans q),j.mono (f.trans q),G,(z.mono (k.trans q)).append (.cons rt .nil),rfl,l,Q.2⟩⟩
  |false =>
  rw[if_neg m_] at E;refine Vt ?_;exact⟨ts.length - (i+1),by omega,a,B,o,n.trans k,j.mono f,D,z.mono k,rfl,l,E⟩
 have e:i=ts.length:=by omega
 subst e;rw[List.drop_length] at it;exact .inl ⟨w.1 _ (j_ _),by rw[<- z.length];exact it.2.1,Z _ _ _ _ n A z it.2.2⟩
def Ai (c:TI3) (g:TG3) (tt:TT3) (te:TE3) (nt:Nat) (cap:List Nat):TE3:=fun a H Q=>c a H fun ts still d=>cIter3 g tt te still (fun b H'=>∀p,H' p=none->Q (.ref p) (up3 H' p (.lst b))) ts [] (o9 nt cap a) d
def nY (c:TI3) (g:TG3) (tt:TT3) (te:TE3) (nt:Nat) (cap:List Nat) (i:Nat):TS3:=fun D a H=>c a H fun ts still d=>cIter3 g tt te still (fun b H'=>∀p,H' p=none->D.nx (a.set i (some (.ref p))) (up3 H' p (.lst b))) ts [] (o9 nt cap a) d
section
variable {X:Cx}{N':List Str}{nt:Nat}{cap:List Nat}{scope:Scope}{elt tg iter:Expr}{ifs:List Expr}{pos pos' spos:Pos}{wi:TI3}{g:TG3}{tt:TT3}{te:TE3}
theorem bL (w:X.calm=true) (S:CompSc X N' nt cap scope) (v:PI3 X tg iter wi)
  (n:∀cl pins s H C fp,PG3 (bM X N' scope cl pins s H C fp) tg g/\Ge (bM X N' scope cl pins s H C fp) ifs tt/\PE3 (bM X N' scope cl pins s H C fp) elt te)
  (m:∀x,foldedSetIterable iter X.env x=pure x:=by intro _;rfl):PE3 X (.ListComp elt [⟨tg,iter,ifs,0⟩] scope pos) (Ai wi g tt te nt cap):=by
 refine PE.imp (FZ (g:=Gb X.K g) (tt:=yE X.K tt) (te:=lft X.K te) w S v n m) ?_;rintro y H Q ⟨e,H3,z,f,j,h,k⟩;refine⟨e,H3,_,f,j,h,fun J ts still B l i d r q=>?_⟩;exact Ah r (wg (f.mono i)) d q fun A us H' o c a t u p b=>k _ _ _ _ (i.trans (c.trans (aN b))) (a.newLst b t) .ofRef (u p (a.fresh b))
theorem ph {i:Nat}{x:Str}(E:X.calm=true) (v:X.N.Nodup) (S:CompSc X N' nt cap scope) (A:PI3 X tg iter wi)
  (r:∀cl pins s H C fp,PG3 (bM X N' scope cl pins s H C fp) tg g/\Ge (bM X N' scope cl pins s H C fp) ifs tt/\PE3 (bM X N' scope cl pins s H C fp) elt te)
  (f:X.N[i]?=some x:=by rfl) (B:Loc X.env.scope x:=by first | exact Or.inl rfl | exact Or.inr rfl)
  (j:swapsWith (.ListComp elt [⟨tg,iter,ifs,0⟩] scope pos) (some (.Name x pos')) spos.line X.env=pure true:=by rfl)
  (o:∀x,foldedSetIterable iter X.env x=pure x:=by intro _;rfl) (t:X.fn x=true\/X.env.scope.names.lookup x=some .local:=by first | exact .inl rfl | exact .inr rfl | assumption) :
  PS3 X (.Assign [.Name x pos'] (.ListComp elt [⟨tg,iter,ifs,0⟩] scope pos) spos) (nY wi g tt te nt cap i):=by
 refine PS.imp (Ga (g:=Gb X.K g) (tt:=yE X.K tt) (te:=lft X.K te) E v f B S A r j o t) ?_;rintro D G H ⟨l,H3,I,d,m,h,F,_⟩;refine⟨l,H3,_,d,m,h,fun J ts still M n e k w q=>?_⟩;exact Ah w (wg (d.mono e)) k q fun L us H' u a b y z p c =>
  F _ _ _ _ (e.trans (a.trans (aN c))) ((d.mono (e.trans (a.trans (aN c)))).set .ofRef) (b.newLst c y) (z p (b.fresh c))
end
abbrev Sp3:=List T->Hp3->VK3->Prop
def qQ (K:Frag) (sp:Sp3):Sp:=fun vs H Q _=>∃ts H3 a,Reps K H ts vs/\SimH K H3 H/\sp ts H3 a/\KV3 K H a Q
def Sub3 (H H':Hp3):Prop:=∀a o,H a=some o->H' a=some o
theorem Sub3.refl {H:Hp3}:Sub3 H H:=fun _ _ h=>h
theorem Sub3.trans {H e d:Hp3}(a:Sub3 H e) (b:Sub3 e d):Sub3 H d:=fun c o h=>b c o (a c o h)
theorem Sub3.new {H:Hp3}{p:Addr}{o:O3}(h:H p=none):Sub3 H (up3 H p o):=fun a u e=>by rw[aD (bh e h)];exact e
theorem SimH.sub {K:Frag}{H3 b:Hp3}{H:Hp}(s:SimH K b H) (h:Sub3 H3 b):SimH K H3 H:=fun a o e=>s a o (h a o e)
def Fin3 (Q:VK3):VK3:=fun v H=>∃H',Sub3 H' H/\Q v H'
theorem Fin3.of {Q:VK3}{v:T}{H H':Hp3}(h:Sub3 H' H) (q:Q v H'):Fin3 Q v H:=⟨H',h,q⟩
def aR (N:List Str) (ts:List T):St3:=ts.map some++List.replicate (N.length - ts.length) none
theorem yF {K:Frag}{H:Hp}{N:List Str}{ts:List T}{vs:List V}(r:Reps K H ts vs):SimS K H (aR N ts) (L2.start N vs):=by
 refine⟨by simp [aR,L2.start,r.length],fun i t e=>?_⟩;unfold aR at e;unfold L2.start;have d:=r.length;by_cases a:i<ts.length
 ·rw[Wb (by simpa using a),J_] at e;rw[Wb (by rw[g_];omega),J_];cases q:ts[i]? with
  |none=>rw[q] at e;cases e
  |some u =>
  rw[q] at e;cases e;obtain⟨v,b,c⟩:=r.get q;exact⟨v,by rw[b];rfl,c⟩
 rw[M_ (by simpa using a),Yo] at e;split at e <;> cases e
section
variable {X:Cx}{k:Nat}{f:Addr}{fd:FuncData}{ps:List Str}{sp:Sp3}{x:Str}{p pos:Pos}{e:Expr}{es:List Expr}{t:TA3}
def jQ (P:Program) (w:World) (K:Frag) (a:Str->Option Value) (base:Heap) (k:Nat) (f:Addr) (b:FuncData) (ps:List Str) (sp:Sp3):Prop:=FnOk P w K a base CX0 k f b ps (qQ K sp)
def pA (sp:Sp3) (t:TA3):TE3:=fun b H Q=>t b H fun vs a=>sp vs a Q
theorem Gf (F:jQ X.prog X.w X.K X.mg X.base k f fd ps sp) (z:Room k X.A) (i:Gl X x) (o:X.mg x=some (.ref f)) (m:keepIn X.K (.ref f)=true) (u:Binds X.K fd ps [])
  (l:PA3 X (e::es) t) (b:(x==("__debug__":Str))=false:=by decide) (v:starEach (e::es) X.env=(false,eval e X.env)::starEach es X.env:=by rfl) (d:(backTo pos (starEach es X.env)).any (·.1)=false:=by rfl) :
  PE3 X (.Call (.Name x p) (e::es) [] pos) (pA sp t):=by
 refine PE.imp (Fo (dvs:=[]) (E:=E0) F z i o m u .nil zZ l b v d) ?_;rintro B H Q ⟨a,H3,j,n,s,h,k⟩;refine⟨a,H3,_,n,s,h,fun vs H' ts c y g r q=>?_⟩;show qQ X.K sp (vs++[]) H' Q E0;rw[N_];exact⟨ts,c,j,r,g,q,k.at y⟩
theorem fn3 {P:Program}{w:World}{K:Frag}{l:Str->Option Value}{base:Heap}{b:Str}{st:Stmt}{N:List Str}(F:Fun K x b st f fd) (S:FnScope N ps (aA st)) (i:∀ts H Q,sp ts H Q->ts.length=ps.length)
  (e:∀(c:Value) (A:Around) (a:List Env) (s:Shared) (H:Hp) (E:XK) (ts:List T) (H3:Hp3) (Q:VK3),Room k (A.deeper (envOfC b (aA st) s.heap.objs.size f c))->sp ts H3 Q ->
   ∃t,o6 (t7 CX0 P w K l base N b (aA st) f c A a s H E).nox (bN st) t/\t { nx:=fun _ H'=>Fin3 Q .non H',rt:=Fin3 Q} (aR N ts) H3):jQ P w K l base (k+1) f fd ps sp:=by
 refine F.ok S (fun vs H Q E ⟨ts,H3,m,r,j,q,k⟩=>by rw[<- r.length];exact i _ _ _ q) fun c A a s H vs Q E y ⟨ts,H3,m,r,j,q,k⟩=>?_;obtain⟨t,D,u⟩:=e c A a s H E ts H3 m y q;exact⟨_,D,aR N ts,H3,_,yF r,j,u,fun B H' n h g p d ⟨C,sb,q⟩=>k _ _ _ _ g (d.sub sb) .ofNon q,fun v H' t h g d o ⟨C,sb,q⟩=>k _ _ _ _ g (d.sub sb) o q,fun _ _ _ _ _ _ _ z=>z,fun _ _ _ _ _ _ _ z=>z⟩
end
noncomputable instance:DecidableEq T:=fun a b=>Classical.propDecidable (a=b)
def pl:Nat->T->Bool
 |_,.non=>true
 |_,.int _=>true
 |_,.str _=>true
 |d+1,.tup ts=>ts.all (pl d)
 |_,_=>false
section
variable {X:Cx}{pins:List (Addr × Obj)}{σ:L2.St}{H:Hp}{s:Shared}
theorem wj (I:Inv X pins σ H s):∀(d:Nat) (x y:T) (v:V),pl d x=true->pl d y=true->Rep X.K H x v->Rep X.K H y v->x=y:=by
 intro d;induction d with
 |zero =>
  intro x y v i g c f;cases x <;> cases y <;> first
   |rfl
   | (simp only[Rep] at c f;subst c;cases f <;> rfl)
   | (simp [pl] at i;done)
   | (simp [pl] at g;done)
 |succ d q =>
 intro x y v i g c f;cases x with
 |tup ts =>
  cases y with
  |tup us =>
   obtain⟨a,xs,rfl,A,r⟩:=c.tup;obtain⟨b,B,e,l,o⟩:=f.tup;cases e;have:=I.tuple_inj A l;subst this;simp only[pl,WD] at i g;congr 1;have k:∀(ts us:List T) (xs:List V),(∀t∈ts,pl d t=true)->(∀t∈us,pl d t=true)->Reps X.K H ts xs->Reps X.K H us xs->ts=us:=by
    intro ts;induction ts with
    |nil =>
     intro us xs _ _ h h';rw[h.inv0] at h';cases us with
     |nil=>rfl
     |cons u us=>obtain⟨_,_,e,_⟩:=h'.inv;cases e
    |cons t ts j =>
    intro us xs n p h h';obtain⟨v,r,rfl,a,b⟩:=h.inv;cases us with
    |nil=>exact absurd h'.inv0 (by simp)
    |cons u us =>
    obtain⟨C,o,e,w,z⟩:=h'.inv;cases e;rw[q t u v (n t q_) (p u q_) a w,j us r (fun t m=>n t (z_ _ m)) (fun t m=>p t (z_ _ m)) b z]
   exact k ts us xs i g r o
  |_=>first | (simp only[Rep] at c f;obtain⟨a,xs,e,_⟩:=c;subst e;cases f;done) | (simp [pl] at g;done)
 |_=>cases y <;> first
  |rfl
  | (simp only[Rep] at c f;subst c;cases f <;> rfl)
  | (simp [pl] at i;done)
  | (simp [pl] at g;done)
  | (simp only[Rep] at c f;obtain⟨a,xs,e,_⟩:=f;subst e;cases c;done)
theorem units_in1 (A:Around):A.in1.units=A.units+1:=by rfl
theorem lr {a:Type} [DecidableEq (Option a)] (ts us:List a):((List.range (min ts.length us.length)).all (fun j=>decide (ts[j]?=us[j]?))&&ts.length==us.length)=true↔ts=us:=by
 rw[Wr,WD,Yj];constructor
 ·rintro⟨h,c⟩;refine List.ext_getElem? fun i=>?_;by_cases b:i<ts.length
  ·exact Wz (h i (O_.mpr (by omega)))
  rw[Wf (by omega),Wf (by omega)]
 rintro rfl;exact⟨fun i _=>by simp,rfl⟩
theorem Gg {us:List Value}{i:Nat}(h:i<us.toArray.size) {v:Value}(e:us[i]?=some v):us.toArray[i]=v:=by
 have:us.toArray[i]?=some v:=by simpa using e
 rw[P_ h] at this;exact We this
theorem wu (I:Inv X pins σ H s):∀(d:Nat) (A:Around) (x y:T) (l m:V) (u v:Value),pl d x=true->pl d y=true->Rep X.K H x l->Rep X.K H y m->RelV l u->RelV m v->A.units+d<cLine->SeqAt.EqAt A s u v (decide (x=y)):=by
 have iD:∀(A:Around) (x y:T) (l m:V) (u v:Value),pl 0 x=true->pl 0 y=true->Rep X.K H x l->Rep X.K H y m->RelV l u->RelV m v->SeqAt.EqAt A s u v (decide (x=y)):=by
  intro A x y l m u v z q g f k c;cases x with
  |non =>
   cases g.non;cases k;cases y with
   |non=>cases f.non;cases c;simp only[XS];exact SeqAt.EqAt.same _
   |int j=>cases f.int;obtain⟨t',rfl⟩:=c;rw[A_ (by simp)];exact SeqAt.EqAt.none_int _ _
   |str j=>cases f.str;obtain⟨t',rfl⟩:=c;rw[A_ (by simp)];exact SeqAt.EqAt.none_str _ _
   |_=>simp [pl] at q
  |int i =>
   cases g.int;obtain⟨t,rfl⟩:=k;cases y with
   |non=>cases f.non;cases c;rw[A_ (by simp)];exact SeqAt.EqAt.int_none _ _
   |int j=>cases f.int;obtain⟨t',rfl⟩:=c;rw[show decide (T.int i=T.int j)=(i==j) by by_cases h:i=j <;> simp [h]];exact SeqAt.EqAt.int_int _ _ _ _
   |str j=>cases f.str;obtain⟨t',rfl⟩:=c;rw[A_ (by simp)];exact SeqAt.EqAt.int_str _ _ _ _
   |_=>simp [pl] at q
  |str i =>
   cases g.str;obtain⟨t,rfl⟩:=k;cases y with
   |non=>cases f.non;cases c;rw[A_ (by simp)];exact SeqAt.EqAt.str_none _ _
   |int j=>cases f.int;obtain⟨t',rfl⟩:=c;rw[A_ (by simp)];exact SeqAt.EqAt.str_int _ _ _ _
   |str j=>cases f.str;obtain⟨t',rfl⟩:=c;rw[show decide (T.str i=T.str j)=(i==j) by by_cases h:i=j <;> simp [h]];exact SeqAt.EqAt.str_str _ _ _ _
   |_=>simp [pl] at q
  |_=>simp [pl] at z
 intro d;induction d with
 |zero=>intro A x y l m u v z q g f k c _;exact iD A x y l m u v z q g f k c
 |succ d Q =>
 intro A x y l m u v z q g f k c hu;have o:A.units<cLine:=by omega
 cases x with
 |tup ts =>
  obtain⟨a,xs,rfl,N,r⟩:=g.tup;cases k;obtain⟨B,F,G,_⟩:=I.tuple N;cases y with
  |tup us =>
   obtain⟨b,L,rfl,n,C⟩:=f.tup;cases c;obtain⟨its',w,p,_⟩:=I.tuple n;by_cases E:a=b
   ·subst E;have e:T.tup ts=T.tup us:=wj I (d+1) _ _ (.ref a) z q (.ofTup N r) (.ofTup n C);rw[e,F_ rfl];exact SeqAt.EqAt.same _
   have l1:=r.length;have S:=C.length;have O:=F.length;have l4:=w.length;have D:=SeqAt.RcAt.tuples (A:=A) (s:=s) (e:=fun j=>decide (ts[j]?=us[j]?)) (show s.heap.IsTuple a B.toArray from G) (show s.heap.IsTuple b its'.toArray from p) o (fun j h1 Z=>by
    rw[l_] at h1 Z
    have J:j<ts.length:=by omega
    have M:j<us.length:=by omega
    obtain⟨p1,R,Y⟩:=r.get (d_ J)
    obtain⟨p2,U,W⟩:=C.get (d_ M)
    obtain⟨P,f1,w1⟩:=F.get R
    obtain⟨z2,f2,w2⟩:=w.get U
    rw[Gg _ f1,Gg _ f2,d_ J,d_ M]
    simp only[pl,WD] at z q
    have:=Q A.in1 ts[j] us[j] p1 p2 P z2 (z _ (Ws J)) (q _ (Ws M)) Y W w1 w2 (by rw[units_in1];omega)
    rw[show decide (some ts[j]=some us[j])=decide (ts[j]=us[j]) by by_cases h:ts[j]=us[j] <;> simp [h]]
    exact this)
   have eb:((List.range (min B.toArray.size its'.toArray.size)).all (fun j=>decide (ts[j]?=us[j]?))&&B.toArray.size==its'.toArray.size)=decide (T.tup ts=T.tup us):=by
    rw[l_,l_,<- O,<- l1,<- l4,<- S,Wv,lr,p_];constructor
    ·rintro rfl;rfl
    intro h;injection h
   rw[eb] at D;exact .of_refs E D
  |non=>cases f.non;cases c;rw[A_ (by simp)];exact SeqAt.EqAt.tuple_none G o
  |int j=>cases f.int;obtain⟨t',rfl⟩:=c;rw[A_ (by simp)];exact SeqAt.EqAt.tuple_int _ _ G o
  |str j=>cases f.str;obtain⟨t',rfl⟩:=c;rw[A_ (by simp)];exact SeqAt.EqAt.tuple_str _ _ G o
  |_=>simp [pl] at q
 |non =>
  cases y with
  |tup us=>obtain⟨b,L,rfl,n,C⟩:=f.tup;cases c;obtain⟨its',w,p,_⟩:=I.tuple n;cases g.non;cases k;rw[A_ (by simp)];exact SeqAt.EqAt.none_tuple p o
  |non=>exact iD A _ _ l m u v rfl rfl g f k c
  |int j=>exact iD A _ _ l m u v rfl rfl g f k c
  |str j=>exact iD A _ _ l m u v rfl rfl g f k c
  |_=>simp [pl] at q
 |int i =>
  cases y with
  |tup us=>obtain⟨b,L,rfl,n,C⟩:=f.tup;cases c;obtain⟨its',w,p,_⟩:=I.tuple n;cases g.int;obtain⟨t,rfl⟩:=k;rw[A_ (by simp)];exact SeqAt.EqAt.int_tuple _ _ p o
  |non=>exact iD A _ _ l m u v rfl rfl g f k c
  |int j=>exact iD A _ _ l m u v rfl rfl g f k c
  |str j=>exact iD A _ _ l m u v rfl rfl g f k c
  |_=>simp [pl] at q
 |str i =>
  cases y with
  |tup us=>obtain⟨b,L,rfl,n,C⟩:=f.tup;cases c;obtain⟨its',w,p,_⟩:=I.tuple n;cases g.str;obtain⟨t,rfl⟩:=k;rw[A_ (by simp)];exact SeqAt.EqAt.str_tuple _ _ p o
  |non=>exact iD A _ _ l m u v rfl rfl g f k c
  |int j=>exact iD A _ _ l m u v rfl rfl g f k c
  |str j=>exact iD A _ _ l m u v rfl rfl g f k c
  |_=>simp [pl] at q
 |_=>simp [pl] at z
end
def rI3 (C:Int->Int->Prop) (g:Int->Int->T):R3:=fun x y H Q=>match x,y with
 |.int i,.int j=>C i j/\Q (g i j) H
 |_,_=>False
def pB (g:Int->Int->T):R3:=fun x y H Q=>match x,y with
 |.int i,.int j=>Q (g i j) H
 |_,_=>False
section
variable {X:Cx}
theorem Gh {f:Value->Value->Sem Value}{C:Int->Int->Prop}{g:Int->Int->T}{g':Int->Int->V}(h:OpR X f (rI C g')) (a:∀i j H,Rep X.K H (g i j) (g' i j)):dH X f (rI3 C g):=by
 refine OpR.imp h ?_;rintro x y H Q ⟨l,b,H3,m,c,e,d,h,k⟩;cases l with
 |int i =>
  cases b with
  |int j=>exact⟨i,j,c.int,e.int,h.1,k _ _ _ _ .refl d (a i j H) h.2⟩
  |_=>exact h.elim
 |_=>exact h.elim
theorem lw {f:Value->Value->Sem Value}{g:Int->Int->T}{g':Int->Int->V}(h:OpR X f (rI0 g')) (a:∀i j H,Rep X.K H (g i j) (g' i j)):dH X f (pB g):=by
 refine OpR.imp h ?_;rintro x y H Q ⟨l,b,H3,m,c,e,d,h,k⟩;cases l with
 |int i =>
  cases b with
  |int j=>exact⟨i,j,c.int,e.int,k _ _ _ _ .refl d (a i j H) h⟩
  |_=>exact h.elim
 |_=>exact h.elim
def Aj (_ j:Int):Prop:=0<j/\j.natAbs.log2<9000
theorem Ak:OpR X (binaryOp .FloorDiv) (rI Aj fun i j=>.int (i / j)):=opI fun i j _ _ _ _ _ a q=>by
 have e:i / j=i.fdiv j:=(Int.fdiv_eq_ediv_of_nonneg i (WP a.1)).symm;rw[e] at q;exact floordiv_int (Int.ne_of_gt a.1) q (.inl (PyProof.noPylong_of_log2 a.2))
theorem iM:dH X (binaryOp .Sub) (pB fun i j=>.int (i - j)):=lw Lk fun _ _ _=>.ofInt
theorem dU:dH X (binaryOp .FloorDiv) (rI3 Aj fun i j=>.int (i / j)):=Gh Ak fun _ _ _=>.ofInt
theorem dC:dH X (binaryOp .Mod) (rI3 (fun _ j=>0<j) fun i j=>.int (i%j)):=Gh Lp fun _ _ _=>.ofInt
theorem gJ:dH X (binaryOp .Pow) (rI3 Qw fun i j=>.int (i^j.toNat)):=Gh Lq fun _ _ _=>.ofInt
theorem nZ:dH X (compareOp .Lt) (pB fun i j=>.bl (decide (i<j))):=lw QB fun _ _ _=>.ofBl
theorem Jy:dH X (compareOp .LtE) (pB fun i j=>.bl (decide (i<=j))):=lw QC fun _ _ _=>.ofBl
theorem ww:dH X (compareOp .Gt) (pB fun i j=>.bl (decide (j<i))):=lw QD fun _ _ _=>.ofBl
theorem Rc:dH X (compareOp .GtE) (pB fun i j=>.bl (decide (j<=i))):=lw QF fun _ _ _=>.ofBl
theorem gB:dH X (binaryOp .Mult) (rI3 CMul fun i j=>.int (i*j)):=Gh Ln fun _ _ _=>.ofInt
def qR:R3:=fun x y H Q=>match x,y with
 |.int i,.int j=>Q (.int (i+j)) H
 |.str i,.str j=>i.length+j.length<=sizeLine/\Q (.str (i++j)) H
 |.ref a,.ref b=>match H a,H b with
  |some (.lst xs),some (.lst ys)=>xs.length+ys.length<=sizeLine/\∀p,H p=none->Q (.ref p) (up3 H p (.lst (xs++ys)))
  |_,_=>False
 |.tup xs,.tup ys=>xs.length+ys.length<=sizeLine/\Q (.tup (xs++ys)) H
 |_,_=>False
theorem Al:OpR X (binaryOp .Add) (fun x y H Q=>∃a b o,x=.ref a/\y=.ref b/\SqT X.K H a []/\SqT X.K H b o/\Q (.ref b) H):=by
 intro t s O H x y v u Q I B E h;obtain⟨a,b,o,rfl,rfl,w,L,q⟩:=h;cases B;cases E;obtain⟨z,C,J,_⟩:=I.tuple w;obtain⟨e,P,N,_⟩:=I.tuple L;cases C;obtain⟨⟨D,A,m,G⟩,p,r,n,l⟩:=id J;obtain⟨⟨k,i,g,j⟩,f,c,M,d⟩:=id N;simp only at r l c d;subst r l c d;exact concat_meets ⟨_,p,rfl⟩ ⟨_,f,rfl⟩ noFill_tuple_add seq_tuple_add PySem.F.slot_tuple_add PySem.F.entry_tuple_add (Zb _ _)
   (tuple_addW0 a b _ e.toArray n M A i G j (by simp)) ⟨p,f,⟨.ref b,H,I,rfl,q⟩⟩
theorem aZ:dH X (binaryOp .Add) qR:=by
 refine OpR.imp (op_add.or (op_add_str.or (op_cat.or (op_catT.or Al)))) ?_;rintro x y H Q ⟨A,n,H3,z,m,o,c,h,k⟩;cases A with
 |int i =>
  cases n with
  |int j=>exact .inl ⟨i,j,m.int,o.int,k _ _ _ _ .refl c .ofInt h⟩
  |_=>exact h.elim
 |str i =>
  cases n with
  |str j=>exact .inr (.inl ⟨i,j,m.str,o.str,h.1,k _ _ _ _ .refl c .ofStr h.2⟩)
  |_=>exact h.elim
 |ref a =>
  cases n with
  |ref b =>
   have h':(match H3 a,H3 b with
    |some (.lst xs),some (.lst l)=>xs.length+l.length<=sizeLine/\∀p,H3 p=none->z (.ref p) (up3 H3 p (.lst (xs++l)))
    |_,_=>False):=h
   split at h'
   ·
    rename_i xs l v B
    obtain⟨vs,w,d⟩:=c a _ v
    obtain⟨ws,D,g⟩:=c b _ B
    refine .inr (.inr (.inl ⟨a,b,vs,ws,m.ref,o.ref,w,D,by rw[<- d.length,<- g.length];exact h'.1,fun p f=>?_⟩))
    exact k _ _ _ _ (aN f) (c.newLst f (d.append g)) .ofRef (h'.2 p (c.fresh f))
   ·
    exact h'.elim
  |_=>exact h.elim
 |tup xs =>
  cases n with
  |tup l =>
   obtain⟨a,vs,rfl,r,d⟩:=m.tup;obtain⟨b,ws,rfl,s,g⟩:=o.tup;by_cases u:vs=[]
   ·subst u;have C:xs=[]:=Xl d.length;subst C;exact .inr (.inr (.inr (.inr ⟨a,b,ws,rfl,rfl,r,s,k _ _ _ _ .refl c (.ofTup s g) h.2⟩)))
   refine .inr (.inr (.inr (.inl ⟨a,b,vs,ws,rfl,rfl,r,s,u,by rw[<- d.length,<- g.length];exact h.1,fun t=>?_,fun t p f=>?_⟩)))
   ·have e:l=[]:=by have:=g.length;rw[t] at this;exact Xl this
    have q:=h.2;rw[e,N_] at q;exact k _ _ _ _ .refl c (.ofTup r d) q
   exact k _ _ _ _ (aN f) (c.new f) (SimH.newTup (H3:=H3) f (d.append g)) h.2
  |_=>exact h.elim
 |_=>exact h.elim
variable {pins:List (Addr × Obj)}{σ:L2.St}{H:Hp}{s:Shared}
def uq (c:Bool):R3:=fun x y H Q=>match x,y with
 |.int i,.int j=>Q (.bl (if c then !decide (i=j) else decide (i=j))) H
 |.str i,.str j=>Q (.bl (if c then !decide (i=j) else decide (i=j))) H
 |.bl i,.bl j=>Q (.bl (if c then !decide (i=j) else decide (i=j))) H
 |.non,.non=>Q (.bl (if c then false else true)) H
 |.tup xs,.tup ys=>xs.all (pl 20)=true/\ys.all (pl 20)=true/\Q (.bl (if c then !decide (xs=ys) else decide (xs=ys))) H
 |.ref a,.ref b=>match H a,H b with
  |some (.lst xs),some (.lst ys)=>a≠b/\xs.all (pl 20)=true/\ys.all (pl 20)=true/\Q (.bl (if c then !decide (xs=ys) else decide (xs=ys))) H
  |_,_=>False
 |_,_=>False
theorem fJ (I:Inv X pins σ H s) {ts us:List T}{xs m:List V}{a its':List Value}{A:Around}(D:A.units+30<cLine) (g:ts.all (pl 20)=true) (f:us.all (pl 20)=true) (r:Reps X.K H ts xs) (i:Reps X.K H us m) (b:Vals xs a) (c:Vals m its') :
  ∀j (l:j<a.toArray.size) (k:j<its'.toArray.size),SeqAt.EqAt A.in1 s a.toArray[j] its'.toArray[j] (decide (ts[j]?=us[j]?)):=fun j l k=>by
 have G:=r.length;have E:=i.length;have C:=b.length;have F:=c.length;rw[l_] at l k;have d:j<ts.length:=by omega
 have e:j<us.length:=by omega
 obtain⟨x,o,t⟩:=r.get (d_ d);obtain⟨B,p,q⟩:=i.get (d_ e);obtain⟨n,y,z⟩:=b.get o;obtain⟨w,u,v⟩:=c.get p;rw[Gg _ y,Gg _ u,d_ d,d_ e];rw[WD] at g f;have:=wu I 20 A.in1 ts[j] us[j] x B n w (g _ (Ws d)) (f _ (Ws e)) t q z v (by rw[units_in1];omega);rw[show decide (some ts[j]=some us[j])=decide (ts[j]=us[j]) by by_cases h:ts[j]=us[j] <;> simp [h]];exact this
theorem fK {ts us:List T}:((List.range (min ts.length us.length)).all (fun j=>decide (ts[j]?=us[j]?))&&ts.length==us.length)=decide (ts=us):=by
 rw[Wv,lr,p_]
theorem dj (K:X.A.units+30<cLine):dH X (compareOp .Eq) (uq false):=by
 intro n s J H x y v u Q I f g h;obtain⟨R,p,H3,O,o,t,l,h,k⟩:=h;have D:∀{x y:V},iD x y=true->RelV x v->RelV y u->(k:Q (.bl (decide (x=y))) H)->wpAny (model X.prog X.w) X.A (compareOp .Eq v u) (EP X n J Q) X.xe s:=fun {x y} a P T q=>Qy n s J H x y v u Q I P T ⟨a,q⟩;cases R with
 |int i =>
  cases p with
  |int j=>rw[o.int] at f;rw[t.int] at g;exact D rfl f g (k _ _ _ _ .refl l (by rw[show decide (V.int i=V.int j)=decide (i=j) by by_cases e:i=j <;> simp [e]];exact .ofBl) h)
  |_=>exact h.elim
 |str i =>
  cases p with
  |str j=>rw[o.str] at f;rw[t.str] at g;exact D rfl f g (k _ _ _ _ .refl l (by rw[show decide (V.str i=V.str j)=decide (i=j) by by_cases e:i=j <;> simp [e]];exact .ofBl) h)
  |_=>exact h.elim
 |bl i =>
  cases p with
  |bl j=>rw[o.bl] at f;rw[t.bl] at g;exact D rfl f g (k _ _ _ _ .refl l (by rw[show decide (V.bl i=V.bl j)=decide (i=j) by by_cases e:i=j <;> simp [e]];exact .ofBl) h)
  |_=>exact h.elim
 |non =>
  cases p with
  |non=>rw[o.non] at f;rw[t.non] at g;exact D rfl f g (k _ _ _ _ .refl l (by rw[show decide (V.non=V.non)=true by simp];exact .ofBl) h)
  |_=>exact h.elim
 |tup ts =>
  cases p with
  |tup us=>obtain⟨a,xs,rfl,U,r⟩:=o.tup;obtain⟨b,E,rfl,G,C⟩:=t.tup;cases f;cases g;obtain⟨B,c,F,_⟩:=I.tuple U;obtain⟨its',d,m,_⟩:=I.tuple G;refine SeqAt.eq_tupleAt (e:=fun j=>decide (ts[j]?=us[j]?)) F m (by omega) (fJ I K h.1 h.2.1 r C c d) ⟨.bl _,H,I,rfl,?_⟩;rw[l_,l_,<- c.length,<- d.length,<- r.length,<- C.length,fK];exact k _ _ _ _ .refl l .ofBl h.2.2
  |_=>exact h.elim
 |ref a =>
  cases p with
  |ref b =>
   have h':(match H3 a,H3 b with
    |some (.lst xs),some (.lst E)=>a≠b/\xs.all (pl 20)=true/\E.all (pl 20)=true/\O (.bl (decide (xs=E))) H3
    |_,_=>False):=h
   split at h'
   ·
    rename_i ts us M S
    obtain⟨xs,N,r⟩:=l a _ M
    obtain⟨E,W,C⟩:=l b _ S
    cases o.ref;cases t.ref;cases f;cases g
    obtain⟨B,c,F,_⟩:=I.list (X:=X) (.of N)
    obtain⟨its',d,m,_⟩:=I.list (X:=X) (.of W)
    have Y:B.length=ts.length:=by rw[<- c.length,<- r.length]
    have L:its'.length=us.length:=by rw[<- d.length,<- C.length]
    by_cases hsz:ts.length=us.length
    ·
     refine SeqAt.eq_listAt (e:=fun j=>decide (ts[j]?=us[j]?)) F.isList m.isList (by simp;omega) (by omega) (fJ I K h'.2.1 h'.2.2.1 r C c d) ⟨.bl _,H,I,rfl,?_⟩
     have e:=fK (ts:=ts) (us:=us)
     rw[<- hsz,Nat.min_self,Y9,YG] at e
     rw[l_,Y,e]
     exact k _ _ _ _ .refl l .ofBl h'.2.2.2
    ·
     refine SeqAt.eq_list_lengthsAt F.isList m.isList (by simp;omega) (by omega) ⟨.bl false,H,I,rfl,?_⟩
     have e:decide (ts=us)=false:=A_ fun z=>hsz (by rw[z])
     have q:=h'.2.2.2
     rw[e] at q
     exact k _ _ _ _ .refl l .ofBl q
   ·
    exact h'.elim
  |_=>exact h.elim
 |_=>exact h.elim
theorem lA (K:X.A.units+30<cLine):dH X (compareOp .NotEq) (uq true):=by
 intro n s J H x y v u Q I f g h;obtain⟨R,p,H3,O,o,t,l,h,k⟩:=h;have D:∀{x y:V},iD x y=true->RelV x v->RelV y u->(k:Q (.bl (!decide (x=y))) H)->wpAny (model X.prog X.w) X.A (compareOp .NotEq v u) (EP X n J Q) X.xe s:=fun {x y} a P T q=>Qz n s J H x y v u Q I P T ⟨a,q⟩;cases R with
 |int i =>
  cases p with
  |int j=>rw[o.int] at f;rw[t.int] at g;exact D rfl f g (k _ _ _ _ .refl l (by rw[show decide (V.int i=V.int j)=decide (i=j) by by_cases e:i=j <;> simp [e]];exact .ofBl) h)
  |_=>exact h.elim
 |str i =>
  cases p with
  |str j=>rw[o.str] at f;rw[t.str] at g;exact D rfl f g (k _ _ _ _ .refl l (by rw[show decide (V.str i=V.str j)=decide (i=j) by by_cases e:i=j <;> simp [e]];exact .ofBl) h)
  |_=>exact h.elim
 |bl i =>
  cases p with
  |bl j=>rw[o.bl] at f;rw[t.bl] at g;exact D rfl f g (k _ _ _ _ .refl l (by rw[show decide (V.bl i=V.bl j)=decide (i=j) by by_cases e:i=j <;> simp [e]];exact .ofBl) h)
  |_=>exact h.elim
 |non =>
  cases p with
  |non=>rw[o.non] at f;rw[t.non] at g;exact D rfl f g (k _ _ _ _ .refl l (by rw[show decide (V.non=V.non)=true by simp];exact .ofBl) h)
  |_=>exact h.elim
 |tup ts =>
  cases p with
  |tup us=>obtain⟨a,xs,rfl,U,r⟩:=o.tup;obtain⟨b,E,rfl,G,C⟩:=t.tup;cases f;cases g;obtain⟨B,c,F,_⟩:=I.tuple U;obtain⟨its',d,m,_⟩:=I.tuple G;refine SeqAt.RcNeAt.tuples (e:=fun j=>decide (ts[j]?=us[j]?)) F m (by omega) (fJ I K h.1 h.2.1 r C c d) _ _ _ _ ⟨.bl _,H,I,rfl,?_⟩;rw[l_,l_,<- c.length,<- d.length,<- r.length,<- C.length,fK];exact k _ _ _ _ .refl l .ofBl h.2.2
  |_=>exact h.elim
 |ref a =>
  cases p with
  |ref b =>
   have h':(match H3 a,H3 b with
    |some (.lst xs),some (.lst E)=>a≠b/\xs.all (pl 20)=true/\E.all (pl 20)=true/\O (.bl (!decide (xs=E))) H3
    |_,_=>False):=h
   split at h'
   ·
    rename_i ts us M S
    obtain⟨xs,N,r⟩:=l a _ M
    obtain⟨E,W,C⟩:=l b _ S
    cases o.ref;cases t.ref;cases f;cases g
    obtain⟨B,c,F,_⟩:=I.list (X:=X) (.of N)
    obtain⟨its',d,m,_⟩:=I.list (X:=X) (.of W)
    have Y:B.length=ts.length:=by rw[<- c.length,<- r.length]
    have L:its'.length=us.length:=by rw[<- d.length,<- C.length]
    by_cases hsz:ts.length=us.length
    ·
     refine SeqAt.RcNeAt.lists (e:=fun j=>decide (ts[j]?=us[j]?)) F.isList m.isList (by simp;omega) (by omega) (fJ I K h'.2.1 h'.2.2.1 r C c d) _ _ _ _ ⟨.bl _,H,I,rfl,?_⟩
     have e:=fK (ts:=ts) (us:=us)
     rw[<- hsz,Nat.min_self,Y9,YG] at e
     rw[l_,Y,e]
     exact k _ _ _ _ .refl l .ofBl h'.2.2.2
    ·
     refine SeqAt.RcNeAt.lists_lengths F.isList m.isList (by simp;omega) (by omega) _ _ _ _ ⟨.bl true,H,I,rfl,?_⟩
     have e:decide (ts=us)=false:=A_ fun z=>hsz (by rw[z])
     have q:=h'.2.2.2
     rw[e] at q
     exact k _ _ _ _ .refl l .ofBl q
   ·
    exact h'.elim
  |_=>exact h.elim
 |_=>exact h.elim
def d7 (a:Bool) (x:T) (ts:List T):Bool:=if a then !decide (x∈ts) else decide (x∈ts)
def occ (a:Bool) (i j:Str):Bool:=if a then !(!(Builtin.Str.occurrences j i 0 j.length 1).isEmpty) else !(Builtin.Str.occurrences j i 0 j.length 1).isEmpty
def ur (b:Bool):R3:=fun x y H Q=>match y with
 |.tup ts=>pl 20 x=true/\ts.all (pl 20)=true/\Q (.bl (d7 b x ts)) H
 |.ref a=>match H a with
  |some (.lst ts)=>pl 20 x=true/\ts.all (pl 20)=true/\Q (.bl (d7 b x ts)) H
  |some (.rol ts)=>pl 20 x=true/\ts.all (pl 20)=true/\Q (.bl (d7 b x ts)) H
  |_=>False
 |.str j=>match x with
  |.str i=>Q (.bl (occ b i j)) H
  |_=>False
 |_=>False
theorem pC (I:Inv X pins σ H s) {x:T}{ts:List T}{xs:List V}{a:List Value}(w:pl 20 x=true) (d:ts.all (pl 20)=true) (r:Reps X.K H ts xs) (l:Vals xs a) (A:Around) (N:A.units+30<cLine) {m:V}{u:Value}(D:Rep X.K H x m) (J:RelV m u) :
  ∃e:Value->Bool,(∀y,y∈a->SeqAt.EqAt A s y u (e y))/\a.any e=decide (x∈ts):=by
 rw[WD] at d;have h:∀y,y∈a->∃t v,t∈ts/\Rep X.K H t v/\RelV v y:=fun y k=>by
  obtain⟨i,o,e⟩:=List.mem_iff_getElem.mp k;have P:=l.length;have C:a[i]?=some y:=by rw[d_ o,e]
  have j:xs[i]?=some xs[i]:=d_ (by omega);obtain⟨z,p,F⟩:=l.get j;rw[C] at p;cases p;obtain⟨t,M,b⟩:=r.get' j;exact⟨t,_,Xp M,b,F⟩
 have f:∀t v y,t∈ts->Rep X.K H t v->RelV v y->(@decide (∃v,RelV v y/\Rep X.K H x v) (Classical.propDecidable _)=true↔t=x):=fun t v y g b c=>by
  rw[@p_ _ (Classical.propDecidable _)];constructor
  ·rintro⟨O,E,G⟩;cases E.inj c;exact wj I 20 t x _ (d t g) w b G
  rintro rfl;exact⟨v,c,b⟩
 refine⟨fun y=>@decide (∃v,RelV v y/\Rep X.K H x v) (Classical.propDecidable _),fun y k=>?_,?_⟩
 ·obtain⟨t,v,g,b,c⟩:=h y k;have q:=wu I 20 A t x v m y u (d t g) w b D c J (by omega);have e:@decide (∃v,RelV v y/\Rep X.K H x v) (Classical.propDecidable _)=decide (t=x):=by rw[Wv,f t v y g b c,p_]
  show SeqAt.EqAt A s y u (@decide (∃v,RelV v y/\Rep X.K H x v) (Classical.propDecidable _));rw[e];exact q
 rw[Wv,X3,p_];constructor
 ·rintro⟨y,k,e⟩;obtain⟨t,v,g,b,c⟩:=h y k;rw[<- (f t v y g b c).mp e];exact g
 intro j;obtain⟨i,o,e⟩:=List.mem_iff_getElem.mp j;obtain⟨v,L,n⟩:=r.get (show ts[i]?=some x by rw[d_ o,e]);obtain⟨y,B,c⟩:=l.get L;exact⟨y,Xp B,(f x v y j n c).mpr rfl⟩
theorem Am (N:X.A.units+31<cLine):dH X (compareOp .In) (ur false):=by
 intro c s G H x y v u Q I p n h;obtain⟨f,J,H3,t,B,D,l,h,k⟩:=h;have m:X.A.in1.units+30<cLine:=by rw[units_in1];omega
 have o:∀{a:Addr} {ts:List T} {xs:List V},SqL X.K H a xs->Reps X.K H ts xs->u=.ref a->pl 20 f=true->ts.all (pl 20)=true->t (.bl (d7 false f ts)) H3->wpAny (model X.prog X.w) X.A (compareOp .In v u) (EP X c G Q) X.xe s:=by intro a ts xs g r e L M q;subst e;obtain⟨b,d,F,_⟩:=I.list g;obtain⟨e,C,z⟩:=pC I L M r d X.A.in1 m B p;refine SeqAt.in_listAt e F.isList (fun y E=>C y (by simpa using E)) ⟨.bl _,H,I,rfl,?_⟩;rw[show b.toArray.any e=b.any e by simp,z];exact k _ _ _ _ .refl l .ofBl q
 cases J with
 |tup ts=>obtain⟨a,xs,rfl,g,r⟩:=D.tup;cases n;obtain⟨b,d,F,_⟩:=I.tuple g;obtain⟨e,C,z⟩:=pC I h.1 h.2.1 r d X.A.in1 m B p;refine SeqAt.in_tupleAt e F (fun y E=>C y (by simpa using E)) ⟨.bl _,H,I,rfl,?_⟩;rw[show b.toArray.any e=b.any e by simp,z];exact k _ _ _ _ .refl l .ofBl h.2.2
 |ref a =>
  have h':(match H3 a with
   |some (.lst ts)=>pl 20 f=true/\ts.all (pl 20)=true/\t (.bl (d7 false f ts)) H3
   |some (.rol ts)=>pl 20 f=true/\ts.all (pl 20)=true/\t (.bl (d7 false f ts)) H3
   |_=>False):=h
  rw[D.ref] at n
  split at h'
  ·
   rename_i ts e
   obtain⟨xs,g,r⟩:=l.sqL (.inl e)
   exact o g r n h'.1 h'.2.1 h'.2.2
  ·
   rename_i ts e
   obtain⟨xs,g,r⟩:=l.sqL (.inr e)
   exact o g r n h'.1 h'.2.1 h'.2.2
  ·
   exact h'.elim
 |str j =>
  cases f with
  |str i=>exact ym c s G H x y v u Q I p n ⟨i,j,B.str,D.str,k _ _ _ _ .refl l .ofBl h⟩
  |_=>exact h.elim
 |_=>exact h.elim
theorem An (N:X.A.units+31<cLine):dH X (compareOp .NotIn) (ur true):=by
 intro c s G H x y v u Q I p n h;obtain⟨f,J,H3,t,B,D,l,h,k⟩:=h;have m:X.A.in1.units+30<cLine:=by rw[units_in1];omega
 have o:∀{a:Addr} {ts:List T} {xs:List V},SqL X.K H a xs->Reps X.K H ts xs->u=.ref a->pl 20 f=true->ts.all (pl 20)=true->t (.bl (d7 true f ts)) H3->wpAny (model X.prog X.w) X.A (compareOp .NotIn v u) (EP X c G Q) X.xe s:=by intro a ts xs g r e L M q;subst e;obtain⟨b,d,F,_⟩:=I.list g;obtain⟨e,C,z⟩:=pC I L M r d X.A.in1 m B p;refine SeqAt.notIn_listAt e F.isList (fun y E=>C y (by simpa using E)) ⟨.bl _,H,I,rfl,?_⟩;rw[show b.toArray.any e=b.any e by simp,z];exact k _ _ _ _ .refl l .ofBl q
 cases J with
 |tup ts=>obtain⟨a,xs,rfl,g,r⟩:=D.tup;cases n;obtain⟨b,d,F,_⟩:=I.tuple g;obtain⟨e,C,z⟩:=pC I h.1 h.2.1 r d X.A.in1 m B p;refine SeqAt.notIn_tupleAt e F (fun y E=>C y (by simpa using E)) ⟨.bl _,H,I,rfl,?_⟩;rw[show b.toArray.any e=b.any e by simp,z];exact k _ _ _ _ .refl l .ofBl h.2.2
 |ref a =>
  have h':(match H3 a with
   |some (.lst ts)=>pl 20 f=true/\ts.all (pl 20)=true/\t (.bl (d7 true f ts)) H3
   |some (.rol ts)=>pl 20 f=true/\ts.all (pl 20)=true/\t (.bl (d7 true f ts)) H3
   |_=>False):=h
  rw[D.ref] at n
  split at h'
  ·
   rename_i ts e
   obtain⟨xs,g,r⟩:=l.sqL (.inl e)
   exact o g r n h'.1 h'.2.1 h'.2.2
  ·
   rename_i ts e
   obtain⟨xs,g,r⟩:=l.sqL (.inr e)
   exact o g r n h'.1 h'.2.1 h'.2.2
  ·
   exact h'.elim
 |str j =>
  cases f with
  |str i=>exact oV c s G H x y v u Q I p n ⟨i,j,B.str,D.str,k _ _ _ _ .refl l .ofBl h⟩
  |_=>exact h.elim
 |_=>exact h.elim
def oq {a:Type}(o:Option a) (Q:a->Prop):Prop:=match o with
 |some v=>Q v
 |none=>False
def qT:R3:=fun x y H Q=>match x,y with
 |.ref a,.int i=>match H a with
  |some (.lst ts)=>oq (atI ts i) fun t=>Q t H
  |some (.rol ts)=>oq (atI ts i) fun t=>Q t H
  |_=>False
 |.tup ts,.int i=>oq (atI ts i) fun t=>Q t H
 |.str z,.int i=>z.length<=sizeLine/\oq (atI z.cps.toList i) fun c=>Q (.str ⟨#[c]⟩) H
 |_,_=>False
theorem wy {K:Frag}{H:Hp}{ts:List T}{xs:List V}{i:Int}{t:T}(r:Reps K H ts xs) (h:atI ts i=some t):∃v,atI xs i=some v/\Rep K H t v:=by
 unfold atI at h ⊢;rw[<- r.length];cases e:ixN ts.length i with
 |none=>rw[e] at h;cases h
 |some j =>
 rw[e] at h;exact r.get h
theorem ix3:Ra X qT:=by
 refine IxR.imp Ma ?_;rintro x y H Q ⟨s,m,H3,d,j,l,f,h,k⟩;have g:∀{a:Addr} {ts:List T} {xs:List V} {i:Int},SqL X.K H a xs->Reps X.K H ts xs->x=.ref a->y=.int i->oq (atI ts i) (fun t=>d t H3)->rIx X.K x y H Q:=by
  intro a ts xs i b r o u q;cases e:atI ts i with
  |none=>rw[e] at q;exact q.elim
  |some t =>
  rw[e] at q;obtain⟨v,p,n⟩:=wy r e;exact .inl ⟨a,xs,i,v,o,u,b,p,k _ _ _ _ .refl f n q⟩
 cases s with
 |ref a =>
  cases m with
  |int i =>
   have h':(match H3 a with
    |some (.lst ts)=>oq (atI ts i) fun t=>d t H3
    |some (.rol ts)=>oq (atI ts i) fun t=>d t H3
    |_=>False):=h
   split at h'
   ·
    rename_i ts e
    obtain⟨xs,b,r⟩:=f.sqL (.inl e)
    exact g b r j.ref l.int h'
   ·
    rename_i ts e
    obtain⟨xs,b,r⟩:=f.sqL (.inr e)
    exact g b r j.ref l.int h'
   ·
    exact h'.elim
  |_=>exact h.elim
 |tup ts =>
  cases m with
  |int i =>
   have h':oq (atI ts i) fun t=>d t H3:=h
   cases e:atI ts i with
   |none=>rw[e] at h';exact h'.elim
   |some t =>
    rw[e] at h'
    obtain⟨a,xs,o,b,r⟩:=j.tup
    obtain⟨v,p,n⟩:=wy r e
    exact .inr (.inl ⟨a,xs,i,v,o,l.int,b,p,k _ _ _ _ .refl f n h'⟩)
  |_=>exact h.elim
 |str z =>
  cases m with
  |int i =>
   have h':z.length<=sizeLine/\oq (atI z.cps.toList i) fun c=>d (.str ⟨#[c]⟩) H3:=h
   cases e:atI z.cps.toList i with
   |none=>rw[e] at h';exact h'.2.elim
   |some c =>
    rw[e] at h'
    exact .inr (.inr ⟨z,i,c,j.str,l.int,h'.1,e,k _ _ _ _ .refl f .ofStr h'.2⟩)
  |_=>exact h.elim
 |_=>exact h.elim
def Ao:qO:=fun o i v H Q=>match o,i with
 |.ref a,.int k=>match H a with
  |some (.lst ts)=>oq (ixN ts.length k) fun j=>Q (up3 H a (.lst (ts.set j v)))
  |_=>False
 |_,_=>False
theorem SimH.wrL {K:Frag}{H:Hp}{H3:Hp3}{a:Addr}{xs:List V}{ts:List T}{c:List V}(s:SimH K H3 H) (g:H a=some (.lst xs)) (r:Reps K H ts c):SimH K (up3 H3 a (.lst ts)) (upd H a (.lst c)):=fun b o e=>by
 have f:TupLe K H (upd H a (.lst c)):=bH (by rw[g];exact trivial);by_cases d:b=a
 ·subst d;rw[aB] at e;cases e;exact⟨c,bU,r.mono f⟩
 rw[aD d] at e;exact (s b o e).stay f fun u q=>by rw[aQ d];exact q
theorem yG:Ju X Ao:=by
 refine PSet.imp set_list ?_;rintro o i v H Q ⟨l,s,q,H3,f,p,m,g,d,h,k⟩;cases l with
 |ref a =>
  cases s with
  |int n =>
   have h':(match H3 a with
    |some (.lst ts)=>oq (ixN ts.length n) fun j=>f (up3 H3 a (.lst (ts.set j q)))
    |_=>False):=h
   split at h'
   ·
    rename_i ts e
    obtain⟨xs,b,r⟩:=d a _ e
    cases c:ixN ts.length n with
    |none=>rw[c] at h';exact h'.elim
    |some j =>
     rw[c] at h'
     exact⟨a,xs,n,j,p.ref,m.int,b,by rw[<- r.length];exact c,k _ _ (bH (by rw[b];exact trivial)) (d.wrL b (r.set j g)) h'⟩
   ·
    exact h'.elim
  |_=>exact h.elim
 |_=>exact h.elim
abbrev TO3:=St3->Hp3->(Option Int->Hp3->Prop)->Prop
def VD (K:Frag) (e:TO3):TO:=fun d H Q=>∃a H3 c,SimS K H a d/\SimH K H3 H/\e a H3 c/\∀o H' b,TupLe K H H'->SimH K b H'->c o b->Q o H'
def PO3 (X:Cx) (e:Option Expr) (t:TO3):Prop:=PO X e (VD X.K t)
theorem PO.imp {e:Option Expr}{t t':TO}(h:PO X e t) (w:∀b H Q,t' b H Q->t b H Q):PO X e t':=fun a s b H Q I q=>h a s b H Q I (w b H Q q)
def qU:TO3:=fun _ H Q=>Q none H
def Aq (t:TE3):TO3:=fun b H Q=>t b H fun x a=>match x with
 |.int i=>Q (some i) a
 |_=>False
theorem jd:PO3 X none qU:=by
 refine PO.imp Fv ?_;rintro e H Q ⟨a,H3,c,d,b,h,k⟩;exact k _ _ _ .refl b h
theorem fL {e:Expr}{te:TE3}(h:PE3 X e te):PO3 X (some e) (Aq te):=by
 refine PO.imp (Fw h) ?_;rintro l H Q ⟨a,H3,j,c,d,h,k⟩;refine⟨a,H3,_,c,d,h,fun v H' t f g b r q=>?_⟩;cases t with
 |int i=>exact⟨i,r.int,k _ _ _ g b q⟩
 |_=>exact q.elim
theorem Mu:SlR X (fun x f g H Q=>∃z,x=.str z/\z.length<=sizeLine/\Q (.str (Txt.slice z f g)) H):=by
 intro b s w H x v C B f g A Q I r y pl n h;obtain⟨z,rfl,hz,q⟩:=h;obtain⟨t,rfl⟩:=r;refine⟨"str",_,F.slot_str_getitem.lookup,typeIs_str _ _ _,?_⟩;obtain⟨o,e,c,d⟩:=y;have a:∀(t':Tok) (k:Nat),EP X b w Q (.str (Txt.slice z f g) t') { s with toks:=k}:=fun t' k=>⟨.str _,H,I.tok k,⟨t',rfl⟩,q⟩;cases pl with
 |none =>
  cases n with
  |none=>exact Yq (l:=none) (u:=none) (st:=none) ⟨o,e,c,d⟩ rfl (post_val_or_str ⟨Wc (Txt.slice_le z _ _) hz,a⟩)
  |int j m=>exact Yq (l:=none) (u:=some (j,m)) (st:=none) ⟨o,e,c,d⟩ rfl (post_val_or_str ⟨Wc (Txt.slice_le z _ _) hz,a⟩)
 |int i p =>
 cases n with
 |none=>exact Yq (l:=some (i,p)) (u:=none) (st:=none) ⟨o,e,c,d⟩ rfl (post_val_or_str ⟨Wc (Txt.slice_le z _ _) hz,a⟩)
 |int j m=>exact Yq (l:=some (i,p)) (u:=some (j,m)) (st:=none) ⟨o,e,c,d⟩ rfl (post_val_or_str ⟨Wc (Txt.slice_le z _ _) hz,a⟩)
def eO (ts:List T) (a b:Option Int):List T:=(ts.drop (HT.sIx ts.length 0 a)).take (HT.sIx ts.length ts.length b - HT.sIx ts.length 0 a)
def Gi:T->Option Int->Option Int->Hp3->VK3->Prop:=fun x b c H Q=>match x with
 |.ref a=>match H a with
  |some (.lst ts)=>∀p,H p=none->Q (.ref p) (up3 H p (.lst (eO ts b c)))
  |some (.rol ts)=>∀p,H p=none->Q (.ref p) (up3 H p (.lst (eO ts b c)))
  |_=>False
 |.tup ts=>¬(HT.sIx ts.length 0 b=0/\HT.sIx ts.length ts.length c=ts.length)/\Q (.tup (eO ts b c)) H
 |.str z=>z.length<=sizeLine/\Q (.str (Txt.slice z b c)) H
 |_=>False
def Rf (te:TE3) (d b:TO3):TE3:=fun a H Q=>te a H fun x c=>d a c fun l e=>b a e fun u H3=>Gi x l u H3 Q
theorem pF {K:Frag}{H:Hp}{ts:List T}{xs:List V}(r:Reps K H ts xs) (a b:Option Int):Reps K H (eO ts a b) (qG xs a b):=by
 unfold eO qG;rw[<- r.length];exact (r.drop _).take _
theorem je {e:Expr}{C E:Option Expr}{te:TE3}{F D:TO3}{P v:Pos}(L:PE3 X e te) (O:PO3 X C F) (I:PO3 X E D):PE3 X (.Subscript e (.Slice C E none P) v) (Rf te F D):=by
 refine PE.imp (zQ (sl_list.or (sl_tup.or Mu)) L O I) ?_;rintro R H Q ⟨i,H3,B,s,G,h,k⟩;refine⟨i,H3,_,s,G,h,fun x T K t j w J N=>⟨i,t,_,s.mono j,w,N,fun l S A g y M=>⟨i,A,_,s.mono (j.trans g),y,M,fun u U c n b m=>?_⟩⟩⟩;have q:=k.at (j.trans (g.trans n));have f:=J.mono (g.trans n);cases K with
 |ref a =>
  have h':(match c a with
   |some (.lst ts)=>∀p,c p=none->B (.ref p) (up3 c p (.lst (eO ts l u)))
   |some (.rol ts)=>∀p,c p=none->B (.ref p) (up3 c p (.lst (eO ts l u)))
   |_=>False):=m
  split at h'
  ·
   rename_i ts e
   obtain⟨xs,o,r⟩:=b.sqL (.inl e)
   exact .inl ⟨a,xs,f.ref,o,fun p d=>q _ _ _ _ (aN d) (b.newLst d (pF r l u)) .ofRef (h' p (b.fresh d))⟩
  ·
   rename_i ts e
   obtain⟨xs,o,r⟩:=b.sqL (.inr e)
   exact .inl ⟨a,xs,f.ref,o,fun p d=>q _ _ _ _ (aN d) (b.newLst d (pF r l u)) .ofRef (h' p (b.fresh d))⟩
  ·
   exact h'.elim
 |tup ts=>obtain⟨a,xs,rfl,o,r⟩:=f.tup;refine .inr (.inl ⟨a,xs,rfl,o,by rw[<- r.length];exact m.1,fun p d=>q _ _ _ _ (aN d) (b.new d) (SimH.newTup (H3:=c) d (pF r l u)) m.2⟩)
 |str z=>exact .inr (.inr ⟨z,f.str,m.1,q _ _ _ _ .refl b .ofStr m.2⟩)
 |_=>exact m.elim
def aP (k:Str):List (Str × T)->Option T
 |[]=>none
 | (k',v)::r=>if k'=k then some v else aP k r
def put3 (k:Str) (v:T) (kvs:List (Str × T)):List (Str × T) :=
 if (kvs.any fun a=>decide (a.1=k))=true then kvs.map (fun a=>if a.1=k then (a.1,v) else a) else kvs++[(k,v)]
def Ar (g c e:TE3):TS3:=fun D b H=>e b H fun v d=>g b d fun x f=>c b f fun y H3=>match x,y with
 |.ref a,.str k=>match H3 a with
  |some (.dct kvs)=>kvs.length<sizeLine/\D.nx b (up3 H3 a (.dct (put3 k v kvs)))
  |_=>False
 |_,_=>False
theorem Gj {K:Frag}{H:Hp}{k:Str}{t:T}{v:V}(m:Rep K H t v) {kvs:List (Str × T)}{vs:List (Key × V)}(r:RepD K H kvs vs):RepD K H (put3 k t kvs) (putK vs (Sum.inr k:Key) v):=by
 have e:∀{kvs:List (Str × T)} {vs:List (Key × V)},RepD K H kvs vs->(kvs.any fun c=>decide (c.1=k))=(vs.any fun c=>decide (c.1=(Sum.inr k:Key)))/\RepD K H (kvs.map (fun c=>if c.1=k then (c.1,t) else c)) (vs.map (fun c=>if c.1=(Sum.inr k:Key) then (c.1,v) else c)):=by
  intro kvs;induction kvs with
  |nil=>intro vs r;cases r;exact⟨rfl,.nil⟩
  |cons p l s =>
  intro vs r;cases r with
  |cons q u =>
  rename_i b y;obtain⟨j,g⟩:=s u;obtain⟨o,n⟩:=q;obtain⟨x,w⟩:=b;simp only at o n;subst o;by_cases f:p.1=k
  ·refine⟨by simp [f],?_⟩;simp only[B_,f,if_true];exact .cons ⟨rfl,m⟩ g
  have d:¬(Sum.inr p.1:Key)=Sum.inr k:=fun z=>f (Sum.inr.inj z);refine⟨by simp only[Zc,f,d,Xx,Bool.false_or];exact j,?_⟩;simp only[B_,f,d,Wl];exact .cons ⟨rfl,n⟩ g
 obtain⟨j,g⟩:=e r;unfold put3 putK;rw[j];split
 ·exact g
 have i:∀{a:List (Str × T)} {b:List (Key × V)},RepD K H a b->RepD K H (a++[(k,t)]) (b++[((Sum.inr k:Key),v)]):=fun h=>Paired.snoc h ⟨rfl,m⟩;exact i r
theorem SimH.wrD {K:Frag}{H:Hp}{H3:Hp3}{a:Addr}{g:List (Key × V)}{kvs:List (Str × T)}{c:List (Key × V)}(s:SimH K H3 H) (h:H a=some (.dK g)) (r:RepD K H kvs c):SimH K (up3 H3 a (.dct kvs)) (upd H a (.dK c)):=fun b o e=>by
 have f:TupLe K H (upd H a (.dK c)):=bH (by rw[h];exact trivial);by_cases d:b=a
 ·subst d;rw[aB] at e;cases e;exact⟨c,bU,r.mono f⟩
 rw[aD d] at e;exact (s b o e).stay f fun u q=>by rw[aQ d];exact q
theorem Gk {o i b:Expr}{I t u:TE3}{m j:Pos}(N:X.A.units+1<cLine) (W:PE3 X o I) (V:PE3 X i t) (Z:PE3 X b u) (O:swapsWith b (some (.Subscript o i j)) m.line X.env=pure false:=by rfl) :
  PS3 X (.Assign [.Subscript o i j] b m) (Ar I t u):=by
 refine PS.imp (FP N W V Z O) ?_;rintro D σ H ⟨f,H3,Q,s,M,h,Y,_⟩;refine⟨f,H3,_,s,M,h,fun v H1 u w g C L T=>⟨f,w,_,s.mono g,C,T,fun x H2 R F c E P S=>⟨f,F,_,s.mono (g.trans c),E,S,fun y J t n d p U G=>?_⟩⟩⟩;cases R with
 |ref a =>
  cases t with
  |str l =>
   have h':(match n a with
    |some (.dct kvs)=>kvs.length<sizeLine/\Q.nx f (up3 n a (.dct (put3 l u kvs)))
    |_=>False):=G
   split at h'
   ·
    rename_i kvs e
    obtain⟨vs,B,r⟩:=p a _ e
    have z:=L.mono (c.trans d)
    have q:TupLe X.K J (upd J a (.dK (putK vs (Sum.inr l:Key) v))):=bH (by rw[B];exact trivial)
    refine⟨a,_,(P.mono d).ref,?_,Y _ _ _ _ (g.trans (c.trans (d.trans q))) (s.mono (g.trans (c.trans (d.trans q)))) (p.wrD B (Gj z r)) h'.2⟩
    rw[U.str]
    exact DPut.k (k:=Sum.inr l) B (by rw[<- YF r];exact h'.1)
   ·
    exact h'.elim
  |_=>exact G.elim
 |_=>exact G.elim
def Rg:List (Str × TE3)->St3->Hp3->(List (Str × T)->Hp3->Prop)->Prop
 |[],_,H,Q=>Q [] H
 | (k,tv)::r,σ,H,Q=>tv σ H fun y a=>Rg r σ a fun ps H3=>Q ((k,y)::ps) H3
def VF (kvs a:List (Str × T)):List (Str × T):=a.foldl (fun b c=>put3 c.1 c.2 b) kvs
def Mv (a:List (Str × TE3)):TE3:=fun c H Q=>∀p,H p=none->Rg a c (up3 H p (.dct [])) fun ps b=>b p=some (.dct [])/\ps.length<=15/\Q (.ref p) (up3 b p (.dct (VF [] ps)))
variable {x:Str}{p pos:Pos}{e:Expr}{es:List Expr}{t:TA3}{id Ty:String}{r:List T->Hp3->VK3->Prop}
def Mw (r:List T->Hp3->VK3->Prop) (t:TA3):TE3:=fun b H Q=>t b H fun vs a=>r vs a Q
theorem aV (s:eZ X (.builtin id) r) (g:Gl X x) (m:X.mg x=none) (o:bootBuiltins x=some (.builtin id)) (j:PA3 X (e::es) t) (u:x≠"__name__":=by decide) (b:(x==("__debug__":Str))=false:=by decide)
  (v:starEach (e::es) X.env=(false,eval e X.env)::starEach es X.env:=by rfl) (d:(backTo pos (starEach es X.env)).any (·.1)=false:=by rfl):PE3 X (.Call (.Name x p) (e::es) [] pos) (Mw r t):=by
 refine PE.imp (zO s g m o j u b v d) ?_;rintro y H Q ⟨a,H3,i,l,n,h,k⟩;exact⟨a,H3,_,l,n,h,fun vs H' ts c w f r q=>⟨ts,c,i,r,f,q,k.at w⟩⟩
theorem bG (s:eZ X (.type Ty) r) (g:Gl X x) (m:X.mg x=none) (o:bootBuiltins x=some (.type Ty)) (j:PA3 X (e::es) t) (u:x≠"__name__":=by decide) (b:(x==("__debug__":Str))=false:=by decide)
  (v:starEach (e::es) X.env=(false,eval e X.env)::starEach es X.env:=by rfl) (d:(backTo pos (starEach es X.env)).any (·.1)=false:=by rfl):PE3 X (.Call (.Name x p) (e::es) [] pos) (Mw r t):=by
 refine PE.imp (yt s g m o j u b v d) ?_;rintro y H Q ⟨a,H3,i,l,n,h,k⟩;exact⟨a,H3,_,l,n,h,fun vs H' ts c w f r q=>⟨ts,c,i,r,f,q,k.at w⟩⟩
theorem Av {n:String}(b:Gl X x) (d:X.mg x=none) (g:bootBuiltins x=some (.type n)) (f:x≠"__name__":=by decide) (a:(x==("__debug__":Str))=false:=by decide):PE3 X (.Name x pos) (tC3 (.ty n)):=by
 refine PE.imp (Ep (v:=.ty n) b d g rfl f a) ?_;rintro l H Q ⟨c,H3,i,j,e,h,k⟩;exact k _ _ _ H3 .refl e .ofTy h
theorem Reps.one' {K:Frag}{H:Hp}{t:T}{vs:List V}(r:Reps K H [t] vs):∃v,vs=[v]/\Rep K H t v:=by
 obtain⟨v,_,rfl,a,b⟩:=r.inv;rw[b.inv0];exact⟨v,rfl,a⟩
theorem Reps.two' {K:Frag}{H:Hp}{t u:T}{vs:List V}(r:Reps K H [t,u] vs):∃v w,vs=[v,w]/\Rep K H t v/\Rep K H u w:=by
 obtain⟨v,_,rfl,a,b⟩:=r.inv;obtain⟨w,rfl,c⟩:=b.one';exact⟨v,w,rfl,a,c⟩
def wz:List T->Hp3->VK3->Prop:=fun ts H Q=>match ts with
 |[.ref a]=>match H a with
  |some (.lst xs)=>Q (.int xs.length) H
  |some (.rol xs)=>Q (.int xs.length) H
  |_=>False
 |[.tup xs]=>Q (.int xs.length) H
 |[.str z]=>z.length<=sizeLine/\Q (.int z.length) H
 |_=>False
theorem cj:eZ X (.builtin "len") wz:=by
 refine CallR.imp (call_len_seq.or oZ) ?_;rintro xs H Q ⟨ts,H3,i,r,c,h,k⟩
 match ts,h,r with
 |[.ref a],h,r =>
  obtain⟨v,rfl,b⟩:=r.one';have h':(match H3 a with
   |some (.lst xs)=>i (.int xs.length) H3
   |some (.rol xs)=>i (.int xs.length) H3
   |_=>False):=h
  split at h'
  ·rename_i us e;obtain⟨d,g,f⟩:=c.sqL (.inl e);exact .inl ⟨a,d,by rw[b.ref],.inl g,by rw[<- f.length];exact k _ _ _ _ .refl c .ofInt h'⟩
  ·rename_i us e;obtain⟨d,g,f⟩:=c.sqL (.inr e);exact .inl ⟨a,d,by rw[b.ref],.inl g,by rw[<- f.length];exact k _ _ _ _ .refl c .ofInt h'⟩
  exact h'.elim
 |[.tup us],h,r=>obtain⟨v,rfl,b⟩:=r.one';obtain⟨a,d,rfl,g,f⟩:=b.tup;exact .inl ⟨a,d,rfl,.inr g,by rw[<- f.length];exact k _ _ _ _ .refl c .ofInt h⟩
 |[.str z],h,r =>
 obtain⟨v,rfl,b⟩:=r.one';exact .inr ⟨z,by rw[b.str],h.1,k _ _ _ _ .refl c .ofInt h.2⟩
def ut:List T->Hp3->VK3->Prop:=fun ts H Q=>match ts with
 |[.ref a]=>match H a with
  |some (.lst xs)=>∀p,H p=none->Q (.ref p) (up3 H p (.lst xs))
  |some (.rol xs)=>∀p,H p=none->Q (.ref p) (up3 H p (.lst xs))
  |_=>False
 |[.tup xs]=>∀p,H p=none->Q (.ref p) (up3 H p (.lst xs))
 |_=>False
theorem pG:eZ X (.type "list") ut:=by
 refine CallR.imp o4 ?_;rintro xs H Q ⟨ts,H3,j,r,c,h,k⟩
 match ts,h,r with
 |[.ref a],h,r =>
  obtain⟨v,rfl,i⟩:=r.one';have h':(match H3 a with
   |some (.lst xs)=>∀p,H3 p=none->j (.ref p) (up3 H3 p (.lst xs))
   |some (.rol xs)=>∀p,H3 p=none->j (.ref p) (up3 H3 p (.lst xs))
   |_=>False):=h
  split at h'
  ·rename_i us e;obtain⟨d,g,f⟩:=c.sqL (.inl e);exact⟨a,d,by rw[i.ref],.inl g,fun l b=>k _ _ _ _ (aN b) (c.newLst b f) .ofRef (h' l (c.fresh b))⟩
  ·rename_i us e;obtain⟨d,g,f⟩:=c.sqL (.inr e);exact⟨a,d,by rw[i.ref],.inl g,fun l b=>k _ _ _ _ (aN b) (c.newLst b f) .ofRef (h' l (c.fresh b))⟩
  exact h'.elim
 |[.tup us],h,r =>
 obtain⟨v,rfl,i⟩:=r.one';obtain⟨a,d,rfl,g,f⟩:=i.tup;exact⟨a,d,rfl,.inr g,fun l b=>k _ _ _ _ (aN b) (c.newLst b f) .ofRef (h l (c.fresh b))⟩
def pH:List T->Hp3->VK3->Prop:=fun ts H Q=>match ts with
 |[.ref a]=>match H a with
  |some (.lst xs)=>Q (.tup xs) H
  |some (.rol xs)=>Q (.tup xs) H
  |_=>False
 |[.tup xs]=>Q (.tup xs) H
 |_=>False
theorem cT:eZ X (.type "tuple") pH:=by
 refine CallR.imp mL ?_;rintro xs H Q ⟨ts,H3,j,r,f,h,k⟩
 match ts,h,r with
 |[.ref a],h,r =>
  obtain⟨v,rfl,i⟩:=r.one';have h':(match H3 a with
   |some (.lst xs)=>j (.tup xs) H3
   |some (.rol xs)=>j (.tup xs) H3
   |_=>False):=h
  split at h'
  ·rename_i us e;obtain⟨d,c,g⟩:=f.sqL (.inl e);exact⟨a,d,by rw[i.ref],.inl ⟨c,fun l b=>k _ _ _ _ (aN b) (f.new b) (SimH.newTup (H3:=H3) b g) h'⟩⟩
  ·rename_i us e;obtain⟨d,c,g⟩:=f.sqL (.inr e);exact⟨a,d,by rw[i.ref],.inl ⟨c,fun l b=>k _ _ _ _ (aN b) (f.new b) (SimH.newTup (H3:=H3) b g) h'⟩⟩
  exact h'.elim
 |[.tup us],h,r =>
 obtain⟨v,rfl,i⟩:=r.one';obtain⟨a,d,rfl,c,g⟩:=i.tup;exact⟨a,d,rfl,.inr ⟨c,k _ _ _ _ .refl f (.ofTup c g) h⟩⟩
def Aw:List T->Hp3->VK3->Prop:=fun ts H Q=>match ts with
 |[.int i]=>Q (.int i) H
 |[.bl b]=>Q (.int (if b then 1 else 0)) H
 |_=>False
theorem wA:eZ X (.type "int") Aw:=by
 refine CallR.imp yo ?_;rintro xs H Q ⟨ts,H3,d,r,c,h,k⟩
 match ts,h,r with
 |[.int i],h,r=>obtain⟨v,rfl,a⟩:=r.one';exact .inl ⟨i,by rw[a.int],k _ _ _ _ .refl c .ofInt h⟩
 |[.bl b],h,r =>
 obtain⟨v,rfl,a⟩:=r.one';exact .inr ⟨b,by rw[a.bl],k _ _ _ _ .refl c .ofInt h⟩
def ints3:List T->Option (List Int)
 |[]=>some []
 |.int i::r=>(ints3 r).map (i::·)
 |_=>none
theorem jD:∀(ns:List Int),ints3 (ns.map T.int)=some ns
 |[]=>rfl
 |n::r=>by simp [ints3,jD r]
theorem iQ {K:Frag}{H:Hp}:∀{ts:List T}{xs:List V}{us:List Value}{ns:List Int},ints3 ts=some ns->Reps K H ts xs->Vals xs us->IntsAre us ns
 |[],xs,us,ns,e,r,v=>by
  cases e
  rw[r.inv0] at v
  cases v
  exact .nil
 |.int i::l,xs,us,ns,e,r,v=>by
  obtain⟨x,g,rfl,d,f⟩:=r.inv
  cases v with
  |cons a b =>
   rw[d.int] at a
   obtain⟨t,rfl⟩:=a
   cases c:ints3 l with
   |none=>simp [ints3,c] at e
   |some h =>
    simp [ints3,c] at e
    subst e
    exact .cons _ _ (iQ c f b)
 |.non::_,_,_,_,e,_,_=>by simp [ints3] at e
 |.bl _::_,_,_,_,e,_,_=>by simp [ints3] at e
 |.str _::_,_,_,_,e,_,_=>by simp [ints3] at e
 |.tup _::_,_,_,_,e,_,_=>by simp [ints3] at e
 |.ref _::_,_,_,_,e,_,_=>by simp [ints3] at e
 |.ty _::_,_,_,_,e,_,_=>by simp [ints3] at e
def Jz:List T->Hp3->VK3->Prop:=fun ts H Q=>match ts with
 |[.ref a]=>match H a with
  |some (.lst xs)=>oq (ints3 xs) fun ns=>Q (.int ns.sum) H
  |some (.rol xs)=>oq (ints3 xs) fun ns=>Q (.int ns.sum) H
  |_=>False
 |_=>False
theorem Ax (J:X.calm=true):eZ X (.builtin "sum") Jz:=by
 intro l s E H xs us Q I D h;obtain⟨ts,H3,t,r,p,h,k⟩:=h
 match ts,h,r with
 |[.ref a],h,r =>
 obtain⟨v,rfl,o⟩:=r.one';obtain⟨u,rfl,B⟩:=vals1 D;rw[o.ref] at B;cases B;have b:∀{d:List T} {j:List V},SqL X.K H a j->Reps X.K H d j->oq (ints3 d) (fun ns=>t (.int ns.sum) H3)->wpAny (model X.prog X.w) X.A (call (.builtin "sum") [.ref a]) (EP X l E Q) X.xe s:=by
  intro d j i g q;cases e:ints3 d with
  |none=>rw[e] at q;exact q.elim
  |some ns =>
  rw[e] at q;obtain⟨c,n,L,_⟩:=I.list i;have C:=iQ e g n;have f:AllInts c.toArray:=C.allInts;obtain⟨m,z⟩:=f.items;have x:s.heap.IsList a (intItems m):=by rw[<- z];exact L.isList
  refine sum_intListG (I.ok.hd J) x fun h' tk t' F=>?_;have G:preSum (numAt m) m.size=ns.sum:=by have y:=nums_intItems m;rw[<- z,show c.toArray.toList=c from rfl,C.numsOf] at y;rw[preSum_eq,WM (by simp),<- y]
  rw[G];exact⟨.int ns.sum,H,I.kept F,⟨t',rfl⟩,k _ _ _ _ .refl p .ofInt q⟩
 have h':(match H3 a with
  |some (.lst xs)=>oq (ints3 xs) fun ns=>t (.int ns.sum) H3
  |some (.rol xs)=>oq (ints3 xs) fun ns=>t (.int ns.sum) H3
  |_=>False):=h
 split at h'
 ·rename_i d e;obtain⟨j,i,g⟩:=p.sqL (.inl e);exact b i g h'
 ·rename_i d e;obtain⟨j,i,g⟩:=p.sqL (.inr e);exact b i g h'
 exact h'.elim
def isT (n:String):T->Hp3->Option Bool:=fun x H=>match x with
 |.non=>some (n=="NoneType")
 |.bl _=>some (n=="bool"||n=="int")
 |.int _=>some (n=="int")
 |.str _=>some (n=="str")
 |.tup _=>some (n=="tuple")
 |.ref a=>match H a with
  |some (.lst _)=>some (n=="list")
  |some (.dct _)=>some (n=="dict")
  |_=>none
 |.ty _=>none
def qW:List T->Hp3->VK3->Prop:=fun ts H Q=>match ts with
 |[x,.ty n]=>(n="str"\/n="int"\/n="bool"\/n="tuple"\/n="list")/\oq (isT n x H) fun b=>Q (.bl b) H
 |_=>False
theorem iR (K:Frag) (a b:String) (d:a="NoneType"\/a="bool"\/a="int"\/a="str"\/a="tuple"\/a="list"\/a="dict") (c:b="str"\/b="int"\/b="bool"\/b="tuple"\/b="list") :
  kitOne K (.type a) (.type b)=some (a==b||(a=="bool"&&b=="int")):=by
 rcases d with rfl | rfl | rfl | rfl | rfl | rfl | rfl <;> rcases c with rfl | rfl | rfl | rfl | rfl <;> rfl
theorem uv:eZ X (.builtin "isinstance") qW:=by
 intro j s C H xs us Q I B h;obtain⟨ts,H3,u,r,l,h,k⟩:=h
 match ts,h,r with
 |[x,.ty n],h,r =>
 obtain⟨v,w,rfl,g,G⟩:=r.two';obtain⟨L,N,rfl,f,y⟩:=vals2 B;rw[G.ty] at y;cases y;obtain⟨d,h⟩:=h;have c:∀{b:Bool},u (.bl b) H3->∀tk,EP X j C Q (.bool b) { s with toks:=tk}:=fun q tk=>⟨.bl _,H,I.tok tk,rfl,k _ _ _ _ .refl l .ofBl q⟩;cases x with
 |non=>exact dX I f (by rw[g.non];exact .non) (iR X.K "NoneType" n (by simp) d) (c (by rcases d with rfl | rfl | rfl | rfl | rfl <;> exact h))
 |bl b=>exact dX I f (by rw[g.bl];exact .bl b) (iR X.K "bool" n (by simp) d) (c (by rcases d with rfl | rfl | rfl | rfl | rfl <;> exact h))
 |int i=>exact dX I f (by rw[g.int];exact .int i) (iR X.K "int" n (by simp) d) (c (by rcases d with rfl | rfl | rfl | rfl | rfl <;> exact h))
 |str z=>exact dX I f (by rw[g.str];exact .str z) (iR X.K "str" n (by simp) d) (c (by rcases d with rfl | rfl | rfl | rfl | rfl <;> exact h))
 |tup us=>obtain⟨a,O,rfl,J,M⟩:=g.tup;cases f;obtain⟨D,_,⟨o,F,E,_⟩,_⟩:=I.tuple J;exact kia_one kitx_tuple I.kIn ⟨o,F,E⟩ (iR X.K "tuple" n (by simp) d) (fun z=>nomatch z) (c (by rcases d with rfl | rfl | rfl | rfl | rfl <;> exact h))
 |ref a =>
  have h':oq (match H3 a with
   |some (.lst _)=>some (n=="list")
   |some (.dct _)=>some (n=="dict")
   |_=>none) fun b=>u (.bl b) H3:=h
  rw[g.ref] at f
  cases e:H3 a with
  |none=>rw[e] at h';exact h'.elim
  |some o =>
   rw[e] at h'
   cases o with
   |lst t =>
    obtain⟨A,p,_⟩:=l a _ e
    exact dX I f (.lst p) (iR X.K "list" n (by simp) d) (c (by rcases d with rfl | rfl | rfl | rfl | rfl <;> exact h'))
   |dct t =>
    obtain⟨A,p,_⟩:=l a _ e
    exact dX I f (.dK p) (iR X.K "dict" n (by simp) d) (c (by rcases d with rfl | rfl | rfl | rfl | rfl <;> exact h'))
   |rol t=>exact h'.elim
   |dcp t=>exact h'.elim
   |exc _ _=>exact h'.elim
   |xdt _=>exact h'.elim
   |dci _=>exact h'.elim
   |dif _ _=>exact h'.elim
   |ins _ _=>exact h'.elim
 |ty m=>exact h.elim
variable {o:Expr}{to:TE3}{name:Str}{apos cpos:Pos}{m:T->List T->Hp3->VK3->Prop}
def ty3 (b:String):T->Hp3->Prop:=fun x H=>match x with
 |.str _=>b="str"
 |.tup _=>b="tuple"
 |.ref a=>b="list"/\match H a with
  |some (.lst _)=>True
  |some (.rol _)=>True
  |_=>False
 |_=>False
theorem JB {K:Frag}{H:Hp}{H3:Hp3}{t:T}{v:V}(d:SimH K H3 H) (r:Rep K H t v) (h:ty3 Ty t H3):tyV K Ty v H:=by
 cases t with
 |str z=>rw[r.str];exact h
 |tup ts=>obtain⟨a,xs,rfl,c,_⟩:=r.tup;exact .inr (.inl ⟨h,xs,c⟩)
 |ref a =>
  rw[r.ref];refine .inl ⟨h.1,?_⟩;have b:=h.2;cases e:H3 a with
  |none=>rw[e] at b;exact b.elim
  |some o =>
  rw[e] at b;cases o with
  |lst ts=>obtain⟨xs,c,_⟩:=d.sqL (.inl e);exact⟨xs,c⟩
  |rol ts=>obtain⟨xs,c,_⟩:=d.sqL (.inr e);exact⟨xs,c⟩
  |dct _=>exact b.elim
  |dcp _=>exact b.elim
  |exc _ _=>exact b.elim
  |xdt _=>exact b.elim
  |dci _=>exact b.elim
  |dif _ _=>exact b.elim
  |ins _ _=>exact b.elim
 |_=>exact h.elim
def Rh (d:String) (m:T->List T->Hp3->VK3->Prop) (c:TE3) (t:TA3):TE3:=fun b H Q=>c b H fun x a=>ty3 d x a/\t b a fun xs e=>m x xs e Q
theorem dm (G:PlainAttrs Ty) (g:Slot Ty name id) (r:typeOf (.builtin id)=pure (.type "method_descriptor")) (D:um X id m) (F:PE3 X o to) (w:PA3 X (e::es) t)
  (c:attributeBase o name X.env (eval o X.env)=eval o X.env:=by rfl)
  (d:((backTo cpos (starEach (e::es) X.env)).all (fun x=>!x.1)&&(backToKw cpos (keywordEach [] X.env)).all (fun x=>x.1.isSome)
   && decide ((e::es).length+([]:List Keyword).length+(if ([]:List Keyword).isEmpty then 0 else 1)<30))=true:=by rfl)
  (b:(apos.endLine==cpos.line)=true:=by rfl) (z:starEach (e::es) X.env=(false,eval e X.env)::starEach es X.env:=by rfl) (a:(backTo cpos (starEach es X.env)).any (·.1)=false:=by rfl) :
  PE3 X (.Call (.Attribute o name apos) (e::es) [] cpos) (Rh Ty m to t):=by
 refine PE.imp (QZ G g r D F w c d b z a) ?_;rintro I H Q ⟨j,H3,A,s,y,h,k⟩;exact⟨j,H3,_,s,y,h,fun x K B n l f u v=>⟨JB f u v.1,j,n,_,s.mono l,f,v.2,fun vs J ts q i p E C=>⟨B,ts,q,A,u.mono i,E,p,C,k.at (l.trans i)⟩⟩⟩
def JC:T->List T->Hp3->VK3->Prop:=fun x ts H Q=>match x,ts with
 |.ref a,[t]=>match H a with
  |some (.lst xs)=>xs.length<sizeLine/\Q .non (up3 H a (.lst (xs++[t])))
  |_=>False
 |_,_=>False
theorem bC:um X "list.append" JC:=by
 refine MtR.imp yu ?_;rintro x xs H Q ⟨l,ts,H3,i,b,c,f,h,k⟩
 match l,ts,h,b,c with
 |.ref a,[t],h,b,c =>
 obtain⟨v,rfl,j⟩:=c.one';have h':(match H3 a with
  |some (.lst xs)=>xs.length<sizeLine/\i .non (up3 H3 a (.lst (xs++[t])))
  |_=>False):=h
 split at h'
 ·rename_i m e;obtain⟨g,d,r⟩:=f a _ e;exact⟨a,g,v,b.ref,rfl,d,by rw[<- r.length];exact h'.1,k _ _ _ _ (bH (by rw[d];exact trivial)) (f.wrL d (r.append (.cons j .nil))) .ofNon h'.2⟩
 exact h'.elim
def wB:T->List T->Hp3->VK3->Prop:=fun x ts H Q=>match x,ts with
 |.ref a,[.int i]=>match H a with
  |some (.lst xs)=>oq (ixN xs.length i) fun j=>oq (xs[j]?) fun t=>Q t (up3 H a (.lst (xs.eraseIdx j)))
  |_=>False
 |_,_=>False
theorem Ay:um X "list.pop" wB:=by
 intro b s B H x xs v us Q I g m J;obtain⟨E,ts,H3,u,d,l,p,h,k⟩:=J;refine zV b s B H x xs v us Q I g m ?_
 match E,ts,h,d,l with
 |.ref a,[.int i],h,d,l =>
 obtain⟨w,rfl,A⟩:=l.one';have h':(match H3 a with
  |some (.lst xs)=>oq (ixN xs.length i) fun j=>oq (xs[j]?) fun t=>u t (up3 H3 a (.lst (xs.eraseIdx j)))
  |_=>False):=h
 split at h'
 ·rename_i n e;obtain⟨z,c,r⟩:=p a _ e;have hz:=(I.lstM c).1;cases f:ixN n.length i with
  |none=>rw[f] at h';exact h'.elim
  |some j =>
  rw[f] at h';cases o:n[j]? with
  |none=>simp only[oq,o] at h'
  |some t =>
   have F:u t (up3 H3 a (.lst (n.eraseIdx j))):=by simpa only[oq,o] using h'
   obtain⟨D,O,N,M⟩:=oW f
   obtain⟨y,C,G⟩:=r.get o
   have L:=r.length
   have P:=iG
   have q:TupLe X.K H (upd H a (.lst (z.eraseIdx j))):=bH (by rw[c];exact trivial)
   exact⟨a,z,i,j,y,d.ref,by rw[A.int],c,by omega,by omega,by rw[<- L];exact D,C,k _ _ _ _ q (p.wrL c (r.eraseIdx j)) (G.mono q) F⟩
 exact h'.elim
def wC:T->List T->Hp3->VK3->Prop:=fun x ts H Q=>match x,ts with
 |.str z,[.str y]=>match Builtin.Str.occurrences z y 0 z.length 1 with
  |i::_=>Q (.int i) H
  |[]=>False
 |_,_=>False
theorem Az:um X "str.index" wC:=by
 intro g s p H x xs v us Q I a d n;obtain⟨o,ts,H3,j,b,c,m,h,k⟩:=n
 match o,ts,h,b,c with
 |.str z,[.str y],h,b,c =>
 obtain⟨w,rfl,l⟩:=c.one';obtain⟨u,rfl,f⟩:=vals1 d;rw[l.str] at f;obtain⟨t',rfl⟩:=f;rw[b.str] at a;obtain⟨t,rfl⟩:=a;have h':(match Builtin.Str.occurrences z y 0 z.length 1 with
  |i::_=>j (.int i) H3
  |[]=>False):=h
 split at h'
 ·rename_i i rest e;exact SC.index e ⟨.int i,H,I.tok _,⟨_,rfl⟩,k _ _ _ _ .refl m .ofInt h'⟩
 exact h'.elim
end
def compLook (n0:List (Str × NameKind)) (N:List Str) (b:Bool) (a:List (Str × NameKind)) (N':List Str) (nt:Nat) (cap:List Nat):Bool :=
 b&&a.all (fun y=>y.2 != .cell||a.lookup y.1==some .cell)&&a.all (fun x=>x.2 != .local||a.lookup x.1==some .local)&&a.all (fun y=>y.2 != .free||n0.lookup y.1==some .cell||n0.lookup y.1==some .free)
  && N'.length==nt+cap.length&&(List.range cap.length).all fun j=>match N'[nt+j]?,cap[j]? with
   |some x,some i=>N[i]?==some x&&a.lookup x==some .free
   |_,_=>false
theorem bW {X:Cx}{N':List Str}{nt:Nat}{cap:List Nat}{scope:Scope}{n0:List (Str × NameKind)}{N:List Str}(n:X.env.scope.names=n0) (p:X.N=N)
  (h:compLook n0 N (scope.kind==.function) scope.names N' nt cap=true):CompSc X N' nt cap scope:=by
 unfold compLook at h;simp only[Wr,WD,Yj,bne_iff_ne,Bool.or_eq_true,O_] at h;obtain⟨⟨⟨⟨⟨g,c⟩,f⟩,l⟩,m⟩,o⟩:=h;refine⟨g,fun y a e=>(c y a).resolve_left fun z=>z e,fun x d e=>(f x d).resolve_left fun z=>z e,fun y a e=>?_,m,fun j x e=>?_⟩
 ·show X.env.scope.names.lookup y.1=_\/X.env.scope.names.lookup y.1=_;rw[n];rcases l y a with (z | z) | z
  ·exact absurd e z
  ·exact .inl z
  exact .inr z
 have k:j<cap.length:=by have:=(WY.mp e).1;omega
 have q:=o j k;rw[e] at q;cases b:cap[j]? with
 |none=>rw[b] at q;cases q
 |some i =>
 rw[b] at q;simp only[Wr,Yj] at q;exact⟨i,rfl,by rw[p];exact q.1,q.2⟩
def Mx (n00 a:List (Str × NameKind)):List (Str × NameKind):=a.map fun (n,k)=>if (k==NameKind.free&&n00.lookup n==some .cell)=true then (n,NameKind.cell) else (n,k)
theorem Gm {X:Cx}{c N':List Str}{nt:Nat}{cap:List Nat}{a scope:Scope}{n00:List (Str × NameKind)}{N:List Str}{i:List (Str × Addr)}{b:List (Addr × Obj)}{s:Shared}{H:Hp}{C:Addr}{g:List Addr}
  (f:X.env.scope.names=n00) (d:X.env.scope.kind=.function) (j:c=N) (h:compLook (Mx n00 a.names) N (scope.kind==.function) scope.names N' nt cap=true):CompSc (bM X c a i b s H C g) N' nt cap scope:=by
 refine bW (n0:=Mx n00 a.names) (N:=N) ?_ j h;show (relabel a X.env).names=_;unfold relabel Mx;dsimp only;refine XF fun y l=>?_;obtain⟨n,k⟩:=y;have e:X.env.kindOf n=n00.lookup n:=by unfold Env.kindOf;rw[f]
 simp only[e,d,Y9,YG]
structure G3 (K:Frag) (mg:Str->Option Value) (x:Str) (st:Stmt) (ps:List Str) (f:Addr) (fd:FuncData):Prop where
 fn:Fun K x x st f fd
 b:Binds K fd ps []
 m:mg x=some (.ref f)
structure Bl (mg:Str->Option Value):Prop where
 len_:mg "len"=none
 sum_:mg "sum"=none
 isinstance_:mg "isinstance"=none
 all_:mg "all"=none
 any_:mg "any"=none
 list_:mg "list"=none
 tuple_:mg "tuple"=none
 int_:mg "int"=none
 str_:mg "str"=none
 bool_:mg "bool"=none
 range_:mg "range"=none
 zip_:mg "zip"=none
 reversed_:mg "reversed"=none
 enumerate_:mg "enumerate"=none
 set_:mg "set"=none
 sorted_:mg "sorted"=none
 min_:mg "min"=none
 max_:mg "max"=none
 dict_:mg "dict"=none
 repr_:mg "repr"=none
theorem cu:bootBuiltins "len"=some (.builtin "len"):=by decide +kernel
theorem Ba:bootBuiltins "sum"=some (.builtin "sum"):=by decide +kernel
theorem fc:bootBuiltins "isinstance"=some (.builtin "isinstance"):=by decide +kernel
theorem Mz:bootBuiltins "any"=some (.builtin "any"):=by decide +kernel
theorem jf:bootBuiltins "list"=some (.type "list"):=by decide +kernel
theorem cH:bootBuiltins "tuple"=some (.type "tuple"):=by decide +kernel
theorem uw:bootBuiltins "int"=some (.type "int"):=by decide +kernel
theorem Gn:bootBuiltins "bool"=some (.type "bool"):=by decide +kernel
theorem Room.u30 {k:Nat}{A:Around}(r:Room k A):A.units+30<cLine:=by have:=r.un;omega
theorem Room.u31 {k:Nat}{A:Around}(r:Room k A):A.units+31<cLine:=by have:=r.un;omega
theorem Room.u1 {k:Nat}{A:Around}(r:Room k A):A.units+1<cLine:=by have:=r.un;omega
section
variable {H:Hp3}{Q:VK3}{σ:St3}
def vq (o:Option (Option T)) (Q:T->Prop):Prop:=match o with
 |some (some t)=>Q t
 |_=>False
theorem VG (t:T) (Q:T->Prop):vq (some (some t)) Q=Q t:=rfl
theorem Bb (i:Nat):qM i σ H Q=vq (σ[i]?) fun t=>Q t H:=rfl
def bq (x:T) (Q:Bool->Prop):Prop:=match x with
 |.bl k=>Q k
 |_=>False
theorem iT (b:Bool) (Q:Bool->Prop):bq (.bl b) Q=Q b:=rfl
theorem MF (t:TE3) (Q:Bool->Hp3->Prop):jB t σ H Q=t σ H fun x H'=>bq x fun k=>Q k H':=rfl
theorem MJ (a d:TE3):z8 a d σ H Q=a σ H fun x b=>bq x fun c=>if c=true then d σ b Q else Q (.bl false) b:=rfl
theorem Ri (a d:TE3):Jm a d σ H Q=a σ H fun x b=>bq x fun c=>if c=true then Q (.bl true) b else d σ b Q:=rfl
theorem jE {a:Type}(v:a) (Q:a->Prop):oq (some v) Q=Q v:=rfl
theorem q_I (C:Int->Int->Prop) (g:Int->Int->T) (i j:Int):rI3 C g (.int i) (.int j) H Q=(C i j/\Q (g i j) H):=rfl
theorem VH (g:Int->Int->T) (i j:Int):pB g (.int i) (.int j) H Q=Q (g i j) H:=rfl
theorem MK (i j:Int):qR (.int i) (.int j) H Q=Q (.int (i+j)) H:=rfl
theorem MN (i j:Str):qR (.str i) (.str j) H Q=(i.length+j.length<=sizeLine/\Q (.str (i++j)) H):=rfl
theorem MP (xs a:List T):qR (.tup xs) (.tup a) H Q=(xs.length+a.length<=sizeLine/\Q (.tup (xs++a)) H):=rfl
def Rj (o u:Option O3) (H:Hp3) (Q:VK3):Prop:=match o,u with
 |some (.lst xs),some (.lst ys)=>xs.length+ys.length<=sizeLine/\∀p,H p=none->Q (.ref p) (up3 H p (.lst (xs++ys)))
 |_,_=>False
theorem Bc (a b:Addr):qR (.ref a) (.ref b) H Q=Rj (H a) (H b) H Q:=rfl
theorem jF (xs a:List T):Rj (some (.lst xs)) (some (.lst a)) H Q=(xs.length+a.length<=sizeLine/\∀p,H p=none->Q (.ref p) (up3 H p (.lst (xs++a)))):=rfl
theorem JD (n:Bool) (i j:Int):uq n (.int i) (.int j) H Q=Q (.bl (if n then !decide (i=j) else decide (i=j))) H:=rfl
theorem Rk (n:Bool) (i j:Str):uq n (.str i) (.str j) H Q=Q (.bl (if n then !decide (i=j) else decide (i=j))) H:=rfl
theorem Rm (n:Bool) (i j:Bool):uq n (.bl i) (.bl j) H Q=Q (.bl (if n then !decide (i=j) else decide (i=j))) H:=rfl
theorem Rn (n:Bool) (xs a:List T):uq n (.tup xs) (.tup a) H Q=(xs.all (pl 20)=true/\a.all (pl 20)=true/\Q (.bl (if n then !decide (xs=a) else decide (xs=a))) H):=rfl
def eqH (n:Bool) (a b:Addr) (o u:Option O3) (H:Hp3) (Q:VK3):Prop:=match o,u with
 |some (.lst xs),some (.lst ys)=>a≠b/\xs.all (pl 20)=true/\ys.all (pl 20)=true/\Q (.bl (if n then !@decide (xs=ys) (instDecidableEqList xs ys) else @decide (xs=ys) (instDecidableEqList xs ys))) H
 |_,_=>False
theorem Ro (n:Bool) (a b:Addr):uq n (.ref a) (.ref b) H Q=eqH n a b (H a) (H b) H Q:=rfl
theorem Rp (n:Bool) (a b:Addr) (xs c:List T):eqH n a b (some (.lst xs)) (some (.lst c)) H Q=(a≠b/\xs.all (pl 20)=true/\c.all (pl 20)=true/\Q (.bl (if n then !decide (xs=c) else decide (xs=c))) H):=rfl
theorem JF (n:Bool) (x:T) (ts:List T):ur n x (.tup ts) H Q=(pl 20 x=true/\ts.all (pl 20)=true/\Q (.bl (d7 n x ts)) H):=rfl
theorem Rq (n:Bool) (i j:Str):ur n (.str i) (.str j) H Q=Q (.bl (occ n i j)) H:=rfl
def inH (n:Bool) (x:T) (o:Option O3) (H:Hp3) (Q:VK3):Prop:=match o with
 |some (.lst ts)=>pl 20 x=true/\ts.all (pl 20)=true/\Q (.bl (d7 n x ts)) H
 |some (.rol ts)=>pl 20 x=true/\ts.all (pl 20)=true/\Q (.bl (d7 n x ts)) H
 |_=>False
theorem JG (n:Bool) (x:T) (a:Addr):ur n x (.ref a) H Q=inH n x (H a) H Q:=rfl
theorem JH (n:Bool) (x:T) (ts:List T):inH n x (some (.lst ts)) H Q=(pl 20 x=true/\ts.all (pl 20)=true/\Q (.bl (d7 n x ts)) H):=rfl
def ixH (o:Option O3) (i:Int) (H:Hp3) (Q:VK3):Prop:=match o with
 |some (.lst ts)=>oq (atI ts i) fun t=>Q t H
 |some (.rol ts)=>oq (atI ts i) fun t=>Q t H
 |_=>False
theorem Rr (a:Addr) (i:Int):qT (.ref a) (.int i) H Q=ixH (H a) i H Q:=rfl
theorem Rt (ts:List T) (i:Int):ixH (some (.lst ts)) i H Q=oq (atI ts i) fun t=>Q t H:=rfl
theorem Ru (ts:List T) (i:Int):qT (.tup ts) (.int i) H Q=oq (atI ts i) fun t=>Q t H:=rfl
theorem Rv (z:Str) (i:Int):qT (.str z) (.int i) H Q=(z.length<=sizeLine/\oq (atI z.cps.toList i) fun c=>Q (.str ⟨#[c]⟩) H):=rfl
def stH (o:Option O3) (a:Addr) (k:Int) (v:T) (H:Hp3) (Q:Hp3->Prop):Prop:=match o with
 |some (.lst ts)=>oq (ixN ts.length k) fun j=>Q (up3 H a (.lst (ts.set j v)))
 |_=>False
theorem MT (a:Addr) (k:Int) (v:T) (Q:Hp3->Prop):Ao (.ref a) (.int k) v H Q=stH (H a) a k v H Q:=rfl
theorem Rx (ts:List T) (a:Addr) (k:Int) (v:T) (Q:Hp3->Prop):stH (some (.lst ts)) a k v H Q=oq (ixN ts.length k) fun j=>Q (up3 H a (.lst (ts.set j v))):=rfl
def pq (x:T) (Q:Option Int->Prop):Prop:=match x with
 |.int i=>Q (some i)
 |_=>False
theorem VJ (i:Int) (Q:Option Int->Prop):pq (.int i) Q=Q (some i):=rfl
theorem M3 (t:TE3) (Q:Option Int->Hp3->Prop):Aq t σ H Q=t σ H fun x a=>pq x fun o=>Q o a:=rfl
def slH (o:Option O3) (a b:Option Int) (H:Hp3) (Q:VK3):Prop:=match o with
 |some (.lst ts)=>∀p,H p=none->Q (.ref p) (up3 H p (.lst (eO ts a b)))
 |some (.rol ts)=>∀p,H p=none->Q (.ref p) (up3 H p (.lst (eO ts a b)))
 |_=>False
theorem Ry (a:Addr) (b c:Option Int):Gi (.ref a) b c H Q=slH (H a) b c H Q:=rfl
theorem JK (ts:List T) (a b:Option Int):slH (some (.lst ts)) a b H Q=∀p,H p=none->Q (.ref p) (up3 H p (.lst (eO ts a b))):=rfl
theorem M4 (ts:List T) (a b:Option Int):slH (some (.rol ts)) a b H Q=∀p,H p=none->Q (.ref p) (up3 H p (.lst (eO ts a b))):=rfl
theorem Rz (ts:List T) (a b:Option Int):Gi (.tup ts) a b H Q=(¬(HT.sIx ts.length 0 a=0/\HT.sIx ts.length ts.length b=ts.length)/\Q (.tup (eO ts a b)) H):=rfl
theorem RC (z:Str) (a b:Option Int):Gi (.str z) a b H Q=(z.length<=sizeLine/\Q (.str (Txt.slice z a b)) H):=rfl
def dpH (x y v:T) (H:Hp3) (Q:Hp3->Prop):Prop:=match x,y with
 |.ref a,.str k=>match H a with
  |some (.dct kvs)=>kvs.length<sizeLine/\Q (up3 H a (.dct (put3 k v kvs)))
  |_=>False
 |_,_=>False
def dpO (o:Option O3) (a:Addr) (k:Str) (v:T) (H:Hp3) (Q:Hp3->Prop):Prop:=match o with
 |some (.dct kvs)=>kvs.length<sizeLine/\Q (up3 H a (.dct (put3 k v kvs)))
 |_=>False
theorem M5 (c a b:TE3) (D:Ends3):Ar c a b D σ H=b σ H fun v d=>c σ d fun x e=>a σ e fun y H3=>dpH x y v H3 fun f=>D.nx σ f:=rfl
theorem RD (a:Addr) (k:Str) (v:T) (Q:Hp3->Prop):dpH (.ref a) (.str k) v H Q=dpO (H a) a k v H Q:=rfl
theorem RJ (kvs:List (Str × T)) (a:Addr) (k:Str) (v:T) (Q:Hp3->Prop):dpO (some (.dct kvs)) a k v H Q=(kvs.length<sizeLine/\Q (up3 H a (.dct (put3 k v kvs)))):=rfl
def lnH (o:Option O3) (H:Hp3) (Q:VK3):Prop:=match o with
 |some (.lst xs)=>Q (.int xs.length) H
 |some (.rol xs)=>Q (.int xs.length) H
 |_=>False
theorem M6 (a:Addr):wz [.ref a] H Q=lnH (H a) H Q:=rfl
theorem RK (xs:List T):lnH (some (.lst xs)) H Q=Q (.int xs.length) H:=rfl
theorem M7 (xs:List T):wz [.tup xs] H Q=Q (.int xs.length) H:=rfl
theorem M8 (z:Str):wz [.str z] H Q=(z.length<=sizeLine/\Q (.int z.length) H):=rfl
def liH (o:Option O3) (H:Hp3) (Q:VK3):Prop:=match o with
 |some (.lst xs)=>∀p,H p=none->Q (.ref p) (up3 H p (.lst xs))
 |some (.rol xs)=>∀p,H p=none->Q (.ref p) (up3 H p (.lst xs))
 |_=>False
theorem Gp (a:Addr):ut [.ref a] H Q=liH (H a) H Q:=rfl
theorem RL (xs:List T):liH (some (.lst xs)) H Q=∀p,H p=none->Q (.ref p) (up3 H p (.lst xs)):=rfl
theorem Gq (xs:List T):ut [.tup xs] H Q=∀p,H p=none->Q (.ref p) (up3 H p (.lst xs)):=rfl
def tpH (o:Option O3) (H:Hp3) (Q:VK3):Prop:=match o with
 |some (.lst xs)=>Q (.tup xs) H
 |some (.rol xs)=>Q (.tup xs) H
 |_=>False
theorem M9 (a:Addr):pH [.ref a] H Q=tpH (H a) H Q:=rfl
theorem RM (xs:List T):tpH (some (.lst xs)) H Q=Q (.tup xs) H:=rfl
theorem Nf (xs:List T):pH [.tup xs] H Q=Q (.tup xs) H:=rfl
theorem Ng (i:Int):Aw [.int i] H Q=Q (.int i) H:=rfl
theorem Nh (b:Bool):Aw [.bl b] H Q=Q (.int (if b then 1 else 0)) H:=rfl
def smH (o:Option O3) (H:Hp3) (Q:VK3):Prop:=match o with
 |some (.lst xs)=>oq (ints3 xs) fun ns=>Q (.int ns.sum) H
 |some (.rol xs)=>oq (ints3 xs) fun ns=>Q (.int ns.sum) H
 |_=>False
theorem Ni (a:Addr):Jz [.ref a] H Q=smH (H a) H Q:=rfl
theorem RN (xs:List T):smH (some (.lst xs)) H Q=oq (ints3 xs) fun ns=>Q (.int ns.sum) H:=rfl
theorem Bd (x:T) (n:String):qW [x,.ty n] H Q=((n="str"\/n="int"\/n="bool"\/n="tuple"\/n="list")/\oq (isT n x H) fun b=>Q (.bl b) H):=rfl
theorem RP (a:String) (z:Str):ty3 a (.str z) H=(a="str"):=rfl
def tyH (o:Option O3):Prop:=match o with
 |some (.lst _)=>True
 |some (.rol _)=>True
 |_=>False
theorem RQ (b:String) (a:Addr):ty3 b (.ref a) H=(b="list"/\tyH (H a)):=rfl
theorem RV (xs:List T):tyH (some (.lst xs))=True:=rfl
def apH (o:Option O3) (a:Addr) (t:T) (H:Hp3) (Q:VK3):Prop:=match o with
 |some (.lst xs)=>xs.length<sizeLine/\Q .non (up3 H a (.lst (xs++[t])))
 |_=>False
theorem RW (a:Addr) (t:T):JC (.ref a) [t] H Q=apH (H a) a t H Q:=rfl
theorem RX (xs:List T) (a:Addr) (t:T):apH (some (.lst xs)) a t H Q=(xs.length<sizeLine/\Q .non (up3 H a (.lst (xs++[t])))):=rfl
def poH (o:Option O3) (a:Addr) (i:Int) (H:Hp3) (Q:VK3):Prop:=match o with
 |some (.lst xs)=>oq (ixN xs.length i) fun j=>oq (xs[j]?) fun t=>Q t (up3 H a (.lst (xs.eraseIdx j)))
 |_=>False
theorem RZ (a:Addr) (i:Int):wB (.ref a) [.int i] H Q=poH (H a) a i H Q:=rfl
theorem Sd (xs:List T) (a:Addr) (i:Int):poH (some (.lst xs)) a i H Q=oq (ixN xs.length i) fun j=>oq (xs[j]?) fun t=>Q t (up3 H a (.lst (xs.eraseIdx j))):=rfl
def idH (o:List Nat) (H:Hp3) (Q:VK3):Prop:=match o with
 |i::_=>Q (.int i) H
 |[]=>False
theorem Gr (z y:Str):wC (.str z) [.str y] H Q=idH (Builtin.Str.occurrences z y 0 z.length 1) H Q:=rfl
theorem Sh (i:Nat) (r:List Nat):idH (i::r) H Q=Q (.int i) H:=rfl
def rgq (vs:List T) (H:Hp3) (R:List T->(Hp3->Prop)->Hp3->Prop):Prop:=match vs with
 |[.int j]=>-(2^62)<=j/\j<2^62/\R (di 0 j.toNat) cR H
 |[.int i,.int j]=>(-(2^62)<=i/\i<2^62 /\ -(2^62)<=j/\j<2^62)/\R (di i (j - i).toNat) cR H
 |_=>False
theorem Sq (a:TA3) (R:List T->(Hp3->Prop)->Hp3->Prop):Ag a σ H R=a σ H fun vs b=>rgq vs b R:=rfl
theorem Ss (j:Int) (R:List T->(Hp3->Prop)->Hp3->Prop):rgq [.int j] H R=(-(2^62)<=j/\j<2^62/\R (di 0 j.toNat) cR H):=rfl
theorem Su (i j:Int) (R:List T->(Hp3->Prop)->Hp3->Prop):rgq [.int i,.int j] H R=((-(2^62)<=i/\i<2^62 /\ -(2^62)<=j/\j<2^62)/\R (di i (j - i).toNat) cR H):=rfl
def tuq (x:T) (H:Hp3) (R:List T->(Hp3->Prop)->Hp3->Prop):Prop:=match x with
 |.tup ts=>R ts cR H
 |_=>False
theorem Nj (a:TE3) (R:List T->(Hp3->Prop)->Hp3->Prop):Jw a σ H R=a σ H fun x b=>tuq x b R:=rfl
theorem Sv (ts:List T) (R:List T->(Hp3->Prop)->Hp3->Prop):tuq (.tup ts) H R=R ts cR H:=rfl
def liq (x:T) (H:Hp3) (R:List T->(Hp3->Prop)->Hp3->Prop):Prop:=match x with
 |.ref a=>match H a with
  |some (.lst ts)=>R ts (cB a ts) H
  |some (.rol ts)=>R ts (cB a ts) H
  |_=>False
 |_=>False
def liO (o:Option O3) (a:Addr) (H:Hp3) (R:List T->(Hp3->Prop)->Hp3->Prop):Prop:=match o with
 |some (.lst ts)=>R ts (cB a ts) H
 |some (.rol ts)=>R ts (cB a ts) H
 |_=>False
theorem Gs (a:TE3) (R:List T->(Hp3->Prop)->Hp3->Prop):Ae a σ H R=a σ H fun x b=>liq x b R:=rfl
theorem JL (a:Addr) (R:List T->(Hp3->Prop)->Hp3->Prop):liq (.ref a) H R=liO (H a) a H R:=rfl
theorem wD (ts:List T) (a:Addr) (R:List T->(Hp3->Prop)->Hp3->Prop):liO (some (.lst ts)) a H R=R ts (cB a ts) H:=rfl
theorem Nk (Q:St3->Hp3->Prop):vW [] σ H Q=Q σ H:=rfl
theorem Gu (t:TG3) (u:mQ) (x:T) (r:List T) (Q:St3->Hp3->Prop):iK t u (x::r) σ H Q=t x σ H fun a H'=>u r a H' Q:=rfl
theorem Nm (n:Nat) (g:mQ) (ts:List T) (Q:St3->Hp3->Prop):vX n g (.tup ts) σ H Q=(ts.length=n/\g ts σ H Q):=rfl
end
theorem wF {n j:Nat}(h:j<n):ixN n (j:Int)=some j:=by
 unfold ixN;rw[if_pos (X5 j),if_pos (by omega),Xi]
theorem at0 {b:Type}(a:b) (r:List b):atI (a::r) 0=some a:=bD (j:=0) rfl
theorem at1 {c:Type}(a b:c) (r:List c):atI (a::b::r) 1=some b:=bD (j:=1) rfl
theorem at2 {d:Type}(a b c:d) (r:List d):atI (a::b::c::r) 2=some c:=bD (j:=2) rfl
theorem at3 {e:Type}(a b c d:e) (r:List e):atI (a::b::c::d::r) 3=some d:=bD (j:=3) rfl
theorem wG {c:Type}(xs:List c) (i:Int) (b:0<=i) (d:i<xs.length):∃z,z∈xs/\atI xs i=some z:=by
 obtain⟨j,rfl⟩:=Int.eq_ofNat_of_zero_le b;have a:j<xs.length:=by omega
 exact⟨xs[j],Ws a,bD (d_ a)⟩
theorem pI {a b:Type}(f:a->b) (xs:List a) (i:Int):atI (xs.map f) i=(atI xs i).map f:=by
 unfold atI;rw[g_];cases ixN xs.length i with
 |none=>rfl
 |some j=>simp
theorem j7 {g:TG3}{c:TS3}{D:Ends3}{still:Hp3->Prop}{ts:List T}{a:St3}{H:Hp3}(I:List T->St3->Hp3->Prop) (d:I ts a H) (f:∀a H,I [] a H->still H/\D.nx a H)
  (i:∀t r a H (N:St3->Hp3->Prop),I (t::r) a H->(∀b H',I r b H'->N b H')->still H/\g t a H fun σ2 H2=>c { D with nx:=N,ct:=N,bk:=D.nx} σ2 H2):iter3 g c D still ts a H:=by
 induction ts generalizing a H with
 |nil=>exact f a H d
 |cons t r e=>exact i t r a H (iter3 g c D still r) d fun b H' h=>e h
theorem gK {g:TG3}{tt:TT3}{te:TE3}{still:Hp3->Prop}{d:List T->Hp3->Prop}{ts a:List T}{c:St3}{H:Hp3}(I:List T->List T->St3->Hp3->Prop) (i:I ts a c H) (k:∀a c H,I [] a c H->still H/\a.length<=sizeLine/\d a H)
  (l:∀t r a c H (N:List T->St3->Hp3->Prop),I (t::r) a c H->(∀e f H',I r e f H'->N e f H') ->
   still H/\g t c H fun σ2 H2=>tt σ2 H2 fun b H3=>if b=true then te σ2 H3 fun y H4=>a.length<sizeLine/\N (a++[y]) σ2 H4 else N a σ2 H3):cIter3 g tt te still d ts a c H:=by
 induction ts generalizing c H a with
 |nil=>exact k a c H i
 |cons t r j=>exact l t r a c H (cIter3 g tt te still d r) i fun e f H' h=>j h
theorem sx0 (n:Nat):HT.sIx n 0 none=0:=rfl
theorem Np {ts:List T}{k:Nat}:eO ts none (some (k:Int))=ts.take k:=by
 unfold eO;rw[sx0,HT.sIx_nat,Zk,Nat.sub_zero];by_cases h:k<=ts.length
 ·rw[Nat.min_eq_left h]
 rw[Nat.min_eq_right (by omega),List.take_length,WM (by omega)]
theorem Be {ts:List T}{k:Nat}:eO ts (some (k:Int)) none=ts.drop k:=by
 unfold eO;rw[HT.sIx_none,HT.sIx_nat];by_cases h:k<=ts.length
 ·rw[Nat.min_eq_left h,WM (by simp)]
 rw[Nat.min_eq_right (by omega),W3 (j_ _),W3 (by omega),List.take_nil]
theorem b8 {H:Hp3}{a b:Addr}{o:O3}(h:up3 H a o b=none):b≠a/\H b=none:=by
 by_cases e:b=a
 ·subst e;rw[aB] at h;cases h
 rw[aD e] at h;exact⟨e,h⟩
theorem Bf {H:Hp3}{a b:Addr}{o u:O3}(h:a≠b):up3 (up3 H a o) b u=up3 (up3 H b u) a o:=by
 funext c;by_cases e:c=b
 ·subst e;rw[aB,aD (Ne.symm h),aB]
 rw[aD e];by_cases d:c=a
 ·subst d;rw[aB,aB]
 rw[aD d,aD d,aD e]
theorem cI {n:Type}(d f:n->T) (g:List n) (rest:St3) {te:TE3}{still:Hp3->Prop}{l:List T->Hp3->Prop}{v:Option T}{H:Hp3}(h:still H) (p:g.length<=sizeLine)
  (q:∀a∈g,∀Q:VK3,Q (f a) H->te (some (d a)::rest) H Q) (i:l (g.map f) H):cIter3 (dZ 0) vZ te still l (g.map d) [] (v::rest) H:=by
 refine gK (fun r m o H'=>∃(e j:List n) (v:Option T),o=v::rest/\r=e.map d/\m=j.map f/\j++e=g/\H'=H) ⟨g,[],v,rfl,rfl,rfl,rfl,rfl⟩ ?_ ?_
 ·rintro m o H' ⟨e,j,v,rfl,c,rfl,b,rfl⟩;have k:e=[]:=XQ.mp c.symm;subst k;rw[N_] at b;subst b;exact⟨h,by rw[g_];exact p,i⟩
 rintro x r m o H' N ⟨e,j,v,rfl,c,rfl,b,rfl⟩ s;cases e with
 |nil=>cases c
 |cons t e =>
 injection c with e1 e2;subst e1 e2;refine⟨h,?_⟩;show te (some (d t)::rest) H' _;refine q t (by rw[<- b];simp) _ ⟨?_,s _ _ _ ⟨e,j++[t],_,rfl,rfl,by simp,by rw[<- b];simp,rfl⟩⟩;have:=U_ List.length b;simp only[a_,i_] at this;rw[g_];omega
section
variable {X:Cx}
def cD:List T->Option (List Bool)
 |[]=>some []
 |.bl x::r=>(cD r).map (x::·)
 |_=>none
theorem lC:∀(ns:List Bool),cD (ns.map T.bl)=some ns
 |[]=>rfl
 |n::r=>by simp [cD,lC r]
theorem jR {K:Frag}{H:Hp}:∀{ts:List T}{xs:List V}{us:List Value}{c:List Bool},cD ts=some c->Reps K H ts xs->Vals xs us->us=c.map Value.bool
 |[],xs,us,c,e,r,v=>by
  cases e
  rw[r.inv0] at v
  cases v
  rfl
 |.bl i::l,xs,us,c,e,r,v=>by
  obtain⟨x,h,rfl,f,g⟩:=r.inv
  cases v with
  |cons a b =>
   rw[f.bl] at a
   cases d:cD l with
   |none=>simp [cD,d] at e
   |some j =>
    simp [cD,d] at e
    subst e
    cases a
    rw[jR d g b]
    rfl
 |.non::_,_,_,_,e,_,_=>by simp [cD] at e
 |.int _::_,_,_,_,e,_,_=>by simp [cD] at e
 |.str _::_,_,_,_,e,_,_=>by simp [cD] at e
 |.tup _::_,_,_,_,e,_,_=>by simp [cD] at e
 |.ref _::_,_,_,_,e,_,_=>by simp [cD] at e
 |.ty _::_,_,_,_,e,_,_=>by simp [cD] at e
end
def VL:T->Option Key
 |.int i=>some (.inl i)
 |.str x=>some (.inr x)
 |_=>none
def Bg:List T->Option (List Key)
 |[]=>some []
 |t::r=>match VL t,Bg r with
  |some k,some ks=>some (k::ks)
  |_,_=>none
def JM (k:List Key):List (List Key × T)->Option T
 |[]=>none
 | (k',v)::r=>if k'=k then some v else JM k r
def VM (k:List Key) (v:T) (kvs:List (List Key × T)):List (List Key × T) :=
 if (kvs.any fun a=>decide (a.1=k))=true then kvs.map (fun a=>if a.1=k then (a.1,v) else a) else kvs++[(k,v)]
def VN (o:Option O3) (ts:List T) (H:Hp3) (Q:VK3):Prop:=match o with
 |some (.dcp kvs)=>oq (Bg ts) fun a=>oq (JM a kvs) fun t=>Q t H
 |_=>False
def dgP (x:T) (ts:List T) (H:Hp3) (Q:VK3):Prop:=match x with
 |.ref a=>VN (H a) ts H Q
 |_=>False
def Gv (e:TE3) (b:TA3):TE3:=fun a H Q=>e a H fun x c=>b a c fun ts d=>ts.length<=sizeLine/\dgP x ts d Q
def VP (o:Option O3) (a:Addr) (ts:List T) (v:T) (H:Hp3) (Q:Hp3->Prop):Prop:=match o with
 |some (.dcp kvs)=>oq (Bg ts) fun b=>kvs.length<sizeLine/\Q (up3 H a (.dcp (VM b v kvs)))
 |_=>False
def dpP (x:T) (ts:List T) (v:T) (H:Hp3) (Q:Hp3->Prop):Prop:=match x with
 |.ref a=>VP (H a) a ts v H Q
 |_=>False
def Gw (f:TE3) (b:TA3) (d:TE3):TS3:=fun D a H=>d a H fun v c=>f a c fun x e=>b a e fun ts H3=>ts.length<=sizeLine/\dpP x ts v H3 fun g=>D.nx a g
section
variable {H:Hp3}{Q:VK3}{σ:St3}
variable {X:Cx}{o i k value:Expr}{es:List Expr}{td ti tk tv:TE3}{ta:TA3}{pos pos' p2:Pos}{x1:Nat}
def Nq:TE3:=fun _ H Q=>∀p,H p=none->Q (.ref p) (up3 H p (.dct []))
def Gx:TE3:=fun _ H Q=>∀p,H p=none->Q (.ref p) (up3 H p (.dcp []))
theorem SimH.newD {K:Frag}{H:Hp}{H3:Hp3}{p:Addr}(s:SimH K H3 H) (c:H p=none):SimH K (up3 H3 p (.dct [])) (upd H p (.dK [])):=fun a o e=>by
 by_cases b:a=p
 ·subst b;rw[aB] at e;cases e;exact⟨[],bU,.nil⟩
 rw[aD b] at e;exact s.new c a o e
def d1q (y:T) (p:Addr) (v:T) (H:Hp3) (Q:VK3):Prop:=match y with
 |.str k=>H p=some (.dct [])/\Q (.ref p) (up3 H p (.dct [(k,v)]))
 |_=>False
def Bh (tk b:TE3):TE3:=fun a H Q=>∀p,H p=none->tk a (up3 H p (.dct [])) fun y d=>b a d fun v c=>d1q y p v c Q
theorem Sw (x:Str) (p:Addr) (v:T) {H:Hp3}{Q:VK3}:d1q (.str x) p v H Q=(H p=some (.dct [])/\Q (.ref p) (up3 H p (.dct [(x,v)]))):=rfl
theorem Bj {v:Expr}(u:PE3 X k tk) (D:PE3 X v tv):PE3 X (.Dict [some k] [v] pos) (Bh tk tv):=by
 refine PE.imp (vQ (qK u D vP) rfl rfl (by simp) (by show 1<=15;decide)) ?_;rintro E H Q ⟨f,H3,t,o,q,h,k⟩ p l;have b:TupLe X.K H (upd H p (.dK [])):=aN l;refine⟨f,up3 H3 p (.dct []),_,o.mono b,q.newD l,h p (q.fresh l),fun y G x j i n B w=>?_⟩;refine⟨f,j,_,o.mono (b.trans i),n,w,fun z F A g c d C s=>?_⟩;cases x with
 |str a =>
  have h':g p=some (.dct [])/\t (.ref p) (up3 g p (.dct [(a,A)])):=s
  obtain⟨ws,m,r⟩:=d p _ h'.1
  cases r
  refine⟨m,[(Sum.inr a,z)],by rw[(B.mono c).str];rfl,by show 1<=15;decide,?_⟩
  have e:iH [] [((Sum.inr a:Key),z)]=[((Sum.inr a:Key),z)]:=rfl
  rw[e]
  exact k _ _ _ _ (b.trans (i.trans (c.trans (bH (by rw[m];exact trivial))))) (d.wrD m (.cons ⟨rfl,C⟩ .nil)) .ofRef h'.2
 |_=>exact s.elim
def diH (a:Bool) (y:T) (o:Option O3) (H:Hp3) (Q:VK3):Prop:=match y,o with
 |.str k,some (.dct kvs)=>Q (.bl (if a then !(aP k kvs).isSome else (aP k kvs).isSome)) H
 |_,_=>False
def diq (b:Bool) (y x:T) (H:Hp3) (Q:VK3):Prop:=match x with
 |.ref a=>diH b y (H a) H Q
 |_=>False
def Bk (a:Bool) (f c:TE3):TE3:=fun b H Q=>f b H fun y d=>c b d fun x e=>diq a y x e Q
theorem Sx (b:Bool) (y:T) (a:Addr) {H:Hp3}{Q:VK3}:diq b y (.ref a) H Q=diH b y (H a) H Q:=rfl
theorem Sy (a:Bool) (k:Str) (kvs:List (Str × T)) {H:Hp3}{Q:VK3}:diH a (.str k) (some (.dct kvs)) H Q=Q (.bl (if a then !(aP k kvs).isSome else (aP k kvs).isSome)) H:=rfl
theorem n6 {K:Frag}{H:Hp}{k:Str}:∀{kvs:List (Str × T)}{vs:List (Key × V)},RepD K H kvs vs->(eN vs (Sum.inr k:Key)).isSome=(aP k kvs).isSome
 |[],_,.nil=>rfl
 | (k',t')::r,_,.cons (b:=(kk,v')) ⟨e1,rv⟩ rr=>by
  simp only at e1 rv
  subst e1
  unfold aP
  by_cases a:k'=k
  ·
   rw[if_pos a,fC (by rw[a])];rfl
  ·
   rw[if_neg a,fG (by intro z;exact a (Sum.inr.inj z))]
   exact n6 rr
theorem wH {c:Bool}{H:Hp}{H3:Hp3}{x y:V}{g d:T}{f:VK3}(j:SimH X.K H3 H) (i:Rep X.K H g x) (l:Rep X.K H d y) (q:diq c d g H3 f) :
  ∃a h b,x=.ref a/\DGet H a y h/\(if c then !h.isSome else h.isSome)=b/\f (.bl b) H3:=by
 cases g with
 |ref a =>
  have h':diH c d (H3 a) H3 f:=q
  cases d with
  |str k =>
   cases e:H3 a with
   |none=>rw[e] at h';exact h'.elim
   |some n =>
    rw[e] at h'
    cases n with
    |dct kvs =>
     obtain⟨ws,m,r⟩:=j a _ e
     refine⟨a,eN ws (Sum.inr k:Key),_,i.ref,by rw[l.str];exact DGet.k (k:=Sum.inr k) m,rfl,?_⟩
     rw[n6 r]
     exact h'
    |_=>exact h'.elim
  |_=>exact h'.elim
 |_=>exact q.elim
theorem pJ (s:X.A.units+1<cLine) (D:PE3 X i ti) (E:PE3 X o td) (w:behindInMarks .In o=false:=by rfl):PT3 X (.Compare i [.In] [o] pos) (jB (Bk false ti td)):=by
 refine PT.imp (tR (Ml s D E) w) ?_;rintro F H Q ⟨f,H3,G,n,r,h,k⟩;refine⟨f,H3,_,n,r,h,fun y L J l j m z v=>⟨f,l,_,n.mono j,m,v,fun x K I C c d t u=>?_⟩⟩;obtain⟨a,p,b,e,g,B,q⟩:=wH d t (z.mono c) u;exact⟨a,p,e,g,b,by rw[show p.isSome=b from B],k _ _ _ (j.trans c) d q⟩
theorem n8 (s:X.A.units+1<cLine) (D:PE3 X i ti) (E:PE3 X o td) (w:behindInMarks .NotIn o=false:=by rfl):PT3 X (.Compare i [.NotIn] [o] pos) (jB (Bk true ti td)):=by
 refine PT.imp (tR (nQ s D E) w) ?_;rintro F H Q ⟨f,H3,G,n,r,h,k⟩;refine⟨f,H3,_,n,r,h,fun y L J l j m z v=>⟨f,l,_,n.mono j,m,v,fun x K I C c d t u=>?_⟩⟩;obtain⟨a,p,b,e,g,B,q⟩:=wH d t (z.mono c) u;exact⟨a,p,e,g,b,by rw[show (!p.isSome)=b from B],k _ _ _ (j.trans c) d q⟩
end
def yH (x:T) (H:Hp3) (R:List T->(Hp3->Prop)->Hp3->Prop):Prop:=match x with
 |.tup ts=>R ts cR H
 |.ref a=>liO (H a) a H R
 |_=>False
theorem Nr (ts:List T) {H:Hp3}{R:List T->(Hp3->Prop)->Hp3->Prop}:yH (.tup ts) H R=R ts cR H:=rfl
theorem Nt (a:Addr) {H:Hp3}{R:List T->(Hp3->Prop)->Hp3->Prop}:yH (.ref a) H R=liO (H a) a H R:=rfl
def Bm (i:Nat):TI3:=fun a H R=>vq (a[i]?) fun x=>yH x H R
theorem Gy (i:Nat) {a:St3}{H:Hp3}{R:List T->(Hp3->Prop)->Hp3->Prop}:Bm i a H R=vq (a[i]?) fun x=>yH x H R:=rfl
theorem Gz {X:Cx}{r:Expr}(i:Nat) {x:Str}{f:Pos}(p:X.N[i]?=some x:=by rfl) (m:Vis X.env.scope x:=by first | exact Or.inl rfl | exact Or.inr (Or.inl rfl) | exact Or.inr (Or.inr rfl)) (n:(x==("__debug__":Str))=false:=by decide)
  (d:(x==("__classdict__":Str))=false:=by decide):PI3 X r (.Name x f) (Bm i):=by
 intro c s l H R I q;obtain⟨b,H3,R3,g,j,h,k⟩:=q;have h':vq (b[i]?) fun x=>yH x H3 R3:=h;cases e:b[i]? with
 |none=>rw[e] at h';exact h'.elim
 |some o =>
 cases o with
 |none=>rw[e] at h';exact h'.elim
 |some t =>
 rw[e] at h';cases t with
 |tup ts=>exact dO (v3 i p m n d) c s l H R I ⟨b,H3,R3,g,j,by show qM i b H3 _;rw[Bb,e];exact h',k⟩
 |ref a=>exact cL (v3 i p m n d) c s l H R I ⟨b,H3,R3,g,j,by show qM i b H3 _;rw[Bb,e];exact h',k⟩
 |_=>exact h'.elim
theorem bf {d:Type}(c:d->T) (xs:List d) {g:TG3}{f:TS3}{D:Ends3}{still:Hp3->Prop}{a:St3}{H:Hp3}(I:List d->St3->Hp3->Prop) (j:I [] a H) (k:∀a H,I xs a H->still H/\D.nx a H)
  (l:∀A x B a H (N:St3->Hp3->Prop),xs=A++x::B->I A a H->(∀b H',I (A++[x]) b H'->N b H')->still H/\g (c x) a H fun σ2 H2=>f { D with nx:=N,ct:=N,bk:=D.nx} σ2 H2):iter3 g f D still (xs.map c) a H:=by
 have:∀(B A:List d) (a:St3) (H:Hp3),xs=A++B->I A a H->iter3 g f D still (B.map c) a H:=by
  intro B;induction B with
  |nil=>intro A a H e h;rw[N_] at e;subst e;exact k a H h
  |cons x B i =>
  intro A a H e h;exact l A x B a H (iter3 g f D still (B.map c)) e h fun b H' h'=>i (A++[x]) b H' (by rw[e];simp) h'
 exact this xs [] a H rfl j
theorem c7 {k:Type}(j:k->T) (xs:List k) {g:TG3}{tt:TT3}{te:TE3}{still:Hp3->Prop}{f:List T->Hp3->Prop}{c:St3}{H:Hp3}(I:List k->List T->St3->Hp3->Prop) (m:I [] [] c H) (n:∀a c H,I xs a c H->still H/\a.length<=sizeLine/\f a H)
  (o:∀A x B a c H (N:List T->St3->Hp3->Prop),xs=A++x::B->I A a c H->(∀i d H',I (A++[x]) i d H'->N i d H') ->
   still H/\g (j x) c H fun σ2 H2=>tt σ2 H2 fun b H3=>if b=true then te σ2 H3 fun y H4=>a.length<sizeLine/\N (a++[y]) σ2 H4 else N a σ2 H3):cIter3 g tt te still f (xs.map j) [] c H:=by
 have:∀(B A:List k) (a:List T) (c:St3) (H:Hp3),xs=A++B->I A a c H->cIter3 g tt te still f (B.map j) a c H:=by
  intro B;induction B with
  |nil=>intro A a c H e h;rw[N_] at e;subst e;exact n a c H h
  |cons x B l =>
  intro A a c H e h;exact o A x B a c H (cIter3 g tt te still f (B.map j)) e h fun i d H' h'=>l (A++[x]) i d H' (by rw[e];simp) h'
 exact this xs [] [] c H rfl m
section
variable {prog:Program}{w:World}{A:Around}{E:Value->Shared->Prop}{s:Shared}
variable {X:Cx}{e:Expr}{te:TE}{p1 p2 pos pos':Pos}
variable {z ti to i1 i2:Addr}{f1 f2:List Addr}
variable {n1 n2 k:Nat}{P1 P2:Nat->Value->Prop}{S1 S2:Nat->Heap->Prop}
variable {pins:List (Addr × Obj)}{σ:L2.St}{H:Hp}{h':Heap}
theorem wI {ch:List Addr}{t':Nat}(I:Inv X pins σ H s) (k:∀b o,b∉ch->s.heap.get? b=some o->h'.get? b=some o) (f:∀b∈ch,mJ X pins H b):Inv X pins σ H { s with heap:=h',toks:=t'}:=by
 have d:∀b u,H b=some u->b∉ch:=fun b u e z=>by rw[(f b z).1] at e;cases e
 refine I.step (g':=s.gens) (d':=s.drawn) (ch:=ch) (fun b p=>?_) (fun b o _ _ a e _=>k b o a e) (fun b o _ _ a e _=>⟨o.slots,k b o a e⟩) (fun _ _ _ _ n=>n)
  (fun b o a e=>⟨o,k b o a e⟩) (fun _ _ e=>e) (fun _ _ _ e=>e) (fun b ps e=>⟨#[],by rw[e];simp⟩) (fun m h=>?_) (fun b u e=>?_) I.bare
 ·obtain⟨_,i,_,w,t,l⟩:=f b p;exact⟨w,i,t,l⟩
 ·obtain⟨o,j,ep,g,r⟩:=h;exact⟨o,j,ep,k _ o (fun z=>(f _ z).2.1 rfl) g,r⟩
 refine (I.hok b u e).stay (fun c v a q=>k c v ?_ q) (fun _ q=>q) fun _ _ q=>q;rcases a with z | z
 ·rw[z];exact d b u e
 exact d c _ z
variable {elts:List Expr}{x1:Nat}{tpos p:Pos}{ea eb:Expr}
end
theorem qX {o:Type}(l m f:o->T) (e:List o) (rest:St3) {te:TE3}{still:Hp3->Prop}{k:List T->Hp3->Prop}{v u:Option T}{H:Hp3}(g:still H) (q:e.length<=sizeLine)
  (s:∀a∈e,∀Q:VK3,Q (f a) H->te (some (l a)::some (m a)::rest) H Q) (h:k (e.map f) H) :
  cIter3 (vX 2 (iK (dZ 0) (iK (dZ 1) vW))) vZ te still k (e.map fun a=>.tup [l a,m a]) [] (v::u::rest) H:=by
 refine gK (fun r n p H'=>∃(d i:List o) (v u:Option T),p=v::u::rest/\r=d.map (fun a=>.tup [l a,m a])/\n=i.map f/\i++d=e/\H'=H) ⟨e,[],v,u,rfl,rfl,rfl,rfl,rfl⟩ ?_ ?_
 ·rintro n p H' ⟨d,i,v,u,rfl,c,rfl,b,rfl⟩;have j:d=[]:=XQ.mp c.symm;subst j;rw[N_] at b;subst b;exact⟨g,by rw[g_];exact q,h⟩
 rintro x r n p H' N ⟨d,i,v,u,rfl,c,rfl,b,rfl⟩ w;cases d with
 |nil=>cases c
 |cons t d =>
 injection c with a1 a2;subst a1 a2;refine⟨g,rfl,?_⟩;show te (some (l t)::some (m t)::rest) H' _;refine s t (by rw[<- b];simp) _ ⟨?_,w _ _ _ ⟨d,i++[t],_,_,rfl,rfl,by simp,by rw[<- b];simp,rfl⟩⟩;have:=U_ List.length b;simp only[a_,i_] at this;rw[g_];omega
section
variable {H:Hp3}{Q:VK3}
theorem ux (x:Str):isT "str" (.str x) H=some true:=rfl
theorem uA (x:Int):isT "str" (.int x) H=some false:=rfl
theorem uB (x:List T):isT "str" (.tup x) H=some false:=rfl
theorem yI (x:Bool):isT "str" (.bl x) H=some false:=rfl
theorem uC  : isT "str" (.non) H=some false:=rfl
theorem Nu (x:T):qW [x,.ty "int"] H Q=oq (isT "int" x H) fun b=>Q (.bl b) H:=by rw[Bd];exact propext ⟨fun h=>h.2,fun h=>⟨by simp,h⟩⟩
theorem uD (x:Str):isT "int" (.str x) H=some false:=rfl
theorem uE (x:Int):isT "int" (.int x) H=some true:=rfl
theorem uF (x:List T):isT "int" (.tup x) H=some false:=rfl
theorem yJ (x:Bool):isT "int" (.bl x) H=some true:=rfl
theorem uG  : isT "int" (.non) H=some false:=rfl
theorem GC (x:T):qW [x,.ty "bool"] H Q=oq (isT "bool" x H) fun b=>Q (.bl b) H:=by rw[Bd];exact propext ⟨fun h=>h.2,fun h=>⟨by simp,h⟩⟩
theorem qY (x:Str):isT "bool" (.str x) H=some false:=rfl
theorem qZ (x:Int):isT "bool" (.int x) H=some false:=rfl
theorem q8 (x:List T):isT "bool" (.tup x) H=some false:=rfl
theorem uH (x:Bool):isT "bool" (.bl x) H=some true:=rfl
theorem q9  : isT "bool" (.non) H=some false:=rfl
theorem Bo (x:T):qW [x,.ty "tuple"] H Q=oq (isT "tuple" x H) fun b=>Q (.bl b) H:=by rw[Bd];exact propext ⟨fun h=>h.2,fun h=>⟨by simp,h⟩⟩
theorem pK (x:Str):isT "tuple" (.str x) H=some false:=rfl
theorem pL (x:Int):isT "tuple" (.int x) H=some false:=rfl
theorem pM (x:List T):isT "tuple" (.tup x) H=some true:=rfl
theorem rm (x:Bool):isT "tuple" (.bl x) H=some false:=rfl
theorem pN  : isT "tuple" (.non) H=some false:=rfl
theorem rA (x:Str):isT "list" (.str x) H=some false:=rfl
theorem rB (x:Int):isT "list" (.int x) H=some false:=rfl
theorem rC (x:List T):isT "list" (.tup x) H=some false:=rfl
theorem uI (x:Bool):isT "list" (.bl x) H=some false:=rfl
theorem rD  : isT "list" (.non) H=some false:=rfl
theorem wJ {b:Type} [DecidableEq b] (a:b):decide (a=a)=true:=F_ rfl
end
open L2 PySem.Builtin PySem.Builtin.Str
section
variable {prog:Program}{w:World}{A:Around}{E:Value->Shared->Prop}{s:Shared}{x y:Str}{t u:Tok}{Q:Value->Shared->Prop}
variable {X:Cx}
variable {elts:List Expr}{x1 j:Nat}{tpos pos p cp kp:Pos}{e:Expr}
variable {tg l:Expr}
variable {te:TE}{p1 p2 pos':Pos}
variable {pins:List (Addr × Obj)}{σ:L2.St}{H:Hp}
variable {a:Expr}{ta:TE3}
def ngq (x:T) (H:Hp3) (Q:VK3):Prop:=match x with
 |.int i=>Q (.int (-i)) H
 |_=>False
def JN (a:TE3):TE3:=fun c H Q=>a c H fun x b=>ngq x b Q
theorem SJ (a:TE3) {b:St3}{H:Hp3}{Q:VK3}:JN a b H Q=a b H fun x c=>ngq x c Q:=rfl
theorem SM (i:Int) {H:Hp3}{Q:VK3}:ngq (.int i) H Q=Q (.int (-i)) H:=rfl
theorem uJ (d:PE3 X a ta):PE3 X (.UnaryOp .USub a pos) (JN ta):=by
 refine PE.imp (Qv Ls d) ?_;rintro m H Q ⟨b,H3,l,e,f,h,k⟩;refine⟨b,H3,_,e,f,h,fun v H' t g j c r q=>?_⟩;cases t with
 |int i=>exact⟨i,r.int,k _ _ _ _ j c .ofInt q⟩
 |_=>exact q.elim
def anH (o:Option O3) (H:Hp3) (Q:VK3):Prop:=match o with
 |some (.lst xs)=>oq (cD xs) fun a=>Q (.bl (a.any id)) H
 |some (.rol xs)=>oq (cD xs) fun a=>Q (.bl (a.any id)) H
 |_=>False
def JP:List T->Hp3->VK3->Prop:=fun ts H Q=>match ts with
 |[.ref a]=>anH (H a) H Q
 |_=>False
theorem SN (a:Addr) {H:Hp3}{Q:VK3}:JP [.ref a] H Q=anH (H a) H Q:=rfl
theorem SQ (xs:List T) {H:Hp3}{Q:VK3}:anH (some (.lst xs)) H Q=oq (cD xs) fun a=>Q (.bl (a.any id)) H:=rfl
theorem any_range (c:List Bool):(List.range c.length).any (fun i=>c.getD i true)=c.any id:=by
 rw[Wv,X3,X3];constructor
 ·rintro⟨i,d,h⟩;have a:=O_.mp d;refine⟨c[i],Ws a,?_⟩;simpa [List.getD,a] using h
 rintro⟨b,e,h⟩;obtain⟨i,d,rfl⟩:=List.mem_iff_getElem.mp e;refine⟨i,O_.mpr d,?_⟩;simpa [List.getD,d] using h
theorem Nv (S:X.calm=true):eZ X (.builtin "any") JP:=by
 intro t s M H xs us Q I L h;obtain⟨ts,H3,G,r,B,h,k⟩:=h
 match ts,h,r with
 |[.ref a],h,r =>
 obtain⟨v,rfl,y⟩:=r.one';obtain⟨u,rfl,J⟩:=vals1 L;rw[y.ref] at J;cases J;have f:∀{j:List T} {p:List V},SqL X.K H a p->Reps X.K H j p->oq (cD j) (fun d=>G (.bl (d.any id)) H3)->wpAny (model X.prog X.w) X.A (call (.builtin "any") [.ref a]) (EP X t M Q) X.xe s:=by
  intro j p m l q;cases e:cD j with
  |none=>rw[e] at q;exact q.elim
  |some d =>
  rw[e] at q;obtain⟨N,x,F,_⟩:=I.list m;have R:=jR e l x;subst R;have D:a≠s.heap.objs.size:=fun z=>by obtain⟨o,n,g,_⟩:=F;have:=E_ g;rw[z] at this;exact WL _ this
  refine call_any_walk (wpAny_pyIter_list F.isList ?_);refine⟨s.heap.objs.size,_,_,_,_,_,fun i=>d.getD i true,rfl,Walks.list (A:=X.A.in1) (I.ok.hd S) s.heap.objs.size a D (d.map Value.bool).toArray,⟨⟨_,C_ _ rfl,rfl,rfl⟩,F.isList.push _⟩,fun i v s' Y W U C=>?_,fun h' tk O=>?_⟩
  ·have c:(d.map Value.bool)[i]?=some v:=by simpa using U
   rw[J_] at c;cases E:d[i]? with
   |none=>rw[E] at c;cases c
   |some b =>
   rw[E] at c;cases c;have:d.getD i true=b:=by simp [List.getD,E]
   dsimp only at C;rw[this] at C;exact Yd C
  have P:(d.map Value.bool).toArray.size=d.length:=by simp
  rw[P,any_range];refine⟨.bl (d.any id),H,I.kept fun b o e=>O b o (fun z=>?_) (e_ _ e),rfl,k _ _ _ _ .refl B .ofBl q⟩;have:=E_ e;rw[h_.mp z] at this;exact WL _ this
 have h':anH (H3 a) H3 G:=h;cases g:H3 a with
 |none=>rw[g] at h';exact h'.elim
 |some o =>
 rw[g] at h';cases o with
 |lst j=>obtain⟨p,m,l⟩:=B.sqL (.inl g);exact f m l h'
 |rol j=>obtain⟨p,m,l⟩:=B.sqL (.inr g);exact f m l h'
 |_=>exact h'.elim
theorem Bp:dH X (binaryOp .BitAnd) (pB fun i j=>.int (Builtin.bitAnd i j)):=lw Lr fun _ _ _=>.ofInt
theorem SX:dH X (binaryOp .BitOr) (pB fun i j=>.int (Builtin.bitOr i j)):=lw Qx fun _ _ _=>.ofInt
theorem Nx:bootBuiltins "max"=some (.builtin "max"):=by decide +kernel
end
theorem bB {N P:List Str}{h:Scope}(a:h.kind=.function:=by rfl) (b:h.isCoroutine=false:=by rfl) (c:h.isGenerator=false:=by rfl) (d:N.Nodup:=by decide +kernel) (e:N.take P.length=P:=by rfl)
 (f:∀x∈P,h.names.lookup x=some .local\/h.names.lookup x=some .cell:=by decide +kernel) (g:∀y∈h.names,y.2≠.free:=by decide +kernel):FnScope N P h:=⟨a,b,c,d,e,f,g⟩
theorem Bq {p:Prop} [Decidable p] (h:¬p):¬(decide p=true) := fun e=>h (Wz e)
theorem upa {H:Hp3}{a q:Addr}{o u:O3}(h:H a=some u) (b:H q=none):up3 H q o a=some u := by rw[aD (bh h b)];exact h
structure Cal (P:Program) (w:World) (K:Frag) (mg:Str->Option Value) (base:Heap) (k:Nat) (x:Str) (st:Stmt) (ps:List Str) (sp:Sp3):Prop where
 ex:∃(f:Addr) (fd:FuncData),G3 K mg x st ps f fd/\jQ P w K mg base k f fd ps sp
theorem Ny {X:Cx}{k:Nat}{ps:List Str}{sp:Sp3}{st:Stmt}{x:Str}{p a:Pos}{e:Expr}{c:List Expr}{t:TA3}(D:Cal X.prog X.w X.K X.mg X.base k x st ps sp) (n:Room k X.A) (i:Gl X x)
  (j:PA3 X (e::c) t) (h:(x==("__debug__":Str))=false:=by decide) (l:starEach (e::c) X.env=(false,eval e X.env)::starEach c X.env:=by rfl) (d:(backTo a (starEach c X.env)).any (·.1)=false:=by rfl) :
  PE3 X (.Call (.Name x p) (e::c) [] a) (pA sp t):=by
 obtain⟨f,o,g,F⟩:=D.ex;exact Gf F n i g.m g.fn.kp g.b j h l d
theorem aK {X:Cx}{k j:Nat}{ps:List Str}{sp:Sp3}{st:Stmt}{x:Str}{p a:Pos}{e:Expr}{b:List Expr}{t:TA3}(D:Cal X.prog X.w X.K X.mg X.base k x st ps sp) (l:Room j X.A) (f:Gl X x) (g:PA3 X (e::b) t) (h:k<=j:=by decide) (d:(x==("__debug__":Str))=false:=by decide) (i:starEach (e::b) X.env=(false,eval e X.env)::starEach b X.env:=by rfl) (c:(backTo a (starEach b X.env)).any (·.1)=false:=by rfl):PE3 X (.Call (.Name x p) (e::b) [] a) (pA sp t):=Ny D (l.mono h) f g d i c
section
variable {X:Cx}{pins:List (Addr × Obj)}{σ:L2.St}{H:Hp}{s:Shared}
def rpH (o:Option O3) (k:Int) (H:Hp3) (Q:VK3):Prop:=match o with
 |some (.lst xs)=>(-(2^63)<=k/\k<2^63/\xs.length*k.toNat<=sizeLine)/\∀p,H p=none->Q (.ref p) (up3 H p (.lst (List.replicate k.toNat xs).flatten))
 |_=>False
def JQ:R3:=fun x y H Q=>match x,y with
 |.ref a,.int k=>rpH (H a) k H Q
 |_,_=>False
theorem JR (a:Addr) (k:Int) (H:Hp3) (Q:VK3):JQ (.ref a) (.int k) H Q=rpH (H a) k H Q:=rfl
theorem JS (xs:List T) (k:Int) (H:Hp3) (Q:VK3):rpH (some (.lst xs)) k H Q=((-(2^63)<=k/\k<2^63/\xs.length*k.toNat<=sizeLine)/\∀p,H p=none->Q (.ref p) (up3 H p (.lst (List.replicate k.toNat xs).flatten))):=rfl
theorem Reps.rep {K:Frag}{H:Hp}{ts:List T}{vs:List V}(r:Reps K H ts vs):∀k:Nat,Reps K H (List.replicate k ts).flatten (List.replicate k vs).flatten
 |0=>.nil
 |k+1=>by rw[XC,XC,Xw,Xw];exact r.append (Reps.rep r k)
theorem Nz:dH X (binaryOp .Mult) JQ:=by
 refine OpR.imp Mi ?_;rintro x y H Q ⟨q,g,H3,s,i,m,b,h,k⟩;cases q with
 |ref a =>
  cases g with
  |int n =>
   rw[JR] at h;cases e:H3 a with
   |none=>rw[e] at h;exact h.elim
   |some o =>
   rw[e] at h;cases o with
   |lst xs=>rw[JS] at h;obtain⟨vs,r,d⟩:=b a _ e;obtain⟨⟨j,f,l⟩,h'⟩:=h;refine⟨a,n,vs,i.ref,m.int,r,j,f,by rw[<- d.length];exact l,fun p c=>?_⟩;exact k _ _ _ _ (aN c) (b.newLst c (d.rep n.toNat)) .ofRef (h' p (b.fresh c))
   |_=>exact h.elim
  |_=>exact h.elim
 |_=>exact h.elim
end
theorem lr_hint:Slot "list_reverseiterator" "__length_hint__" "list_reverseiterator.__length_hint__":=.of (owner:="list_reverseiterator") (n:="__length_hint__") (by rw[typeLookup_type,YJ];kernel_rfl) (by decide +kernel) (by decide +kernel) (by decide +kernel)
 (by first | exact .inr (by decide +kernel) | exact .inl (by decide +kernel)) (by rw[Zm];kernel_rfl)
theorem Br:typeLookup (.type "list_reverseiterator") "__len__"=pure none:=by rw[typeLookup_type,YJ];kernel_rfl
theorem NB:isSubtype (.type "list_reverseiterator") (.type "list_reverseiterator")=pure true:=by rw[Zm];kernel_rfl
theorem Bs {a b:Array Value}(h:ItemsOf (fun i v=>a[a.size - 1 - i]?=some v) b a.size):b=a.reverse:=by
 refine Array.ext (by rw[h.1];simp) fun j c d=>?_;have q:a[a.size - 1 - j]?=some b[j]:=h.2 j b[j] (P_ c);have e:j<a.size:=by rw[<- h.1];exact c
 rw[P_ (by omega)] at q;rw[Array.getElem_reverse];exact (We q).symm
section
variable {prog:Program}{w:World}{A:Around}{E:Value->Shared->Prop}{s:Shared}
theorem yK {R:Result->Shared->Prop}{I l S:Addr}{c:Array Value}{res:Value}{n:Nat}(B:A.handled=none) (t:l≠I) (hsz:c.size<=sizeLine) (m:S∉[I,l]) (h:s.heap.IsRevIter I l ((c.size:Int) - 1)) (E:s.heap.IsList l c)
  (D:s.heap.get? S=some { cls:=.type "list",data:=.seq #[] n})
  (C:∀s' d k,Moved (S::[I]) (fun a b=>b=a) s s'->s'.heap.get? S=some { cls:=.type "list",dict:=none,data:=.seq d k,slots:=#[]}->ItemsOf (fun i v=>c[c.size - 1 - i]?=some v) d c.size->R (.ok (.ret res)) s') :
  wpAny (model prog w) A.in1 (Builtin.List.listExtendWith (.ref S) (.ref I) res)
   (fun u s'=>match u with | .done f=>R (.ok f) s' | .again k=>k.quiet=true/\codeAny (model prog w) A k R s') (fun e s'=>R (.error e) s') s:=by
 have W:=(Walks.listRev (prog:=prog) (w:=w) (A:=A.in1) B I l t c).toS;have r:S≠I:=fun e=>m (e▸q_);have st:(fun (i:Nat) (s:Shared)=>i<=c.size/\s.heap.IsRevIter I l ((c.size:Int) - 1 - (i:Int))/\s.heap.IsList l c) 0 s:=⟨Xa _,by simpa using h,E⟩;have g:s.TypeIs (.ref I) "list_reverseiterator":=h.typeIs;unfold Builtin.List.listExtendWith;refine b_ (wpAny_typeOf g ?_);have x:Builtin.List.listSameRef (.ref S) (.ref I)=false:=by simp [Builtin.List.listSameRef,r]
 have G:(Value.type "list_reverseiterator"==Value.type "list")=false:=by decide
 have y:(Value.type "list_reverseiterator"==Value.type "tuple")=false:=by decide
 simp only[x,G,y,Bool.or_false,H_,Wl];refine b_ (wpAny_pyIter_revIter h ?_);refine b_ (Xu ?_);unfold Builtin.List.listLengthHint;refine b_ (wpAny_specialOf g Br ?_);show wpAny _ A.in1 (specialOf (Value.ref I) (Str.ofString "__length_hint__") >>= _) _ _ _;refine b_ (wpAny_specialOf g lr_hint.lookup ?_);generalize j:("list_reverseiterator.__length_hint__":String)=p
 (fail_if_success (clear j p))
 wp_delta
 rw[show splitId p=some ("list_reverseiterator","__length_hint__") from by subst j;decide +kernel];subst j;refine b_ (wpAny_isInstance (b:=true) g NB ?_);rw[if_neg (show ¬(!true)=true from m_)];dsimp only;rw[if_pos (by decide +kernel)];rw[if_neg (show ¬((Value.builtin "list_reverseiterator.__length_hint__"==Value.builtin "range_iterator.__length_hint__")=true) from by decide)];refine k_ ?_;try rw[if_neg m_]
 refine k_ ⟨Zy F.plain_extend_loop _,?_⟩;exact codeAny_extend_loopS W hsz _ m _ c.size 0 _ _ _ rfl (Xa _) st D (ItemsOf.nil _) fun s' d k z q o=>C s' d k z q o
theorem GD {R:Result->Shared->Prop}{I l S:Addr}{d:Array Value}(H:A.handled=none) (t:l≠I) (hsz:d.size<=sizeLine) (m:S∉[I,l]) (r:s.heap.IsRevIter I l ((d.size:Int) - 1)) (K:s.heap.IsList l d)
  (x:s.heap.get? S=some { cls:=.type "list",data:=.seq #[]})
  (J:∀s' g n,Moved (S::[I]) (fun a b=>b=a) s s'->s'.heap.get? S=some { cls:=.type "list",dict:=none,data:=.seq g n,slots:=#[]}->ItemsOf (fun i v=>d[d.size - 1 - i]?=some v) g d.size->R (.ok (.ret .none)) s') :
  wpAny (model prog w) A.in1 (Builtin.«list.__init__» ⟨[.ref S,.ref I],[]⟩)
   (fun y s'=>match y with | .done f=>R (.ok f) s' | .again n=>n.quiet=true/\codeAny (model prog w) A n R s') (fun e s'=>R (.error e) s') s:=by
 show wpAny _ A.in1 (do let u <- Builtin.List.listItems (.ref S);Builtin.List.listUpdate (.ref S) (fun _=>#[]);letGo u.toList.reverse;Builtin.List.listExtendWith (.ref S) (.ref I) .none) _ _ s;refine b_ ?_;unfold Builtin.List.listItems;refine b_ (wpAny_seqItems x rfl (k_ ?_));show wpAny _ A.in1 (updateSeq S (fun _=>#[]) >>= fun _=>letGo (#[]:Array Value).toList.reverse >>= fun _=>Builtin.List.listExtendWith (.ref S) (.ref I) .none) _ _ s;refine b_ (wpAny_updateSeq x rfl ?_);have k:=XH (Obj.mapSeq (fun _=>(#[]:Array Value))) x rfl;have j:∀b o,b≠S->s.heap.get? b=some o->(s.heap.update S (Obj.mapSeq (fun _=>(#[]:Array Value)))).get? b=some o :=
  fun b o z e=>(Xv _ _ (Ne.symm z)).trans e
 refine b_ (wpAny_letGo ?_);have B:I≠S:=fun e=>m (by simp [e]);have C:l≠S:=fun e=>m (by simp [e]);refine yK H t hsz m (r.at fun o e=>j _ o B e) (K.at fun o e=>j _ o C e) k fun s' g n E q p=>?_;exact J s' g n (Moved.trans (G:=fun a b=>b=a) (fun a b c F D=>D.trans F) ((Moved.refl (G:=fun a b=>b=a) fun _=>rfl).then_heap (j_ _) fun b o z e=>j b o (fun h=>z (h▸q_)) e) E) q p
theorem mR {Q:Value->Shared->Prop}{I l:Addr}{c:Array Value}(z:A.handled=none) (p:l≠I) (hsz:c.size<=sizeLine) (g:s.heap.IsRevIter I l ((c.size:Int) - 1)) (x:s.heap.IsList l c)
  (y:∀s' n,Moved (s.heap.objs.size::[I]) (fun a b=>b=a) { s with heap:=s.heap.push { cls:=.type "list",data:=.seq #[]}} s' ->
   s'.heap.get? s.heap.objs.size=some { cls:=.type "list",dict:=none,data:=.seq c.reverse n,slots:=#[]}->Q (.ref s.heap.objs.size) s') :
  wpAny (model prog w) A (call (.type "list") [.ref I]) Q E s:=by
 have j:I<s.heap.objs.size:=by obtain⟨o,r,_⟩:=g;exact E_ r
 have i:l<s.heap.objs.size:=by obtain⟨o,r,_⟩:=x;exact E_ r
 have t:s.heap.objs.size∉[I,l]:=fun q=>by
  rcases n_.mp q with e | e
  ·rw[<- e] at j;exact WL _ j
  rw[<- h_.mp e] at i;exact WL _ i
 refine callType_codes (Q₁:=fun k d=>k=.ref s.heap.objs.size/\d={ s with heap:=s.heap.push { cls:=.type "list",data:=.seq #[]}}) F.called_list (F.typeCall_list_1 _) F.entry_list_init
  (code_list_new _ ⟨rfl,rfl⟩) fun k d f=>?_
 obtain⟨rfl,rfl⟩:=f;have v:(s.heap.push { cls:=.type "list",data:=.seq #[]}).get? s.heap.objs.size=some { cls:=.type "list",data:=.seq #[]}:=C_ _ rfl;refine⟨⟨_,v,rfl⟩,F.args_list_init_2 _ _,GD (A:=A.in1) z p hsz t (g.at fun o e=>e_ _ e) (x.at fun o e=>e_ _ e) v fun s' u n q m h=>?_⟩;refine⟨rfl,y s' n q ?_⟩;rw[<- Bs h];exact m
end
def Itv (K:Frag) (a:Addr) (n:Nat):It :=
 ⟨fun i H=>∃xs x,SqL K H a xs/\xs.length=n/\i<n/\xs[n - 1 - i]?=some x,fun i H x H'=>H'=H/\∀xs,SqL K H a xs->xs[n - 1 - i]?=some x,fun i _=>n<=i⟩
theorem Bt {P:Program}{w:World}{K:Frag}{R:Expr}(a it:Addr) (n:Nat):Turn P w K R (Itv K a n) [it] it (fun i h=>i<=n/\h.IsRevIter it a ((n:Int) - 1 - (i:Int))) where
 mem:=by simp
 obj:=fun i h st b j=>by
  have e:b=it:=by simpa using j
  subst e
  obtain⟨_,o,e,c,d⟩:=st
  exact⟨o,e,fun v z=>by rw[d] at z;cases z⟩
 keep:=fun i h h' st k=>⟨st.1,st.2.at fun o e=>k it (by simp) o e⟩
 item:=by
  intro X r y m L i f s F H E I l st A
  subst r y m
  obtain⟨xs,x,G,hn,hi,J⟩:=A
  obtain⟨O,M,p,hz⟩:=I.list G
  obtain⟨u,Q,Y⟩:=M.get J
  obtain⟨B,D,V,C,t,q⟩:=l it (by simp)
  have e:(n:Int) - 1 - (i:Int)=((n - 1 - i:Nat):Int):=by omega
  obtain⟨_,st⟩:=st
  rw[e] at st
  refine wpAny_pyNext_rev_item st p.isList (x:=u) (by simpa using Q) fun h' g sb=>?_
  have W:Inv X f F H { s with heap:=h'}:=I.turned (t':=s.toks) (fun b o j e=>(sb.2 b j).trans e) B D C t q
  obtain⟨o,S,c,d⟩:=id g
  have U:((n - 1 - i:Nat):Int) - 1=(n:Int) - 1 - ((i+1:Nat):Int):=by omega
  rw[U] at g
  exact⟨u,rfl,vI (s:={ s with heap:=h'}) S c d (by decide) ⟨x,H,W,Y,⟨rfl,fun ys hy=>by rw[I.list_inj hy G];exact J⟩,⟨hi,g⟩,fun b j=>(l b j).1⟩⟩
 done:=by
  intro X r y m L i f s F H E I l st A
  subst r y m
  obtain⟨B,D,V,C,t,q⟩:=l it (by simp)
  obtain⟨T,st⟩:=st
  have N:n<=i:=A
  have e:(n:Int) - 1 - (i:Int) = -1:=by omega
  rw[e] at st
  exact wpAny_pyNext_rev_end (I.ok.hd L) st fun h' Z=>⟨rfl,I.turned (t':=s.toks) (fun b o j e=>Z b o j e) B D C t q⟩
 self:=fun _ _ _ _ _ st h=>wpAny_pyIter_revIter st.2 h
theorem jT:bootBuiltins "reversed"=some (.type "reversed"):=by decide +kernel
section
variable {X:Cx}{tg e:Expr}{p p1 p2 pos pos':Pos}
def VR (K:Frag) (te:TE):TI:=fun c H R=>te c H fun x b=>∃a xs,x=.ref a/\SqL K b a xs/\R (Itv K a xs.length) b
theorem NK {te:TE}(y:Gl X "reversed") (z:X.mg "reversed"=none) (w:PE X e te)
  (k:starEach [e] X.env=(false,eval e X.env)::starEach [] X.env:=by rfl) (j:(backTo pos (starEach [] X.env)).any (·.1)=false:=by rfl) :
  PI X tg (.Call (.Name "reversed" p) [e] [] pos) (VR X.K te):=by
 intro f s n H R I h;refine WR (dM I y z jT ?_ (by decide) (by decide));refine Wx ?_ k j;rw[k];show wpAny _ _ (spliced ((false,eval e X.env)::backTo pos (starEach [] X.env))) _ _ s;refine W2 (thn (w f s n H _ I h) fun u c ⟨x,A,g,v,a,xs,t,r,q⟩=>?_);subst t;cases v;refine Xh ?_;obtain⟨i,m,D,hz⟩:=g.list r;have d:=m.length;refine call_reversed_list D.isList ?_;have B:((i.toArray.size:Nat):Int) - 1=(xs.length:Int) - 1:=by simp [d]
 rw[B];have l:(c.heap.push (revObj a ((xs.length:Int) - 1))).IsRevIter c.heap.objs.size a ((xs.length:Int) - 1):=⟨_,C_ _ rfl,rfl,rfl⟩;refine wpAny_pyIter_revIter l ?_;refine⟨c.heap.objs.size,[c.heap.objs.size],_,_,A,rfl,g.kept (t':=c.toks) fun b o e=>e_ _ e,Bt a c.heap.objs.size xs.length,⟨Xa _,by simpa using l⟩,fun b C=>?_,q⟩;have e:b=c.heap.objs.size:=by simpa using C
 subst e;exact g.fpOk (j_ _) (g.hok.fresh (j_ _))
def reO (o:Option O3) (a:Addr) (H:Hp3) (R:List T->(Hp3->Prop)->Hp3->Prop):Prop:=match o with
 |some (.lst ts)=>R ts.reverse (cB a ts) H
 |_=>False
def JT (te:TE3):TI3:=fun c H R=>te c H fun x b=>match x with
 |.ref a=>reO (b a) a b R
 |_=>False
theorem Bu {K:Frag}{H:Hp}{a:Addr}{ts:List T}{xs:List V}(k:xs.length=ts.length):lq K (Itv K a xs.length) ts.reverse (cB a ts) H:=fun H' l p f st=>by
 obtain⟨d,h,c⟩:=f.sqL st;have n:=c.length;rw[k];refine⟨fun i b=>by rw[Xg] at b;exact b,fun i t e=>?_⟩;have b:i<ts.length:=by have:=(WY.mp e).1;rw[Xg] at this;exact this
 rw[List.getElem?_reverse b] at e;obtain⟨v,g,j⟩:=c.get e;refine⟨⟨d,v,h,n.symm,b,g⟩,fun x o y=>?_⟩;obtain⟨m,y⟩:=y;subst m;have:=y d h;rw[g] at this;cases this;exact⟨.refl,f,j⟩
theorem NP {te:TE3}(i:Gl X "reversed") (m:X.mg "reversed"=none) (w:PE3 X e te)
  (x:starEach [e] X.env=(false,eval e X.env)::starEach [] X.env:=by rfl) (g:(backTo pos (starEach [] X.env)).any (·.1)=false:=by rfl) :
  PI3 X tg (.Call (.Name "reversed" p) [e] [] pos) (JT te):=by
 refine PI.imp (NK i m w x g) ?_;rintro y H R ⟨f,H3,R3,j,l,h,k⟩;refine⟨f,H3,_,j,l,h,fun v H' t b u d r q=>?_⟩;cases t with
 |ref a =>
  have c:reO (b a) a b R3:=q
  cases e:b a with
  |none=>rw[e] at c;exact c.elim
  |some o =>
   rw[e] at c
   cases o with
   |lst ts =>
    obtain⟨xs,s,n⟩:=d.sqL (.inl e)
    exact⟨a,xs,r.ref,s,k _ _ (cB a ts) H' b u d (Bu n.length.symm) c⟩
   |_=>exact c.elim
 |_=>exact q.elim
theorem NQ (te:TE3) {c:St3}{H:Hp3}{R:List T->(Hp3->Prop)->Hp3->Prop}:JT te c H R=te c H fun x b=>match x with
 |.ref a=>reO (b a) a b R
 |_=>False:=rfl
theorem S5 (ts:List T) (a:Addr) (H:Hp3) (R:List T->(Hp3->Prop)->Hp3->Prop):reO (some (.lst ts)) a H R=R ts.reverse (cB a ts) H:=rfl
def NT (te:TE):TE:=fun c H Q=>te c H fun x a=>∃p b,x=.ref p/\SqL X.K a p b/\∀l,a l=none->Q (.ref l) (upd a l (.lst b.reverse))
theorem Bv {te:TE}(S:X.calm=true) (r:Gl X "list") (l:X.mg "list"=none) (n:Gl X "reversed") (m:X.mg "reversed"=none) (E:PE X e te)
  (A:starEach [e] X.env=(false,eval e X.env)::starEach [] X.env:=by rfl) (f:(backTo pos (starEach [] X.env)).any (·.1)=false:=by rfl) (i:(backTo pos' (starEach [] X.env)).any (·.1)=false:=by rfl) :
  PE X (.Call (.Name "list" p1) [.Call (.Name "reversed" p2) [e] [] pos'] [] pos) (NT (X:=X) te):=by
 intro c s y H Q I h;refine WR (dM I r l jf ?_ (by decide) (by decide));refine Wx ?_ rfl f;show wpAny _ _ (spliced ((false,eval (.Call (.Name "reversed" p2) [e] [] pos') X.env)::backTo pos (starEach [] X.env))) _ _ s;refine W2 ?_;refine WR (dM I n m jT ?_ (by decide) (by decide));refine Wx ?_ A i;rw[A];show wpAny _ _ (spliced ((false,eval e X.env)::backTo pos' (starEach [] X.env))) _ _ s;refine W2 (thn (E c s y H _ I h) fun u s1 ⟨x,R,j,L,p,O,P,N,q⟩=>?_);subst P;cases L;obtain⟨a,w,v,hz⟩:=j.list N;have C:=w.length;have hsz:a.toArray.size<=sizeLine:=by simp only[l_];omega
 refine Xh ?_;refine call_reversed_list v.isList ?_;refine Xh ?_;have f:p<s1.heap.objs.size:=by obtain⟨o,F,_⟩:=v.isList;exact E_ F
 have t:(s1.heap.push (revObj p ((a.toArray.size:Int) - 1))).IsRevIter s1.heap.objs.size p ((a.toArray.size:Int) - 1):=⟨_,C_ _ rfl,rfl,rfl⟩;refine mR (s:={ s1 with heap:=s1.heap.push (revObj p ((a.toArray.size:Int) - 1))}) (j.ok.hd S) (Wh f) hsz t (v.isList.at fun o e=>e_ _ e) fun s' J g D=>?_;generalize k:(s1.heap.push (revObj p ((a.toArray.size:Int) - 1))).objs.size=z at g D;have d:s1.heap.objs.size<z:=by rw[<- k];simp [Heap.push]
 have K:∀b u,s1.heap.get? b=some u->s'.heap.get? b=some u:=fun b u B=>g.heap b u (fun T=>by
  have:=E_ B
  rcases n_.mp T with e | e
  ·
   rw[e] at this;exact absurd (Y8 this d) (WL _)
  ·
   rw[h_.mp e] at this;exact WL _ this) (e_ _ (e_ _ B))
 have G:s'={ s1 with heap:=s'.heap,toks:=s'.toks}:=by
  obtain⟨Y,W,U,Z,V⟩:=s';have:=g.gens;have:=g.drawn;have:=g.os
  simp_all
 have M:Inv X c y (upd R z (.lst O.reverse)) { s1 with heap:=s'.heap,toks:=s'.toks} :=
  j.laid (t':=s'.toks) K (Xc d) ⟨by rw[Xg];exact hz,a.reverse,J,w.reverse,by simpa using D⟩
 rw[G];exact⟨.ref z,_,M,rfl,q _ (j.hok.fresh (Xc d))⟩
def lrO (o:Option O3) (H:Hp3) (Q:VK3):Prop:=match o with
 |some (.lst xs)=>∀p,H p=none->Q (.ref p) (up3 H p (.lst xs.reverse))
 |_=>False
def wK (te:TE3):TE3:=fun c H Q=>te c H fun x b=>match x with
 |.ref a=>lrO (b a) b Q
 |_=>False
theorem Bw {te:TE3}(D:X.calm=true) (m:Gl X "list") (g:X.mg "list"=none) (j:Gl X "reversed") (i:X.mg "reversed"=none) (u:PE3 X e te)
  (A:starEach [e] X.env=(false,eval e X.env)::starEach [] X.env:=by rfl) (n:(backTo pos (starEach [] X.env)).any (·.1)=false:=by rfl) (f:(backTo pos' (starEach [] X.env)).any (·.1)=false:=by rfl) :
  PE3 X (.Call (.Name "list" p1) [.Call (.Name "reversed" p2) [e] [] pos'] [] pos) (wK te):=by
 refine PE.imp (Bv D m g j i u A n f) ?_;rintro E H Q ⟨p,H3,z,w,x,h,k⟩;refine⟨p,H3,_,w,x,h,fun v H' t b y c r q=>?_⟩;cases t with
 |ref a =>
  have d:lrO (b a) b z:=q
  cases e:b a with
  |none=>rw[e] at d;exact d.elim
  |some o =>
   rw[e] at d
   cases o with
   |lst ts =>
    obtain⟨xs,C,B⟩:=c.sqL (.inl e)
    exact⟨a,xs,r.ref,C,fun l s=>k _ _ _ _ (y.trans (aN s)) (c.newLst s B.reverse) .ofRef (d l (c.fresh s))⟩
   |_=>exact d.elim
 |_=>exact q.elim
theorem GF (te:TE3) {c:St3}{H:Hp3}{Q:VK3}:wK te c H Q=te c H fun x b=>match x with
 |.ref a=>lrO (b a) b Q
 |_=>False:=rfl
theorem S6 (xs:List T) (H:Hp3) (Q:VK3):lrO (some (.lst xs)) H Q=∀p,H p=none->Q (.ref p) (up3 H p (.lst xs.reverse)):=rfl
variable {o:Expr}{to:TE3}{name:Str}{apos cpos:Pos}{m:T->List T->Hp3->VK3->Prop}{Ty id:String}
def JV (b:String) (m:T->List T->Hp3->VK3->Prop) (c:TE3):TE3:=fun d H Q=>c d H fun x a=>ty3 b x a/\m x [] a Q
theorem NZ (u:PlainAttrs Ty) (d:Slot Ty name id) (i:typeOf (.builtin id)=pure (.type "method_descriptor")) (s:um X id m) (t:PE3 X o to)
  (b:attributeBase o name X.env (eval o X.env)=eval o X.env:=by rfl) (a:(apos.endLine==cpos.line)=true:=by rfl) :
  PE3 X (.Call (.Attribute o name apos) [] [] cpos) (JV Ty m to):=by
 refine PE.imp (Mf u d i s t b a) ?_;rintro v H Q ⟨f,H3,q,n,p,h,k⟩;exact⟨f,H3,_,n,p,h,fun x w r e g c j l=>⟨JB c j l.1,r,[],e,q,j,.nil,c,l.2,k.at g⟩⟩
def GJ:V->List V->Hp->VK->Prop:=fun x vs H Q=>∃l xs i y,x=.ref l/\vs=[.int i,y]/\H l=some (.lst xs)/\0<=i/\i<=xs.length/\xs.length<sizeLine/\Q .non (upd H l (.lst (xs.take i.toNat++y::xs.drop i.toNat)))
theorem yL:MtR X "list.insert" GJ:=by
 intro f s p H x vs v us Q I k j h;obtain⟨l,xs,i,y,rfl,rfl,c,w,o,hz,q⟩:=h;cases k;obtain⟨u,d,rfl,g,b⟩:=vals2 j;obtain⟨t,rfl⟩:=g;obtain⟨z,a,n,r,A,e⟩:=I.lstM c;have hsz:sizeLine=16777216:=rfl;have m:¬(!Builtin.List.listFitsIndex i)=true:=by rw[fitsIndex_both (by omega) (by omega)];exact m_
 refine Zx F.slot_list_insert ⟨_,e,rfl⟩ F.entry_list_insert (F.args_list_insert_3 _ _ _) (AutoSeq1.list_insert_list_int_val_1 l a.toArray n i t d m (by rw[l_];omega)) ⟨e,?_⟩;refine⟨.non,_,I.lset (its':=a.take i.toNat++d::a.drop i.toNat) c e ?_ ((r.take _).append (.cons b (r.drop _))) ?_,rfl,q⟩
 ·dsimp only;rw[if_neg (by omega),l_,Nat.min_eq_left (by omega)];apply Array.toList_inj.mp;simp;exact WM (by simp)
 rw[a_,i_,Wi,Wo];omega
def N5 (o:Option O3) (a:Addr) (i:Int) (t:T) (H:Hp3) (Q:VK3):Prop:=match o with
 |some (.lst xs)=>(0<=i/\i<=xs.length/\xs.length<sizeLine)/\Q .non (up3 H a (.lst (xs.take i.toNat++t::xs.drop i.toNat)))
 |_=>False
def JW:T->List T->Hp3->VK3->Prop:=fun x ts H Q=>match x,ts with
 |.ref a,[.int i,t]=>N5 (H a) a i t H Q
 |_,_=>False
theorem JX (a:Addr) (i:Int) (t:T) (H:Hp3) (Q:VK3):JW (.ref a) [.int i,t] H Q=N5 (H a) a i t H Q:=rfl
theorem Bx (xs:List T) (a:Addr) (i:Int) (t:T) (H:Hp3) (Q:VK3):N5 (some (.lst xs)) a i t H Q=((0<=i/\i<=xs.length/\xs.length<sizeLine)/\Q .non (up3 H a (.lst (xs.take i.toNat++t::xs.drop i.toNat)))):=rfl
theorem yM:um X "list.insert" JW:=by
 refine MtR.imp yL ?_;rintro x xs H Q ⟨t,ts,H3,u,m,q,f,h,k⟩;cases t with
 |ref a =>
  cases ts with
  |nil=>exact h.elim
  |cons d ts =>
  cases ts with
  |nil=>cases d <;> exact h.elim
  |cons w ts =>
  cases ts with
  |cons _ _=>cases d <;> exact h.elim
  |nil =>
  cases d with
  |int i =>
   rw[JX] at h;cases e:H3 a with
   |none=>rw[e] at h;exact h.elim
   |some o =>
   rw[e] at h;cases o with
   |lst y=>rw[Bx] at h;obtain⟨g,c,r⟩:=f a _ e;obtain⟨⟨n,j,p⟩,h'⟩:=h;obtain⟨v,s,rfl,l,b⟩:=q.two';refine⟨a,g,i,s,m.ref,by rw[l.int],c,n,by rw[<- r.length];exact j,by rw[<- r.length];exact p,k _ _ _ _ (bH (by rw[c];exact trivial)) (f.wrL c ((r.take _).append (.cons b (r.drop _)))) .ofNon h'⟩
   |_=>exact h.elim
  |_=>exact h.elim
 |_=>exact h.elim
def mxH (o:Option O3) (H:Hp3) (Q:VK3):Prop:=match o with
 |some (.lst xs)=>oq (ints3 xs) fun ns=>ns≠[]/\∀M,M∈ns->(∀a∈ns,a<=M)->Q (.int M) H
 |_=>False
def By:List T->Hp3->VK3->Prop:=fun ts H Q=>match ts with
 |[.ref a]=>mxH (H a) H Q
 |_=>False
theorem BJ (a:Addr) (H:Hp3) (Q:VK3):By [.ref a] H Q=mxH (H a) H Q:=rfl
theorem JZ (xs:List T) (H:Hp3) (Q:VK3):mxH (some (.lst xs)) H Q=oq (ints3 xs) fun ns=>ns≠[]/\∀M,M∈ns->(∀a∈ns,a<=M)->Q (.int M) H:=rfl
theorem GK (J:X.calm=true):eZ X (.builtin "max") By:=by
 intro z s M H xs us Q I A h;obtain⟨ts,H3,N,r,q,h,k⟩:=h;cases ts with
 |nil=>exact h.elim
 |cons t ts =>
 cases ts with
 |cons _ _=>cases t <;> exact h.elim
 |nil =>
 cases t with
 |ref a =>
  rw[BJ] at h;obtain⟨v,rfl,i⟩:=r.one';obtain⟨u,rfl,x⟩:=vals1 A;rw[i.ref] at x;cases x;cases e:H3 a with
  |none=>rw[e] at h;exact h.elim
  |some o =>
  rw[e] at h;cases o with
  |lst G =>
   rw[JZ] at h;obtain⟨P,F,E⟩:=q.sqL (.inl e);cases n:ints3 G with
   |none=>rw[n] at h;exact h.elim
   |some ns =>
   rw[n,jE] at h;obtain⟨l,h⟩:=h;obtain⟨b,g,K,_⟩:=I.list F;have y:=iQ n E g;have d:AllInts b.toArray:=y.allInts;obtain⟨c,w⟩:=d.items;have m:s.heap.IsList a (intItems c):=by rw[<- w];exact K.isList
   have f:=nums_intItems c;rw[<- w,show b.toArray.toList=b from rfl,y.numsOf] at f;have hz:0<c.size:=by have:=U_ List.length f;simp at this;have:=List.length_pos_iff.mpr l;omega
   refine max_intList (I.ok.hd J) m hz fun v h' tk L B=>?_;obtain⟨t,rfl⟩:=intItems_at L;obtain⟨O,C⟩:=argBest_gt (numAt c) (c.size - 1);refine⟨.int _,H,I.kept B,⟨t,rfl⟩,k _ _ _ _ .refl q .ofInt (h _ ?_ fun a p=>?_)⟩
   ·rw[f,numAt_eq];exact getD_mem (by rw[g_,D_];omega)
   rw[f] at p;obtain⟨j,D,rfl⟩:=mem_getD p;rw[g_,D_] at D;rw[<- numAt_eq];exact C j (by omega)
  |_=>exact h.elim
 |_=>cases h
end
theorem BK {o:Type}(h i m f:o->T) (p:o->Bool) (e:List o) (rest:St3) {tt:TT3}{te:TE3}{still:Hp3->Prop}{n:List T->Hp3->Prop}{v u w:Option T}{H:Hp3}(j:still H) (B:e.length<=sizeLine)
  (A:∀a∈e,∀Q:Bool->Hp3->Prop,Q (p a) H->tt (some (h a)::some (i a)::some (m a)::rest) H Q)
  (C:∀a∈e,p a=true->∀Q:VK3,Q (f a) H->te (some (h a)::some (i a)::some (m a)::rest) H Q) (k:n ((e.filter p).map f) H) :
  cIter3 (vX 3 (iK (dZ 0) (iK (dZ 1) (iK (dZ 2) vW)))) tt te still n (e.map fun a=>.tup [h a,i a,m a]) [] (v::u::w::rest) H:=by
 refine gK (fun r y q H'=>∃(c g:List o) (v u w:Option T),q=v::u::w::rest/\r=c.map (fun a=>.tup [h a,i a,m a])/\y=(g.filter p).map f/\g++c=e/\H'=H) ⟨e,[],v,u,w,rfl,rfl,rfl,rfl,rfl⟩ ?_ ?_
 ·rintro y q H' ⟨c,g,v,u,w,rfl,d,rfl,b,rfl⟩;have l:c=[]:=XQ.mp d.symm;subst l;rw[N_] at b;subst b;exact⟨j,by rw[g_];exact Wc (Ww _ _) B,k⟩
 rintro x r y q H' N ⟨c,g,v,u,w,rfl,d,rfl,b,rfl⟩ z;cases c with
 |nil=>cases d
 |cons t c =>
 injection d with a1 a2;subst a1 a2;refine⟨j,rfl,?_⟩;show tt (some (h t)::some (i t)::some (m t)::rest) H' _;refine A t (by rw[<- b];simp) _ ?_;cases s:p t with
 |true=>rw[if_pos rfl];refine C t (by rw[<- b];simp) s _ ⟨?_,z _ _ _ ⟨c,g++[t],_,_,_,rfl,rfl,by simp [s],by rw[<- b];simp,rfl⟩⟩;have:=U_ List.length b;simp only[a_,i_] at this;rw[g_];have:=Ww p g;omega
 |false =>
 rw[if_neg m_];exact z _ _ _ ⟨c,g++[t],_,_,_,rfl,rfl,by simp [s],by rw[<- b];simp,rfl⟩
open L2 HT
section
variable {prog:Program}{w:World}{A:Around}{E:Value->Shared->Prop}{s:Shared}
variable {X:Cx}
variable {e st:Expr}{p2 pos:Pos}
end
theorem uK {a:Array Value}{n:Nat}(h:ItemsOf (fun i v=>∃t,v=Value.int (0+(i:Int)*1) t) a n):Vals ((List.range n).map fun (i:Nat)=>V.int (i:Int)) a.toList:=by
 obtain⟨g,m⟩:=h;have c:∀(l:List Value) (k:Nat),(∀(j:Nat) (v:Value),l[j]?=some v->∃t,v=Value.int ((k:Int)+(j:Int)) t)->Vals ((List.range' k l.length).map fun (i:Nat)=>V.int (i:Int)) l:=fun l=>by
  induction l with
  |nil=>intro k _;exact .nil
  |cons v r f =>
  intro k d;rw[i_,List.range'_succ,B_];refine .cons ?_ (f (k+1) fun j u b=>?_)
  ·obtain⟨t,e⟩:=d 0 v rfl;exact⟨t,by rw[e];congr 1⟩
  obtain⟨t,e⟩:=d (j+1) u (by rw[Yr];exact b);exact⟨t,by rw[e];congr 1;omega⟩
 have:=c a.toList 0 fun j v b=>by obtain⟨t,e⟩:=m j v (by rw[<- Wq];exact b);exact⟨t,by rw[e];congr 1;omega⟩
 rw[D_,g,<- List.range_eq_range'] at this;exact this
section
variable {X:Cx}{e:Expr}{p1 p2 pos pos':Pos}
def N6 (te:TE):TE:=fun b H Q=>te b H fun x a=>∃n:Nat,x=.int (n:Int)/\n<=1000/\∀l,a l=none->Q (.ref l) (upd a l (.lst ((List.range n).map fun (i:Nat)=>V.int (i:Int))))
theorem BL {te:TE}(G:X.calm=true) (l:Gl X "list") (g:X.mg "list"=none) (k:Gl X "range") (j:X.mg "range"=none) (r:bootBuiltins "list"=some (.type "list")) (y:PE X e te)
  (w:starEach [e] X.env=(false,eval e X.env)::starEach [] X.env:=by rfl) (m:(backTo pos (starEach [] X.env)).any (·.1)=false:=by rfl) (d:(backTo pos' (starEach [] X.env)).any (·.1)=false:=by rfl) :
  PE X (.Call (.Name "list" p1) [.Call (.Name "range" p2) [e] [] pos'] [] pos) (N6 te):=by
 intro c s v H Q I h;refine WR (dM I l g r ?_ (by decide) (by decide));refine Wx ?_ rfl m;show wpAny _ _ (spliced ((false,eval (.Call (.Name "range" p2) [e] [] pos') X.env)::backTo pos (starEach [] X.env))) _ _ s;refine W2 ?_;refine WR (dM I k j boot_range ?_ (by decide) (by decide));refine Wx ?_ w d;rw[w];show wpAny _ _ (spliced ((false,eval e X.env)::backTo pos' (starEach [] X.env))) _ _ s;refine W2 (thn (y c s v H _ I h) fun u s1 ⟨x,F,D,B,n,E,K,q⟩=>?_);subst E;obtain⟨t,rfl⟩:=B;refine Xh ?_;refine call_range_1 ?_;refine Xh ?_;have p:Inv X c v F { s1 with heap:=s1.heap.push { cls:=.type "range",data:=.fields #[.int 0 s1.toks,.int (n:Int) t,.int 1 (s1.toks+1)]},toks:=s1.toks+1+1}:=D.kept fun b o e=>e_ _ e;have hsz:Builtin.Range.rangeSize 0 (n:Int) 1=((n:Nat):Int):=by rw[rangeSize_one];split <;> omega
 refine call_list_range (p.ok.hd G) (IsRange.new ..) (small_one (by omega) (by omega) (by omega) (by omega)) hsz (by omega) fun h' tk a z A C f=>?_;have J:=uK f;refine⟨.ref _,_,p.laid (t':=tk) (o:=.lst ((List.range n).map fun (i:Nat)=>V.int (i:Int))) A (j_ _) ⟨by rw[g_,o_];show n<=16777216;omega,a.toList,z,J,?_⟩,rfl,q _ (p.hok.fresh (j_ _))⟩;rw[show a.toList.toArray=a by simp];exact C
def lrq (x:T) (H:Hp3) (Q:VK3):Prop:=match x with
 |.int i=>(0<=i/\i<=1000)/\∀p,H p=none->Q (.ref p) (up3 H p (.lst ((List.range i.toNat).map fun (k:Nat)=>T.int (k:Int))))
 |_=>False
def wL (te:TE3):TE3:=fun b H Q=>te b H fun x a=>lrq x a Q
theorem GP (te:TE3) {a:St3}{H:Hp3}{Q:VK3}:wL te a H Q=te a H fun x b=>lrq x b Q:=rfl
theorem J0 (i:Int) {H:Hp3}{Q:VK3}:lrq (.int i) H Q=((0<=i/\i<=1000)/\∀p,H p=none->Q (.ref p) (up3 H p (.lst ((List.range i.toNat).map fun (k:Nat)=>T.int (k:Int))))):=rfl
theorem BP {K:Frag}{H:Hp}(l:List Nat):Reps K H (l.map fun (k:Nat)=>T.int (k:Int)) (l.map fun (k:Nat)=>V.int (k:Int)):=by
 induction l with
 |nil=>exact .nil
 |cons k r a=>exact .cons .ofInt a
theorem BR {te:TE3}(w:X.calm=true) (m:Gl X "list") (d:X.mg "list"=none) (g:Gl X "range") (f:X.mg "range"=none) (o:PE3 X e te)
  (x:starEach [e] X.env=(false,eval e X.env)::starEach [] X.env:=by rfl) (n:(backTo pos (starEach [] X.env)).any (·.1)=false:=by rfl) (a:(backTo pos' (starEach [] X.env)).any (·.1)=false:=by rfl) :
  PE3 X (.Call (.Name "list" p1) [.Call (.Name "range" p2) [e] [] pos'] [] pos) (wL te):=by
 refine PE.imp (BL w m d g f jf o x n a) ?_;rintro A H Q ⟨c,H3,z,p,s,h,k⟩;refine⟨c,H3,_,p,s,h,fun v H' t u y b r q=>?_⟩;cases t with
 |int i=>rw[J0] at q;rw[r.int];refine⟨i.toNat,by rw[Yl q.1.1],by omega,fun l j=>k _ _ _ _ (y.trans (aN j)) (b.newLst j (BP _)) .ofRef (q.2 l (b.fresh j))⟩
 |_=>exact q.elim
variable {st:Expr}
def S7 (K:Frag) (te:TE) (ts:TO):TE:=fun c H Q=>te c H fun x d=>ts c d fun o b=>o=some (-1)/\∃a xs,x=.ref a/\SqL K b a xs/\∀p,b p=none->Q (.ref p) (upd b p (.lst xs.reverse))
theorem GQ {te:TE}{ts:TO}(t:PE X e te) (l:PO X (some st) ts):PE X (.Subscript e (.Slice none none (some st) p2) pos) (S7 X.K te ts):=by
 intro c s f H Q I h;refine Subscript_ (thn (t c s f H _ I h) fun v m ⟨x,D,B,n,y⟩=>?_);refine wpAny_Slice ?_;rw[evalPart_none];refine k_ (k_ (thn (l c m f D _ B y) fun vs s3 ⟨o,H3,p,ps,k,a,xs,z,C,q⟩=>?_));subst k z;cases n;have g:Inv X c f H3 { s3 with heap:=s3.heap.push { cls:=.type "slice",data:=.fields #[.none,.none,vs]}}:=p.kept (t':=s3.toks) fun b u q=>e_ _ q;obtain⟨d,r,j,hz⟩:=g.list C;have i:=r.length;show wpAny (model X.prog X.w) X.A (subscriptTail e (.Slice none none (some st) p2) (.ref a) (.ref s3.heap.objs.size)) (EP X c f Q) X.xe { s3 with heap:=s3.heap.push { cls:=.type "slice",data:=.fields #[.none,.none,vs]}};refine tail_any (T:="list") (ops:=[.ref a,.ref s3.heap.objs.size]) j.isList.typeIs slot_list_getitem.lookup ?_ (by with_unfolding_all rfl);refine wpAny_getItem_list_slice j.isList (Heap.IsSliceOf.new ..) .none .none ps (by simp) ?_ (by rw[l_] <;> omega);rw[PySem.W.krv_pick];refine⟨.ref (s3.heap.push { cls:=.type "slice",data:=.fields #[.none,.none,vs]}).objs.size,_,g.laid (t':=s3.toks) (o:=.lst xs.reverse) (fun b u q=>e_ _ q) (j_ _) ?_,rfl,q _ (g.hok.fresh (j_ _))⟩;refine⟨by simpa using hz,d.reverse,0,r.reverse,?_⟩;rw[show d.toArray.toList.reverse.toArray=d.reverse.toArray by simp];exact C_ _ rfl
def rvH (o:Option O3) (H:Hp3) (Q:VK3):Prop:=match o with
 |some (.lst ts)=>∀p,H p=none->Q (.ref p) (up3 H p (.lst ts.reverse))
 |_=>False
def rvq (x:T) (o:Option Int) (H:Hp3) (Q:VK3):Prop:=match x with
 |.ref a=>o=some (-1)/\rvH (H a) H Q
 |_=>False
def BV (te:TE3) (ts:TO3):TE3:=fun a H Q=>te a H fun x c=>ts a c fun o b=>rvq x o b Q
theorem N7 (te:TE3) (ts:TO3) {a:St3}{H:Hp3}{Q:VK3}:BV te ts a H Q=te a H fun x c=>ts a c fun o b=>rvq x o b Q:=rfl
theorem S8 (a:Addr) (o:Option Int) {H:Hp3}{Q:VK3}:rvq (.ref a) o H Q=(o=some (-1)/\rvH (H a) H Q):=rfl
theorem S9 (ts:List T) {H:Hp3}{Q:VK3}:rvH (some (.lst ts)) H Q=∀p,H p=none->Q (.ref p) (up3 H p (.lst ts.reverse)):=rfl
theorem wM {te:TE3}{ts:TO3}(y:PE3 X e te) (t:PO3 X (some st) ts):PE3 X (.Subscript e (.Slice none none (some st) p2) pos) (BV te ts):=by
 refine PE.imp (GQ y t) ?_;rintro B H Q ⟨d,H3,C,n,q,h,k⟩;refine⟨d,H3,_,n,q,h,fun x E v g f j u z=>⟨d,g,_,n.mono f,j,z,fun o D m l c b=>?_⟩⟩;cases v with
 |ref a =>
  obtain⟨s,b⟩:=b;cases e:m a with
  |none=>rw[e] at b;exact b.elim
  |some w =>
  rw[e] at b;cases w with
  |lst ts=>obtain⟨xs,A,r⟩:=c.sqL (.inl e);refine⟨s,a,xs,u.ref,A,fun p i=>k _ _ _ _ (f.trans (l.trans (aN i))) (c.newLst i r.reverse) .ofRef (b p (c.fresh i))⟩
  |rol ts=>exact b.elim
  |dct ts=>exact b.elim
  |dcp ts=>exact b.elim
  |exc _ _=>exact b.elim
  |xdt _=>exact b.elim
  |dci _=>exact b.elim
  |dif _ _=>exact b.elim
  |ins _ _=>exact b.elim
 |_=>exact b.elim
variable {prog:Program}{w:World}{A:Around}{E:Value->Shared->Prop}{s:Shared}{l:Addr}{xs:Array (Int × Tok)}
def isN:T->Bool
 |.non=>true
 |_=>false
def Tc:R3:=fun x y H Q=>match y with
 |.non=>Q (.bl (isN x)) H
 |_=>False
theorem V0 (x:T) (H:Hp3) (Q:VK3):Tc x .non H Q=Q (.bl (isN x)) H:=rfl
theorem GR:isN .non=true:=rfl
theorem GX (i:Int):isN (.int i)=false:=rfl
theorem GZ (x:Str):isN (.str x)=false:=rfl
theorem G4 (ts:List T):isN (.tup ts)=false:=rfl
theorem N8 (b:Bool):isN (.bl b)=false:=rfl
theorem BW:dH X (compareOp .Is) Tc:=by
 refine OpR.imp Lw ?_;rintro x y H Q ⟨c,ty,H3,g,b,f,d,h,k⟩;cases ty with
 |non =>
  refine⟨f.non,?_⟩;have e:decide (x=.non)=isN c:=by
   cases c with
   |non=>rw[b.non];rfl
   |int i=>rw[b.int];rfl
   |str i=>rw[b.str];rfl
   |bl i=>rw[b.bl];rfl
   |ref a=>rw[b.ref];rfl
   |tup ts=>obtain⟨a,vs,rfl,_⟩:=b.tup;rfl
   |ty n=>rw[b.ty];rfl
  rw[e];exact k _ _ _ _ .refl d .ofBl h
 |_=>exact h.elim
end
end L3
namespace L2
section
variable {X:Cx}{a b:Expr}{rest:List Expr}{ta tb:TE}{pos:Pos}
end
end L2
namespace L3
open L2
section
variable {X:Cx}{a b:Expr}{rest:List Expr}{ta tb:TE3}{pos:Pos}
def orq (x:T) (p q:Prop):Prop:=match x with
 |.non=>p
 |.tup (_::_)=>q
 |_=>False
def Td (d c:TE3):TE3:=fun b H Q=>d b H fun x a=>orq x (c b a Q) (Q x a)
def neR (a b:Addr) (o u:Option O3) (H:Hp3) (Q:VK3):Prop:=match o,u with
 |some (.rol xs),some (.lst ys)=>a≠b/\xs.all (pl 20)=true/\ys.all (pl 20)=true/\Q (.bl (!decide (xs=ys))) H
 |_,_=>False
def J1:R3:=fun x y H Q=>match x,y with
 |.ref a,.ref b=>neR a b (H a) (H b) H Q
 |_,_=>False
theorem J2 (a b:Addr) (H:Hp3) (Q:VK3):J1 (.ref a) (.ref b) H Q=neR a b (H a) (H b) H Q:=rfl
theorem BX (a b:Addr) (xs c:List T) (H:Hp3) (Q:VK3):neR a b (some (.rol xs)) (some (.lst c)) H Q=(a≠b/\xs.all (pl 20)=true/\c.all (pl 20)=true/\Q (.bl (!decide (xs=c))) H):=rfl
theorem Oa (D:X.A.units+30<cLine):dH X (compareOp .NotEq) J1:=by
 intro p s O H x y v u Q I B L h;obtain⟨G,J,H3,P,F,K,g,h,k⟩:=h;cases G with
 |ref a =>
  cases J with
  |ref b =>
   rw[J2] at h;cases i:H3 a with
   |none=>rw[i] at h;exact h.elim
   |some o =>
   cases m:H3 b with
   |none=>rw[i,m] at h;cases o <;> exact h.elim
   |some w =>
   rw[i,m] at h;cases o with
   |rol ts =>
    cases w with
    |lst us =>
     rw[BX] at h;obtain⟨xs,E,r⟩:=g.sqL (.inr i);obtain⟨R,M,n⟩:=g b _ m;cases F.ref;cases K.ref;cases B;cases L;obtain⟨l,c,t,_⟩:=I.list (X:=X) E;obtain⟨its',f,d,_⟩:=I.list (X:=X) (.of M);have N:l.length=ts.length:=by rw[<- c.length,<- r.length]
     have C:its'.length=us.length:=by rw[<- f.length,<- n.length]
     by_cases hsz:ts.length=us.length
     ·refine SeqAt.RcNeAt.lists (e:=fun j=>decide (ts[j]?=us[j]?)) t.isList d.isList (by simp;omega) (by omega) (fJ I D h.2.1 h.2.2.1 r n c f) _ _ _ _ ⟨.bl _,H,I,rfl,?_⟩;have e:=fK (ts:=ts) (us:=us);rw[<- hsz,Nat.min_self,Y9,YG] at e;rw[l_,N,e];exact k _ _ _ _ .refl g .ofBl h.2.2.2
     refine SeqAt.RcNeAt.lists_lengths t.isList d.isList (by simp;omega) (by omega) _ _ _ _ ⟨.bl true,H,I,rfl,?_⟩;have e:decide (ts=us)=false:=A_ fun z=>hsz (by rw[z]);have q:=h.2.2.2;rw[e] at q;exact k _ _ _ _ .refl g .ofBl q
    |_=>exact h.elim
   |_=>cases w <;> exact h.elim
  |_=>exact h.elim
 |_=>exact h.elim
end
end L3
namespace L2
section
variable {prog:Program}{w:World}{K:Type} [DecidableEq K] {knd:KeyKind prog w K}
end
end L2
namespace L3
open L2
section
variable {X:Cx}
variable {pins:List (Addr × Obj)}{σ:L2.St}{H:Hp}{s:Shared}{a:Addr}
theorem Inv.freeze {kvs:List (Key × V)}(I:Inv X pins σ H s) (e:H a=some (.dK kvs)):∃o,s.heap.get? a=some o/\Inv X pins σ (upd H a (.frz o (.dK kvs))) s:=by
 have z:=I.hok a _ e;obtain⟨i,m,vs,g,o,j,ep,f,k,r⟩:=id (show ObjOk X.prog X.w H s.heap a (.dK kvs) from z);have d:∀b u,H b=some u->(∀l,u≠.dK l)->b≠a:=fun b u q n w=>by subst w;rw[e] at q;cases q;exact n _ rfl
 refine⟨o,f,?_⟩;have:=I.step (h':=s.heap) (g':=s.gens) (d':=s.drawn) (t':=s.toks) (H':=upd H a (.frz o (.dK kvs))) (ch:=[]) (fun _ z=>nomatch z) (fun b o _ _ _ q _=>q) (fun b o _ _ _ q _=>⟨_,q⟩)
  (fun b o _ _ n=>by rw[aQ (fun w=>by subst w;rw[e] at n;cases n)];exact n) (fun b o _ q=>⟨_,q⟩)
  (fun b xs q=>by rw[aQ (d b _ q fun _=>nofun)];exact q) (fun b o u q=>by rw[aQ (d b _ q fun _=>nofun)];exact q)
  (fun b ps q=>⟨#[],by rw[aQ (d b _ q fun _=>nofun),Array.append_empty];exact q⟩) (fun _ q=>q) (fun b u q=>?_) I.bare
 ·exact this
 by_cases h:b=a
 ·subst h;rw[bU] at q;cases q;exact⟨f,i,m,vs,g,o,j,ep,f,k,r⟩
 rw[aQ h] at q;exact (I.hok b u q).stay (fun _ _ _ r=>r) (fun c r=>by rw[aQ (d c _ r fun _=>nofun)];exact r) fun c xs r=>by rw[aQ (d c _ r fun _=>nofun)];exact r
end
theorem Te {P:Program}{w:World}{k:Key}{u:Value}(h:(bK P w).is k u=true):RelV (kV k) u:=by
 rcases bO h with ⟨i,t,b,a⟩ | ⟨y,t,b,a⟩
 ·subst b a;exact⟨t,rfl⟩
 subst b a;exact⟨t,rfl⟩
theorem iU {d f:Type}{F:d->f->Prop}:∀{a:List d}{c:List f}{i:Nat}{x:d},Paired F a c->a[i]?=some x->∃y,c[i]?=some y/\F x y
 |_,_,i,x,.nil,e=>by simp at e
 |_,_,0,x,.cons (b:=b) h t,e=>by simp at e;subst e;exact⟨b,rfl,h⟩
 |_,_,i+1,x,.cons h t,e=>by simpa using iU t (by simpa using e)
def Iti (d:Addr) (o:Obj):It :=
 ⟨fun i H=>∃kvs a,H d=some (.frz o (.dK kvs))/\kvs[i]?=some a,
  fun i H v H'=>∃p k x,v=.ref p/\H p=none/\H'=upd H p (.tup [kV k,x])/\∀kvs,H d=some (.frz o (.dK kvs))->kvs[i]?=some (k,x),
  fun i H=>∃kvs,H d=some (.frz o (.dK kvs))/\kvs.length<=i⟩
theorem yN:entryFor table "dict_itemiterator.__iter__"=some Builtin.«dict_keyiterator.__iter__» :=
 entryFor_alias (id':="dict_keyiterator.__iter__") (by kernel_rfl) rfl (by decide +kernel) (by kernel_rfl)
theorem BZ {X:Cx}{b:List (Addr × Obj)}{l:L2.St}{H:Hp}{s:Shared}{d:Addr}{o:Obj}{kvs:List (Key × V)}{f:Array DictEntry}{ep:Nat}(I:Inv X b l H s) (e:H d=some (.frz o (.dK kvs))) (j:o.data=.dict f ep) :
  ∃vs,KV kvs vs/\s.heap.DictAt (bK X.prog X.w) d vs ep/\vs.length=f.size:=by
 obtain⟨h,_,_,vs,g,q,es',m,c,n,a,k,i,p⟩:=(show ObjOk X.prog X.w H s.heap d (.frz o (.dK kvs)) from I.hok d _ e);rw[h] at c;cases c;rw[j] at a;cases a;exact⟨vs,g,⟨o,f,h,n,j,k,i,p⟩,by rw[<- i.length];simp⟩
theorem uL {P:Program}{w:World}{K:Frag}{p:List Expr}{x1:Nat}{R:Pos}(d it:Addr) (o:Obj) (Z:Array DictEntry) (ep:Nat) (hd:o.data=.dict Z ep) :
  Turn P w K (.Tuple p x1 R) (Iti d o) [it] it (fun i h=>∃l n,IsItemIter h it d i Z.size ep l n) where
 mem:=q_
 obj:=fun i h st c f=>by
  obtain⟨l,n,g⟩:=st
  rw[h_.mp f]
  exact⟨_,g,fun v z=>by cases z⟩
 keep:=fun i h h' st k=>by
  obtain⟨l,n,g⟩:=st
  exact⟨l,n,k it (by simp) _ g⟩
 item:=by
  intro X S T O f i j s N H E I y st U
  subst S T O
  obtain⟨kvs,⟨k,x⟩,L,Y⟩:=U
  obtain⟨l,n,g⟩:=st
  obtain⟨vs,m,V,a⟩:=BZ I L hd
  obtain⟨⟨k',u⟩,hu,ek,ru⟩:∃q,vs[i]?=some q/\k=q.1/\RelV x q.2:=iU m Y
  subst ek
  rw[<- a] at g
  refine wpAny_pyNext_items_item g V hu fun e h' hk ho t hsz kp=>?_
  refine⟨_,rfl,wpAny_letOwnedTupleGo_items ho fun C J sb=>?_⟩
  have lt:∀{c o},s.heap.get? c=some o->s.heap.objs.size≠c:=fun q=>Nat.ne_of_gt (E_ q)
  have r:s.heap.objs.size≠it:=lt g
  have B:∀{c:Addr},c∈[it]->c≠s.heap.objs.size:=fun {c} f=>by rw[h_.mp f];exact Ne.symm r
  have W:∀c o,c∉[it]->s.heap.get? c=some o->C.get? c=some o:=fun c o M q=>(sb.2 c fun z=>M (z▸q_)).trans (kp c o (fun z=>M (z▸q_)) q)
  have I1:Inv X j N (upd H s.heap.objs.size (.tup [kV k,x])) { s with heap:=s.heap.push { cls:=.type "tuple",data:=.seq #[e,u]},toks:=s.toks} :=
   I.laid (t':=s.toks) (fun b o q=>e_ _ q) (j_ _) (show ObjOk X.prog X.w _ _ _ (.tup [kV k,x]) from ⟨by show 2<=sizeLine;decide,[e,u],.cons (Te hk) (.cons ru .nil),Tup0.new _ _⟩)
  have I2:Inv X j N (upd H s.heap.objs.size (.tup [kV k,x])) { s with heap:=C}:=wI (s:={ s with heap:=s.heap.push { cls:=.type "tuple",data:=.seq #[e,u]}}) (ch:=[it]) (t':=s.toks) I1 (fun c o M q=>by
   by_cases z:c=s.heap.objs.size
   ·
    subst z
    have D:(s.heap.push { cls:=.type "tuple",data:=.seq #[e,u]}).get? s.heap.objs.size=some o:=q
    rw[C_ _ rfl] at D
    cases D
    exact (sb.2 _ r).trans t
   ·
    have D:(s.heap.push { cls:=.type "tuple",data:=.seq #[e,u]}).get? c=some o:=q
    rw[Heap.get?_push_ne _ _ _ z] at D
    exact W c o M D) fun c f=>⟨by rw[aQ (B f)];exact (y c f).1,(y c f).2⟩
  refine⟨.ref s.heap.objs.size,_,I2,rfl,⟨s.heap.objs.size,k,x,rfl,I.hok.fresh (j_ _),rfl,fun zs G=>by rw[L] at G;cases G;exact Y⟩,⟨e,u,?_⟩,fun c f=>by rw[aQ (B f)];exact (y c f).1⟩
  rw[<- a]
  exact J
 done:=by
  intro X S T O f i j s N H E I y st U
  subst S T O
  obtain⟨kvs,L,Y⟩:=U
  obtain⟨l,n,g⟩:=st
  obtain⟨vs,m,V,a⟩:=BZ I L hd
  have hl:=m.length
  rw[<- a] at g
  exact wpAny_pyNext_items_end (I.ok.hd f) g V (Wf (by omega)) fun h' eb=>⟨rfl,wI (ch:=[it]) (t':=s.toks) I (fun b o nb q=>eb b o (fun z=>nb (by simp [z])) q) y⟩
 self:=fun A i s Q E st h=>by
  obtain⟨l,n,g⟩:=st
  have t:s.TypeIs (.ref it) "dict_itemiterator":=⟨_,g,rfl⟩
  refine wpAny_pyIter_slot t PySem.F.slot_dict_itemiterator_iter (XX PySem.F.slot_dict_itemiterator_iter t yN ?_ (PySem.F.args_dict_itemiterator_iter_1 _))
  show wpAny _ _ (ret (.ref it)) _ _ s
  exact k_ ⟨_,rfl,"dict_itemiterator",_,t,PySem.F.slot_dict_itemiterator_next.lookup,h⟩
section
variable {X:Cx}{elts:List Expr}{x1:Nat}{tpos pos apos cpos:Pos}{e:Expr}
def Ob (te:TE):TI:=fun c H R=>te c H fun x b=>∃a kvs,x=.ref a/\b a=some (.dK kvs)/\∀o,R (Iti a o) (upd b a (.frz o (.dK kvs)))
theorem Ca {te:TE}(K:PE X e te) (i:attributeBase e "items" X.env (eval e X.env)=eval e X.env:=by rfl) (g:(apos.endLine==cpos.line)=true:=by rfl) :
  PI X (.Tuple elts x1 tpos) (.Call (.Attribute e "items" apos) [] [] cpos) (Ob te):=by
 intro f s t H R I h;refine wpAny_Call_method0_late i g (thn (K f s t H _ I h) fun v s1 ⟨x,N,p,J,a,kvs,G,r,q⟩=>?_);subst G;cases J;obtain⟨z,l,vs,C,u⟩:=vO p.hok r;obtain⟨o,B,P⟩:=Inv.freeze p r;obtain⟨A,E,_⟩:=zX p (a:=a) (.inl ⟨kvs,.inl r⟩);refine⟨"dict","dict.items",PySem.F.plainAttrs_dict,PySem.F.slot_dict_items,PySem.F.type_dict_items,A,E,Yx rfl (PySem.evalArgs_none (call_meetsIn PySem.F.slot_dict_items A PySem.F.entry_dict_items (PySem.F.args_dict_items_1 _) (meets_dict_items (bK X.prog X.w) a l) ⟨⟨vs,u⟩,?_⟩))⟩;obtain⟨Q,m,ep,k,L,j,D,y,M⟩:=id u;rw[B] at k;cases k;have hsz:m.size=vs.length:=by rw[<- y.length];simp
 have n:Inv X f t (upd N a (.frz o (.dK kvs))) { s1 with heap:=s1.heap.push { cls:=.type "dict_items",data:=.fields #[.ref a]}}:=P.kept (t':=s1.toks) fun b o q=>e_ _ q;refine wpAny_pyIter_items (knd:=bK X.prog X.w) (d:=a) (kvs:=vs) (ep:=ep) ⟨_,C_ _ rfl,rfl,rfl⟩ ⟨o,m,e_ _ B,L,j,D,y,M⟩ ?_;refine⟨_,[_],_,Iti a o,_,rfl,n.kept (t':=s1.toks) fun b o q=>e_ _ q,uL a _ o m ep j,⟨.none,.none,?_⟩,fun c O=>?_,q o⟩
 ·rw[hsz];exact C_ _ rfl
 rw[h_.mp O];exact n.fpOk (j_ _) (n.hok.fresh (j_ _))
variable {o f:Expr}{td ty tx:TE}
def Tf (g d f:TE):TE:=fun b H Q=>g b H fun x c=>∃a,x=.ref a/\IsD c a/\d b c fun y e=>f b e fun z H3=>∃kvs k,H3 a=some (.dK kvs)/\y=kV k/\kvs.length<sizeLine /\
 (∀v,eN kvs k=some v->Q v H3)/\(eN kvs k=none->Q z (upd H3 a (.dK (putK kvs k z))))
theorem G5 (ho:PE X o td) (r:PE X e ty) (O:PE X f tx) (m:M2 X o "setdefault" apos e f cpos):PE X (.Call (.Attribute o "setdefault" apos) [e,f] [] cpos) (Tf td ty tx):=by
 intro c s n H Q I h;refine wpAny_Call_method m.base m.few m.line PySem.F.plainAttrs_dict PySem.F.slot_dict_setdefault PySem.F.type_dict_setdefault (thn (ho c s n H _ I h) fun u K ⟨x,H1,C,L,a,U,d,T⟩=>?_);subst U;obtain rfl:u=Value.ref a:=L;obtain⟨P,M,_⟩:=zX C d;refine⟨P,M,?_⟩;rw[m.trees];refine Yx rfl (Calls.evalArgs_plain (W2 (thn (r c K n H1 _ C T) fun iv N ⟨y,V,I2,W,R⟩ =>
  W2 (thn (O c N n V _ I2 R) fun Y s3 ⟨z,H3,p,D,kvs,k,A,J,l,q3,q4⟩=>Xh ?_))))
 subst J;obtain⟨S,B,vs,g,t⟩:=vO p.hok A;have i:=g.val k;refine call_meetsIn PySem.F.slot_dict_setdefault t.typeIs PySem.F.entry_dict_setdefault (PySem.F.args_dict_setdefault_3 _ _ _) (kt_meets_setdefault (bK X.prog X.w) a (kJ W) B Y) ⟨vs,t,by rw[<- g.length];exact S,fun v E=>?_,fun Z h' j G=>?_⟩
 ·cases b:eN kvs k with
  |none=>rw[b,E] at i;exact (show False from i).elim
  |some w =>
  rw[b,E] at i;exact⟨w,H3,p.tok _,i,q3 w b⟩
 have b:eN kvs k=none:=by
  cases b:eN kvs k with
  |none=>rfl
  |some w=>rw[b,Z] at i;exact (show False from i).elim
 have r:∃q,h'.get? a=some q:=let ⟨q,_,_,hq,_⟩:=j;⟨q,hq⟩;have hl:(putK kvs k z).length<=sizeLine:=by have:=eQ kvs k z;omega
 exact⟨z,_,j5 p (by rw[A];exact True.intro) G r (uh hl B (g.put k D) j),D,q4 b⟩
end
def cU (k:Int):List (Int × T)->Option T
 |[]=>none
 | (k',v)::r=>if k'=k then some v else cU k r
def uM (k:Int) (v:T) (kvs:List (Int × T)):List (Int × T) :=
 if (kvs.any fun a=>decide (a.1=k))=true then kvs.map (fun a=>if a.1=k then (a.1,v) else a) else kvs++[(k,v)]
theorem ig {K:Frag}{H:Hp}{k:Int}:∀{kvs:List (Int × T)}{vs:List (Key × V)}{t:T},RepI K H kvs vs->cU k kvs=some t->∃v,eN vs (Sum.inl k:Key)=some v/\Rep K H t v
 |[],_,_,_,e=>by cases e
 | (k',t')::r,_,t,.cons (b:=(kk,v')) ⟨e1,rv⟩ rr,e=>by
  simp only at e1 rv
  subst e1
  unfold cU at e
  by_cases a:k'=k
  ·
   rw[if_pos a] at e
   cases e
   exact⟨v',by rw[fC (by rw[a])],rv⟩
  ·
   rw[if_neg a] at e
   obtain⟨v,c,q⟩:=ig rr e
   exact⟨v,by rw[fG (by intro z;exact a (Sum.inl.inj z))];exact c,q⟩
theorem gC {K:Frag}{H:Hp}{k:Int}:∀{kvs:List (Int × T)}{vs:List (Key × V)},RepI K H kvs vs->(eN vs (Sum.inl k:Key)).isSome=(cU k kvs).isSome
 |[],_,.nil=>rfl
 | (k',t')::r,_,.cons (b:=(kk,v')) ⟨e1,rv⟩ rr=>by
  simp only at e1 rv
  subst e1
  unfold cU
  by_cases a:k'=k
  ·
   rw[if_pos a,fC (by rw[a])];rfl
  ·
   rw[if_neg a,fG (by intro z;exact a (Sum.inl.inj z))]
   exact gC rr
theorem Cd {K:Frag}{H:Hp}{k:Int}{t:T}{v:V}(h:Rep K H t v) {kvs:List (Int × T)}{vs:List (Key × V)}(r:RepI K H kvs vs):RepI K H (uM k t kvs) (putK vs (Sum.inl k:Key) v):=by
 have e:∀{kvs:List (Int × T)} {vs:List (Key × V)},RepI K H kvs vs->(kvs.any fun a=>decide (a.1=k))=(vs.any fun a=>decide (a.1=(Sum.inl k:Key)))/\RepI K H (kvs.map (fun a=>if a.1=k then (a.1,t) else a)) (vs.map (fun a=>if a.1=(Sum.inl k:Key) then (a.1,v) else a)):=by
  intro kvs;induction kvs with
  |nil=>intro vs r;cases r;exact⟨rfl,.nil⟩
  |cons p l m =>
  intro vs r;cases r with
  |cons q n =>
  rename_i b u;obtain⟨g,f⟩:=m n;obtain⟨j,i⟩:=q;obtain⟨s,o⟩:=b;simp only at j i;subst j;by_cases d:p.1=k
  ·refine⟨by simp [d],?_⟩;simp only[B_,d,if_true];exact .cons ⟨rfl,h⟩ f
  have c:¬(Sum.inl p.1:Key)=Sum.inl k:=fun z=>d (Sum.inl.inj z);refine⟨by simp only[Zc,d,c,Xx,Bool.false_or];exact g,?_⟩;simp only[B_,d,c,Wl];exact .cons ⟨rfl,i⟩ f
 obtain⟨g,f⟩:=e r;unfold uM putK;rw[g];split
 ·exact f
 exact Paired.snoc r ⟨rfl,h⟩
section
variable {K:Frag}{H:Hp}{H3:Hp3}{a p:Addr}
theorem SimH.wrI {g c:List (Key × V)}{kvs:List (Int × T)}(s:SimH K H3 H) (h:H a=some (.dK g)) (r:RepI K H kvs c):SimH K (up3 H3 a (.dci kvs)) (upd H a (.dK c)):=fun b o e=>by
 have f:TupLe K H (upd H a (.dK c)):=bH (by rw[h];exact trivial);by_cases d:b=a
 ·subst d;rw[aB] at e;cases e;exact⟨c,bU,r.mono f⟩
 rw[aD d] at e;exact (s b o e).stay f fun u q=>by rw[aQ d];exact q
theorem SimH.newI (s:SimH K H3 H) (c:H p=none):SimH K (up3 H3 p (.dci [])) (upd H p (.dK [])):=fun a o e=>by
 by_cases b:a=p
 ·subst b;rw[aB] at e;cases e;exact⟨[],bU,.nil⟩
 rw[aD b] at e;exact s.new c a o e
theorem SimH.frzI {c:List (Key × V)}{kvs:List (Int × T)}{o:Obj}(s:SimH K H3 H) (g:H a=some (.dK c)) (r:RepI K H kvs c):SimH K (up3 H3 a (.dif o kvs)) (upd H a (.frz o (.dK c))):=fun b u e=>by
 have f:TupLe K H (upd H a (.frz o (.dK c))):=bH (by rw[g];exact trivial);by_cases d:b=a
 ·subst d;rw[aB] at e;cases e;exact⟨c,bU,r.mono f⟩
 rw[aD d] at e;exact (s b u e).stay f fun u q=>by rw[aQ d];exact q
end
section
variable {X:Cx}{o i e f value k v:Expr}{td ty tv tx ti tk:TE3}{pos pos' apos cpos tpos:Pos}{elts:List Expr}{x1:Nat}{σ:St3}{H:Hp3}{Q:VK3}
def wN:TE3:=fun _ H Q=>∀p,H p=none->Q (.ref p) (up3 H p (.dci []))
theorem Ce:PE3 X (.Dict [] [] pos) wN:=by
 refine PE.imp zW ?_;rintro f H Q ⟨c,H3,d,e,b,h,k⟩ p a;exact k _ _ _ _ (aN a) (b.newI a) .ofRef (h p (b.fresh a))
def d1i (y:T) (p:Addr) (v:T) (H:Hp3) (Q:VK3):Prop:=match y with
 |.int k=>H p=some (.dci [])/\Q (.ref p) (up3 H p (.dci [(k,v)]))
 |_=>False
def pO (tk b:TE3):TE3:=fun a H Q=>∀p,H p=none->tk a (up3 H p (.dci [])) fun y d=>b a d fun v c=>d1i y p v c Q
theorem Tg (x:Int) (p:Addr) (v:T):d1i (.int x) p v H Q=(H p=some (.dci [])/\Q (.ref p) (up3 H p (.dci [(x,v)]))):=rfl
theorem yO (u:PE3 X k tk) (D:PE3 X v tv):PE3 X (.Dict [some k] [v] pos) (pO tk tv):=by
 refine PE.imp (vQ (qK u D vP) rfl rfl (by simp) (by show 1<=15;decide)) ?_;rintro E H Q ⟨f,H3,t,o,q,h,k⟩ p l;have b:TupLe X.K H (upd H p (.dK [])):=aN l;refine⟨f,up3 H3 p (.dci []),_,o.mono b,q.newI l,h p (q.fresh l),fun y G x j i n B w=>?_⟩;refine⟨f,j,_,o.mono (b.trans i),n,w,fun z F A g c d C s=>?_⟩;cases x with
 |int a =>
  have h':g p=some (.dci [])/\t (.ref p) (up3 g p (.dci [(a,A)])):=s
  obtain⟨ws,m,r⟩:=d p _ h'.1
  cases r
  refine⟨m,[(Sum.inl a,z)],by rw[(B.mono c).int];rfl,by show 1<=15;decide,?_⟩
  have e:iH [] [((Sum.inl a:Key),z)]=[((Sum.inl a:Key),z)]:=rfl
  rw[e]
  exact k _ _ _ _ (b.trans (i.trans (c.trans (bH (by rw[m];exact trivial))))) (d.wrI m (.cons ⟨rfl,C⟩ .nil)) .ofRef h'.2
 |_=>exact s.elim
def dgI (o:Option O3) (k:Int) (H:Hp3) (Q:VK3):Prop:=match o with
 |some (.dci kvs)=>oq (cU k kvs) fun t=>Q t H
 |some (.dif _ kvs)=>oq (cU k kvs) fun t=>Q t H
 |_=>False
def Th:R3:=fun x y H Q=>match x,y with
 |.ref a,.int k=>dgI (H a) k H Q
 |_,_=>False
theorem V1 (a:Addr) (k:Int):Th (.ref a) (.int k) H Q=dgI (H a) k H Q:=rfl
theorem J3 (kvs:List (Int × T)) (k:Int):dgI (some (.dci kvs)) k H Q=oq (cU k kvs) fun t=>Q t H:=rfl
theorem Cg (o:Obj) (kvs:List (Int × T)) (k:Int):dgI (some (.dif o kvs)) k H Q=oq (cU k kvs) fun t=>Q t H:=rfl
theorem Ci {B:TE3}(E:X.A.units+1<cLine) (N:PE3 X o B) (M:PE3 X i ti) (F:Mj i:=by exact fun _ _=>rfl):PE3 X (.Subscript o i pos) (uo Th B ti):=by
 refine PE.imp (FN E N M F) ?_;rintro O H Q ⟨l,H3,G,w,D,h,k⟩;refine⟨l,H3,_,w,D,h,fun x S I n g s z K=>⟨l,n,_,w.mono g,s,K,fun y R L f j c C q=>?_⟩⟩;cases I with
 |ref a =>
  cases L with
  |int b =>
   have h':dgI (f a) b f G:=q
   cases e:f a with
   |none=>rw[e] at h';exact h'.elim
   |some J =>
    rw[e] at h'
    cases J with
    |dci kvs =>
     rw[J3] at h'
     obtain⟨vs,p,r⟩:=c a _ e
     cases d:cU b kvs with
     |none=>rw[d] at h';exact h'.elim
     |some t =>
      rw[d] at h'
      obtain⟨v,u,m⟩:=ig r d
      refine⟨a,v,z.ref,?_,k.at (g.trans j) _ _ _ _ .refl c m h'⟩
      rw[C.int,<- u]
      exact DGet.k (k:=Sum.inl b) p
    |dif P kvs =>
     rw[Cg] at h'
     obtain⟨vs,p,r⟩:=c a _ e
     cases d:cU b kvs with
     |none=>rw[d] at h';exact h'.elim
     |some t =>
      rw[d] at h'
      obtain⟨v,u,m⟩:=ig r d
      refine⟨a,v,z.ref,?_,k.at (g.trans j) _ _ _ _ .refl c m h'⟩
      rw[C.int,<- u]
      exact .inl ⟨vs,Sum.inl b,.inr ⟨_,p⟩,rfl,rfl⟩
    |_=>exact h'.elim
  |_=>exact q.elim
 |_=>exact q.elim
def dpI (x y v:T) (H:Hp3) (Q:Hp3->Prop):Prop:=match x,y with
 |.ref a,.int k=>match H a with
  |some (.dci kvs)=>kvs.length<sizeLine/\Q (up3 H a (.dci (uM k v kvs)))
  |_=>False
 |_,_=>False
def G6 (f b d:TE3):TS3:=fun D a H=>d a H fun v c=>f a c fun x e=>b a e fun y H3=>dpI x y v H3 fun g=>D.nx a g
def diI (a:Bool) (y:T) (o:Option O3) (H:Hp3) (Q:VK3):Prop:=match y,o with
 |.int k,some (.dci kvs)=>Q (.bl (if a then !(cU k kvs).isSome else (cU k kvs).isSome)) H
 |_,_=>False
def Oc (b:Bool) (y x:T) (H:Hp3) (Q:VK3):Prop:=match x with
 |.ref a=>diI b y (H a) H Q
 |_=>False
def Cj (a:Bool) (f c:TE3):TE3:=fun b H Q=>f b H fun y d=>c b d fun x e=>Oc a y x e Q
theorem Od (b:Bool) (y:T) (a:Addr):Oc b y (.ref a) H Q=diI b y (H a) H Q:=rfl
theorem Ti (a:Bool) (k:Int) (kvs:List (Int × T)):diI a (.int k) (some (.dci kvs)) H Q=Q (.bl (if a then !(cU k kvs).isSome else (cU k kvs).isSome)) H:=rfl
theorem Ck {c:Bool}{H:Hp}{H3:Hp3}{x y:V}{g d:T}{f:VK3}(j:SimH X.K H3 H) (i:Rep X.K H g x) (l:Rep X.K H d y) (q:Oc c d g H3 f) :
  ∃a h b,x=.ref a/\DGet H a y h/\(if c then !h.isSome else h.isSome)=b/\f (.bl b) H3:=by
 cases g with
 |ref a =>
  have h':diI c d (H3 a) H3 f:=q
  cases d with
  |int k =>
   cases e:H3 a with
   |none=>rw[e] at h';exact h'.elim
   |some n =>
    rw[e] at h'
    cases n with
    |dci kvs =>
     obtain⟨ws,m,r⟩:=j a _ e
     refine⟨a,eN ws (Sum.inl k:Key),_,i.ref,by rw[l.int];exact DGet.k (k:=Sum.inl k) m,rfl,?_⟩
     rw[gC r]
     exact h'
    |_=>exact h'.elim
  |_=>exact h'.elim
 |_=>exact q.elim
theorem uN (s:X.A.units+1<cLine) (D:PE3 X i ti) (E:PE3 X o td) (w:behindInMarks .NotIn o=false:=by rfl):PT3 X (.Compare i [.NotIn] [o] pos) (jB (Cj true ti td)):=by
 refine PT.imp (tR (nQ s D E) w) ?_;rintro F H Q ⟨f,H3,G,n,r,h,k⟩;refine⟨f,H3,_,n,r,h,fun y L J l j m z v=>⟨f,l,_,n.mono j,m,v,fun x K I C c d t u=>?_⟩⟩;obtain⟨a,p,b,e,g,B,q⟩:=Ck d t (z.mono c) u;exact⟨a,p,e,g,by rw[show (!p.isSome)=b from B];exact⟨b,rfl,k _ _ _ (j.trans c) d q⟩⟩
def sdO (o:Option O3) (a:Addr) (k:Int) (v:T) (H:Hp3) (Q:VK3):Prop:=match o with
 |some (.dci kvs)=>kvs.length<sizeLine/\match cU k kvs with
  |some t=>Q t H
  |none=>Q v (up3 H a (.dci (uM k v kvs)))
 |_=>False
def sdq (x y v:T) (H:Hp3) (Q:VK3):Prop:=match x,y with
 |.ref a,.int k=>sdO (H a) a k v H Q
 |_,_=>False
def Oe (o:Option O3):Prop:=match o with
 |some (.dci _)=>True
 |_=>False
def Tj (x:T) (H:Hp3):Prop:=match x with
 |.ref a=>Oe (H a)
 |_=>False
def Cm (f c d:TE3):TE3:=fun a H Q=>f a H fun x b=>Tj x b/\c a b fun y e=>d a e fun v H3=>sdq x y v H3 Q
theorem uO (a:Addr):Tj (.ref a) H=Oe (H a):=rfl
theorem Og (kvs:List (Int × T)):Oe (some (.dci kvs))=True:=rfl
theorem J4 (a:Addr) (k:Int) (v:T):sdq (.ref a) (.int k) v H Q=sdO (H a) a k v H Q:=rfl
theorem J5 (kvs:List (Int × T)) (a:Addr) (k:Int) (v:T):sdO (some (.dci kvs)) a k v H Q=(kvs.length<sizeLine/\match cU k kvs with
  |some t=>Q t H
  |none=>Q v (up3 H a (.dci (uM k v kvs)))):=rfl
theorem G7 (ho:PE3 X o td) (he:PE3 X e G) (Y:PE3 X f tv) (m:M2 X o "setdefault" apos e f cpos:=by exact⟨rfl,rfl,rfl,rfl⟩):PE3 X (.Call (.Attribute o "setdefault" apos) [e,f] [] cpos) (Cm td G tv):=by
 refine PE.imp (G5 ho he Y m) ?_;rintro σ H Q ⟨g,H3,Q3,A,V,h,k⟩;refine⟨g,H3,_,A,V,h,fun x H1 Z n i p W F=>?_⟩;obtain⟨l,F⟩:=F;cases Z with
 |ref a =>
  cases B:n a with
  |none=>rw[uO,B] at l;exact l.elim
  |some E =>
  rw[uO,B] at l;cases E with
  |dci N =>
   obtain⟨C,M,_⟩:=p a _ B;refine⟨a,W.ref,.inl ⟨C,.inl M⟩,g,n,_,A.mono i,p,F,fun y H2 G L q J ry q2=>⟨g,L,_,A.mono (i.trans q),J,q2,fun z S tz I u d P c=>?_⟩⟩;cases G with
   |int b =>
    rw[J4] at c;cases e:I a with
    |none=>rw[e] at c;exact c.elim
    |some E =>
    rw[e] at c;cases E with
    |dci kvs =>
     rw[J5] at c;obtain⟨vs,D,r⟩:=d a _ e;have O:=i.trans (q.trans u);refine⟨vs,Sum.inl b,D,(ry.mono u).int,by rw[<- YF r];exact c.1,fun v T=>?_,fun hn=>?_⟩
     ·have w:=gC (k:=b) r;cases j:cU b kvs with
      |none=>rw[j,T] at w;cases w
      |some t =>
      rw[j] at c;obtain⟨v',R,U⟩:=ig r j;rw[T] at R;cases R;exact k _ _ _ _ O d U c.2
     have w:=gC (k:=b) r;cases j:cU b kvs with
     |some t=>rw[j,hn] at w;cases w
     |none =>
     rw[j] at c;have s:TupLe X.K S (upd S a (.dK (putK vs (Sum.inl b:Key) z))):=bH (by rw[D];exact trivial);exact k _ _ _ _ (O.trans s) (d.wrI D (Cd P r)) (P.mono s) c.2
    |_=>exact c.elim
   |_=>exact c.elim
  |_=>exact l.elim
 |_=>exact l.elim
def itT (a:Int × T):T:=.tup [.int a.1,a.2]
def uP (a:Addr) (o:Obj) (kvs:List (Int × T)):Hp3->Prop:=fun H=>H a=some (.dif o kvs)
def itO (u:Option O3) (a:Addr) (H:Hp3) (R:List T->(Hp3->Prop)->Hp3->Prop):Prop:=match u with
 |some (.dci kvs)=>∀o,R (kvs.map itT) (uP a o kvs) (up3 H a (.dif o kvs))
 |_=>False
def itq (x:T) (H:Hp3) (R:List T->(Hp3->Prop)->Hp3->Prop):Prop:=match x with
 |.ref a=>itO (H a) a H R
 |_=>False
def wO (te:TE3):TI3:=fun b H R=>te b H fun x a=>itq x a R
theorem Cp (te:TE3) {R:List T->(Hp3->Prop)->Hp3->Prop}:wO te σ H R=te σ H fun x a=>itq x a R:=rfl
theorem J6 (a:Addr) {R:List T->(Hp3->Prop)->Hp3->Prop}:itq (.ref a) H R=itO (H a) a H R:=rfl
theorem J7 (kvs:List (Int × T)) (a:Addr) {R:List T->(Hp3->Prop)->Hp3->Prop}:itO (some (.dci kvs)) a H R=∀o,R (kvs.map itT) (uP a o kvs) (up3 H a (.dif o kvs)):=rfl
theorem uQ {K:Frag}{H:Hp}{a:Addr}{o:Obj}{kvs:List (Int × T)}:lq K (Iti a o) (kvs.map itT) (uP a o kvs) H:=fun H' b A g st=>by
 obtain⟨vs,d,r⟩:=g a _ st;have w:=YF r;refine⟨fun i k=>⟨vs,d,by rw[g_] at k;omega⟩,fun i t e=>?_⟩;rw[J_] at e;cases q:kvs[i]? with
 |none=>rw[q] at e;cases e
 |some n =>
 rw[q] at e;cases e;obtain⟨⟨s,v⟩,j,h,f⟩:=iU r q;simp only at h f;subst h;refine⟨⟨vs,_,d,j⟩,fun z l y=>?_⟩;obtain⟨p,u,x,rfl,c,rfl,m⟩:=y;have:=(m vs d).symm.trans j;cases this;exact⟨aN c,g.new c,SimH.newTup (H3:=b) c (.cons .ofInt (.cons f .nil))⟩
theorem Cq {te:TE3}(s:PE3 X e te) (b:attributeBase e "items" X.env (eval e X.env)=eval e X.env:=by rfl) (c:(apos.endLine==cpos.line)=true:=by rfl) :
  PI3 X (.Tuple elts x1 tpos) (.Call (.Attribute e "items" apos) [] [] cpos) (wO te):=by
 refine PI.imp (Ca s b c) ?_;rintro w H R ⟨f,H3,R3,l,m,h,k⟩;refine⟨f,H3,_,l,m,h,fun v H' t g u d r q=>?_⟩;cases t with
 |ref a =>
  rw[J6] at q;cases i:g a with
  |none=>rw[i] at q;exact q.elim
  |some p =>
  rw[i] at q;cases p with
  |dci kvs=>rw[J7] at q;obtain⟨vs,j,n⟩:=d a _ i;exact⟨a,vs,r.ref,j,fun o=>k _ _ _ _ _ (u.trans (bH (by rw[j];exact trivial))) (d.frzI j n) uQ (q o)⟩
  |_=>exact q.elim
 |_=>exact q.elim
end
theorem oh {K:Frag}{H:Hp}{f:Str}:∀{c:List (Str × T)}{vs:List (Str × V)}{t:T},RepF K H c vs->aP f c=some t->∃v,vs.lookup f=some v/\Rep K H t v
 |[],_,_,_,e=>by cases e
 | (g,t')::r,_,t,.cons (b:=(g',v')) ⟨e1,rv⟩ rr,e=>by
  simp only at e1 rv
  subst e1
  unfold aP at e
  by_cases a:g'=f
  ·
   rw[if_pos a] at e
   cases e
   exact⟨v',by rw[Xd,show (f==g')=true from Yj.mpr a.symm],rv⟩
  ·
   rw[if_neg a] at e
   obtain⟨v,d,q⟩:=oh rr e
   exact⟨v,by rw[Xd,show (f==g')=false from Xf.mpr (Ne.symm a)];exact d,q⟩
theorem lD {K:Frag}{H:Hp}{f:Str}:∀{c:List (Str × T)}{vs:List (Str × V)},RepF K H c vs->aP f c=none->vs.lookup f=none
 |[],_,.nil,_=>rfl
 | (g,t')::r,_,.cons (b:=(g',v')) ⟨e1,rv⟩ rr,e=>by
  simp only at e1 rv
  subst e1
  unfold aP at e
  by_cases a:g'=f
  ·
   rw[if_pos a] at e;cases e
  ·
   rw[if_neg a] at e
   rw[Xd,show (f==g')=false from Xf.mpr (Ne.symm a)]
   exact lD rr e
def dw (f:Str) (v:T):List (Str × T)->List (Str × T)
 |[]=>[(f,v)]
 | (g,x)::r=>if g=f then (g,v)::r else (g,x)::dw f v r
theorem rE {K:Frag}{H:Hp}{f:Str}{t:T}{v:V}(c:Rep K H t v):∀{d:List (Str × T)}{vs:List (Str × V)},RepF K H d vs->RepF K H (dw f t d) (fZ f v vs)
 |[],_,.nil=>.cons ⟨rfl,c⟩ .nil
 | (g,t')::r,_,.cons (b:=(g',v')) ⟨e1,r1⟩ rr=>by
  simp only at e1 r1
  subst e1
  unfold dw fZ
  by_cases a:g'=f
  ·
   rw[if_pos a,if_pos a];exact .cons ⟨rfl,c⟩ rr
  ·
   rw[if_neg a,if_neg a];exact .cons ⟨rfl,r1⟩ (rE c rr)
structure InsC (K:Frag) (C:Addr) (ns:List Str):Prop where
 cls:Cls K C
 no:∀n∈ns,NoAttr K C n
structure MtC (P:Program) (w:World) (K:Frag) (mg:Str->Option Value) (base:Heap) (C:Addr) (k:Nat) (m:Str) (ps:List Str) (sp:Sp3):Prop where
 cls:Cls K C
 ex:∃(f:Addr) (fd:FuncData),Meth K C m f/\Binds K fd ps []/\jQ P w K mg base k f fd ps sp
structure MkC (P:Program) (w:World) (K:Frag) (mg:Str->Option Value) (base:Heap) (C:Addr) (k:Nat) (x:Str) (ps:List Str) (sp:Sp3):Prop where
 at_:mg x=some (.ref C)
 ex:∃(f:Addr) (fd:FuncData),Mk K C f/\Binds K fd ps []/\jQ P w K mg base k f fd ps sp
structure GM (K:Frag) (C:Addr) (m qual:Str) (st:Stmt) (ps:List Str) (f:Addr) (fd:FuncData):Prop where
 cls:Cls K C
 fn:Fun K m qual st f fd
 b:Binds K fd ps []
 mt:Meth K C m f
structure GI (K:Frag) (mg:Str->Option Value) (C:Addr) (x qual:Str) (st:Stmt) (ps:List Str) (f:Addr) (fd:FuncData):Prop where
 mk_:Mk K C f
 fn:Fun K "__init__" qual st f fd
 b:Binds K fd ps []
 at_:mg x=some (.ref C)
theorem SimH.wrO {K:Frag}{H:Hp}{H3:Hp3}{a C d:Addr}{g:List (Str × T)}{vs c:List (Str × V)}(s:SimH K H3 H) (i:H a=some (.ins C d vs)) (r:RepF K H g c):SimH K (up3 H3 a (.ins C g)) (upd H a (.ins C d c)):=fun b o e=>by
 have h:TupLe K H (upd H a (.ins C d c)):=bH (by rw[i];exact trivial);by_cases f:b=a
 ·subst f;rw[aB] at e;cases e;exact⟨d,c,bU,r.mono h⟩
 rw[aD f] at e;exact (s b o e).stay h fun u q=>by rw[aQ f];exact q
section
variable {X:Cx}{o e value:Expr}{es:List Expr}{ta tv:TE3}{t:TA3}{C:Addr}{f m x:Str}{ns ps:List Str}{sp:Sp3}{n:Nat}{pos pos' apos p:Pos}{H:Hp3}{Q:VK3}
def Oh (C:Addr) (f:Str) (u:Option O3) (H:Hp3) (Q:VK3):Prop:=match u with
 |some (.ins C' fs)=>C'=C/\oq (aP f fs) fun t=>Q t H
 |_=>False
def Tn (C:Addr) (f:Str) (x:T) (H:Hp3) (Q:VK3):Prop:=match x with
 |.ref a=>Oh C f (H a) H Q
 |_=>False
def J8 (C:Addr) (f:Str) (a:TE3):TE3:=fun c H Q=>a c H fun x b=>Tn C f x b Q
theorem Cr (a:Addr):Tn C f (.ref a) H Q=Oh C f (H a) H Q:=rfl
theorem Oi (a:List (Str × T)):Oh C f (some (.ins C a)) H Q=oq (aP f a) fun t=>Q t H:=propext ⟨fun h=>h.2,fun h=>⟨rfl,h⟩⟩
theorem gM (c:InsC X.K C ns) (B:PE3 X e ta) (x:f∈ns:=by simp) (E:attributeBase e f X.env (eval e X.env)=eval e X.env:=by rfl):PE3 X (.Attribute e f pos) (J8 C f ta):=by
 refine PE.imp (Lx B E) ?_;rintro I H Q ⟨l,H3,w,p,s,h,k⟩;refine⟨l,H3,_,p,s,h,fun v H' t b u d r q=>?_⟩;cases t with
 |ref a =>
  rw[Cr] at q;cases j:b a with
  |none=>rw[j] at q;exact q.elim
  |some A =>
  rw[j] at q;cases A with
  |ins n m =>
   obtain⟨rfl,g⟩:=(show n=C/\oq (aP f m) fun t=>w t b from q);clear q;obtain⟨G,vs,z,D⟩:=d a _ j;cases i:aP f m with
   |none=>rw[i] at g;exact g.elim
   |some t =>
   rw[i,jE] at g;obtain⟨y,F,o⟩:=oh D i;exact⟨a,n,G,vs,y,r.ref,z,c.cls,c.no f x,F,k _ _ _ _ u d o g⟩
  |_=>exact q.elim
 |_=>exact q.elim
def sfO (C:Addr) (f:Str) (a:Addr) (y:T) (u:Option O3) (H:Hp3) (Q:Hp3->Prop):Prop:=match u with
 |some (.ins C' fs)=>C'=C/\fs.length<1000/\Q (up3 H a (.ins C (dw f y fs)))
 |_=>False
def sfq (C:Addr) (f:Str) (x y:T) (H:Hp3) (Q:Hp3->Prop):Prop:=match x with
 |.ref a=>sfO C f a y (H a) H Q
 |_=>False
def J9 (C:Addr) (f:Str) (b d:TE3):TS3:=fun D a H=>d a H fun y c=>b a c fun x e=>sfq C f x y e fun H3=>D.nx a H3
theorem Ka (a:Addr) (y:T) (Q:Hp3->Prop):sfq C f (.ref a) y H Q=sfO C f a y (H a) H Q:=rfl
theorem Tp (a:Addr) (y:T) (b:List (Str × T)) (Q:Hp3->Prop):sfO C f a y (some (.ins C b)) H Q=(b.length<1000/\Q (up3 H a (.ins C (dw f y b)))):=propext ⟨fun h=>h.2,fun h=>⟨rfl,h⟩⟩
theorem pP (c:InsC X.K C ns) (z:PE3 X o ta) (Q:PE3 X value tv) (F:f∈ns:=by simp) (B:swapsWith value (some (.Attribute o f pos')) pos.line X.env=pure false:=by rfl):PS3 X (.Assign [.Attribute o f pos'] value pos) (J9 C f ta tv):=by
 refine PS.imp (Ly z Q B) ?_;rintro D R H ⟨e,H3,G,l,A,h,P,_⟩;refine⟨e,H3,_,l,A,h,fun y S M n g s N L=>⟨e,n,_,l.mono g,s,L,fun x v I k d i E b=>?_⟩⟩;cases I with
 |ref a =>
  rw[Ka] at b;cases m:k a with
  |none=>rw[m] at b;exact b.elim
  |some J =>
  rw[m] at b;cases J with
  |ins p t=>obtain⟨rfl,O,q⟩:=(show p=C/\t.length<1000/\G.nx e (up3 k a (.ins C (dw f M t))) from b);obtain⟨w,vs,r,u⟩:=i a _ m;have j:TupLe X.K v (upd v a (.ins p w (fZ f y vs))):=bH (by rw[r];exact trivial);exact⟨a,p,w,vs,E.ref,r,c.cls,c.no f F,by rw[<- YF u];exact O,P _ _ _ _ (g.trans (d.trans j)) (l.mono (g.trans (d.trans j))) (i.wrO r (rE (N.mono d) u)) q⟩
  |_=>exact b.elim
 |_=>exact b.elim
def mtO (C:Addr) (m:Str) (u:Option O3) (q:Prop):Prop:=match u with
 |some (.ins C' fs)=>C'=C/\aP m fs=none/\q
 |_=>False
def mtq (C:Addr) (m:Str) (x:T) (H:Hp3) (q:Prop):Prop:=match x with
 |.ref a=>mtO C m (H a) q
 |_=>False
def Cu (C:Addr) (m:Str) (sp:Sp3) (c:TE3) (t:TA3):TE3:=fun b H Q=>c b H fun x a=>mtq C m x a (t b a fun vs d=>sp (x::vs) d Q)
theorem Kc (a:Addr) (q:Prop):mtq C m (.ref a) H q=mtO C m (H a) q:=rfl
theorem Kd (a:List (Str × T)) (q:Prop):mtO C m (some (.ins C a)) q=(aP m a=none/\q):=propext ⟨fun h=>h.2,fun h=>⟨rfl,h⟩⟩
theorem pQ {pl:Sem Bool}(M:MtC X.prog X.w X.K X.mg X.base C n m ps sp) (N:Room n X.A) (J:PE3 X o ta) (y:PA3 X (e::es) t)
  (j:starEach (e::es) X.env=(false,eval e X.env)::starEach es X.env:=by rfl) (p:(backTo pos (starEach es X.env)).any (·.1)=false:=by rfl)
  (V:eval (.Call (.Attribute o m apos) (e::es) [] pos) X.env=(do
   let ov <- eval o X.env
   standAt apos.atName
   let (f,first) <- holding [ov] (getMethod ov m pl)
   callWith pos f first (backTo pos (starEach (e::es) X.env)) (backToKw pos (keywordEach [] X.env))):=by rfl) :
  PE3 X (.Call (.Attribute o m apos) (e::es) [] pos) (Cu C m sp ta t):=by
 obtain⟨f,fd,O,S,F⟩:=M.ex;refine PE.imp (Fp (dvs:=[]) (E:=E0) J M.cls O F N S .nil zZ y j p V) ?_;rintro W H Q ⟨g,H3,B,u,z,h,k⟩;refine⟨g,H3,_,u,z,h,fun v H' t b x c r q=>?_⟩;cases t with
 |ref a =>
  rw[Kc] at q;cases i:b a with
  |none=>rw[i] at q;exact q.elim
  |some I =>
  rw[i] at q;cases I with
  |ins Z Y=>obtain⟨rfl,T,q⟩:=q;obtain⟨U,vs,D,P⟩:=c a _ i;refine⟨a,U,vs,r.ref,D,lD P T,g,b,_,u.mono x,c,q,fun us R ts s d l G L=>?_⟩;show qQ X.K sp (v::(us++[])) R Q E0;rw[N_];exact⟨_,s,B,.cons (r.mono d) G,l,L,k.at (x.trans d)⟩
  |_=>exact q.elim
 |_=>exact q.elim
def Cv (C:Addr) (sp:Sp3) (t:TA3):TE3:=fun d H Q=>t d H fun vs b=>∀a,b a=none->sp (.ref a::vs) (up3 b a (.ins C [])) fun v c=>v=.non/\Q (.ref a) c
theorem G8 (M:MkC X.prog X.w X.K X.mg X.base C n x ps sp) (S:Room (n+1) X.A) (U:Gl X x) (l:PA3 X (e::es) t) (D:(x==("__debug__":Str))=false:=by decide)
  (R:starEach (e::es) X.env=(false,eval e X.env)::starEach es X.env:=by rfl) (z:(backTo pos (starEach es X.env)).any (·.1)=false:=by rfl):PE3 X (.Call (.Name x p) (e::es) [] pos) (Cv C sp t):=by
 obtain⟨f,fd,W,o,F⟩:=M.ex;refine PE.imp (Fq (dvs:=[]) (E:=E0) W F S U M.at_ o .nil zZ l D R z) ?_;rintro σ H Q ⟨B,H3,Q3,J,L,h,k⟩;refine⟨B,H3,_,J,L,h,fun us H' ts u N d O q=>fun a c l g s=>?_⟩;show qQ X.K sp (V.ref a::(us++[])) _ _ E0;rw[N_];have G:upd H' c (.own a) a=none:=by rw[aQ (Ne.symm s)];exact l
 have j:TupLe X.K H' (upd H' c (.own a)):=aN g;have i:TupLe X.K (upd H' c (.own a)) (upd (upd H' c (.own a)) a (.ins C c [])):=aN G;refine⟨T.ref a::ts,up3 u a (.ins C []),_,.cons .ofRef (O.mono (j.trans i)),fun b P m=>?_,q a (d.fresh l),fun v H2 t2 Z r y Y I=>⟨?_,?_⟩⟩
 ·by_cases o:b=a
  ·subst o;rw[aB] at m;cases m;exact⟨c,[],bU,.nil⟩
  rw[aD o] at m;exact ((d.new g).new G) b P m
 ·obtain⟨rfl,_⟩:=I;exact Y.non
 exact k _ _ _ _ (N.trans (j.trans (i.trans r))) y .ofRef I.2
def Ke:R3:=fun x y H Q=>match y with
 |.non=>Q (.bl (!isN x)) H
 |_=>False
theorem Tr (x:T) (H:Hp3) (Q:VK3):Ke x .non H Q=Q (.bl (!isN x)) H:=rfl
theorem uR:dH X (compareOp .IsNot) Ke:=by
 refine OpR.imp Fb ?_;rintro x y H Q ⟨c,ty,H3,g,b,f,d,h,k⟩;cases ty with
 |non =>
  refine⟨f.non,?_⟩;have e:decide (x=.non)=isN c:=by
   cases c with
   |non=>rw[b.non];rfl
   |int i=>rw[b.int];rfl
   |str i=>rw[b.str];rfl
   |bl i=>rw[b.bl];rfl
   |ref a=>rw[b.ref];rfl
   |tup ts=>obtain⟨a,vs,rfl,_⟩:=b.tup;rfl
   |ty n=>rw[b.ty];rfl
  rw[e];exact k _ _ _ _ .refl d .ofBl h
 |_=>exact h.elim
end
def Stb (b:Bool) (t:SetTable):Prop:=t.led=!b/\t.dummies=#[]/\t.place.toList.Pairwise (·<·)
theorem uT {xs:Array Nat}{j:Nat}(h:xs.toList.Pairwise (·<·)) {i k:Nat}(a:i<=k) (b:k<xs.size):xs.getD i j<=xs.getD k j:=by
 have c:i<xs.size:=Nat.lt_of_le_of_lt a b;rcases X6 a with e | rfl
 ·have:=Wj.mp h i k (by simpa using c) (by simpa using b) e;simp only[YQ,P_ c,P_ b,Option.getD_some];simp only[WN] at this;omega
 exact j_ _
theorem Cw {xs:Array Nat}{j:Nat}(h:xs.toList.Pairwise (·<·)):∀(f b a:Nat),b<=a->a<=xs.size->a - b<=f->(∀i,i<b->xs.getD i j<j)->(∀i,a<=i->i<xs.size->j<=xs.getD i j) ->
  SetTable.below.go xs j f b a<=xs.size/\(∀i,i<SetTable.below.go xs j f b a->xs.getD i j<j)/\∀i,SetTable.below.go xs j f b a<=i->i<xs.size->j<=xs.getD i j
 |0,b,a,h1,h2,h3,h4,h5=>by
  obtain rfl:b=a:=by omega
  exact⟨h2,h4,h5⟩
 |f+1,b,a,h1,h2,h3,h4,h5=>by
  unfold SetTable.below.go
  by_cases c:b<a
  ·
   rw[if_pos c]
   dsimp only
   by_cases d:xs.getD ((b+a) / 2) j<j
   ·
    rw[if_pos d]
    exact Cw h f _ _ (by omega) h2 (by omega) (fun i e=>Nat.lt_of_le_of_lt (uT h (k:=(b+a) / 2) (by omega) (by omega)) d) h5
   ·
    rw[if_neg d]
    exact Cw h f _ _ (by omega) (by omega) (by omega) h4 fun i g l=>Wc (YZ.mp d) (uT h g l)
  ·
   rw[if_neg c]
   obtain rfl:b=a:=by omega
   exact⟨h2,h4,h5⟩
theorem pR {xs:Array Nat}{j:Nat}(h:xs.toList.Pairwise (·<·)):SetTable.below xs j<=xs.size/\(∀i,i<SetTable.below xs j->xs.getD i j<j)/\∀i,SetTable.below xs j<=i->i<xs.size->j<=xs.getD i j :=
 Cw h _ _ _ (Xa _) (j_ _) (by omega) (fun i b=>absurd b (Nat.not_lt_zero _)) fun i c a=>absurd a (by omega)
theorem G9 {xs:Array Nat}(h:xs.toList.Pairwise (·<·)) {i:Nat}(a:i<xs.size):SetTable.below xs (xs[i]+1)=i+1:=by
 obtain⟨l,d,f⟩:=pR (j:=xs[i]+1) h;have e:∀k (b:k<xs.size),xs.getD k (xs[i]+1)=xs[k]:=fun k b=>by rw[YQ,P_ b];rfl
 rcases Zn (SetTable.below xs (xs[i]+1)) (i+1) with c | c | c
 ·have:=f i (by omega) a;rw[e i a] at this;omega
 ·exact c
 have g:=d (i+1) c;rw[e (i+1) (by omega)] at g;have:=Wj.mp h i (i+1) (by simpa using a) (by simp;omega) (Yn _);simp only[WN] at this;omega
theorem Ha {xs:Array Nat}(h:xs.toList.Pairwise (·<·)):SetTable.below xs 0=0:=by
 obtain⟨_,a,_⟩:=pR (j:=0) h;rcases Nat.eq_zero_or_pos (SetTable.below xs 0) with c | c
 ·exact c
 exact absurd (a 0 c) (Nat.not_lt_zero _)
theorem Hb {xs:Array Nat}{j:Nat}(h:xs.toList.Pairwise (·<·)) (r:xs[SetTable.below xs j]?≠some j):(SetTable.insertAt xs (SetTable.below xs j) j).toList.Pairwise (·<·):=by
 obtain⟨u,n,l⟩:=pR (j:=j) h;generalize SetTable.below xs j=p at *;have e:∀k (g:k<xs.size),xs.getD k j=xs[k]:=fun k g=>by rw[YQ,P_ g];rfl
 have m:∀b∈xs.toList.drop p,j<b:=fun b c=>by obtain⟨i,f,rfl⟩:=WF c;rw[Wo,D_] at f;rw[Ye,WN];have t:=l (p+i) (by omega) (by omega);rw[e _ (by omega)] at t;have q:=l p (j_ _) (by omega);rw[e _ (by omega)] at q;have v:xs[p]'(by omega)≠j:=fun z=>r (by rw[P_ (by omega),z]);have s:=uT (j:=j) h (i:=p) (k:=p+i) (by omega) (by omega);rw[e _ (by omega),e _ (by omega)] at s;omega
 rw[SetTable.toList_insertAt,Xb];refine⟨h.sublist (List.take_sublist _ _),Zg.mpr ⟨m,h.sublist (List.drop_sublist _ _)⟩,fun a o b c=>?_⟩;have d:a<j:=by
  obtain⟨i,f,rfl⟩:=WF o;rw[Wi,D_] at f;rw[Yg,WN];have:=n i (by omega)
  rwa [e _ (by omega)] at this
 rcases n_.mp c with rfl | c
 ·exact d
 exact Y8 d (m b c)
theorem Tt (j:Nat):SetTable.has #[] j=false:=by unfold SetTable.has;rfl
theorem rF {t:SetTable}{j:Nat}(a:t.dummies=#[]):t.slot j≠.dummy/\(t.slot j=.empty->t.place[SetTable.below t.place j]?≠some j):=by
 unfold SetTable.slot;dsimp only;rw[a,Tt];cases c:t.place[SetTable.below t.place j]?==some j
 ·refine⟨by simp,fun _ z=>?_⟩;rw[z] at c;simp at c
 simp
theorem ou {t:SetTable}{h:Int}(a:t.dummies=#[]):∀(f:Nat) (p:SetTable.Probe),p.dummy=none->∀j d,SetTable.probe.go t (fun _=>h+1) h f p=some (.empty j d)->t.slot j=.empty/\d=none
 |0,_,_,_,_,e=>by cases e
 |f+1,p,hp,j,d,e=>by
  unfold SetTable.probe.go at e
  cases c:t.slot p.j with
  |empty =>
   rw[c] at e
   cases e
   exact⟨c,hp⟩
  |dummy=>exact absurd c (rF a).1
  |live i =>
   rw[c] at e
   dsimp only at e
   rw[if_neg (by simp only[Yj];omega)] at e
   refine ou a f _ ?_ j d e
   unfold SetTable.advance
   split
   ·
    exact hp
   ·
    exact hp
theorem Cy {t:SetTable}{h:Int}(c:t.dummies=#[]) {j:Nat}{b:Bool}(e:t.freeSlot h=some (j,b)):t.slot j=.empty:=by
 unfold SetTable.freeSlot at e;split at e
 ·rename_i g d a;obtain⟨f,rfl⟩:=ou c _ _ rfl _ _ a;cases e;exact f
 cases e
theorem Stb.stand {b:Bool}{t:SetTable}(h:Stb b t) (n:Nat):Stb b (t.standIn n):=⟨h.1,rfl,by
 show (Array.range n).toList.Pairwise (·<·)
 rw[Array.toList_range]
 exact List.pairwise_lt_range⟩
theorem Stb.or {b:Bool}{t:SetTable}(h:Stb b t) (n:Nat):Stb b (t.orStandIn n):=by
 unfold SetTable.orStandIn;split
 ·exact h
 exact h.stand n
theorem Stb.new {b:Bool}{t:SetTable}(a:Stb b t) (c:Array (Int × Value)) (h:Int) (x:Value):Stb b (layNew t c h x).2.1:=by
 unfold layNew;split
 ·rename_i j d e;have f:Stb b (t.put j).1:=by refine⟨a.1,?_,Hb a.2.2 ((rF a.2.1).2 (Cy a.2.1 e))⟩;show (if SetTable.has t.dummies j then _ else t.dummies)=#[];rw[a.2.1,Tt];rfl
  exact f.or _
 exact a.stand _
theorem Stb.relay {b:Bool}{t:SetTable}(g:Stb b t) (h:Array (Int × Value)) (n:Nat):Stb b (relayAll t h n).2.1:=by
 unfold relayAll;split
 ·rename_i t' q e;dsimp only;split
  ·unfold SetTable.relaid SetTable.laid at e;cases c:SetTable.layClean (SetTable.sizeAbove n - 1) (h.map (·.1)) with
   |none=>rw[c] at e;cases e
   |some owner =>
   rw [c] at e;cases e;refine ⟨g.1,rfl,?_⟩;dsimp only;rw [Zo];refine List.Pairwise.filterMap _ (R:=(· < ·)) (fun a l k y f o d => ?_) List.pairwise_lt_range;cases i : owner.getD a none with
   |none=>rw[i] at f;cases f
   |some z =>
   cases j:owner.getD l none with
   |none=>rw[j] at d;cases d
   |some m =>
   rw[i] at f;rw[j] at d;cases f;cases d;exact k
  exact g.stand _
 exact g.stand _
def ivl:Value->Int
 |.int n _=>n
 |_=>0
def ivs (a:List (Int × Value)):List Int:=a.map fun e=>ivl e.2
def SI (prog:Program) (w:World) (h:Heap) (a:Addr) (c:List Int):Prop:=∃o b ep t,h.get? a=some o/\o.ExactSet/\o.data=.set b ep t/\ElemsOf (intKind prog w) b.toList/\(ivs b.toList).Nodup/\(∀k,k∈ivs b.toList↔k∈c)/\b.size<=c.length/\t.fits b.size=true/\Stb (w.params.followText "set-order") t
theorem SI.at' {prog:Program}{w:World}{h h':Heap}{a:Addr}{b:List Int}(x:SI prog w h a b) (k:∀o,h.get? a=some o->h'.get? a=some o):SI prog w h' a b:=by
 obtain⟨o,c,ep,t,d,r⟩:=x;exact⟨o,c,ep,t,k _ d,r⟩
section
variable {prog:Program}{w:World}{A:Around}{E:Value->Shared->Prop}{s:Shared}
theorem rG {a:Addr}{o:Obj}{c es':Array (Int × Value)}{ep:Nat}{t t':SetTable}{h:Heap}(d:h.get? a=some o) (b:o.data=.set c ep t):(h.update a (Obj.putSet es' t')).get? a=some { o with data:=.set es' (ep+1) t'}:=by
 have:=XH (Obj.putSet es' t') d (by rw[putSet_of es' t' b];rfl);rw[putSet_of es' t' b] at this;exact this
theorem add_int {a:Addr}{q:List Int}{k:Int}{tk:Tok}{Q:Bool->Shared->Prop}(hS:SI prog w s.heap a q) (room:q.length+1<scanBound)
  (h:∀v h',Heap.SameBut a s.heap h'->SI prog w h' a (q++[k])->Q v { s with heap:=h'}):wpAny (model prog w) A (setAddHashed a (.int k tk) ((intKind prog w).hash k)) Q E s:=by
 obtain⟨o,f,ep,t,J,B,G,g,nd,Y,hl,S,tb⟩:=hS;have n:(intKind prog w).is k (.int k tk)=true:=intKind_is _ _ _ _;have hb:f.size<scanBound:=by omega
 have F:∀e∈f.toList,∀l,(intKind prog w).is l e.2=true↔ivl e.2=l:=fun e M l=>by
  obtain⟨⟨k2,h2,_⟩,_⟩:=g e M;obtain⟨t2,e2⟩:=Value.isInt_shape h2;rw[e2];constructor
  ·intro z;exact (intKind prog w).inj _ _ _ (intKind_is _ _ _ _) z
  rintro rfl;exact intKind_is _ _ _ _
 unfold setAddHashed setAddHashedIn;refine Xu (b_ (YS J G S ?_));dsimp only;rw[byScan_of (knd:=intKind prog w) rfl hb g];simp only[↓reduceIte];unfold setAddByScan;refine b_ (b_ (Y0 (b_ (wpAny_setScan_of n J G S g ?_))));cases hr:List.findIdx? (fun e=>(intKind prog w).is k e.2) f.toList with
 |some j=>dsimp only;obtain⟨hj,pj,_⟩:=List.findIdx?_eq_some_iff_getElem.mp hr;have e0:=(F _ (Ws hj) k).mp pj;have hk:k∈ivs f.toList:=x_.mpr ⟨_,Ws hj,e0⟩;refine k_ (k_ (h _ s.heap (Heap.SameBut.refl a s.heap) ⟨o,f,ep,t,J,B,G,g,nd,fun l=>?_,by rw[a_];omega,S,tb⟩));rw[Y l,u_,h_];exact⟨.inl,fun z=>z.elim id fun e=>by rw[e];exact (Y k).mp hk⟩
 |none =>
 dsimp only;have W:k∉ivs f.toList:=fun z=>by obtain⟨e,M,hp⟩:=x_.mp z;have:=List.findIdx?_eq_none_iff.mp hr e M;rw[(F e M k).mpr hp] at this;cases this
 have gw:∀(b:Bool) {P:Shared} {O:Unit->Shared->Prop},O () P->wpAny (model prog w) A (match b with | true=>rule "set.scan.the-table-gave-way" | false=>pure ()) O E P:=fun b P O hq=>by
  cases b
  ·exact k_ hq
  exact Y0 hq
 have I:=layNew_perm t f ((intKind prog w).hash k) (.int k tk);have U:=layNew_fits t f ((intKind prog w).hash k) (.int k tk);have m:=tb.new f ((intKind prog w).hash k) (.int k tk);generalize layNew t f ((intKind prog w).hash k) (.int k tk)=L at I U m ⊢;obtain⟨c,i,wd,gv⟩:=L;dsimp only at I U m ⊢;rw[XN] at I;have N:c.size=f.size+1:=by rw[<- D_,I.length_eq,a_,D_];rfl
 have u:∀d:Array (Int × Value),d.toList.Perm c.toList->ElemsOf (intKind prog w) d.toList/\(ivs d.toList).Nodup/\(∀l,l∈ivs d.toList↔l∈q++[k])/\d.size=f.size+1:=fun d D=>by
  have p3:=D.trans I;have p4:=p3.map fun e=>ivl e.2;have p5:(ivs d.toList).Perm (ivs f.toList++[k]):=by unfold ivs;rw[y_] at p4;exact p4
  refine⟨(g.push n rfl).perm p3,p5.nodup_iff.mpr ?_,fun l=>?_,?_⟩
  ·rw[YT];refine⟨nd,by simp,fun x hx y hy z=>?_⟩;rw[h_.mp hy] at z;exact W (z▸hx)
  ·rw[p5.mem_iff,u_,u_,Y l]
  rw[<- D_,D.length_eq,D_,N]
 have lk:(q++[k]).length=q.length+1:=by rw[a_];rfl
 refine b_ (gw _ ?_);have p:wpAny (model prog w) A (do
   storeSet a c i
   if (!wd&&i.tooFull)=true then do
     (match (relayAll i c (SetTable.grown c.size)).2.2 with | true=>rule "set.scan.the-table-gave-way" | false=>pure ())
     storeSet a (relayAll i c (SetTable.grown c.size)).1 (relayAll i c (SetTable.grown c.size)).2.1
     pure (some true)
    else pure (some true)) (fun r s'=>∃h',r=some true/\s'={ s with heap:=h'}/\Heap.SameBut a s.heap h'/\SI prog w h' a (q++[k])) E s:=by
  refine b_ (wpAny_storeSet_of J G ?_ (fits_of_scanBound (by omega)))
  have o1:=rG (es':=c) (t':=i) J G
  have H:=Heap.SameBut.update s.heap a (Obj.putSet c i)
  split
  ·
   have D:=relayAll_perm i c (SetTable.grown c.size)
   have X:=relayAll_fits i c (SetTable.grown c.size)
   have C:=m.relay c (SetTable.grown c.size)
   generalize relayAll i c (SetTable.grown c.size)=R at D X C ⊢
   obtain⟨d,t2,g2⟩:=R
   dsimp only at D X C ⊢
   obtain⟨V,T,Z,q4⟩:=u d D
   refine b_ (gw _ (b_ (wpAny_storeSet_of o1 rfl ?_ (fits_of_scanBound (by omega)))))
   exact k_ ⟨_,rfl,rfl,H.trans (Heap.SameBut.update _ a _),_,d,_,t2,rG o1 rfl,B,rfl,V,T,Z,by omega,X,C⟩
  ·
   obtain⟨V,T,Z,q4⟩:=u c (.refl _)
   exact k_ ⟨_,rfl,rfl,H,_,c,_,i,o1,B,rfl,V,T,Z,by omega,U,m⟩
 have K:∀(r:Option Bool) (s':Shared),(∃h',r=some true/\s'={ s with heap:=h'}/\Heap.SameBut a s.heap h'/\SI prog w h' a (q++[k]))->wpAny (model prog w) A (match r with | some added=>pure added | none=>setAddHashedIn a (.int k tk) ((intKind prog w).hash k) 99999) Q E s':=by rintro r s' ⟨h',rfl,rfl,sb,hs⟩;exact k_ (h true h' sb hs)
 split
 ·refine b_ ?_;rw[hashByValue_scannable 8 (x:=.int k tk) rfl];refine k_ ?_;exact W_ p K fun _ _ e=>e
 refine b_ (k_ ?_);simp only[↓reduceIte];exact W_ p K fun _ _ e=>e
end
theorem Oj {prog:Program}{w:World}{A:Around}{R:Result->Shared->Prop}{J:Addr}{I j:List Addr}{n:Nat}{P:Nat->Value->Prop}{St:Nat->Heap->Prop}
  (W:Walks prog w A.in1 J I j n P St) (B:Addr) (G:B∉I) (xs:List Int) (O:xs.length=n) (U:∀i v,P i v->∃x t,xs[i]?=some x/\v=.int x t) (H:n+1<scanBound) :
  ∀(k i:Nat) (s:Shared),n - i=k->i<=n->St i s.heap->SI prog w s.heap B (xs.take i) ->
   (∀s',Moved (B::j) (fun a b=>b=a) s s'->SI prog w s'.heap B xs->R (.ok (.ret .none)) s') ->
   codeAny (model prog w) A (.builtin "set.update.loop" ⟨[.ref B,.ref J],[]⟩) R s:=by
 have l:=W.toS;have E:B∉j:=fun h=>G (l.sub _ h);have D:∀c∈j,c∈B::j:=fun c m=>z_ _ m;intro k;induction k with
 |zero =>
  intro i s N Q st p d;have M:i=n:=by omega
  subst M;refine YC PyProof.Rows.F.entry_set_update_loop ?_;rw[Around.under_plainId XR _];show wpAny _ A.in1 (pyNext (.ref J) >>= _) _ _ s;refine b_ (l.done s _ _ st fun s' g=>?_);show wpAny _ A.in1 (ret Value.none) _ _ s';rw[<- O,List.take_length] at p;exact k_ (d s' (g.mono D) (p.at' fun o e=>g.heap B _ E e))
 |succ k L =>
 intro i s N Q st p d;have K:i<n:=by omega
 refine YC PyProof.Rows.F.entry_set_update_loop ?_;rw[Around.under_plainId XR _];show wpAny _ A.in1 (pyNext (.ref J) >>= _) _ _ s;refine b_ (l.item i s _ _ K st fun v s' pv r g=>?_);obtain⟨x,t,S,rfl⟩:=U i v pv;have y:=p.at' fun o e=>g.heap B _ E e;show wpAny _ A.in1 (holding [Value.int x t] (setAdd B (.int x t)) >>= _) _ _ s';refine b_ (Xu ?_);unfold setAdd;refine Xu ?_;refine b_ ((intKind prog w).pyHash (k:=x) (intKind_is _ _ _ _) ?_);have T:xs.take (i+1)=xs.take i++[x]:=by rw[List.take_add_one,S];rfl
 refine add_int (s:={ s' with toks:=s'.toks+1}) y (by rw[Wi];omega) fun v h' sb f=>?_;rw[<- T] at f;refine k_ ⟨Zy XR _,L (i+1) _ (by omega) K (l.frame _ s' _ _ r (Nat.le_succ _) fun c m o e=>?_) f fun q u C=>?_⟩
 ·rw[sb.2 c (fun z:c=B=>G (by rw[<- z];exact m))];exact e
 refine d q (Moved.trans l.gtrans ((g.mono D).then_heap (Nat.le_succ _) fun c o m e=>?_) u) C;rw[sb.2 c (fun z=>m (by rw[z];exact q_))];exact e
@[reducible] def lE (w:World):Obj:={ cls:=.type "set",dict:=none,data:=.set #[] 0 (.fresh 0 0 (!w.params.followText "set-order"))}
section
variable {prog:Program}{w:World}{A:Around}{E:Value->Shared->Prop}{s:Shared}
theorem Hc {h:Heap}{a:Addr}(b:h.get? a=some (lE w)):SI prog w h a []:=⟨_,_,_,_,b,⟨rfl,rfl,rfl⟩,rfl,fun e c=>by simp at c,by simp [ivs],fun k=>by simp [ivs],j_ _,rfl,rfl,rfl,List.Pairwise.nil⟩
theorem Cz (a:Value) {Q₁:Value->Shared->Prop}(h:Q₁ (.ref s.heap.objs.size) { s with heap:=s.heap.push (lE w)}):codeAny (model prog w) A (.call (.builtin "set.__new__") ⟨[.type "set",a],[]⟩) (wants Q₁ E) s:=by
 refine codeAny_of_tree ?_;show wpAny _ A.in1 (checkBuiltinCall "set.__new__" ⟨[.type "set",a],[]⟩ >>= fun _=>again (.builtin "set.__new__" ⟨[.type "set",a],[]⟩)) _ _ s;refine b_ (wpAny_of_eq (PySem.F.newCall_set_1 a) (k_ ⟨Zy F.plain_set_new _,YC F.entry_set_new ?_⟩));rw[Around.under_plainId F.plain_set_new _];unfold Builtin.«set.__new__» Builtin.Frozenset.newClass;have sub:=sub_set_self;obtain⟨c,g,d,tk,b⟩:=s;dsimp only
 wp_walk
 refine Y_ (k_ ?_);dsimp only;simp only[newObj];exact b_ (wpAny_alloc (k_ (k_ h)))
theorem yP {l:Addr}{a:Array Value}{xs:List Int}{Q:Value->Shared->Prop}(hh:A.handled=none) (S:s.heap.IsList l a) (hx:xs.length=a.size)
  (hv:∀(i:Nat) (v:Value),a[i]?=some v->∃x t,xs[i]?=some x/\v=.int x t) (j:a.size+1<scanBound)
  (h:∀(h':Heap) (tk:Nat),SI prog w h' s.heap.objs.size xs->(∀b o,b<s.heap.objs.size->s.heap.get? b=some o->h'.get? b=some o)->Q (.ref s.heap.objs.size) { s with heap:=h',toks:=tk}) :
  wpAny (model prog w) A (call (.type "set") [.ref l]) Q E s:=by
 obtain⟨cc,tl,M⟩:=Xo.mro;have q:=Xo.made;have I:=Xo.sub;refine wpAny_call (codeAny_of_tree ?_);show wpAny _ _ (callAny (.type "set") _) _ _ _;refine k_ ⟨Code.quiet_builtin _ (by decide +kernel),YC F.entry_type_call ?_⟩;rw[Around.under_plain (weight_type_call_type "set" [.ref l] []) rfl];have n1:=Xo.notType;have n2:=Xo.canCreate;have hct:=PySem.F.typeCall_set_1 (.ref l);repeat (any_goals (first | assumption | wp_step))
 refine Y7 (Cz (.ref l) (E:=E) (Q₁:=fun n K=>n=.ref s.heap.objs.size/\K={ s with heap:=s.heap.push (lE w)}) ⟨rfl,rfl⟩) fun r K D=>?_;cases r with
 |error e=>exact D
 |ok fl =>
 cases fl with
 |ret n =>
  obtain⟨rfl,rfl⟩:=D;have N:(s.heap.push (lE w)).get? s.heap.objs.size=some (lE w):=C_ _ rfl;have W:Shared.TypeIs { s with heap:=s.heap.push (lE w)} (.ref s.heap.objs.size) "set":=⟨_,N,rfl⟩;have hli:=Xo.init.lookup;have hbi:=Xo.init.bind (.ref s.heap.objs.size);repeat (any_goals (first | assumption | wp_step))
  refine Y7 (codeAny_call_builtin (R:=wants (fun r L=>r=.none/\∃h' tk,L={ s with heap:=h',toks:=tk}/\SI prog w h' s.heap.objs.size xs /\
    (∀b o,b<s.heap.objs.size->s.heap.get? b=some o->h'.get? b=some o)) E) Xo.init.plain F.entry_set_init (check_set_init_1 W ?_)) fun r2 L c=>?_
  ·have m:(s.heap.push (lE w)).IsList l a:=S.push _;obtain⟨Z,k,f,V,g⟩:=id S;obtain⟨oc,od,X,osl⟩:=Z;simp only at f g;subst f;subst g;have J:(s.heap.push (lE w)).get? l=some { cls:=.type "list",dict:=od,data:=.seq a V,slots:=osl}:=e_ _ k;have t1:=PySem.F.sub_list_set;have t2:=PySem.F.sub_list_frozenset;have t3:(Value.type "list"==Value.type "dict")=false:=by decide
   unfold Builtin.«set.__init__» noKeywords Builtin.Frozenset.updateFrom;generalize y:pyIter=PI
   wp_walk
   subst y;refine wpAny_pyIter_list m ?_;refine b_ (wpAny_runValue ?_);have O:l<s.heap.objs.size:=E_ k;have B:A.in1.in1.in1.handled=none:=by simp [hh]
   have H:(s.heap.push (lE w)).objs.size=s.heap.objs.size+1:=XM ..;have U:l≠(s.heap.push (lE w)).objs.size:=by rw[H];exact Wh (Xk O)
   have nB:s.heap.objs.size∉[(s.heap.push (lE w)).objs.size,l]:=by
    rw[H];intro z;simp only[n_,W8,Zd] at z;rcases z with z | z
    ·exact absurd z (Wh (Yn _))
    exact absurd z (Nat.ne_of_gt O)
   refine Oj (Walks.list B _ l U a) s.heap.objs.size nB xs hx hv j (a.size - 0) 0 _ (by omega) (Xa _) ⟨⟨_,C_ _ rfl,rfl,rfl⟩,m.push _⟩ (Hc (e_ _ N)) ?_;intro s' p d;obtain⟨h',g',d',u,G⟩:=s';have eg:g'=s.gens:=p.gens;have Y:d'=s.drawn:=p.drawn;have T:G=s.os:=p.os;subst eg Y T;show wpAny _ _ _ _ _ _;refine k_ ?_;show wpAny _ _ (ret Value.none) _ _ _;refine k_ ⟨rfl,h',u,rfl,d,fun b o P e=>p.heap b o ?_ (e_ _ (e_ _ e))⟩;intro z;simp only[n_,W8,Zd] at z;rcases z with z | z
   ·exact absurd z (Wh P)
   rw[H] at z;exact absurd z (Wh (Xk P))
  cases r2 with
  |error e=>exact c
  |ok C =>
  cases C with
  |ret r =>
   obtain⟨rfl,h',tk,rfl,d,kp⟩:=c;repeat (any_goals (first | assumption | wp_step))
   exact h _ _ d kp
  |_=>exact c.elim
 |_=>exact D.elim
end
open PySem.W
theorem st_next:Slot "set_iterator" "__next__" "set_iterator.__next__":=.of (owner:="set_iterator") (n:="__next__") (by rw[typeLookup_type,YJ];kernel_rfl) (by decide +kernel) (by decide +kernel) (by decide +kernel)
 (by first | exact .inr (by decide +kernel) | exact .inl (by decide +kernel)) (by rw[Zm];kernel_rfl)
theorem wQ:Slot "set_iterator" "__iter__" "set_iterator.__iter__":=.of (owner:="set_iterator") (n:="__iter__") (by rw[typeLookup_type,YJ];kernel_rfl) (by decide +kernel) (by decide +kernel) (by decide +kernel)
 (by first | exact .inr (by decide +kernel) | exact .inl (by decide +kernel)) (by rw[Zm];kernel_rfl)
theorem CG:Manifest.owners.lookup (String.ofList ['r','o','t','a','r','e','t','i','_','t','e','s'].reverse)=some Manifest.sig_set_iterator:=by kernel_rfl
theorem oA:entryFor table "set_iterator.__next__"=some Builtin.«set_iterator.__next__»:=entryFor_of_tree (by kernel_rfl)
theorem oE (a:Value):argsOk "set_iterator.__next__" ⟨[a],[]⟩:=by
 unfold argsOk;rw[signature?_of (id:="set_iterator.__next__") (n:=['_','_','t','x','e','n','_','_']) (o:=['r','o','t','a','r','e','t','i','_','t','e','s']) (by kernel_rfl) CG];kernel_rfl
theorem yQ (a:Value):argsOk "set_iterator.__iter__" ⟨[a],[]⟩:=by
 unfold argsOk;rw[signature?_of (id:="set_iterator.__iter__") (n:=['_','_','r','e','t','i','_','_']) (o:=['r','o','t','a','r','e','t','i','_','t','e','s']) (by kernel_rfl) CG];kernel_rfl
theorem yR:entryFor table "set_iterator.__iter__"=some Builtin.«dict_keyiterator.__iter__» :=
 entryFor_alias (id':="dict_keyiterator.__iter__") (by kernel_rfl) (by first | rfl | decide +kernel | (unfold String.splitOn;simp +decide [String.splitOnAux])) (by decide +kernel) (by kernel_rfl)
theorem uU:entryFor table "set.__iter__"=some Builtin.«frozenset.__iter__» :=
 entryFor_alias (id':="frozenset.__iter__") (by kernel_rfl) (by first | rfl | decide +kernel | (unfold String.splitOn;simp +decide [String.splitOnAux])) (by decide +kernel) (by kernel_rfl)
@[reducible] def sbt (w:World):Bool:=w.params.followText "set-order"
@[reducible] def dwn (a:Array (Int × Value)) (t:SetTable):Bool:=!t.plain&&decide (a.size>1)
def Swy (w:World) (h:Heap) (J a tp:Addr) (vs:List Value) (i:Nat) (b:Array (Int × Value)) (ep:Nat) (t:SetTable) (first:Value):Prop :=
 (∃c:Nat,first=.int c 0/\sbt w=true/\(pickOrder (w.params.setOrder a ep) b).toList.map (·.2)=vs) \/
 (∃c:Nat,first=.int c 0/\sbt w=false/\dwn b t=false/\t.led=true/\t.place.toList.Pairwise (·<·)/\SetTable.below t.place c=i/\b.toList.map (·.2)=vs) \/
 (∃pl:List Nat,first=.ref tp/\tp≠J/\h.IsTuple tp (pl.map fun p:Nat=>Value.int (p:Int) 0).toArray/\pl.length=vs.length/\∀(k p:Nat),pl[k]?=some p->(b[p]?).map (fun e=>e.2)=vs[k]?)
def Sww (w:World) (h:Heap) (J a tp:Addr) (vs:List Value) (i:Nat):Prop:=∃o b ep t c first,h.get? a=some o/\o.data=.set b ep t/\t.fits b.size=true/\b.size=vs.length/\h.get? J=some c/\c.cls=.type "set_iterator"/\c.data=.fields #[first,.int i 0,.ref a,.int vs.length 0,.int ep 0]/\Swy w h J a tp vs i b ep t first
section
variable {prog:Program}{w:World}{A:Around}{E:Value->Shared->Prop}{s:Shared}
theorem lF {h:Heap}{J a tp:Addr}{vs:List Value}{i j:Nat}{o:Obj}{b:Array (Int × Value)}{ep:Nat}{t:SetTable}{Q:Option (Value × Nat)->Shared->Prop}(r:s.heap.get? a=some o) (z:o.data=.set b ep t) (n:t.fits b.size=true) (hsz:b.size=vs.length) (D:Swy w h J a tp vs i b ep t (.int j 0))
  (u:∀v sl',vs[i]?=some v->Swy w h J a tp vs (i+1) b ep t (.int (sl':Nat) 0)->Q (some (v,sl')) s) (q:vs[i]?=none->Q none s):wpAny (model prog w) A (setNext a j i ep) Q E s:=by
 unfold setNext;refine b_ (YS r z n ?_);dsimp only;unfold setsByText;refine b_ (b_ (Y_ (k_ ?_)));show wpAny _ _ (if sbt w=true then _ else _) _ _ _;rcases D with ⟨j,e,k,d⟩ | ⟨j,e,k,m,g,f,p,d⟩ | ⟨pl,e,_⟩
 ·cases e;rw[if_pos k,if_neg (by simp)];refine b_ ?_;unfold setWalk;refine b_ (YS r z n ?_);dsimp only;unfold setsByText;refine b_ (b_ (Y_ (k_ ?_)));show wpAny _ _ (if sbt w=true then _ else _) _ _ _;rw[if_pos k];refine b_ (Y_ (k_ (k_ ?_)));show Q (((pickOrder (w.params.setOrder a ep) b)[i]?).map fun e=>(e.2,j)) s;have l:vs[i]?=((pickOrder (w.params.setOrder a ep) b)[i]?).map (·.2):=by rw[<- d,J_,Wq]
  cases B:(pickOrder (w.params.setOrder a ep) b)[i]? with
  |none=>exact q (by rw[l,B];rfl)
  |some x=>exact u x.2 j (by rw[l,B];rfl) (.inl ⟨j,rfl,k,d⟩)
 ·cases e;rw[if_neg (by rw[k];simp)];show wpAny _ _ (if dwn b t=true then _ else _) _ _ _;rw[if_neg (by rw[m];simp)];show wpAny _ _ ((if (!t.led&&!b.isEmpty)=true then _ else pure ()) >>= _) _ _ _;rw[if_neg (by rw[g];simp)];refine b_ (k_ (k_ ?_));rw[p];have C:t.place.size=b.size:=by simp only[SetTable.fits,Wr,Yj] at n;exact n.1
  have l:vs[i]?=(b[i]?).map (·.2):=by rw[<- d,J_,Wq]
  by_cases c:i<b.size
  ·have y:i<t.place.size:=by omega
   rw[P_ c,P_ y];refine u _ _ (by rw[l,P_ c];rfl) (.inr (.inl ⟨_,rfl,k,m,g,f,G9 f y,d⟩))
  rw[Yy (by omega)];exact q (by rw[l,Yy (by omega)];rfl)
 cases e
theorem j8 {h:Heap}{J:Addr}{b:Obj}{d:Array Value}(c:h.get? J=some b) (e:b.data=.fields d) (k:Nat) (x:Value):∃a,(h.update J (Obj.mapFields (·.setIfInBounds k x))).get? J=some a/\a.cls=b.cls/\a.data=.fields (d.setIfInBounds k x) :=
 ⟨_,XH _ c (Obj.isFreed_of_fields (Obj.data_mapFields e _)),Obj.cls_mapFields ..,Obj.data_mapFields e _⟩
theorem Swy.at' {w:World}{h h':Heap}{J a tp:Addr}{vs:List Value}{i:Nat}{c:Array (Int × Value)}{ep:Nat}{t:SetTable}{first:Value}(x:Swy w h J a tp vs i c ep t first) (k:∀o,tp≠J->h.get? tp=some o->h'.get? tp=some o):Swy w h' J a tp vs i c ep t first:=by
 rcases x with x | x | ⟨pl,e,b,⟨o,d,r⟩,x⟩
 ·exact .inl x
 ·exact .inr (.inl x)
 exact .inr (.inr ⟨pl,e,b,⟨o,k o b d,r⟩,x⟩)
theorem Hd {J a tp:Addr}{vs:List Value}{i:Nat}{v:Value}{Q:Option Value->Shared->Prop}(hJ:Sww w s.heap J a tp vs i) (F:a≠J) (G:vs[i]?=some v)
  (V:∀h',Sww w h' J a tp vs (i+1)->(∀b o,b≠J->s.heap.get? b=some o->h'.get? b=some o)->Q (some v) { s with heap:=h'}):wpAny (model prog w) A (pyNext (.ref J)) Q E s:=by
 obtain⟨o,L,ep,t,oJ,first,D,C,n,hsz,c,S,d,Z⟩:=hJ;have W:s.TypeIs (.ref J) "set_iterator":=⟨oJ,c,S⟩;unfold pyNext;refine b_ (wpAny_attempt (wpAny_callSpecial?_slot (name:=Str.ofString "__next__") W st_next (XX st_next W oA ?_ (oE _))));unfold Builtin.«set_iterator.__next__»;refine b_ (k_ (b_ (wpAny_fieldsOf c d ?_)));dsimp only;refine b_ (wpAny_setEntries_of D C n ?_);rw[if_neg (by rw[hsz];simp)];have l:∀g:Nat,first=.int g 0->wpAny (model prog w) A.in1 (setNext a g i ep >>= fun r=>match r with
   |some (x,next)=>setField (.ref J) 0 (rawInt next) >>= fun _=>setField (.ref J) 1 (rawInt ((i:Int)+1)) >>= fun _=>ret x
   |none=>setField (.ref J) 2 .none >>= fun _=>newExc (.type "StopIteration") [] >>= fun e=>raiseNew e) (fun R s'=>∃v,R=Fin.done (Flow.ret v)/\wpAny (model prog w) A (pure (some v)) Q E s') (fun e s'=>wpAny (model prog w) A (isInstance e (.type "StopIteration") >>= fun b=>if b=true then pure none else throw e) Q E s') s:=by
  rintro g rfl
  refine b_ (lF (h:=s.heap) (J:=J) (tp:=tp) D C n hsz Z (fun v' B e U=>?_) fun e=>by rw[G] at e;cases e)
  rw[G] at e
  cases e
  dsimp only
  refine b_ (Ys c d (by simp) ?_)
  obtain⟨o1,I,T,H⟩:=j8 c d 0 (rawInt B)
  refine b_ (Ys I H (by simp) ?_)
  obtain⟨o2,g2,c2,d2⟩:=j8 I H 1 (rawInt ((i:Int)+1))
  have f:∀b o,b≠J->s.heap.get? b=some o->((s.heap.update J (Obj.mapFields (·.setIfInBounds 0 (rawInt B)))).update J (Obj.mapFields (·.setIfInBounds 1 (rawInt ((i:Int)+1))))).get? b=some o:=fun b o j e=>by
   rw[W9 _ _ _ _ j,W9 _ _ _ _ j];exact e
  exact k_ ⟨_,rfl,k_ (V _ ⟨o,L,ep,t,o2,_,f _ _ F D,C,n,hsz,g2,(c2.trans T).trans S,by rw[d2];rfl,U.at' fun o hn e=>f _ _ hn e⟩ f)⟩
 rcases id Z with ⟨g,rfl,j,K⟩ | ⟨g,rfl,j,hdr,hled,Y,hsl,K⟩ | ⟨pl,rfl,m,P,N,u⟩
 ·exact l g rfl
 ·exact l g rfl
 dsimp only;obtain⟨ot,k,M,nt,q⟩:=id P;refine b_ (wpAny_seqItems k q ?_);obtain⟨p,X⟩:∃p,pl[i]?=some p:=by
  have:i<pl.length:=by
   rcases Zq i vs.length with z | z
   ·omega
   rw[Wf z] at G;cases G
  exact⟨_,d_ this⟩
 have e1:((pl.map fun p:Nat=>Value.int (p:Int) 0).toArray)[((i:Nat):Int).toNat]?=some (.int (p:Int) 0):=by rw[Xi,YK,J_,X];rfl
 dsimp only;rw[e1];dsimp only;have y:=u i p X;rw[G] at y;cases O:L[p]? with
 |none=>rw[O] at y;cases y
 |some x =>
 rw[O] at y;cases y;unfold setNextDrawn;refine b_ (b_ (YS D C n ?_));dsimp only;rw[if_neg (by simp),Xi,O];refine k_ (b_ (Ys c d (by simp) ?_));obtain⟨o1,I,T,H⟩:=j8 c d 1 (rawInt ((i:Int)+1));have f:∀b o,b≠J->s.heap.get? b=some o->(s.heap.update J (Obj.mapFields (·.setIfInBounds 1 (rawInt ((i:Int)+1))))).get? b=some o:=fun b o j e=>by rw[W9 _ _ _ _ j];exact e
 exact k_ ⟨_,rfl,k_ (V _ ⟨o,L,ep,t,o1,_,f _ _ F D,C,n,hsz,I,T.trans S,by rw[H];rfl,.inr (.inr ⟨pl,rfl,m,⟨ot,f _ _ m k,M,nt,q⟩,N,u⟩)⟩ f)⟩
theorem pU {J:Addr}{Q:Option Value->Shared->Prop}(d:A.handled=none) (f:∀h',(∀b o,s.heap.get? b=some o->h'.get? b=some o)->Q none { s with heap:=h'}):wpAny (model prog w) A.in1 (newExc (.type "StopIteration") [] >>= fun e=>raiseNew e) (fun c s'=>∃v,c=Fin.done (Flow.ret v)/\wpAny (model prog w) A (pure (some v)) Q E s') (fun e s'=>wpAny (model prog w) A (isInstance e (.type "StopIteration") >>= fun b=>if b=true then pure none else throw e) Q E s') s:=by
 refine b_ ?_;simp only[newExc,newTuple];refine b_ (Xj ?_ (by size_fits));refine b_ (m:=firstArgMember _ _) (wpAny_of_eq (a:=Value.none) (by first | rfl | (simp only[firstArgMember];rfl)) ?_);refine Xj ?_ (by size_fits);simp only[raiseNew];refine b_ (wpAny_handled ?_);rw[show A.in1.handled=none from d];refine b_ (k_ (wpAny_throw ?_));refine b_ (wpAny_isInstance (T:="StopIteration") (b:=true) ⟨_,C_ _ rfl,rfl⟩ isSubtype_stop ?_);exact k_ (f _ fun b o e=>e_ _ (e_ _ e))
theorem Hf {J a tp:Addr}{vs:List Value}{Q:Option Value->Shared->Prop}(u:A.handled=none) (L:Sww w s.heap J a tp vs vs.length)
  (j:∀h',(∀b o,b≠J->s.heap.get? b=some o->h'.get? b=some o)->Q none { s with heap:=h'}):wpAny (model prog w) A (pyNext (.ref J)) Q E s:=by
 obtain⟨o,O,ep,t,I,first,v,r,l,hsz,c,N,d,n⟩:=L;have x:s.TypeIs (.ref J) "set_iterator":=⟨I,c,N⟩;have y:vs[vs.length]?=none:=Wf (j_ _);unfold pyNext;refine b_ (wpAny_attempt (wpAny_callSpecial?_slot (name:=Str.ofString "__next__") x st_next (XX st_next x oA ?_ (oE _))));unfold Builtin.«set_iterator.__next__»;refine b_ (k_ (b_ (wpAny_fieldsOf c d ?_)));dsimp only;refine b_ (wpAny_setEntries_of v r l ?_);rw[if_neg (by rw[hsz];simp)];rcases id n with ⟨K,rfl,_⟩ | ⟨K,rfl,_⟩ | ⟨pl,rfl,D,⟨P,g,F,nt,m⟩,M,H⟩
 ·dsimp only;refine b_ (lF (h:=s.heap) (J:=J) (tp:=tp) (i:=vs.length) v r l hsz n (fun G q e _=>by rw[y] at e;cases e) fun _=>?_);dsimp only;refine b_ (Ys c d (by simp) ?_);exact pU (J:=J) u fun h' k=>j h' fun b o f e=>k b o (by rw[W9 _ _ _ _ f];exact e)
 ·dsimp only;refine b_ (lF (h:=s.heap) (J:=J) (tp:=tp) (i:=vs.length) v r l hsz n (fun G q e _=>by rw[y] at e;cases e) fun _=>?_);dsimp only;refine b_ (Ys c d (by simp) ?_);exact pU (J:=J) u fun h' k=>j h' fun b o f e=>k b o (by rw[W9 _ _ _ _ f];exact e)
 dsimp only;refine b_ (wpAny_seqItems g m ?_);have B:((pl.map fun p:Nat=>Value.int (p:Int) 0).toArray)[((vs.length:Nat):Int).toNat]?=none:=by rw[Xi,YK,J_,Wf (by omega)];rfl
 dsimp only;rw[B];dsimp only;refine b_ (Ys c d (by simp) ?_);obtain⟨R,C,S,z⟩:=j8 c d 0 (rawInt 0);refine b_ (Ys C z (by simp) ?_);exact pU (J:=J) u fun h' k=>j h' fun b o f e=>k b o (by rw[W9 _ _ _ _ f,W9 _ _ _ _ f];exact e)
theorem Hg (C:A.handled=none) {J a tp:Addr}(q:a≠J) (vs:List Value):Walks prog w A J [J,a,tp] [J] vs.length (fun i v=>vs[i]?=some v) (fun i h=>Sww w h J a tp vs i) where
 sub:=fun b d=>by simp at d;simp [d]
 frame:=fun i h h' st l=>by
  obtain⟨o,x,ep,t,m,first,y,B,u,hsz,c,p,f,z⟩:=st
  exact⟨o,x,ep,t,m,first,l a (by simp) _ y,B,u,hsz,l J (by simp) _ c,p,f,z.at' fun o _ e=>l tp (by simp) o e⟩
 item:=fun i s Q E r st g=>Hd st q (d_ r) fun h' k n=>g _ h' s.toks (d_ r) k fun b o d e=>n b o (by simpa using d) e
 done:=fun s Q E st g=>Hf C st fun h' n=>g h' s.toks fun b o d e=>n b o (by simpa using d) e
 self:=fun i s Q E st g=>by
  obtain⟨o,x,ep,t,m,first,y,B,u,hsz,c,p,f,z⟩:=st
  have j:s.TypeIs (.ref J) "set_iterator":=⟨m,c,p⟩
  refine wpAny_pyIter_slot j wQ (XX wQ j yR ?_ (yQ _))
  show wpAny _ _ (ret (.ref J)) _ _ s
  exact k_ ⟨_,rfl,"set_iterator",_,j,st_next.lookup,g⟩
theorem iV {c:Type}:∀{l:List c}{i:Nat}(b:i<l.length),(l[i]::l.eraseIdx i).Perm l
 |x::l,0,_=>.refl _
 |x::l,i+1,b=>by
  have a:i<l.length:=by simpa using b
  show (l[i]::x::l.eraseIdx i).Perm (x::l)
  exact (List.Perm.swap _ _ _).trans ((iV a).cons _)
theorem uV {a:Source}{n:Nat}{Q:Nat->Shared->Prop}(b:n≠0) (h:∀i d,i<n->Q i { s with drawn:=d}):wpAny (model prog w) A (choose a n) Q E s:=fun c p hc=>by
 show Sem.wp _ c (.choose a n .pure) _ _ p s;rw[Sem.wp_choose];refine⟨b,?_⟩;rw[Sem.wp_pure];exact h _ _ (Nat.mod_lt _ (Nat.pos_of_ne_zero b))
theorem oF {c:Type}:∀(n:Nat) (xs:List c) (s:Shared) {Q:List c->Shared->Prop},xs.length=n->(∀a d,a.Perm xs->Q a { s with drawn:=d})->wpAny (model prog w) A (drawOrder n xs) Q E s
 |0,xs,s,Q,hl,h=>by
  rw[Xl hl] at h ⊢
  exact k_ (h [] s.drawn .nil)
 |n+1,[],_,_,hl,_=>by cases hl
 |n+1,x::xs,s,Q,hl,h=>by
  show wpAny _ _ (choose .order (x::xs).length >>= fun i=>match (x::xs)[i]? with
   |some y=>drawOrder n ((x::xs).eraseIdx i) >>= fun r=>pure (y::r)
   |none=>unsupported "internal:drawOrder") _ _ _
  refine b_ (uV (by simp) fun i d b=>?_)
  rw[d_ b]
  dsimp only
  refine b_ (oF n _ _ (by rw[Y4 b];omega) fun a d' e=>k_ (h _ d' ?_))
  exact (e.cons _).trans (iV b)
theorem wR {b:Type}(next:Nat->Nat):∀(f k:Nat) (left:List b) (out:Array b),left.length=f->(pickOrder.go next f k left out).toList.Perm (out.toList++left)
 |0,k,left,out,hl=>by
  rw[Xl hl,N_]
  exact .refl _
 |f+1,k,left,out,hl=>by
  have a:next k%left.length<left.length:=Nat.mod_lt _ (by omega)
  unfold pickOrder.go
  rw[d_ a]
  dsimp only
  refine (wR next f _ _ _ (by rw[Y4 a];omega)).trans ?_
  rw[XN,t_]
  exact (iV a).append_left _
end
open L2 PySem.W
section
variable {O:KeyOrd}{key:Nat->O.α}{n:Nat}
def Ky (O:KeyOrd) (a:Nat->O.α) (p:Array Nat) (i:Nat):O.α:=a (p.getD i 0)
def Up (O:KeyOrd) (a:Nat->O.α) (p:Array Nat) (k:Nat):Prop:=∀i j,i<=j->j<k->O.kle (Ky O a p i) (Ky O a p j)
def Dn (O:KeyOrd) (a:Nat->O.α) (p:Array Nat) (k:Nat):Prop:=∀i j,i<=j->j<k->O.kle (Ky O a p j) (Ky O a p i)
variable {A:Around}{s:Shared}
variable {X:Cx}{pins:List (Addr × Obj)}{σ:L2.St}{H:Hp}
variable {P:Program}{w:World}{R:Result->Shared->Prop}{I S:Addr}{fp wr:List Addr}{V:Nat->Value->Prop}{St:Nat->Heap->Prop}{bt:Nat->Nat->Bool}{s0:Shared}
def Kpt (h h':Heap):Prop:=∀b o,h.get? b=some o->h'.get? b=some o
end
theorem yS:bootBuiltins "sorted"=some (.builtin "sorted"):=by decide +kernel
section
variable {P:Program}{w:World}{A:Around}{E:Value->Shared->Prop}{s:Shared}{O:KeyOrd}{key:Nat->O.α}
end
open L2 PySem.W M
section
variable {X:Cx}{pins:List (Addr × Obj)}{σ:L2.St}{H:Hp}{s:Shared}
end
section
variable (O:KeyOrd)
variable {O}
end
section
variable {X:Cx}{pins:List (Addr × Obj)}{σ:L2.St}{H:Hp}{s:Shared}{H3:Hp3}{Q3:VK3}{Q:VK}
end
theorem Hh {h:Heap}{vs:List Value}{out:Array Value}:Kpt h (sortedHeap (h.push (seqObj "list" vs.toArray 0)) h.objs.size vs out)/\∃c,(sortedHeap (h.push (seqObj "list" vs.toArray 0)) h.objs.size vs out).get? h.objs.size=some (seqObj "list" out c):=by
 have a:(h.push (seqObj "list" vs.toArray 0)).get? h.objs.size=some (seqObj "list" vs.toArray 0):=C_ _ rfl;refine⟨fun b o e=>?_,?_⟩
 ·have d:b<h.objs.size:=E_ e;unfold sortedHeap;rw[W9 _ _ _ _ (Wh d)];refine e_ _ (e_ _ ?_);rw[W9 _ _ _ _ (Wh d)];exact e_ _ e
 unfold sortedHeap;exact⟨_,get?_update_seq (e_ _ (e_ _ (get?_update_seq a fun _=>#[]))) fun _=>out⟩
section
variable {P:Program}{w:World}{A:Around}{E:Value->Shared->Prop}{s:Shared}{O:KeyOrd}{key:Nat->O.α}
variable {X:Cx}{pins:List (Addr × Obj)}{σ:L2.St}{H:Hp}{H3:Hp3}{Q3:VK3}{Q:VK}
end
theorem wU:∀{vs:List Value},(∀v∈vs,∃n t,v=Value.int n t)->IntsAre vs (vs.map ivl)
 |[],_=>.nil
 |v::vs,h=>by
  obtain⟨n,t,rfl⟩:=h v (.head _)
  exact .cons n t (wU fun v a=>h v (.tail _ a))
def oG (vs:List Value) (a:List Int):Prop:=IntsAre vs (vs.map ivl)/\(vs.map ivl).Nodup/\(∀k,k∈vs.map ivl↔k∈a)/\vs.length<=a.length
theorem uW {prog:Program}{w:World}{a:Array (Int × Value)}{vs:List Value}{c:List Int}(b:ElemsOf (intKind prog w) a.toList) (j:(ivs a.toList).Nodup) (i:∀k,k∈ivs a.toList↔k∈c) (m:a.size<=c.length) (p:vs.Perm (a.toList.map (·.2))):oG vs c/\a.size=vs.length:=by
 have f:=p.map ivl;rw[WQ] at f;have d:(vs.map ivl).Perm (ivs a.toList):=f;have e:a.size=vs.length:=by rw[p.length_eq,g_,D_]
 refine⟨⟨wU fun v l=>?_,d.nodup_iff.mpr j,fun k=>by rw[d.mem_iff,i],by omega⟩,e⟩;obtain⟨x,g,rfl⟩:=x_.mp (p.mem_iff.mp l);obtain⟨⟨k,h,_⟩,_⟩:=b x g;obtain⟨t,e⟩:=Value.isInt_shape h;exact⟨k,t,e⟩
section
variable {prog:Program}{w:World}{A:Around}{E:Value->Shared->Prop}{s:Shared}
theorem CJ {a:Addr}{y:List Int}{Q:Value->Shared->Prop}(X:SI prog w s.heap a y) (Y:y.length<scanBound)
  (O:∀h' d J tp vs,Sww w h' J a tp vs 0->oG vs y->Kpt s.heap h'->s.heap.objs.size<=J->(tp=a\/s.heap.objs.size<=tp)->Q (.ref J) { s with heap:=h',drawn:=d}):wpAny (model prog w) A (pyIter (.ref a)) Q E s:=by
 obtain⟨o,f,ep,t,q,G,n,j,B,H,N,m,K⟩:=X;have P:s.TypeIs (.ref a) "set":=⟨o,q,G.1⟩;refine wpAny_pyIter_slot P PySem.F.slot_set_iter (XX PySem.F.slot_set_iter P uU ?_ (PySem.F.args_set_iter_1 _));unfold Builtin.«frozenset.__iter__» Builtin.Frozenset.slot0 slotArgs;simp only[List.isEmpty_nil,WX,H_,↓reduceIte,bind_assoc,Xn,bne_self_eq_false];unfold Builtin.Frozenset.addrOf Builtin.Frozenset.sizeOf;refine b_ (k_ (b_ (k_ (b_ (b_ (wpAny_setEntries_of q n m (k_ ?_)))))));unfold setDrawn;refine b_ (b_ (YS q n m ?_));dsimp only;unfold setsByText;refine b_ (b_ (Y_ (k_ (k_ ?_))));show wpAny _ _ (if (!sbt w&&dwn f t)=true then _ else _) _ _ _;have g:∀vs:List Value,oG vs y/\f.size=vs.length->Swy w s.heap s.heap.objs.size a a vs 0 f ep t (.int ((0:Nat):Int) 0)->wpAny (model prog w) A.in1 (setEpoch a >>= fun e=>newFields "set_iterator" [rawInt 0,rawInt 0,.ref a,rawInt f.size,rawInt e] >>= fun r=>ret r) (fun M s'=>∃v,M=Fin.done (Flow.ret v)/\∃S r,s'.TypeIs v S/\typeLookup (.type S) "__next__"=pure (some r)/\Q v s') E s:=by rintro vs ⟨l,hsz⟩ U;refine b_ (wpAny_setEpoch_of q n m ?_);unfold newFields;refine b_ (Xj (k_ ⟨_,rfl,"set_iterator",_,⟨_,C_ _ rfl,rfl⟩,st_next.lookup,?_⟩));refine O _ s.drawn _ a vs ⟨o,f,ep,t,_,_,e_ _ q,n,m,hsz,C_ _ rfl,rfl,by rw[<- hsz];rfl,U.at' fun o _ e=>e_ _ e⟩ l (fun b o e=>e_ _ e) (j_ _) (.inl rfl)
 by_cases c:(!sbt w&&dwn f t)=true
 ·rw[if_pos c];refine b_ (oF f.size (List.range f.size) s o_ fun x d C=>?_);have T:sizeLine=16777216:=rfl;have V:scanBound=4096:=rfl;have W:x.length=f.size:=by rw[C.length_eq,o_]
  refine b_ (wpAny_newTuple ?_ (by rw[g_];omega));have u:=e_ (h:=s.heap) { cls:=.type "tuple",data:=.seq (x.map fun (i:Nat)=>rawInt i).toArray} q;refine b_ (wpAny_setEpoch_of (s:={ s with heap:=_,drawn:=d}) u n m ?_);unfold newFields;refine b_ (Xj (k_ ⟨_,rfl,"set_iterator",_,⟨_,C_ _ rfl,rfl⟩,st_next.lookup,?_⟩));have pv:(x.map fun p=>((f[p]?).map fun e=>e.2).getD .none).Perm (f.toList.map (·.2)):=by
   refine (C.map _).trans (List.Perm.of_eq ?_);apply List.ext_getElem?;intro i;rw[J_,J_];by_cases l:i<f.size
   ·rw[XD l,Option.map_some,Wq,P_ l];rfl
   rw[Wf (by simpa using l),Wq,Yy (by omega)];rfl
  obtain⟨l,hsz⟩:=uW j B H N pv;have L:s.heap.objs.size≠(s.heap.push { cls:=.type "tuple",data:=.seq (x.map fun (i:Nat)=>rawInt i).toArray}).objs.size:=by rw[XM];omega
  refine O _ d _ s.heap.objs.size _ ⟨o,f,ep,t,_,_,e_ _ u,n,m,hsz,C_ _ rfl,rfl,by rw[<- hsz];rfl,.inr (.inr ⟨x,rfl,L,⟨_,e_ _ (C_ _ rfl),rfl,_,rfl⟩,by rw[g_],fun k p R=>?_⟩)⟩ l (fun b o e=>e_ _ (e_ _ e)) (by show s.heap.objs.size<=(s.heap.push _).objs.size;rw[XM];exact Nat.le_succ _) (.inr (j_ _));rw[J_,R,Option.map_some];have I:p<f.size:=by have:=C.mem_iff.mp (Xp R);exact O_.mp this
  rw[P_ I];rfl
 rw[if_neg c];refine b_ (k_ ?_);cases z:sbt w with
 |true=>refine g _ (uW j B H N ?_) (.inl ⟨0,rfl,z,rfl⟩);exact (wR (w.params.setOrder a ep) f.size 0 f.toList #[] (by simp)).map _
 |false =>
  have D:dwn f t=false:=by
   rw[z] at c
   cases e:dwn f t with
   |false=>rfl
   |true=>rw[e] at c;exact absurd rfl c
  refine g _ (uW j B H N (.refl _)) (.inr (.inl ⟨0,rfl,z,D,?_,K.2.2,Ha K.2.2,rfl⟩))
  rw[K.1]
  show (!sbt w)=true
  rw[z]
  rfl
variable {X:Cx}{tg e:Expr}
variable {σ:St3}{H:Hp3}
end
section
variable {X:Cx}{pins:List (Addr × Obj)}{σ:L2.St}{H:Hp}{s:Shared}{H3:Hp3}{Q3:VK3}{Q:VK}
theorem CK {a:List Value}{ns:List Int}(h:IntsAre a ns):a.length=ns.length:=by
 induction h with
 |nil=>rfl
 |cons x t _ b=>rw[i_,i_,b]
variable {prog:Program}{w:World}{A:Around}{E:Value->Shared->Prop}
theorem CN {r:Addr}{Q:Bool->Shared->Prop}(c:s.TypeIs (.ref r) "set") (h:Q false s):wpAny (model prog w) A (Builtin.List.listLengthHint (.ref r)) Q E s:=by
 unfold Builtin.List.listLengthHint;refine b_ (wpAny_specialOf c PySem.F.slot_set_len.lookup ?_);generalize a:("set.__len__":String)=d
 wp_delta
 rw[show splitId d=some ("set","__len__") from by subst a;decide +kernel];subst a;refine b_ (wpAny_isInstance (T:="set") (b:=true) c (by rw[Zm];kernel_rfl) ?_);refine wpAny_ite_split (fun z=>absurd z (by decide)) fun _=>?_;refine wpAny_ite_split (fun _=>?_) fun z=>absurd (by decide +kernel) z;exact b_ (wpAny_typeOf c (k_ h))
theorem Hi {a S:Addr}{E:List Int}{R:Result->Shared->Prop}{res:Value}(hh:A.handled=none) (L:SI prog w s.heap a E) (hr:E.length<scanBound) (D:S≠a) (y:s.heap.get? S=some (seqObj "list" #[] 0))
  (hR:∀h' tk d vs c,(∀b o,b≠S->s.heap.get? b=some o->h'.get? b=some o)->h'.get? S=some (seqObj "list" vs.toArray c)->oG vs E->R (.ok (.ret res)) { s with heap:=h',toks:=tk,drawn:=d}) :
  wpAny (model prog w) A.in1 (Builtin.List.listExtendWith (.ref S) (.ref a) res) (fun N s'=>match N with
   |.done f=>R (.ok f) s'
   |.again B=>B.quiet=true/\codeAny (model prog w) A B R s') (fun e s'=>R (.error e) s') s:=by
 have U:∀h':Heap,Kpt s.heap h'->∀d,Shared.TypeIs { s with heap:=h',drawn:=d} (.ref a) "set":=fun h' k d=>by
  obtain⟨o,es,ep,t,K,G,r⟩:=id L
  exact⟨o,k _ _ K,G.1⟩
 have Z:sizeLine=16777216:=rfl
 have hsb:scanBound=4096:=rfl
 have V:S<s.heap.objs.size:=E_ y
 unfold Builtin.List.listExtendWith
 refine b_ (wpAny_typeOf (T:="set") (U s.heap (fun _ _ e=>e) s.drawn) ?_)
 have e1:Builtin.List.listSameRef (.ref S) (.ref a)=false:=by simp [Builtin.List.listSameRef,D]
 have e2:(Value.type "set"==Value.type "list")=false:=by decide
 have e3:(Value.type "set"==Value.type "tuple")=false:=by decide
 simp only[e1,e2,e3,Bool.or_false,H_,Wl]
 refine b_ (CJ L hr fun H d J tp vs st m l I M=>?_)
 have O:a≠J:=by
  obtain⟨o,es,ep,t,K,r⟩:=L
  exact Wh (R_ (E_ K) I)
 have W:=Hg (prog:=prog) (w:=w) (A:=A.in1) hh (J:=J) (a:=a) (tp:=tp) O vs
 have Y:S∉[J,a,tp]:=fun z=>by
  simp only[n_,W8,Zd] at z
  rcases z with z | z | z
  ·
   exact Wh (R_ V I) z
  ·
   exact D z
  ·
   rcases M with q | q
   ·
    exact D (z.trans q)
   ·
    exact Wh (R_ V q) z
 have x:∀(h:Heap) (c tk:Nat),Sww w h J a tp vs 0->(∀b o,b≠S->s.heap.get? b=some o->h.get? b=some o)->h.get? S=some (seqObj "list" #[] c)->codeAny (model prog w) A (.builtin "list.extend.loop" ⟨[.ref S,.ref J,res],[]⟩) R { s with heap:=h,toks:=tk,drawn:=d}:=by
  intro h c tk st l y
  refine codeAny_extend_loopS W.toS (by have:=m.2.2.2;omega) S Y res vs.length 0 _ #[] c rfl (Xa _) st y (ItemsOf.nil _) fun s' v B Q u P=>?_
  rw[Moved.eq_with Q]
  have ev:v=vs.toArray:=by
   apply Array.ext_getElem?
   intro i
   by_cases X:i<v.size
   ·
    have:=P.2 i _ (P_ X)
    rw[P_ X,YK,this]
   ·
    rw[Yy (by omega),YK,Wf (by have:=P.1;omega)]
  rw[ev] at u
  refine hR s'.heap s'.toks d vs B (fun b o g e=>Q.heap b o (fun z=>?_) (l b o g e)) u m
  rcases n_.mp z with z | z
  ·
   exact g z
  ·
   exact Wh (R_ (E_ e) I) (h_.mp z)
 refine b_ (Xu (CN (U H l d) ?_))
 have j:=l _ _ y
 refine wpAny_ite_split (fun _=>?_) fun _=>k_ ⟨Zy PySem.F.plain_extend_loop _,x _ 0 _ st (fun b o _ e=>l b o e) j⟩
 refine b_ (Y0 (b_ ?_))
 show wpAny _ _ (updateSeq S (·.push .none) >>= fun _=>updateSeq S (·.pop)) _ _ _
 refine b_ (wpAny_updateSeq j rfl ?_)
 have p:=XH (Obj.mapSeq (·.push Value.none)) j rfl
 refine wpAny_updateSeq (hz:=by seq_fits) p rfl ?_
 have C:=XH (Obj.mapSeq (·.pop)) p rfl
 have n:∀b o,b≠S->H.get? b=some o->((H.update S (Obj.mapSeq (·.push Value.none))).update S (Obj.mapSeq (·.pop))).get? b=some o:=fun b o g e=>(Xv _ _ (Ne.symm g)).trans ((Xv _ _ (Ne.symm g)).trans e)
 exact k_ ⟨Zy PySem.F.plain_extend_loop _,x _ _ _ (W.frame 0 _ _ st fun b g o e=>n b o (fun z=>Y (z▸g)) e) (fun b o g e=>n b o g (l b o e)) C⟩
theorem rH {a:Addr}{l:List Int}{Q:List Value->Shared->Prop}(D:A.handled=none) (u:SI prog w s.heap a l) (F:l.length<scanBound)
  (h:∀h' tk d vs,Kpt s.heap h'->s.heap.objs.size<h'.objs.size->oG vs l->Q vs { s with heap:=h',toks:=tk,drawn:=d}):wpAny (model prog w) A (collect (.ref a)) Q E s:=by
 have B:a<s.heap.objs.size:=by obtain⟨o,H,ep,t,z,r⟩:=u;exact E_ z
 unfold collect;refine b_ (wpAny_runValue (YC entry_proto_collect' ?_));refine b_ (m:=newList []) (wpAny_newList (k_ ⟨Code.quiet_builtin _ (by decide +kernel),YC entry_list_iadd' ?_⟩))
 let st:Shared:={ s with heap:=s.heap.push (seqObj "list" #[] 0)}
 let G:Result->Shared->Prop:=fun q t=>∃h' tk d vs c,q=.ok (.ret (.ref s.heap.objs.size))/\t={ s with heap:=h',toks:=tk,drawn:=d}/\Kpt s.heap h'/\h'.get? s.heap.objs.size=some (seqObj "list" vs.toArray c)/\oG vs l
 have n:=Hi (A:=A) (s:=st) (R:=G) (res:=.ref s.heap.objs.size) (S:=s.heap.objs.size) D (u.at' fun o e=>e_ _ e) F (Nat.ne_of_gt B) (C_ _ rfl) (fun h' tk d vs c v g i=>⟨h',tk,d,vs,c,rfl,rfl,fun b o e=>v b o (Wh (E_ e)) (e_ _ e),g,i⟩);have j:∀q t,G q t->∃h' tk d vs c,q=.ok (.ret (.ref s.heap.objs.size))/\h'.get? s.heap.objs.size=some (seqObj "list" vs.toArray c)/\t={ s with heap:=h',toks:=tk,drawn:=d}/\Q vs t:=by rintro q t ⟨h',tk,d,vs,c,k,rfl,C,g,i⟩;exact⟨h',tk,d,vs,c,k,g,rfl,h h' tk d vs C (E_ g) i⟩
 refine W_ (A:=A.in1) n (fun f t x=>?_) fun e t x=>?_
 ·cases f with
  |done f=>obtain⟨h',tk,d,vs,c,k,g,rfl,p⟩:=j _ _ x;cases k;exact b_ (m:=load s.heap.objs.size) (wpAny_load g (k_ p))
  |again I =>
  refine⟨x.1,Y7 x.2 fun q t y=>?_⟩;obtain⟨h',tk,d,vs,c,rfl,g,rfl,p⟩:=j _ _ y;exact b_ (m:=load s.heap.objs.size) (wpAny_load g (k_ p))
 obtain⟨_,_,_,_,_,k,_⟩:=j _ _ x;cases k
end
abbrev kdO (st:SortSt):SortKind:=PyProof.Rows.kindOf st
def gal:Bool->Keyed->Array Keyed->Nat->Nat->Nat->StateT SortSt Sem (Option Nat):=sortPriv% PySem.Builtin.gallop
def Hj (b:Nat->StateT SortSt Sem (Option Bool)) (n c a:Nat):StateT SortSt Sem (Option Nat):=do
 let mut lo:=c
 let mut hi:=a
 for _ in [0:n] do
  if lo ≥ hi then break
  let m:=lo+(hi - lo) / 2
  let some mr <- b m | return none
  if mr then lo:=m+1 else hi:=m
 return some hi
def uX (c:Bool) (a:Keyed) (xs:Array Keyed) (b i:Nat):StateT SortSt Sem (Option Bool):=do
 let x <- elem' xs (b+i)
 if c then lt' x a else return (<- lt' a x).map (!·)
theorem Ol (c:Bool) (d:Keyed) (xs:Array Keyed) (b n a:Nat):gal c d xs b n a=(do
 let mut la:=0
 let mut of:=1
 let some rt <- uX c d xs b a | return none
 if rt then
  let e:=n - a
  for _ in [0:n] do
   if of ≥ e then break
   let some mr <- uX c d xs b (a+of) | return none
   if !mr then break
   la:=of
   of:=2*of+1
  Hj (uX c d xs b) n (a+la+1) (a+min of e)
 else
  let e:=a+1
  for _ in [0:n] do
   if of ≥ e then break
   let some fd <- uX c d xs b (a - of) | return none
   if fd then break
   la:=of
   of:=2*of+1
  Hj (uX c d xs b) n (a+1 - min of e) (a - la)):=rfl
section
variable {prog:Program}{w:World}{A:Around}{E:Value->Shared->Prop}{s:Shared}
def Iny (x:Keyed):Prop:=∃n t,x.1=.int n t
def nu (x:Keyed):Int:=numOf x.1
theorem lG {st:SortSt}{x y:Keyed}{Q:Option Bool->SortSt->Prop}(f:kdO st=oneType') (e:Iny x) (g:Iny y) (h:Q (some (decide (nu x<nu y))) st):wpS (model prog w) A E s (lt' x y) Q st:=by
 obtain⟨a,t,c⟩:=e;obtain⟨b,u,d⟩:=g;rw[lt'_eq];refine v_ (wpS_get ?_);rw[show PyProof.Rows.kindOf st=oneType' from f,c,d,keyLt'_oneType];refine v_ (wpS_lift (wpAny_attempt ?_));refine oneLt_int ?_;unfold nu at h;rw[c,d] at h;exact⟨rfl,I_ h⟩
theorem bx {st:SortSt}{xs:Array Keyed}{i:Nat}{Q:Keyed->SortSt->Prop}(a:i<xs.size) (h:Q xs[i] st):wpS (model prog w) A E s (elem' xs i) Q st:=by
 rw[elem'_eq,P_ a];exact I_ h
def Cut (B:Nat->Bool) (n k:Nat):Prop:=k<=n/\(∀i,i<k->B i=true)/\∀i,k<=i->i<n->B i=false
theorem rJ {st:SortSt}{f:Nat->StateT SortSt Sem (Option Bool)}{B:Nat->Bool}{n:Nat}{Q:Option Nat->SortSt->Prop}(F:∀i (Q:Option Bool->SortSt->Prop),i<n->Q (some (B i)) st->wpS (model prog w) A E s (f i) Q st) (d:∀i j,i<=j->j<n->B j=true->B i=true)
  (h:∀k,Cut B n k->Q (some k) st) {m b:Nat} (C:m<=b) (z:b<=n) (t:∀i,i<m->B i=true) (y:∀i,b<=i->i<n->B i=false):wpS (model prog w) A E s (Hj f n m b) Q st:=by
 unfold Hj;refine v_ (Yt (W4 (I:=fun x c a=>a=st/\∃l r,c=(none,l,r)/\l<=r/\r<=n/\r - l<=n - x/\(∀i,i<l->B i=true)/\∀i,r<=i->i<n->B i=false)
  (Q:=fun c a=>a=st/\∃k,c=(none,k,k)/\Cut B n k) ?_ ?_ ⟨rfl,m,b,rfl,C,z,by omega,t,y⟩) ?_)
 ·rintro x c a _ H ⟨rfl,l,r,rfl,q,p,u,g,o⟩;dsimp only;by_cases c:l ≥ r
  ·rw[if_pos c];exact I_ ⟨rfl,r,by rw[show l=r by omega],p,fun i b=>g i (by omega),o⟩
  rw[if_neg c];refine v_ (F _ _ (by omega) ?_);dsimp only;cases e:B (l+(r - l) / 2) with
  |true=>rw[if_pos rfl];exact I_ ⟨rfl,_,r,rfl,by omega,p,by omega,fun i b=>d i _ (by omega) (by omega) e,o⟩
  |false =>
  rw[if_neg m_];refine I_ ⟨rfl,l,_,rfl,by omega,by omega,by omega,g,fun i b D=>?_⟩;cases v:B i with
  |false=>rfl
  |true=>rw[d _ i b D v] at e;cases e
 ·rintro c a ⟨rfl,l,r,rfl,q,p,u,g,o⟩;exact⟨rfl,r,by rw[show l=r by omega],p,fun i b=>g i (by omega),o⟩
 rintro c a ⟨rfl,k,rfl,G⟩;exact I_ (h k G)
theorem wV {st:SortSt}{v:Bool}{u:Keyed}{xs:Array Keyed}{b n d:Nat}{Q:Option Nat->SortSt->Prop}(H:kdO st=oneType') (y:∀i (h:i<xs.size),Iny xs[i]) (K:Iny u) (R:b+n<=xs.size) (P:d<n) (B:Nat->Bool) (L:∀i (h:b+i<xs.size),B i=if v=true then decide (nu xs[b+i]<nu u) else !decide (nu u<nu xs[b+i])) (f:∀i j,i<=j->j<n->B j=true->B i=true)
  (h:∀k,Cut B n k->Q (some k) st):wpS (model prog w) A E s (gal v u xs b n d) Q st:=by
 rw[Ol];have r:∀i (Q:Option Bool->SortSt->Prop),i<n->Q (some (B i)) st->wpS (model prog w) A E s (uX v u xs b i) Q st:=by
  intro i Q C q;have t:b+i<xs.size:=by omega
  unfold uX;refine v_ (bx t ?_);rw[L i t] at q;cases v with
  |true=>rw[if_pos rfl] at q ⊢;exact lG H (y _ _) K q
  |false =>
  rw[if_neg m_] at q ⊢;exact v_ (lG H K (y _ _) (I_ q))
 have fls:∀i j,i<=j->j<n->B i=false->B j=false:=fun i j O N e=>by
  cases M:B j with
  |false=>rfl
  |true=>rw[f i j O N M] at e;cases e
 refine v_ (r _ _ P ?_);dsimp only;cases J:B d with
 |true =>
  rw[if_pos rfl];refine v_ (Yt (W4 (I:=fun x c a=>a=st/\∃l o,c=(none,l,o)/\l<n - d/\l<o/\x+1<=o/\B (d+l)=true)
   (Q:=fun c a=>a=st/\∃l o,c=(none,l,o)/\l<n - d/\l<o/\B (d+l)=true/\(o<n - d->B (d+o)=false)) ?_ ?_ ⟨rfl,0,1,rfl,by omega,by omega,by omega,J⟩) ?_)
  ·rintro x c a _ y ⟨rfl,l,o,rfl,m,p,D,g⟩;dsimp only;by_cases c:o ≥ n - d
   ·rw[if_pos c];exact I_ ⟨rfl,l,o,rfl,m,p,g,fun z=>absurd z (by omega)⟩
   rw[if_neg c];refine v_ (r _ _ (by omega) ?_);dsimp only;cases e:B (d+o) with
   |false=>rw[if_pos (by decide)];exact I_ ⟨rfl,l,o,rfl,m,p,g,fun _=>e⟩
   |true =>
   rw[if_neg (by decide)];exact I_ ⟨rfl,o,_,rfl,by omega,by omega,by omega,e⟩
  ·rintro c a ⟨rfl,l,o,rfl,m,p,D,g⟩;exact⟨rfl,l,o,rfl,m,p,g,fun z=>absurd z (by omega)⟩
  rintro c a ⟨rfl,l,o,rfl,m,p,g,G⟩;dsimp only;refine rJ r f h (by omega) (by omega) (fun i C=>f i _ (by omega) (by omega) g) fun i C F=>?_;exact fls (d+o) i (by omega) F (G (by omega))
 |false =>
 rw[if_neg m_];refine v_ (Yt (W4 (I:=fun x c a=>a=st/\∃l o,c=(none,l,o)/\l<d+1/\l<o/\x+1<=o/\B (d - l)=false)
  (Q:=fun c a=>a=st/\∃l o,c=(none,l,o)/\l<d+1/\l<o/\B (d - l)=false/\(o<d+1->B (d - o)=true)) ?_ ?_ ⟨rfl,0,1,rfl,by omega,by omega,by omega,J⟩) ?_)
 ·rintro x c a _ y ⟨rfl,l,o,rfl,m,p,D,g⟩;dsimp only;by_cases c:o ≥ d+1
  ·rw[if_pos c];exact I_ ⟨rfl,l,o,rfl,m,p,g,fun z=>absurd z (by omega)⟩
  rw[if_neg c];refine v_ (r _ _ (by omega) ?_);dsimp only;cases e:B (d - o) with
  |true=>rw[if_pos rfl];exact I_ ⟨rfl,l,o,rfl,m,p,g,fun _=>e⟩
  |false =>
  rw[if_neg m_];exact I_ ⟨rfl,o,_,rfl,by omega,by omega,by omega,e⟩
 ·rintro c a ⟨rfl,l,o,rfl,m,p,D,g⟩;exact⟨rfl,l,o,rfl,m,p,g,fun z=>absurd z (by omega)⟩
 rintro c a ⟨rfl,l,o,rfl,m,p,g,G⟩;dsimp only;refine rJ r f h (by omega) (by omega) (fun i C=>?_) fun i C F=>fls _ i (by omega) F g;by_cases z:o<d+1
 ·exact f i (d - o) (by omega) (by omega) (G z)
 omega
end
def mlo:Array Keyed->Array Keyed->StateT SortSt Sem (Array Keyed):=sortPriv% PySem.Builtin.mergeLo
def CP (g:Nat):StateT SortSt Sem Unit:=(sortPriv% PySem.Builtin.setMinGallop) g
abbrev LS:=Option (Array Keyed) × Array Keyed × Nat × Nat × Nat × Nat
abbrev LG:=Option (Array Keyed) × Array Keyed × Nat × Nat × Nat × Nat × Nat
abbrev LO:=Option (Array Keyed) × Array Keyed × Nat × Nat × Nat
section
variable (a b:Array Keyed)
def dnL (o:Array Keyed) (i j:Nat):Array Keyed:=o++a.extract i a.size++b.extract j b.size
def laL (o:Array Keyed) (i j:Nat):Array Keyed:=o++b.extract j b.size++a.extract i a.size
def stL (e:Nat) (o:Array Keyed) (i j c d:Nat):StateT SortSt Sem (ForInStep LS):=do
 let y <- elem' b j
 let x <- elem' a i
 match <- lt' y x with
 |some bw =>
  if bw then do
   let y <- elem' b j
   if j+1==b.size then pure (.done (some (dnL a b (o.push y) i (j+1)),o.push y,i,j+1,0,d+1))
   else if d+1 ≥ e then pure (.done (none,o.push y,i,j+1,0,d+1)) else pure (.yield (none,o.push y,i,j+1,0,d+1))
  else do
   let x <- elem' a i
   if i+1+1==a.size then pure (.done (some (laL a b (o.push x) (i+1) j),o.push x,i+1,j,c+1,0))
   else if c+1 ≥ e then pure (.done (none,o.push x,i+1,j,c+1,0)) else pure (.yield (none,o.push x,i+1,j,c+1,0))
 |_=>pure (.done (some (dnL a b o i j),o,i,j,c,d))
def enL (o:Array Keyed) (i j d k c:Nat):StateT SortSt Sem (ForInStep LG):=do
 let x <- elem' a i
 if i+1+1==a.size then pure (.done (some (laL a b (o.push x) (i+1) j),o.push x,i+1,j,d,k,c))
 else if decide (k<7)&&decide (c<7) then pure (.done (none,o.push x,i+1,j,d,k,c)) else pure (.yield (none,o.push x,i+1,j,d,k,c))
def hfL (o:Array Keyed) (i j d k e:Nat):StateT SortSt Sem (ForInStep LG):=do
 let y <- elem' b j
 if j+1==b.size then pure (.done (some (dnL a b (o.push y) i (j+1)),o.push y,i,j+1,d,k,e))
 else do
  let x <- elem' a i
  match <- gal true x b (j+1) (b.size - (j+1)) 0 with
  |some c =>
   if c>0 then
    if j+1+c==b.size then pure (.done (some (dnL a b (o.push y++b.extract (j+1) (j+1+c)) i (j+1+c)),o.push y++b.extract (j+1) (j+1+c),i,j+1+c,d,k,c))
    else enL a b (o.push y++b.extract (j+1) (j+1+c)) i (j+1+c) d k c
   else enL a b (o.push y) i (j+1) d k c
  |_=>pure (.done (some (dnL a b (o.push y) i (j+1)),o.push y,i,j+1,d,k,e))
def gaL (o:Array Keyed) (i j c e d:Nat):StateT SortSt Sem (ForInStep LG):=do
 CP c
 let y <- elem' b j
 match <- gal false y a i (a.size - i) 0 with
 |some k =>
  if k>0 then
   if i+k+1==a.size then pure (.done (some (laL a b (o++a.extract i (i+k)) (i+k) j),o++a.extract i (i+k),i+k,j,c,k,d))
   else if i+k==a.size then pure (.done (some (dnL a b (o++a.extract i (i+k)) (i+k) j),o++a.extract i (i+k),i+k,j,c,k,d))
   else hfL a b (o++a.extract i (i+k)) (i+k) j c k d
  else hfL a b o i j c k d
 |_=>pure (.done (some (dnL a b o i j),o,i,j,c,e,d))
def ouL (c:LO):StateT SortSt Sem (ForInStep LO):=do
 let r <- forIn [0:a.size+b.size] ((none,c.2.1,c.2.2.1,c.2.2.2.1,0,0):LS) fun _ r=>stL a b c.2.2.2.2 r.2.1 r.2.2.1 r.2.2.2.1 r.2.2.2.2.1 r.2.2.2.2.2
 match r.1 with
 |some z=>pure (.done (some z,r.2.1,r.2.2.1,r.2.2.2.1,c.2.2.2.2))
 |none=>do
  rule "list.sort.gallop"
  let q <- forIn [0:a.size+b.size] ((none,r.2.1,r.2.2.1,r.2.2.2.1,c.2.2.2.2+1,r.2.2.2.2.1,r.2.2.2.2.2):LG) fun _ q =>
   if q.2.2.2.2.1>1 then gaL a b q.2.1 q.2.2.1 q.2.2.2.1 (q.2.2.2.2.1 - 1) q.2.2.2.2.2.1 q.2.2.2.2.2.2 else gaL a b q.2.1 q.2.2.1 q.2.2.2.1 q.2.2.2.2.1 q.2.2.2.2.2.1 q.2.2.2.2.2.2
  match q.1 with
  |some z=>pure (.done (some z,q.2.1,q.2.2.1,q.2.2.2.1,q.2.2.2.2.1))
  |none=>do
   CP (q.2.2.2.2.1+1)
   pure (.yield (none,q.2.1,q.2.2.1,q.2.2.2.1,q.2.2.2.2.1+1))
theorem aL {b c:Type}{x y:StateT SortSt Sem b}{f g:b->StateT SortSt Sem c}(h:x=y) (k:∀a,f a=g a):x >>= f=y >>= g:=by rw[h];exact bind_congr k
theorem Om:mlo a b=(do
 rule "list.sort.merge-lo"
 let y <- elem' b 0
 if 1==b.size then pure (dnL a b #[y] 0 1)
 else if 0+1==a.size then pure (laL a b #[y] 0 1)
 else do
  let g <- get
  let c <- forIn [0:a.size+b.size] ((none,#[y],0,1,gallopOf g):LO) fun _ c=>ouL a b c
  match c.1 with
  |some z=>pure z
  |none=>unsupported "internal:list.sort.merge-bound"):=by
 refine aL rfl fun _=>aL rfl fun y=>?_
 refine U_ (fun z=>ite ((1==b.size)=true) (pure (dnL a b #[y] 0 1)) z) ?_
 refine U_ (fun z=>ite ((0+1==a.size)=true) (pure (laL a b #[y] 0 1)) z) ?_
 refine aL rfl fun g=>aL (U_ (fun f=>forIn [0:a.size+b.size] ((none,#[y],0,1,gallopOf g):LO) f) ?_) ?_
 ·
  funext x c
  refine aL rfl fun r=>?_
  cases e:r.1 with
  |some z=>rfl
  |none=>exact aL rfl fun _=>aL rfl fun q=>by cases q.1 <;> rfl
 ·
  intro c
  cases c.1 <;> rfl
end
def SL (l:List Keyed):Prop:=l.Pairwise fun x y=>nu x<=nu y
structure MI (O X Y T:List Keyed):Prop where
 x:SL (O++X)
 y:SL (O++Y)
 p:(O++X++Y).Perm T
theorem MI.symm {O X Y T:List Keyed}(h:MI O X Y T):MI O Y X T:=⟨h.y,h.x,by
 refine List.Perm.trans ?_ h.p
 rw[t_,t_]
 exact YL.append_left _⟩
theorem MI.mv {O P X Y T:List Keyed}(h:MI O (P++X) Y T) (f:∀p∈P,∀y∈Y,nu p<=nu y):MI (O++P) X Y T:=by
 obtain⟨c,b,e⟩:=h;refine⟨by rw[t_];exact c,?_,by rw[<- t_] at e;exact e⟩;unfold SL at *;rw[<- t_,Xb] at c;rw[Xb] at b ⊢;refine⟨c.1,b.2.1,fun p a y d=>?_⟩;rcases u_.mp a with z | z
 ·exact b.2.2 p z y d
 exact f p z y d
theorem MI.le {O X Y T:List Keyed}{x:Keyed}(h:MI O (x::X) Y T):∀z∈x::X,nu x<=nu z:=by
 have:=(Xb.mp h.x).2.1;intro z hz;rcases n_.mp hz with rfl | hz
 ·exact WT _
 exact (Zg.mp this).1 z hz
def fj (a b r:Array Keyed):Prop:=SL r.toList/\r.toList.Perm (a.toList++b.toList)
def SSt (st a:SortSt):Prop:=kdO a=kdO st/\arrOf a=arrOf st/\pendingOf a=pendingOf st/\failedOf a=failedOf st
section
variable {prog:Program}{w:World}{A:Around}{E:Value->Shared->Prop}{s:Shared}{a b:Array Keyed}
theorem jG (xs:Array Keyed) (i:Nat):(xs.extract i xs.size).toList=xs.toList.drop i:=by
 simp only[Array.toList_extract,X8];exact WM (by simp)
theorem CQ (xs:Array Keyed) (i k:Nat):(xs.extract i (i+k)).toList=(xs.toList.drop i).take k:=by
 simp [X8]
structure LiL (a b o:Array Keyed) (i j:Nat):Prop where
 hi:i+1<a.size
 hj:j<b.size
 hn:o.size=i+j
 hm:MI o.toList (a.toList.drop i) (b.toList.drop j) (a.toList++b.toList)
structure TwL (a b:Array Keyed):Prop where
 a1:1<=a.size
 b1:1<=b.size
 ia:∀i (h:i<a.size),Iny a[i]
 ib:∀i (h:i<b.size),Iny b[i]
 sa:SL a.toList
 sb:SL b.toList
 hd:∀x∈a.toList,∀(h:0<b.size),nu b[0]<=nu x
 tl:∀y∈b.toList,∀(h:a.size - 1<a.size),nu y<=nu a[a.size - 1]
theorem ik {xs:Array Keyed}{i:Nat}(h:i<xs.size):xs.toList.drop i=xs[i]::xs.toList.drop (i+1):=by
 rw[W0 (by simpa using h),WN]
theorem wW {o:Array Keyed}{i j:Nat}(h:MI o.toList (a.toList.drop i) (b.toList.drop j) (a.toList++b.toList)) (c:j=b.size):fj a b (dnL a b o i j):=by
 have e:(dnL a b o i j).toList=o.toList++a.toList.drop i++b.toList.drop j:=by unfold dnL;rw[Wu,Wu,jG,jG]
 refine⟨?_,by rw[e];exact h.p⟩;rw[e,W3 (l:=b.toList) (by simp;omega),N_];exact h.x
theorem Tu {o:Array Keyed}{i j:Nat}(h:MI o.toList (a.toList.drop i) (b.toList.drop j) (a.toList++b.toList)) (c:i=a.size):fj a b (dnL a b o i j):=by
 have e:(dnL a b o i j).toList=o.toList++a.toList.drop i++b.toList.drop j:=by unfold dnL;rw[Wu,Wu,jG,jG]
 refine⟨?_,by rw[e];exact h.p⟩;rw[e,W3 (l:=a.toList) (by simp;omega),N_];exact h.y
theorem wX (t:TwL a b) {o:Array Keyed}{i j:Nat}(h:MI o.toList (a.toList.drop i) (b.toList.drop j) (a.toList++b.toList)) (g:i+1=a.size):fj a b (laL a b o i j):=by
 have e:(laL a b o i j).toList=o.toList++b.toList.drop j++a.toList.drop i:=by unfold laL;rw[Wu,Wu,jG,jG]
 refine⟨?_,by rw[e];exact h.symm.p⟩;have c:=h.x;have f:a.toList.drop i=[a[i]'(by omega)]:=by rw[ik (by omega),W3 (by simp;omega)]
 rw[e,f];rw[f] at c;unfold SL at *;rw[Xb] at c ⊢;refine⟨h.y,by simp,fun z hz u d=>?_⟩;rcases u_.mp hz with q | q
 ·exact c.2.2 z q u d
 rw[h_.mp d];have:=t.tl z (List.mem_of_mem_drop q) (by omega);simpa only[show a.size - 1=i by omega] using this
theorem LiL.pushB {o:Array Keyed}{i j:Nat}(h:LiL a b o i j) (c:∀x∈a.toList.drop i,nu (b[j]'h.hj)<=nu x):MI (o.push (b[j]'h.hj)).toList (a.toList.drop i) (b.toList.drop (j+1)) (a.toList++b.toList):=by
 have m:=h.hm.symm;rw[ik h.hj] at m;rw[XN];exact (MI.mv (P:=[b[j]'h.hj]) m fun p e y d=>by rw[h_.mp e];exact c y d).symm
theorem LiL.pushA {o:Array Keyed}{i j:Nat}(h:LiL a b o i j) (c:∀y∈b.toList.drop j,nu (a[i]'(Zr h.hi))<=nu y):MI (o.push (a[i]'(Zr h.hi))).toList (a.toList.drop (i+1)) (b.toList.drop j) (a.toList++b.toList):=by
 have m:=h.hm;rw[ik (Zr h.hi)] at m;rw[XN];exact MI.mv (P:=[a[i]'_]) m fun p e y d=>by rw[h_.mp e];exact c y d
theorem Hk (t:TwL a b) {st:SortSt}{v:Nat}{o:Array Keyed}{i j k r:Nat}{Q:ForInStep LS->SortSt->Prop}(u:kdO st=oneType') (h:LiL a b o i j)
  (p:∀z c,fj a b z->Q (.done (some z,c)) st) (l:∀o' i' j' c,LiL a b o' i' j'->o'.size=o.size+1->Q (.done (none,o',i',j',c)) st/\Q (.yield (none,o',i',j',c)) st):wpS (model prog w) A E s (stL a b v o i j k r) Q st:=by
 have g:=Zr h.hi;unfold stL;refine v_ (bx h.hj (v_ (bx g (v_ (lG u (t.ib _ _) (t.ia _ _) ?_)))));dsimp only;by_cases c:nu (b[j]'h.hj)<nu a[i]
 ·rw[if_pos (F_ c)];refine v_ (bx h.hj ?_);have m:=h.pushB fun x n=>by have d:=h.hm;rw[ik g] at d n;exact WK (WP c) (d.le x n)
  by_cases e:j+1=b.size
  ·rw[if_pos (by simp [e])];exact I_ (p _ _ (wW m e))
  rw[if_neg (by simp [e])];have f:=l (o.push (b[j]'h.hj)) i (j+1) (0,r+1) ⟨h.hi,by have:=h.hj;omega,by rw[Wm,h.hn];omega,m⟩ (Wm _);split
  ·exact I_ f.1
  exact I_ f.2
 rw[if_neg (Bq c)];refine v_ (bx g ?_);have m:=h.pushA fun y q=>by have d:=h.hm.symm;rw[ik h.hj] at d q;exact WK (Int.not_lt.mp c) (d.le y q)
 by_cases e:i+1+1=a.size
 ·rw[if_pos (by simp [e])];exact I_ (p _ _ (wX t m e))
 rw[if_neg (by simp [e])];have f:=l (o.push a[i]) (i+1) j (k+1,0) ⟨by have:=h.hi;omega,h.hj,by rw[Wm,h.hn];omega,m⟩ (Wm _);split
 ·exact I_ f.1
 exact I_ f.2
theorem SSt.refl {st:SortSt}:SSt st st:=⟨rfl,rfl,rfl,rfl⟩
theorem SSt.trans {st a b:SortSt}(h:SSt st a) (g:SSt a b):SSt st b:=⟨g.1.trans h.1,g.2.1.trans h.2.1,g.2.2.1.trans h.2.2.1,g.2.2.2.trans h.2.2.2⟩
theorem jg {st:SortSt}{g:Nat}{Q:Unit->SortSt->Prop}(h:∀st',SSt st st'->Q () st'):wpS (model prog w) A E s (CP g) Q st:=wpS_modify (h _ ⟨rfl,rfl,rfl,rfl⟩)
theorem lH {xs:Array Keyed}(h:SL xs.toList) {i j:Nat}(a:i<=j) (b:j<xs.size):nu (xs[i]'(Nat.lt_of_le_of_lt a b))<=nu xs[j]:=by
 rcases X6 a with z | z
 ·have:=Wj.mp h i j (by simp;omega) (by simpa using b) z;simpa using this
 subst z;exact WT _
theorem lJ {st:SortSt}{xs:Array Keyed}{d:Keyed}{b n m:Nat}{Q:Option Nat->SortSt->Prop}(q:kdO st=oneType') (x:∀i j (c:i<=j) (l:b+j<xs.size),j<n->nu (xs[b+i]'(by omega))<=nu xs[b+j]) (p:∀i (h:i<xs.size),Iny xs[i]) (r:Iny d) (v:b+n<=xs.size) (u:m<n)
  (h:∀k,k<=n->(∀i (a:b+i<xs.size),i<k->nu xs[b+i]<=nu d)->(∀i (a:b+i<xs.size),k<=i->i<n->nu d<nu xs[b+i])->Q (some k) st):wpS (model prog w) A E s (gal false d xs b n m) Q st:=by
 refine wV q p r v u (fun i=>if h:b+i<xs.size then !decide (nu d<nu xs[b+i]) else false) (fun i a=>by rw[dif_pos a];rfl) (fun i j c l e=>?_) fun k f=>h k f.1 (fun i a g=>?_) fun i a t o=>?_
 ·rw[dif_pos (by omega)] at e ⊢;have:=x i j c (by omega) l;have y:=of_decide_eq_false (YW _▸e);rw[A_ (by omega)];rfl
 ·have:=f.2.1 i g;dsimp only at this;rw[dif_pos a] at this;have:=of_decide_eq_false (YW _▸this);omega
 have:=f.2.2 i t o;dsimp only at this;rw[dif_pos a] at this;rw[Bool.not_eq_false'] at this;exact Wz this
theorem lK {st:SortSt}{xs:Array Keyed}{d:Keyed}{b n m:Nat}{Q:Option Nat->SortSt->Prop}(q:kdO st=oneType') (x:∀i j (c:i<=j) (l:b+j<xs.size),j<n->nu (xs[b+i]'(by omega))<=nu xs[b+j]) (p:∀i (h:i<xs.size),Iny xs[i]) (r:Iny d) (v:b+n<=xs.size) (u:m<n)
  (h:∀k,k<=n->(∀i (a:b+i<xs.size),i<k->nu xs[b+i]<nu d)->(∀i (a:b+i<xs.size),k<=i->i<n->nu d<=nu xs[b+i])->Q (some k) st):wpS (model prog w) A E s (gal true d xs b n m) Q st:=by
 refine wV q p r v u (fun i=>if h:b+i<xs.size then decide (nu xs[b+i]<nu d) else false) (fun i a=>by rw[dif_pos a];rfl) (fun i j c l e=>?_) fun k f=>h k f.1 (fun i a g=>?_) fun i a t o=>?_
 ·rw[dif_pos (by omega)] at e ⊢;have:=x i j c (by omega) l;have:=Wz e;exact F_ (by omega)
 ·have:=f.2.1 i g;dsimp only at this;rw[dif_pos a] at this;exact Wz this
 have:=f.2.2 i t o;dsimp only at this;rw[dif_pos a] at this;exact Int.not_lt.mp (of_decide_eq_false this)
theorem dh {xs:Array Keyed}{i:Nat}{z:Keyed}(h:z∈xs.toList.drop i):∃k,∃a:i+k<xs.size,z=xs[i+k]:=by
 obtain⟨k,a,rfl⟩:=WF h;rw[Wo,D_] at a;exact⟨k,by omega,by rw[Ye,WN]⟩
theorem mem_mid {xs:Array Keyed}{i n:Nat}{z:Keyed}(h:z∈(xs.toList.drop i).take n):∃k,k<n/\∃a:i+k<xs.size,z=xs[i+k]:=by
 obtain⟨k,a,rfl⟩:=WF h;rw[Wi,Wo,D_] at a;exact⟨k,by omega,by omega,by rw[Yg,Ye,WN]⟩
theorem rK (xs:List Keyed) (i k:Nat):xs.drop i=(xs.drop i).take k++xs.drop (i+k):=by rw[<- List.drop_drop,Wg]
def StG (a b:Array Keyed) (n:Nat) (Q:ForInStep LG->SortSt->Prop) (st:SortSt):Prop:=(∀z c d,SSt st d->fj a b z->Q (.done (some z,c)) d)/\∀o i j c d,SSt st d->LiL a b o i j->n<=o.size->Q (.done (none,o,i,j,c)) d/\Q (.yield (none,o,i,j,c)) d
theorem StG.next {n:Nat}{Q:ForInStep LG->SortSt->Prop}{st e:SortSt}(h:StG a b n Q st) (g:SSt st e) {m:Nat}(k:n<=m):StG a b m Q e:=⟨fun z c d f hz=>h.1 z c d (g.trans f) hz,fun o i j c d f l p=>h.2 o i j c d (g.trans f) l (Wc k p)⟩
theorem wY (t:TwL a b) {st:SortSt}{o:Array Keyed}{i j g k f n:Nat}{Q:ForInStep LG->SortSt->Prop}(q:i+1<a.size) (d:j<b.size) (l:o.size=i+j) (r:MI o.toList (a.toList.drop i) (b.toList.drop j) (a.toList++b.toList)) (c:∀y∈b.toList.drop j,nu a[i]<=nu y) (hz:n<=o.size) (h:StG a b n Q st):wpS (model prog w) A E s (enL a b o i j g k f) Q st:=by
 unfold enL;refine v_ (bx (by omega) ?_);have m:=LiL.pushA ⟨q,d,l,r⟩ c;by_cases e:i+1+1=a.size
 ·rw[if_pos (by simp [e])];exact I_ (h.1 _ _ _ .refl (wX t m e))
 rw[if_neg (by simp [e])];have p:=h.2 (o.push a[i]) (i+1) j (g,k,f) st .refl ⟨by omega,d,by rw[Wm,l];omega,m⟩ (by rw[Wm];omega);split
 ·exact I_ p.1
 exact I_ p.2
theorem wZ (t:TwL a b) {st:SortSt}{o:Array Keyed}{i j I k J n:Nat}{Q:ForInStep LG->SortSt->Prop}(K:kdO st=oneType') (l:LiL a b o i j) (r:∀x∈a.toList.drop i,nu (b[j]'l.hj)<=nu x) (hz:n<=o.size) (h:StG a b n Q st):wpS (model prog w) A E s (hfL a b o i j I k J) Q st:=by
 have G:=l.hi;have F:=l.hj;unfold hfL;refine v_ (bx l.hj ?_);have m:=l.pushB r;by_cases e:j+1=b.size
 ·rw[if_pos (by simp [e])];exact I_ (h.1 _ _ _ .refl (wW m e))
 rw[if_neg (by simp [e])];refine v_ (bx (by omega) (v_ (lK K (fun i j H F _=>lH t.sb (by omega) F) t.ib (t.ia _ _) (by omega) (by omega) fun f O M D=>?_)));dsimp only;have N:∀x∈a.toList.drop i,nu a[i]<=nu x:=fun x z=>by obtain⟨q,d,rfl⟩:=dh z;exact lH t.sa (by omega) d
 by_cases c:f>0
 ·rw[if_pos c];have C:=m.symm;rw[rK b.toList (j+1) f] at C;have v:=(C.mv fun p L x z=>by
   obtain⟨q,d,g,rfl⟩:=mem_mid L
   exact WK (WP (M q g d)) (N x z)).symm
  rw[<- CQ,<- Wu] at v;by_cases u:j+1+f=b.size
  ·rw[if_pos (by simp [u])];exact I_ (h.1 _ _ _ .refl (wW v u))
  rw[if_neg (by simp [u])];refine wY t G (by omega) ?_ v (fun y B=>?_) ?_ h
  ·rw[Xy,Wm,Zh,l.hn];omega
  ·obtain⟨q,d,rfl⟩:=dh B;simpa only[Nat.add_assoc] using D (f+q) (by omega) (by omega) (by omega)
  rw[Xy,Wm];omega
 rw[if_neg c];refine wY t G (by omega) (by rw[Wm,l.hn];omega) m (fun y B=>?_) (by rw[Wm];omega) h;obtain⟨q,d,rfl⟩:=dh B;exact D q d (by omega) (by omega)
theorem Hl (t:TwL a b) {st:SortSt}{o:Array Keyed}{i j D I G:Nat}{Q:ForInStep LG->SortSt->Prop}(r:kdO st=oneType') (l:LiL a b o i j) (h:StG a b o.size Q st):wpS (model prog w) A E s (gaL a b o i j D I G) Q st:=by
 have O:=l.hi;have v:=l.hj;unfold gaL;refine v_ (jg fun L g=>v_ (bx l.hj (v_ (lJ (g.1.trans r) (fun i j F v _=>lH t.sa (by omega) v) t.ia (t.ib _ _) (by omega) (by omega) fun k M J C=>?_))));dsimp only;have h':=h.next g (j_ _);by_cases c:k>0
 ·rw[if_pos c];have m:=l.hm;rw[rK a.toList i k] at m;have d:=m.mv fun p H y K=>by obtain⟨q,f,n,rfl⟩:=mem_mid H;obtain⟨N,z,rfl⟩:=dh K;exact WK (J q n f) (lH t.sb (by omega) z)
  rw[<- CQ,<- Wu] at d;by_cases e:i+k+1=a.size
  ·rw[if_pos (by simp [e])];exact I_ (h'.1 _ _ _ .refl (wX t d e))
  rw[if_neg (by simp [e])];by_cases u:i+k=a.size
  ·rw[if_pos (by simp [u])];exact I_ (h'.1 _ _ _ .refl (Tu d u))
  rw[if_neg (by simp [u])];refine wZ t (g.1.trans r) ⟨by omega,v,by rw[Xy,Zh,l.hn];omega,d⟩ (fun x B=>?_) (by rw[Xy];omega) h';obtain⟨q,f,rfl⟩:=dh B;exact WP (by simpa only[Nat.add_assoc] using C (k+q) (by omega) (by omega) (by omega))
 rw[if_neg c];refine wZ t (g.1.trans r) l (fun x B=>?_) (j_ _) h';obtain⟨q,f,rfl⟩:=dh B;exact WP (C q f (by omega) (by omega))
theorem Hm (t:TwL a b) {st:SortSt}{c:LO}{Q:ForInStep LO->SortSt->Prop}(K:kdO st=oneType') (N:LiL a b c.2.1 c.2.2.1 c.2.2.2.1)
  (M:∀z c d,SSt st d->fj a b z->Q (.done (some z,c)) d) (L:∀o i j H d,SSt st d->LiL a b o i j->c.2.1.size+1<=o.size->Q (.yield (none,o,i,j,H)) d):wpS (model prog w) A E s (ouL a b c) Q st:=by
 obtain⟨S,o,i,j,H⟩:=c;dsimp only at N L;have T:=t.a1;unfold ouL;dsimp only;refine v_ (Yt (W4 (I:=fun x r d=>d=st/\∃k u p q,r=(none,k,u,p,q)/\LiL a b k u p/\o.size+x<=k.size)
  (Q:=fun r d=>d=st/\((∃z q,r=(some z,q)/\fj a b z)\/∃k u p q,r=(none,k,u,p,q)/\LiL a b k u p/\o.size+1<=k.size)) ?_ ?_ ⟨rfl,o,i,j,_,rfl,N,j_ _⟩) ?_)
 ·rintro x r d _ R ⟨rfl,k,u,p,q,rfl,l,D⟩;dsimp only;exact Hk t K l (fun z c hz=>⟨rfl,.inl ⟨z,c,rfl,hz⟩⟩) fun f m n c y e=>⟨⟨rfl,.inr ⟨f,m,n,c,rfl,y,by omega⟩⟩,rfl,f,m,n,c,rfl,y,by omega⟩
 ·rintro r d ⟨rfl,k,u,p,q,rfl,l,D⟩;exact⟨rfl,.inr ⟨k,u,p,q,rfl,l,by omega⟩⟩
 rintro r d ⟨rfl,⟨z,q,rfl,hz⟩ | ⟨k,u,p,q,rfl,l,D⟩⟩
 ·exact I_ (M _ _ _ .refl hz)
 dsimp only;refine v_ (wpS_lift (Y0 ⟨rfl,?_⟩));refine v_ (Yt (W4 (I:=fun x r h=>SSt d h/\∃f m n q,r=(none,f,m,n,q)/\LiL a b f m n/\o.size+1<=f.size)
  (Q:=fun r h=>SSt d h/\((∃z q,r=(some z,q)/\fj a b z)\/∃f m n q,r=(none,f,m,n,q)/\LiL a b f m n/\o.size+1<=f.size)) ?_ ?_ ⟨.refl,k,u,p,_,rfl,l,D⟩) ?_)
 ·rintro x r h _ R ⟨g,f,m,n,q,rfl,y,v⟩;dsimp only;split <;> exact Hl t (g.1.trans K) y ⟨fun z c C B hz=>⟨g.trans B,.inl ⟨z,c,rfl,hz⟩⟩,fun F O J c C B G P=>⟨⟨g.trans B,.inr ⟨F,O,J,c,rfl,G,by omega⟩⟩,g.trans B,F,O,J,c,rfl,G,by omega⟩⟩
 ·rintro r h ⟨g,f,m,n,q,rfl,y,v⟩;exact⟨g,.inr ⟨f,m,n,q,rfl,y,v⟩⟩
 rintro r h ⟨g,⟨z,q,rfl,hz⟩ | ⟨f,m,n,q,rfl,y,v⟩⟩
 ·exact I_ (M _ _ _ g hz)
 exact v_ (jg fun C B=>I_ (L _ _ _ _ _ (g.trans B) y v))
theorem Hn (t:TwL a b) {st:SortSt}{Q:Array Keyed->SortSt->Prop}(B:kdO st=oneType') (h:∀z d,SSt st d->fj a b z->Q z d):wpS (model prog w) A E s (mlo a b) Q st:=by
 have L:=t.a1;have M:=t.b1;rw[Om];refine v_ (wpS_lift (Y0 ⟨rfl,?_⟩));refine v_ (bx (by omega) ?_);have H:MI [] (b[0]::b.toList.drop 1) (a.toList.drop 0) (a.toList++b.toList):=by have:=ik (xs:=b) (i:=0) (by omega);rw[Zk] at this;rw[Zk,<- this];exact⟨t.sb,t.sa,YL⟩
 have m:MI (#[b[0]]:Array Keyed).toList (a.toList.drop 0) (b.toList.drop 1) (a.toList++b.toList):=(MI.mv (P:=[b[0]]) H fun p D x y=>by rw[h_.mp D];exact t.hd x y (by omega)).symm;by_cases e:1=b.size
 ·rw[if_pos (by simp [<- e])];exact I_ (h _ _ .refl (wW m e))
 rw[if_neg (by simpa using e)];by_cases u:0+1=a.size
 ·rw[if_pos (by simp [<- u])];exact I_ (h _ _ .refl (wX t m u))
 rw[if_neg (by simpa using u)];refine v_ (wpS_get (v_ (Yt (W4 (I:=fun x c d=>SSt st d/\∃o i j n,c=(none,o,i,j,n)/\LiL a b o i j/\x<o.size)
  (Q:=fun c d=>SSt st d/\∃z q,c=(some z,q)/\fj a b z) ?_ ?_ ⟨.refl,_,0,1,_,rfl,⟨by omega,by omega,rfl,m⟩,by show 0<1;omega⟩) ?_)))
 ·rintro x c d _ y ⟨g,o,i,j,n,rfl,l,G⟩;exact Hm t (g.1.trans B) l (fun z c r k hz=>⟨g.trans k,z,c,rfl,hz⟩) fun J C K f r k F v=>⟨g.trans k,J,C,K,f,rfl,F,by dsimp only at v;omega⟩
 ·rintro c d ⟨g,o,i,j,n,rfl,l,G⟩;have:=l.hn;have:=l.hi;have:=l.hj;omega
 rintro c d ⟨g,z,q,rfl,hz⟩;exact I_ (h z d g hz)
end
def mhi:Array Keyed->Array Keyed->StateT SortSt Sem (Array Keyed):=sortPriv% PySem.Builtin.mergeHi
abbrev RS:=Option (Array Keyed) × Nat × Nat × Array Keyed × Nat × Nat
abbrev RG:=Option (Array Keyed) × Nat × Nat × Array Keyed × Nat × Nat × Nat
abbrev RO:=Option (Array Keyed) × Nat × Nat × Array Keyed × Nat
section
variable (a b:Array Keyed)
def dnR (o:Array Keyed) (i j:Nat):Array Keyed:=a.extract 0 i++b.extract 0 j++o.reverse
def fbR (o:Array Keyed) (i j:Nat):Array Keyed:=b.extract 0 j++a.extract 0 i++o.reverse
def stR (e i j:Nat) (o:Array Keyed) (c d:Nat):StateT SortSt Sem (ForInStep RS):=do
 let y <- elem' b (j - 1)
 let x <- elem' a (i - 1)
 match <- lt' y x with
 |some f =>
  if f then do
   let x <- elem' a (i - 1)
   if i - 1==0 then pure (.done (some (dnR a b (o.push x) (i - 1) j),i - 1,j,o.push x,c+1,0))
   else if c+1 ≥ e then pure (.done (none,i - 1,j,o.push x,c+1,0)) else pure (.yield (none,i - 1,j,o.push x,c+1,0))
  else do
   let y <- elem' b (j - 1)
   if j - 1==1 then pure (.done (some (fbR a b (o.push y) i (j - 1)),i,j - 1,o.push y,0,d+1))
   else if d+1 ≥ e then pure (.done (none,i,j - 1,o.push y,0,d+1)) else pure (.yield (none,i,j - 1,o.push y,0,d+1))
 |_=>pure (.done (some (dnR a b o i j),i,j,o,c,d))
def enR (i j:Nat) (o:Array Keyed) (d k c:Nat):StateT SortSt Sem (ForInStep RG):=do
 let x <- elem' a (i - 1)
 if i - 1==0 then pure (.done (some (dnR a b (o.push x) (i - 1) j),i - 1,j,o.push x,d,k,c))
 else if decide (k<7)&&decide (c<7) then pure (.done (none,i - 1,j,o.push x,d,k,c)) else pure (.yield (none,i - 1,j,o.push x,d,k,c))
def hfR (i j:Nat) (o:Array Keyed) (c k d:Nat):StateT SortSt Sem (ForInStep RG):=do
 let y <- elem' b (j - 1)
 if j - 1==1 then pure (.done (some (fbR a b (o.push y) i (j - 1)),i,j - 1,o.push y,c,k,d))
 else do
  let x <- elem' a (i - 1)
  match <- gal true x b 0 (j - 1) (j - 1 - 1) with
  |some t =>
   if j - 1 - t>0 then
    if t==1 then pure (.done (some (fbR a b (o.push y++(b.extract t (j - 1)).reverse) i t),i,t,o.push y++(b.extract t (j - 1)).reverse,c,k,j - 1 - t))
    else if t==0 then pure (.done (some (dnR a b (o.push y++(b.extract t (j - 1)).reverse) i t),i,t,o.push y++(b.extract t (j - 1)).reverse,c,k,j - 1 - t))
    else enR a b i t (o.push y++(b.extract t (j - 1)).reverse) c k (j - 1 - t)
   else enR a b i (j - 1) (o.push y) c k (j - 1 - t)
  |_=>pure (.done (some (dnR a b (o.push y) i (j - 1)),i,j - 1,o.push y,c,k,d))
def gaR (i j:Nat) (o:Array Keyed) (c e d:Nat):StateT SortSt Sem (ForInStep RG):=do
 CP c
 let y <- elem' b (j - 1)
 match <- gal false y a 0 i (i - 1) with
 |some t =>
  if i - t>0 then
   if t==0 then pure (.done (some (dnR a b (o++(a.extract t i).reverse) t j),t,j,o++(a.extract t i).reverse,c,i - t,d))
   else hfR a b t j (o++(a.extract t i).reverse) c (i - t) d
  else hfR a b i j o c (i - t) d
 |_=>pure (.done (some (dnR a b o i j),i,j,o,c,e,d))
def ouR (c:RO):StateT SortSt Sem (ForInStep RO):=do
 let r <- forIn [0:a.size+b.size] ((none,c.2.1,c.2.2.1,c.2.2.2.1,0,0):RS) fun _ r=>stR a b c.2.2.2.2 r.2.1 r.2.2.1 r.2.2.2.1 r.2.2.2.2.1 r.2.2.2.2.2
 match r.1 with
 |some z=>pure (.done (some z,r.2.1,r.2.2.1,r.2.2.2.1,c.2.2.2.2))
 |none=>do
  rule "list.sort.gallop"
  let q <- forIn [0:a.size+b.size] ((none,r.2.1,r.2.2.1,r.2.2.2.1,c.2.2.2.2+1,r.2.2.2.2.1,r.2.2.2.2.2):RG) fun _ q =>
   if q.2.2.2.2.1>1 then gaR a b q.2.1 q.2.2.1 q.2.2.2.1 (q.2.2.2.2.1 - 1) q.2.2.2.2.2.1 q.2.2.2.2.2.2 else gaR a b q.2.1 q.2.2.1 q.2.2.2.1 q.2.2.2.2.1 q.2.2.2.2.2.1 q.2.2.2.2.2.2
  match q.1 with
  |some z=>pure (.done (some z,q.2.1,q.2.2.1,q.2.2.2.1,q.2.2.2.2.1))
  |none=>do
   CP (q.2.2.2.2.1+1)
   pure (.yield (none,q.2.1,q.2.2.1,q.2.2.2.1,q.2.2.2.2.1+1))
theorem Oo:mhi a b=(do
 rule "list.sort.merge-hi"
 let y <- elem' a (a.size - 1)
 if a.size - 1==0 then pure (dnR a b #[y] (a.size - 1) b.size)
 else if b.size==1 then pure (fbR a b #[y] (a.size - 1) b.size)
 else do
  let g <- get
  let c <- forIn [0:a.size+b.size] ((none,a.size - 1,b.size,#[y],gallopOf g):RO) fun _ c=>ouR a b c
  match c.1 with
  |some z=>pure z
  |none=>unsupported "internal:list.sort.merge-bound"):=by
 refine aL rfl fun _=>aL rfl fun y=>?_
 refine U_ (fun z=>ite ((a.size - 1==0)=true) (pure (dnR a b #[y] (a.size - 1) b.size)) z) ?_
 refine U_ (fun z=>ite ((b.size==1)=true) (pure (fbR a b #[y] (a.size - 1) b.size)) z) ?_
 refine aL rfl fun g=>aL (U_ (fun f=>forIn [0:a.size+b.size] ((none,a.size - 1,b.size,#[y],gallopOf g):RO) f) ?_) ?_
 ·
  funext x c
  refine aL rfl fun r=>?_
  cases e:r.1 with
  |some z=>rfl
  |none=>exact aL rfl fun _=>aL rfl fun q=>by cases q.1 <;> rfl
 ·
  intro c
  cases c.1 <;> rfl
end
structure MR (O X Y T:List Keyed):Prop where
 x:SL (X++O)
 y:SL (Y++O)
 p:(X++Y++O).Perm T
theorem MR.symm {O X Y T:List Keyed}(h:MR O X Y T):MR O Y X T:=⟨h.y,h.x,(YL.append_right _).trans h.p⟩
theorem MR.mv {O P X Y T:List Keyed}(h:MR O (X++P) Y T) (e:∀p∈P,∀y∈Y,nu y<=nu p):MR (P++O) X Y T:=by
 obtain⟨b,a,d⟩:=h;refine⟨by rw[<- t_];exact b,?_,List.Perm.trans ?_ d⟩
 ·unfold SL at *;rw[t_,Xb] at b;rw[Xb] at a ⊢;refine⟨a.1,b.2.1,fun y c z hz=>?_⟩;rcases u_.mp hz with q | q
  ·exact e z q y c
  exact a.2.2 y c z q
 rw[t_,t_,t_];refine List.Perm.append_left _ ?_;rw[<- t_,<- t_];exact YL.append_right _
section
variable {prog:Program}{w:World}{A:Around}{E:Value->Shared->Prop}{s:Shared}{a b:Array Keyed}
theorem Ho (xs:Array Keyed) (i:Nat):(xs.extract 0 i).toList=xs.toList.take i:=by simp [X8]
theorem Hq (xs:Array Keyed) (i j:Nat):(xs.extract i j).toList=(xs.toList.drop i).take (j - i):=by simp [X8]
theorem take_at {xs:Array Keyed}{i:Nat}(h:i<xs.size):xs.toList.take (i+1)=xs.toList.take i++[xs[i]]:=by
 rw[List.take_succ_eq_append_getElem (by simpa using h),WN]
theorem rM (xs:List Keyed) {i j:Nat}(h:i<=j):xs.take j=xs.take i++(xs.drop i).take (j - i):=by
 have:=List.take_add (l:=xs) (i:=i) (j:=j - i)
 rwa [show i+(j - i)=j by omega] at this
theorem dJ {xs:Array Keyed}{i:Nat}{z:Keyed}(h:z∈xs.toList.take i):∃k,k<i/\∃a:k<xs.size,z=xs[k]:=by
 obtain⟨k,a,rfl⟩:=WF h;rw[Wi,D_] at a;exact⟨k,by omega,by omega,by rw[Yg,WN]⟩
structure LiR (a b o:Array Keyed) (i j:Nat):Prop where
 i1:1<=i
 ia:i<=a.size
 j2:2<=j
 jb:j<=b.size
 hn:o.size+i+j=a.size+b.size
 hm:MR o.toList.reverse (a.toList.take i) (b.toList.take j) (a.toList++b.toList)
abbrev MRo (a b o:Array Keyed) (i j:Nat):Prop:=MR o.toList.reverse (a.toList.take i) (b.toList.take j) (a.toList++b.toList)
theorem xf {o:Array Keyed}{i j:Nat}:(dnR a b o i j).toList=a.toList.take i++b.toList.take j++o.toList.reverse:=by unfold dnR;rw[Wu,Wu,Ho,Ho,Y5]
theorem pW {o:Array Keyed}{i j:Nat}(h:MRo a b o i j) (c:i=0):fj a b (dnR a b o i j):=by
 refine⟨?_,by rw[xf];exact h.p⟩;rw[xf,c,List.take_zero,Yb];exact h.y
theorem Oq {o:Array Keyed}{i j:Nat}(h:MRo a b o i j) (c:j=0):fj a b (dnR a b o i j):=by
 refine⟨?_,by rw[xf];exact h.p⟩;rw[xf,c,List.take_zero,N_];exact h.x
theorem pX (t:TwL a b) {o:Array Keyed}{i j:Nat}(h:MRo a b o i j) (f:j=1):fj a b (fbR a b o i j):=by
 have g:=t.b1;have e:(fbR a b o i j).toList=b.toList.take j++a.toList.take i++o.toList.reverse:=by unfold fbR;rw[Wu,Wu,Ho,Ho,Y5]
 refine⟨?_,by rw[e];exact h.symm.p⟩;have d:=h.y;have c:b.toList.take j=[b[0]'(by omega)]:=by rw[f,take_at (i:=0) (by omega)];rfl
 rw[e,c,t_,YM];rw[c,YM] at d;unfold SL at *;refine Zg.mpr ⟨fun z hz=>?_,h.x⟩;rcases u_.mp hz with q | q
 ·exact t.hd z (Yh q) (by omega)
 exact (Zg.mp d).1 z q
theorem pY {o:Array Keyed}{i j:Nat}(h:MRo a b o (i+1) j) (e:i<a.size) (c:∀y∈b.toList.take j,nu y<=nu a[i]):MRo a b (o.push a[i]) i j:=by
 have m:=h;unfold MRo at m ⊢;rw[take_at e] at m;rw[XN,Ym];exact m.mv fun p f y d=>by rw[h_.mp f];exact c y d
theorem xg {o:Array Keyed}{i j:Nat}(h:MRo a b o i (j+1)) (f:j<b.size) (c:∀x∈a.toList.take i,nu x<=nu b[j]):MRo a b (o.push b[j]) i j:=by
 have m:=h.symm;unfold MRo;rw[take_at f] at m;rw[XN,Ym];exact (m.mv fun p d y e=>by rw[h_.mp d];exact c y e).symm
theorem Hr {o:Array Keyed}{i j k:Nat}(h:MRo a b o i j) (e:k<=i) (n:i<=a.size) (c:∀q (l:q<a.size),k<=q->q<i->∀y∈b.toList.take j,nu y<=nu a[q]):MRo a b (o++(a.extract k i).reverse) k j:=by
 have m:=h;unfold MRo at m ⊢;rw[rM _ e] at m;rw[Wu,Ym,Y5,List.reverse_reverse,Hq];refine m.mv fun p g y f=>?_;obtain⟨q,l,d,rfl⟩:=mem_mid g;exact c _ d (by omega) (by omega) y f
theorem Ht {o:Array Keyed}{i j k:Nat}(h:MRo a b o i j) (e:k<=j) (n:j<=b.size) (c:∀q (l:q<b.size),k<=q->q<j->∀x∈a.toList.take i,nu x<=nu b[q]):MRo a b (o++(b.extract k j).reverse) i k:=by
 have m:=h.symm;unfold MRo;rw[rM _ e] at m;rw[Wu,Ym,Y5,List.reverse_reverse,Hq];refine (m.mv fun p g y f=>?_).symm;obtain⟨q,l,d,rfl⟩:=mem_mid g;exact c _ d (by omega) (by omega) y f
theorem upto {xs:Array Keyed}(h:SL xs.toList) {i:Nat}(a:i<xs.size) {z:Keyed}(hz:z∈xs.toList.take (i+1)):nu z<=nu xs[i]:=by
 obtain⟨k,c,b,rfl⟩:=dJ hz;exact lH h (by omega) a
theorem Hu (t:TwL a b) {st:SortSt}{B:Nat}{o:Array Keyed}{i j l q:Nat}{Q:ForInStep RS->SortSt->Prop}(r:kdO st=oneType') (h:LiR a b o (i+1) (j+1))
  (p:∀z c,fj a b z->Q (.done (some z,c)) st) (n:∀o' i' j' c,LiR a b o' i' j'->o'.size=o.size+1->Q (.done (none,i',j',o',c)) st/\Q (.yield (none,i',j',o',c)) st):wpS (model prog w) A E s (stR a b B (i+1) (j+1) o l q) Q st:=by
 have f:i<a.size:=h.ia;have g:j<b.size:=h.jb;have k:=h.j2;have C:=h.hn;unfold stR;simp only[Zi];refine v_ (bx g (v_ (bx f (v_ (lG r (t.ib _ _) (t.ia _ _) ?_)))));dsimp only;by_cases c:nu b[j]<nu a[i]
 ·rw[if_pos (F_ c)];refine v_ (bx f ?_);have m:=pY h.hm f fun y v=>WK (upto t.sb g v) (WP c);by_cases e:i=0
  ·rw[if_pos (by simp [e])];exact I_ (p _ _ (pW m e))
  rw[if_neg (by simp [e])];have d:=n (o.push a[i]) i (j+1) (l+1,0) ⟨by omega,by omega,k,h.jb,by rw[Wm];omega,m⟩ (Wm _);split
  ·exact I_ d.1
  exact I_ d.2
 rw[if_neg (Bq c)];refine v_ (bx g ?_);have m:=xg h.hm g fun x u=>WK (upto t.sa f u) (Int.not_lt.mp c);by_cases e:j=1
 ·rw[if_pos (by simp [e])];exact I_ (p _ _ (pX t m e))
 rw[if_neg (by simp [e])];have d:=n (o.push b[j]) (i+1) j (0,q+1) ⟨h.i1,h.ia,by omega,by omega,by rw[Wm];omega,m⟩ (Wm _);split
 ·exact I_ d.1
 exact I_ d.2
def StR (a b:Array Keyed) (n:Nat) (Q:ForInStep RG->SortSt->Prop) (st:SortSt):Prop:=(∀z c d,SSt st d->fj a b z->Q (.done (some z,c)) d)/\∀o i j c d,SSt st d->LiR a b o i j->n<=o.size->Q (.done (none,i,j,o,c)) d/\Q (.yield (none,i,j,o,c)) d
theorem xj (t:TwL a b) {st:SortSt}{o:Array Keyed}{i j g k f n:Nat}{Q:ForInStep RG->SortSt->Prop}(d:i<a.size) (r:2<=j) (q:j<=b.size) (u:o.size+(i+1)+j=a.size+b.size) (p:MRo a b o (i+1) j) (c:∀y∈b.toList.take j,nu y<=nu a[i]) (hz:n<=o.size) (h:StR a b n Q st):wpS (model prog w) A E s (enR a b (i+1) j o g k f) Q st:=by
 unfold enR;simp only[Zi];refine v_ (bx d ?_);have m:=pY p d c;by_cases e:i=0
 ·rw[if_pos (by simp [e])];exact I_ (h.1 _ _ _ .refl (pW m e))
 rw[if_neg (by simp [e])];have l:=h.2 (o.push a[i]) i j (g,k,f) st .refl ⟨by omega,by omega,r,q,by rw[Wm];omega,m⟩ (by rw[Wm];omega);split
 ·exact I_ l.1
 exact I_ l.2
theorem xm (t:TwL a b) {st:SortSt}{o:Array Keyed}{i j H k I n:Nat}{Q:ForInStep RG->SortSt->Prop}(J:kdO st=oneType') (l:i<a.size) (g:j<b.size) (R:1<=j) (P:o.size+(i+1)+(j+1)=a.size+b.size) (M:MRo a b o (i+1) (j+1)) (p:∀x∈a.toList.take (i+1),nu x<=nu b[j]) (hz:n<=o.size) (h:StR a b n Q st):wpS (model prog w) A E s (hfR a b (i+1) (j+1) o H k I) Q st:=by
 unfold hfR;simp only[Zi];refine v_ (bx g ?_);have m:=xg M g p;by_cases e:j=1
 ·rw[if_pos (by simp [e])];exact I_ (h.1 _ _ _ .refl (pX t m e))
 rw[if_neg (by simp [e])];refine v_ (bx l (v_ (lK J (fun i j G g _=>lH t.sb (by omega) g) t.ib (t.ia _ _) (by omega) (by omega) fun u N v D=>?_)));dsimp only;simp only[Nat.zero_add] at v D;by_cases c:j - u>0
 ·rw[if_pos c];have B:=Ht m N (by omega) fun q f L K x O=>WK (upto t.sa l O) (D q f L K);have F:(o.push b[j]++(b.extract u j).reverse).size+(i+1)+u=a.size+b.size:=by rw[Xy,Wm,Array.size_reverse,Zh];omega
  by_cases r:u=1
  ·rw[if_pos (by simp [r])];exact I_ (h.1 _ _ _ .refl (pX t B r))
  rw[if_neg (by simp [r])];by_cases z:u=0
  ·rw[if_pos (by simp [z])];exact I_ (h.1 _ _ _ .refl (Oq B z))
  rw[if_neg (by simp [z])];refine xj t l (by omega) (by omega) F B (fun y C=>?_) (by rw[Xy,Wm];omega) h;obtain⟨q,f,d,rfl⟩:=dJ C;exact WP (v q d f)
 rw[if_neg c];refine xj t l (by omega) (by omega) (by rw[Wm];omega) m (fun y C=>?_) (by rw[Wm];omega) h;obtain⟨q,f,d,rfl⟩:=dJ C;exact WP (v q d (by omega))
theorem Hv (t:TwL a b) {st:SortSt}{o:Array Keyed}{i j I M J:Nat}{Q:ForInStep RG->SortSt->Prop}(p:kdO st=oneType') (l:LiR a b o (i+1) (j+1)) (h:StR a b o.size Q st):wpS (model prog w) A E s (gaR a b (i+1) (j+1) o I M J) Q st:=by
 have P:i<a.size:=l.ia;have g:j<b.size:=l.jb;have O:=l.j2;have B:=l.hn;unfold gaR;simp only[Zi];refine v_ (jg fun F k=>v_ (bx g (v_ (lJ (k.1.trans p) (fun i j H g _=>lH t.sa (by omega) g) t.ia (t.ib _ _) (by omega) (by omega) fun u N r G=>?_))));dsimp only;simp only[Nat.zero_add] at r G;have h':StR a b o.size Q F:=⟨fun z c f D hz=>h.1 z c f (k.trans D) hz,fun o i j c f D S B=>h.2 o i j c f (k.trans D) S B⟩;by_cases c:i+1 - u>0
 ·rw[if_pos c];have m:=Hr l.hm N (by omega) fun q n L K y R=>WK (upto t.sb g R) (WP (G q n L K));by_cases e:u=0
  ·rw[if_pos (by simp [e])];exact I_ (h'.1 _ _ _ .refl (pW m e))
  rw[if_neg (by simp [e])];obtain⟨v,rfl⟩:∃v,u=v+1:=⟨u - 1,by omega⟩;refine xm t (k.1.trans p) (by omega) g (by omega) (by rw[Xy,Array.size_reverse,Zh];omega) m (fun x C=>?_) (by rw[Xy];omega) h';obtain⟨q,n,d,rfl⟩:=dJ C;exact r q d n
 rw[if_neg c];refine xm t (k.1.trans p) P g (by omega) B l.hm (fun x C=>?_) (j_ _) h';obtain⟨q,n,d,rfl⟩:=dJ C;exact r q d (by omega)
theorem LiR.dest {o:Array Keyed}{i j:Nat}(h:LiR a b o i j):∃d c,i=d+1/\j=c+1:=⟨i - 1,j - 1,by have:=h.i1;omega,by have:=h.j2;omega⟩
theorem Hw (t:TwL a b) {st:SortSt}{c:RO}{Q:ForInStep RO->SortSt->Prop}(K:kdO st=oneType') (N:LiR a b c.2.2.2.1 c.2.1 c.2.2.1)
  (M:∀z c d,SSt st d->fj a b z->Q (.done (some z,c)) d) (L:∀o i j H d,SSt st d->LiR a b o i j->c.2.2.2.1.size+1<=o.size->Q (.yield (none,i,j,o,H)) d):wpS (model prog w) A E s (ouR a b c) Q st:=by
 obtain⟨S,i,j,o,H⟩:=c;dsimp only at N L;have T:=t.a1;unfold ouR;dsimp only;refine v_ (Yt (W4 (I:=fun x r d=>d=st/\∃u p n q,r=(none,u,p,n,q)/\LiR a b n u p/\o.size+x<=n.size)
  (Q:=fun r d=>d=st/\((∃z q,r=(some z,q)/\fj a b z)\/∃u p n q,r=(none,u,p,n,q)/\LiR a b n u p/\o.size+1<=n.size)) ?_ ?_ ⟨rfl,i,j,o,_,rfl,N,j_ _⟩) ?_)
 ·rintro x r d _ R ⟨rfl,u,p,n,q,rfl,l,D⟩;dsimp only;obtain⟨u,p,rfl,rfl⟩:=l.dest;exact Hu t K l (fun z c hz=>⟨rfl,.inl ⟨z,c,rfl,hz⟩⟩) fun f h k c v e=>⟨⟨rfl,.inr ⟨h,k,f,c,rfl,v,by omega⟩⟩,rfl,h,k,f,c,rfl,v,by omega⟩
 ·rintro r d ⟨rfl,u,p,n,q,rfl,l,D⟩;exact⟨rfl,.inr ⟨u,p,n,q,rfl,l,by omega⟩⟩
 rintro r d ⟨rfl,⟨z,q,rfl,hz⟩ | ⟨u,p,n,q,rfl,l,D⟩⟩
 ·exact I_ (M _ _ _ .refl hz)
 dsimp only;refine v_ (wpS_lift (Y0 ⟨rfl,?_⟩));refine v_ (Yt (W4 (I:=fun x r m=>SSt d m/\∃h k f q,r=(none,h,k,f,q)/\LiR a b f h k/\o.size+1<=f.size)
  (Q:=fun r m=>SSt d m/\((∃z q,r=(some z,q)/\fj a b z)\/∃h k f q,r=(none,h,k,f,q)/\LiR a b f h k/\o.size+1<=f.size)) ?_ ?_ ⟨.refl,u,p,n,_,rfl,l,D⟩) ?_)
 ·rintro x r m _ R ⟨g,h,k,f,q,rfl,v,y⟩;dsimp only;obtain⟨h,k,rfl,rfl⟩:=v.dest;split <;> exact Hv t (g.1.trans K) v ⟨fun z c C B hz=>⟨g.trans B,.inl ⟨z,c,rfl,hz⟩⟩,fun F O J c C B G P=>⟨⟨g.trans B,.inr ⟨O,J,F,c,rfl,G,by omega⟩⟩,g.trans B,O,J,F,c,rfl,G,by omega⟩⟩
 ·rintro r m ⟨g,h,k,f,q,rfl,v,y⟩;exact⟨g,.inr ⟨h,k,f,q,rfl,v,y⟩⟩
 rintro r m ⟨g,⟨z,q,rfl,hz⟩ | ⟨h,k,f,q,rfl,v,y⟩⟩
 ·exact I_ (M _ _ _ g hz)
 exact v_ (jg fun C B=>I_ (L _ _ _ _ _ (g.trans B) v y))
theorem Hx (t:TwL a b) {st:SortSt}{Q:Array Keyed->SortSt->Prop}(v:kdO st=oneType') (h:∀z d,SSt st d->fj a b z->Q z d):wpS (model prog w) A E s (mhi a b) Q st:=by
 have L:=t.a1;have M:=t.b1;rw[Oo];refine v_ (wpS_lift (Y0 ⟨rfl,?_⟩));refine v_ (bx (by omega) ?_);have G:MRo a b #[] (a.size - 1+1) b.size:=by unfold MRo;rw[WM (by simp;omega),WM (by simp)];simp only[List.reverse_nil];exact⟨by rw[N_];exact t.sa,by rw[N_];exact t.sb,by rw[N_]⟩
 have m:MRo a b #[a[a.size - 1]] (a.size - 1) b.size:=pY G (by omega) fun y B=>t.tl y (Yh B) (by omega);by_cases e:a.size - 1=0
 ·rw[if_pos (by simp [e])];exact I_ (h _ _ .refl (pW m e))
 rw[if_neg (by simp;omega)];by_cases r:b.size=1
 ·rw[if_pos (by simp [r])];exact I_ (h _ _ .refl (pX t m r))
 rw[if_neg (by simp [r])];refine v_ (wpS_get (v_ (Yt (W4 (I:=fun x c d=>SSt st d/\∃i j o n,c=(none,i,j,o,n)/\LiR a b o i j/\x<o.size)
  (Q:=fun c d=>SSt st d/\∃z q,c=(some z,q)/\fj a b z) ?_ ?_ ⟨.refl,_,_,_,_,rfl,⟨by omega,by omega,by omega,by omega,by show 1+(a.size - 1)+b.size=_;omega,m⟩,by show 0<1;omega⟩) ?_)))
 ·rintro x c d _ K ⟨g,i,j,o,n,rfl,l,F⟩;exact Hw t (g.1.trans v) l (fun z c p k hz=>⟨g.trans k,z,c,rfl,hz⟩) fun H C J f p k D u=>⟨g.trans k,C,J,H,f,rfl,D,by dsimp only at u;omega⟩
 ·rintro c d ⟨g,i,j,o,n,rfl,l,F⟩;have:=l.hn;have:=l.i1;have:=l.j2;omega
 rintro c d ⟨g,z,q,rfl,hz⟩;exact I_ (h z d g hz)
end
def Sg (xs:Array Keyed) (s n:Nat):Prop:=∀i j,s<=i->i<=j->j<s+n->K xs i<=K xs j
theorem Tv {xs:Array Keyed}{i:Nat}(h:i<xs.size):K xs i=nu xs[i]:=by unfold K nu;rw[P_ h]
theorem Ot {xs:Array Keyed}{i:Nat}{z:Keyed}(h:xs.toList[i]?=some z):K xs i=nu z:=by unfold K nu;rw[<- Wq,h]
theorem CT {xs:Array Keyed}{P X S:List Keyed}(e:xs.toList=P++X++S):Sg xs P.length X.length↔SL X:=by
 have a:∀i (h:i<X.length),K xs (P.length+i)=nu X[i]:=fun i h=>Ot (by
  rw[e,t_,M_ (by omega),show P.length+i - P.length=i by omega,Wb h,d_ h])
 constructor
 ·intro h;refine Wj.mpr fun i j b c g=>?_;have:=h (P.length+i) (P.length+j) (by omega) (by omega) (by omega)
  rwa [a i b,a j c] at this
 intro h i j m k l;have b:i - P.length<X.length:=by omega
 have c:j - P.length<X.length:=by omega
 have d:=a _ b;have f:=a _ c;rw[show P.length+(i - P.length)=i by omega] at d;rw[show P.length+(j - P.length)=j by omega] at f;rw[d,f];rcases X6 (show i - P.length<=j - P.length by omega) with z | z
 ·exact Wj.mp h _ _ b c z
 simp only[z];exact WT _
theorem xn (u:Nat):∀(l:List Keyed) (n:Nat) (xs:Array Keyed) (P M S:List Keyed),xs.toList=P++M++S->M.length=l.length->P.length=u+n->((l.zipIdx n).foldl (fun xs (q:Keyed × Nat)=>xs.setIfInBounds (u+q.2) q.1) xs).toList=P++l++S
 |[],n,xs,P,M,S,e,hm,hp=>by
  rw[Xq.mp hm] at e
  exact e
 |z::l,n,xs,P,M,S,e,hm,hp=>by
  cases M with
  |nil=>cases hm
  |cons m M =>
   rw[List.zipIdx_cons,List.foldl_cons]
   have a:(xs.setIfInBounds (u+n) z).toList=(P++[z])++M++S:=by
    rw[Array.toList_setIfInBounds,e,<- hp]
    simp
   rw[xn u l (n+1) _ (P++[z]) M S a (by simpa using hm) (by rw[a_,hp];rfl)]
   simp
section
variable {prog:Program}{w:World}{A:Around}{E:Value->Shared->Prop}{s:Shared}
def Hy (st:SortSt) (u:Nat) (z:Array Keyed):SortSt:=setArr st ((z.toList.zipIdx 0).foldl (fun xs (q:Keyed × Nat)=>xs.setIfInBounds (u+q.2) q.1) (arrOf st))
def mgB (xs:Array Keyed) (sa na sb nb:Nat):StateT SortSt Sem Bool:=do
 let y <- elem' xs sb
 match <- gal false y xs sa na 0 with
 |some k =>
  if na - k==0 then pure true
  else do
   let x <- elem' xs (sa+k+(na - k) - 1)
   match <- gal true x xs sb nb (nb - 1) with
   |some m =>
    if m==0 then pure true
    else if na - k<=m then do
     let z <- mlo (xs.extract (sa+k) sb) (xs.extract sb (sb+m))
     modify fun st=>Hy st (sa+k) z
     let st <- get
     pure (failedOf st).isNone
    else do
     let z <- mhi (xs.extract (sa+k) sb) (xs.extract sb (sb+m))
     modify fun st=>Hy st (sa+k) z
     let st <- get
     pure (failedOf st).isNone
   |_=>pure false
 |_=>pure false
theorem Hz {x:SortSt}{Q:PUnit->SortSt->Prop}{st:SortSt}(h:Q ⟨⟩ x):wpS (model prog w) A E s (set x:StateT SortSt Sem PUnit) Q st:=by
 unfold wpS;rw[StateT.run_set];exact k_ ⟨rfl,h⟩
theorem HB (i:Nat) {st:SortSt}{sa na p sb nb q:Nat}(b:(pendingOf st)[i]?=some (sa,na,p)) (a:(pendingOf st)[i+1]?=some (sb,nb,q)) {Q:Bool->SortSt->Prop}(h:wpS (model prog w) A E s (mgB (arrOf st) sa na sb nb) Q (setPending st (((pendingOf st).setIfInBounds i (sa,na+nb,p)).eraseIdxIfInBounds (i+1)))):wpS (model prog w) A E s (mergeAt' i) Q st:=by
 refine v_ (wpS_get ?_);dsimp only;rw[b,a];exact v_ (Hz h)
structure Chg (xs ys:Array Keyed) (u v:Nat):Prop where
 pm:ys.toList.Perm xs.toList
 ot:∀i,i<u\/v<=i->ys[i]?=xs[i]?
theorem Chg.refl {xs:Array Keyed}{u v:Nat}:Chg xs xs u v:=⟨.refl _,fun _ _=>rfl⟩
theorem Ou {xs b:Array Keyed}{P X Z S:List Keyed}(e:xs.toList=P++X++S) (c:b.toList=P++Z++S) (h:Z.Perm X):Chg xs b P.length (P.length+X.length):=by
 refine⟨by rw[e,c];exact (h.append_left _).append_right _,fun i a=>?_⟩;rw[<- Wq,<- Wq,e,c];have d:=h.length_eq;rcases a with a | a
 ·rw[t_,t_,Wb a,Wb a]
 rw[M_ (by rw[a_];omega),M_ (by rw[a_];omega),a_,a_,d]
theorem Tw {xs:List Keyed}{u v t:Nat}(f:u<=v) (d:v<=t) (e:t<=xs.length):∃P X Y S,xs=P++(X++Y)++S/\P.length=u/\X.length=v - u/\Y.length=t - v:=by
 refine⟨xs.take u,(xs.drop u).take (v - u),(xs.drop v).take (t - v),xs.drop t,?_,by rw[Wi];omega,by rw[Wi,Wo];omega,by rw[Wi,Wo];omega⟩;have c:=Wg u xs;have a:=Wg (v - u) (xs.drop u);rw[List.drop_drop,show u+(v - u)=v by omega] at a;have b:=Wg (t - v) (xs.drop v);rw[List.drop_drop,show v+(t - v)=t by omega] at b;rw[t_,t_,b,a,c]
theorem slA_ {X Y:List Keyed}:SL (X++Y)↔SL X/\SL Y/\∀x∈X,∀y∈Y,nu x<=nu y:=Xb
theorem CV {xs:Array Keyed}{P X S:List Keyed}(e:xs.toList=P++X++S) {i:Nat}(h:i<X.length):∃b:P.length+i<xs.size,xs[P.length+i]=X[i]:=by
 have a:xs.size=(P++X++S).length:=by rw[<- e,D_]
 rw[a_,a_] at a;refine⟨by omega,?_⟩;have:xs.toList[P.length+i]?=some X[i]:=by rw[e,t_,M_ (by omega),show P.length+i - P.length=i by omega,Wb h,d_ h]
 rw[Wq,P_ (by omega)] at this;exact We this
theorem HD {st:SortSt}{P X Y S:List Keyed}{Q:Bool->SortSt->Prop}(o:kdO st=oneType') (N:failedOf st=none) (t:∀i (h:i<(arrOf st).size),Iny (arrOf st)[i]) (e:(arrOf st).toList=P++(X++Y)++S) (x1:1<=X.length) (y1:1<=Y.length) (M:SL X) (I:SL Y)
  (h:∀a Z,kdO a=oneType'->failedOf a=none->pendingOf a=pendingOf st->(arrOf a).toList=P++Z++S->Z.Perm (X++Y)->SL Z->Q true a):wpS (model prog w) A E s (mgB (arrOf st) P.length X.length (P.length+X.length) Y.length) Q st:=by
 have eX:(arrOf st).toList=P++X++(Y++S):=by rw[e];simp
 have eY:(arrOf st).toList=(P++X)++Y++S:=by rw[e];simp
 have hl:(arrOf st).size=P.length+X.length+Y.length+S.length:=by rw[<- D_,e];simp;omega
 have D:∀i (h:i<X.length) (o:P.length+i<(arrOf st).size),nu (arrOf st)[P.length+i]=nu X[i]:=fun i h o=>by rw[(CV eX h).2]
 have F:∀i (h:i<Y.length) (o:P.length+X.length+i<(arrOf st).size),nu (arrOf st)[P.length+X.length+i]=nu Y[i]:=fun i h o=>by obtain⟨_,q⟩:=CV eY h;simp only[a_] at q;rw[q]
 have V:∀i j (d:i<=j) (f:j<X.length),nu (X[i]'(by omega))<=nu X[j]:=fun i j d f=>by
  rcases X6 d with z | z
  ·exact Wj.mp M i j (by omega) f z
  subst z;exact WT _
 have R:∀i j (d:i<=j) (f:j<Y.length),nu (Y[i]'(by omega))<=nu Y[j]:=fun i j d f=>by
  rcases X6 d with z | z
  ·exact Wj.mp I i j (by omega) f z
  subst z;exact WT _
 have p:∀{z:Keyed},z∈X->∃i,∃h:i<X.length,z=X[i]:=fun hz=>by obtain⟨i,h,e⟩:=WF hz;exact⟨i,h,e.symm⟩
 have r:∀{z:Keyed},z∈Y->∃i,∃h:i<Y.length,z=Y[i]:=fun hz=>by obtain⟨i,h,e⟩:=WF hz;exact⟨i,h,e.symm⟩
 unfold mgB;refine v_ (bx (by omega) (v_ (lJ o (fun i j d f K=>?_) t (t _ _) (by omega) (by omega) fun k k1 O k3=>?_)))
 ·rw[D i (by omega),D j K];exact V i j d K
 dsimp only;have y0:nu ((arrOf st)[P.length+X.length]'(by omega))=nu (Y[0]'(by omega)):=F 0 (by omega) (by omega);rw[y0] at O k3;by_cases c:X.length - k=0
 ·rw[if_pos (by simp [c])];refine I_ (h st (X++Y) o N rfl e (.refl _) (slA_.mpr ⟨M,I,fun x t y l=>?_⟩));obtain⟨i,n,rfl⟩:=p t;obtain⟨j,f,rfl⟩:=r l;have:=O i (by omega) (by omega);rw[D i n] at this;exact WK this (R 0 j (by omega) f)
 rw[if_neg (by simpa using c)];have xl:nu ((arrOf st)[P.length+k+(X.length - k) - 1]'(by omega))=nu (X[X.length - 1]'(by omega)):=by simpa only[show P.length+k+(X.length - k) - 1=P.length+(X.length - 1) by omega] using D (X.length - 1) (by omega) (by omega)
 refine v_ (bx (by omega) (v_ (lK o (fun i j d f K=>?_) t (t _ _) (by omega) (by omega) fun m m1 m2 T=>?_)))
 ·rw[F i (by omega),F j K];exact R i j d K
 dsimp only;rw[xl] at m2 T;by_cases c2:m=0
 ·rw[if_pos (by simp [c2])];refine I_ (h st (X++Y) o N rfl e (.refl _) (slA_.mpr ⟨M,I,fun x t y l=>?_⟩));obtain⟨i,n,rfl⟩:=p t;obtain⟨j,f,rfl⟩:=r l;have:=T j (by omega) (by omega) f;rw[F j f] at this;exact WK (V i (X.length - 1) (by omega) (by omega)) this
 rw[if_neg (by simpa using c2)];have C:((arrOf st).extract (P.length+k) (P.length+X.length)).toList=X.drop k:=by rw[Hq,eX,t_,List.drop_append,W3 (by omega),Yb,show P.length+k - P.length=k by omega,List.drop_append,List.take_append,Wo,show P.length+X.length - (P.length+k) - (X.length - k)=0 by omega,List.take_zero,N_,WM (by rw[Wo];omega)]
 have B:((arrOf st).extract (P.length+X.length) (P.length+X.length+m)).toList=Y.take m:=by rw[Hq,eY,t_,List.drop_append,W3 (by rw[a_];omega),Yb,a_,Nat.sub_self,Zk,show P.length+X.length+m - (P.length+X.length)=m by omega,List.take_append,show m - Y.length=0 by omega,List.take_zero,N_]
 have J:∀(u v:Nat) i (h:i<((arrOf st).extract u v).size),Iny ((arrOf st).extract u v)[i]:=fun u v i h=>by rw[Array.getElem_extract];exact t _ _
 have gx:∀i (h:i<((arrOf st).extract (P.length+k) (P.length+X.length)).size),∃n:k+i<X.length,((arrOf st).extract (P.length+k) (P.length+X.length))[i]=X[k+i]:=fun i h=>by
  have n:k+i<X.length:=by rw[<- D_,C,Wo] at h;omega
  refine⟨n,?_⟩;rw[<- WN];simp only[C,Ye]
 have gy:∀i (h:i<((arrOf st).extract (P.length+X.length) (P.length+X.length+m)).size),∃n:i<Y.length,((arrOf st).extract (P.length+X.length) (P.length+X.length+m))[i]=Y[i]:=fun i h=>by
  have n:i<m/\i<Y.length:=by rw[<- D_,B,Wi] at h;omega
  refine⟨n.2,?_⟩;rw[<- WN];simp only[B,Yg]
 have zx:((arrOf st).extract (P.length+k) (P.length+X.length)).size=X.length - k:=by rw[<- D_,C,Wo]
 have zy:((arrOf st).extract (P.length+X.length) (P.length+X.length+m)).size=m:=by rw[<- D_,B,Wi];omega
 have tw:TwL ((arrOf st).extract (P.length+k) (P.length+X.length)) ((arrOf st).extract (P.length+X.length) (P.length+X.length+m)):=by
  refine⟨by omega,by omega,J _ _,J _ _,by rw[C];exact M.sublist (List.drop_sublist ..),by rw[B];exact I.sublist (List.take_sublist ..),fun x b U=>?_,fun y l U=>?_⟩
  ·rw[(gy 0 U).2];rw[C] at b;obtain⟨i,n,rfl⟩:=WF b;rw[Wo] at n;rw[Ye];have:=k3 (k+i) (by omega) (by omega) (by omega);rw[D _ (by omega)] at this;exact WP this
  rw[(gx _ U).2];rw[B] at l;obtain⟨i,n,rfl⟩:=WF l;rw[Wi] at n;rw[Yg];have:=m2 i (by omega) (by omega);rw[F i (by omega)] at this;simpa only[zx,show k+(X.length - k - 1)=X.length - 1 by omega] using WP this
 have L:∀(z:Array Keyed) (a:SortSt),SSt st a->fj ((arrOf st).extract (P.length+k) (P.length+X.length)) ((arrOf st).extract (P.length+X.length) (P.length+X.length+m)) z->wpS (model prog w) A E s ((modify fun st=>Hy st (P.length+k) z) >>= fun _=>get >>= fun st=>pure (failedOf st).isNone) Q a:=by
  rintro z a ⟨g1,g2,g3,g4⟩ ⟨hz,H⟩;rw[C,B] at H;refine v_ (wpS_modify (v_ (wpS_get (I_ ?_))));have G:failedOf a=none:=g4.trans N;show Q (failedOf a).isNone (Hy a (P.length+k) z);rw[G];refine h _ (X.take k++z.toList++Y.drop m) (g1.trans o) G g3 ?_ ?_ ?_
  ·have:=xn (P.length+k) z.toList 0 (arrOf a) (P++X.take k) (X.drop k++Y.take m) (Y.drop m++S) (by rw[g2,e];simp only[t_];rw[<- t_ (Y.take m),Wg,<- t_ (X.take k),Wg]) H.length_eq.symm (by rw[a_,Wi];omega);show ((z.toList.zipIdx 0).foldl (fun xs (q:Keyed × Nat)=>xs.setIfInBounds (P.length+k+q.2) q.1) (arrOf a)).toList=_;rw[this];simp only[t_]
  ·refine ((H.append_left _).append_right _).trans ?_;rw[<- t_ (X.take k),Wg,t_,Wg]
  have sX:=slA_.mp (show SL (X.take k++X.drop k) by rw[Wg];exact M);have sY:=slA_.mp (show SL (Y.take m++Y.drop m) by rw[Wg];exact I);have xy:∀x∈X.take k,∀y∈Y,nu x<=nu y:=fun x b y l=>by obtain⟨i,n,rfl⟩:=WF b;rw[Wi] at n;rw[Yg];obtain⟨j,f,rfl⟩:=r l;have:=O i (by omega) (by omega);rw[D i (by omega)] at this;exact WK this (R 0 j (by omega) f)
  have W:∀x∈X,∀y∈Y.drop m,nu x<=nu y:=fun x b y l=>by obtain⟨j,f,rfl⟩:=WF l;rw[Wo] at f;rw[Ye];obtain⟨i,n,rfl⟩:=p b;have:=T (m+j) (by omega) (by omega) (by omega);rw[F _ (by omega)] at this;exact WK (V i (X.length - 1) (by omega) (by omega)) this
  refine slA_.mpr ⟨slA_.mpr ⟨sX.1,hz,fun x b y l=>?_⟩,sY.2.1,fun x b y l=>?_⟩
  ·rcases u_.mp (H.mem_iff.mp l) with q | q
   ·exact sX.2.2 x b y q
   exact xy x b y (Yh q)
  rcases u_.mp b with q | q
  ·exact W x (Yh q) y l
  rcases u_.mp (H.mem_iff.mp q) with q | q
  ·exact W x (List.mem_of_mem_drop q) y l
  exact sY.2.2 x q y l
 split
 ·exact v_ (Hn tw o fun z a g hz=>L z a g hz)
 exact v_ (Hx tw o fun z a g hz=>L z a g hz)
end
def asL (d a n:Nat):StateT SortSt Sem AscSt:=forIn [a:n] ((none,a):AscSt) fun _ c=>do
 match <- ltAt' (d+c.2) (d+c.2 - 1) with
 |some b=>if b=true then pure (.done (none,c.2)) else pure (.yield (none,c.2+1))
 |_=>pure (.done (some none,c.2))
def tlL (a m n:Nat):StateT SortSt Sem (Option Nat):=do
 reverseSlice' a (a+m)
 let c <- asL a m n
 match c.1 with
 |some r=>pure r
 |none=>pure (some c.2)
def deL (a m n:Nat):StateT SortSt Sem DescSt:=forIn [m:n] ((none,m,0):DescSt) fun _ c=>do
 match <- ltAt' (a+c.2.1) (a+c.2.1 - 1) with
 |some b =>
  if b=true then
   if c.2.2>0 then do
    reverseSlice' (a+c.2.1 - (c.2.2+1)) (a+c.2.1)
    pure (.yield (none,c.2.1+1,0))
   else pure (.yield (none,c.2.1+1,0))
  else do
   match <- ltAt' (a+c.2.1 - 1) (a+c.2.1) with
   |some b=>if b=true then pure (.done (none,c.2.1,c.2.2)) else pure (.yield (none,c.2.1+1,c.2.2+1))
   |_=>pure (.done (some none,c.2.1,c.2.2))
 |_=>pure (.done (some none,c.2.1,c.2.2))
def dpL (a m n:Nat):StateT SortSt Sem (Option Nat):=do
 liftM (rule "list.sort.descending-run")
 let c <- deL a (m+1) n
 match c.1 with
 |some r=>pure r
 |none =>
  if c.2.2>0 then do
   reverseSlice' (a+c.2.1 - (c.2.2+1)) (a+c.2.1)
   tlL a c.2.1 n
  else tlL a c.2.1 n
theorem Tz (a n:Nat):countRun' a n=(do
  let c <- asL a 1 n
  match c.1 with
  |some r=>pure r
  |none =>
   if (c.2==n)=true then pure (some c.2)
   else if c.2>1 then do
    match <- ltAt' a (a+c.2 - 1) with
    |some b=>if b=true then pure (some c.2) else do
      reverseSlice' a (a+c.2)
      dpL a c.2 n
    |_=>pure none
   else dpL a c.2 n):=by
 rw[countRun'_eq]
 have d:∀m,(do
   reverseSlice' a (a+m)
   let mut n':=m
   for _ in [n':n] do
    let some smaller <- ltAt' (a+n') (a+n' - 1) | return none
    if smaller then break
    n':=n'+1
   return some n')=tlL a m n:=fun m=>by
  unfold tlL asL
  refine aL rfl fun _=>aL rfl fun ⟨r,k⟩=>?_
  cases r <;> rfl
 have e:∀m,(do
   rule "list.sort.descending-run"
   let mut n':=m+1
   let mut neq:=0
   for _ in [n':n] do
    let some smaller <- ltAt' (a+n') (a+n' - 1) | return none
    if smaller then
     if neq>0 then reverseSlice' (a+n' - (neq+1)) (a+n')
     neq:=0
    else
     let some larger <- ltAt' (a+n' - 1) (a+n') | return none
     if larger then break
     neq:=neq+1
    n':=n'+1
   if neq>0 then reverseSlice' (a+n' - (neq+1)) (a+n')
   reverseSlice' a (a+n')
   for _ in [n':n] do
    let some smaller <- ltAt' (a+n') (a+n' - 1) | return none
    if smaller then break
    n':=n'+1
   return some n')=dpL a m n:=fun m=>by
  unfold dpL
  refine aL rfl fun _=>aL rfl fun ⟨r,k,q⟩=>?_
  cases r with
  |some r=>rfl
  |none =>
   dsimp only
   split
   ·
    exact aL rfl fun _=>d _
   ·
    exact d _
 unfold asL
 refine aL rfl fun ⟨r,k⟩=>?_
 cases r with
 |some r=>rfl
 |none =>
  dsimp only
  split
  ·
   rfl
  ·
   split
   ·
    refine aL rfl fun x=>?_
    cases x with
    |none=>rfl
    |some b =>
     dsimp only
     split
     ·
      rfl
     ·
      exact aL rfl fun _=>e _
   ·
    exact e _
section
variable {prog:Program}{w:World}{A:Around}{E:Value->Shared->Prop}{s:Shared}{a₀:Array Keyed}{ps:Array (Nat × Nat × Nat)}
structure LB (a₀:Array Keyed) (ps:Array (Nat × Nat × Nat)) (st:SortSt):Prop where
 pm:(arrOf st).Perm a₀
 kd:kdO st=oneType'
 fl:failedOf st=none
 pd:pendingOf st=ps
theorem LB.sz {st:SortSt}(h:LB a₀ ps st):(arrOf st).size=a₀.size:=h.pm.size_eq
theorem LB.set {st:SortSt}(h:LB a₀ ps st) {xs:Array Keyed}(q:xs.Perm (arrOf st)):LB a₀ ps (setArr st xs):=⟨q.trans h.pm,h.kd,h.fl,h.pd⟩
theorem LB.iny {st:SortSt}(h:LB a₀ ps st) (a:IntKeys a₀) (i:Nat) (b:i<(arrOf st).size):Iny (arrOf st)[i]:=a _ ((Array.perm_iff_toList_perm.mp h.pm).mem_iff.mp (by simp))
theorem LB.lt {st:SortSt}(h:LB a₀ ps st) (c:IntKeys a₀) {i j:Nat}(d:i<a₀.size) (e:j<a₀.size) {Q:Option Bool->SortSt->Prop}(q:Q (some (decide (K (arrOf st) i<K (arrOf st) j))) st):wpS (model prog w) A E s (ltAt' i j) Q st:=by
 have b:i<(arrOf st).size:=by rw[h.sz];exact d
 have a:j<(arrOf st).size:=by rw[h.sz];exact e
 rw[ltAt'_eq];refine v_ (wpS_get (v_ (bx b (v_ (bx a (lG h.kd (h.iny c _ _) (h.iny c _ _) ?_))))))
 rwa [Tv b,Tv a] at q
def Dc (xs:Array Keyed) (s n:Nat):Prop:=∀i j,s<=i->i<=j->j<s+n->K xs j<=K xs i
def Lf (b:Nat) (xs a:Array Keyed):Prop:=∀i,i<b->K a i=K xs i
theorem Lf.refl {a:Nat}{xs:Array Keyed}:Lf a xs xs:=fun _ _=>rfl
theorem Lf.trans {a:Nat}{xs b d:Array Keyed}(h:Lf a xs b) (g:Lf a b d):Lf a xs d:=fun i c=>(g i c).trans (h i c)
theorem pZ {a u v:Nat}{xs:Array Keyed}(c:a<=u) (b:v<=xs.size):Lf a xs (mirror xs u v ((v - u) / 2)):=fun i d=>by rw[K_mirror b,if_neg (by omega)]
theorem Sg.more {xs:Array Keyed}{a x:Nat}(g:1<=x) (h:Sg xs a x) (e:K xs (a+x - 1)<=K xs (a+x)):Sg xs a (x+1):=fun i j b c k=>by
 by_cases f:j<a+x
 ·exact h i j b c f
 obtain rfl:j=a+x:=by omega
 by_cases d:i=a+x
 ·subst d;exact WT _
 exact WK (h i (a+x - 1) b (by omega) (by omega)) e
theorem Dc.more {xs:Array Keyed}{a x:Nat}(g:1<=x) (h:Dc xs a x) (e:K xs (a+x)<=K xs (a+x - 1)):Dc xs a (x+1):=fun i j b c k=>by
 by_cases f:j<a+x
 ·exact h i j b c f
 obtain rfl:j=a+x:=by omega
 by_cases d:i=a+x
 ·subst d;exact WT _
 exact WK e (h i (a+x - 1) b (by omega) (by omega))
theorem Ov {xs:Array Keyed}{a:Nat}:Sg xs a 1:=fun i j d b c=>by
 obtain rfl:i=j:=by omega
 exact WT _
theorem xq {st:SortSt}{e a n:Nat}{Q:AscSt->SortSt->Prop}(j:IntKeys a₀) (p:e+n<=a₀.size) (o:1<=a) (i:a<=n) (B:LB a₀ ps st) (l:Sg (arrOf st) e a)
  (h:∀m,a<=m->m<=n->Sg (arrOf st) e m->(m=n\/K (arrOf st) (e+m)<K (arrOf st) (e+m - 1))->Q (none,m) st):wpS (model prog w) A E s (asL e a n) Q st:=by
 unfold asL;refine W4 (I:=fun x c b=>b=st/\c=(none,x)/\Sg (arrOf st) e x) ?_ ?_ ⟨rfl,rfl,l⟩
 ·rintro x c b g k ⟨rfl,rfl,d⟩;dsimp only;refine v_ (B.lt j (by omega) (by omega) ?_);dsimp only;by_cases f:K (arrOf b) (e+x)<K (arrOf b) (e+x - 1)
  ·rw[if_pos (F_ f)];exact I_ (h x g (by omega) d (.inr f))
  rw[if_neg (by simpa using f)];exact I_ ⟨rfl,rfl,d.more (by omega) (Int.not_lt.mp f)⟩
 rintro c b ⟨rfl,rfl,d⟩;rw[show max a n=n by omega] at d ⊢;exact h n i (j_ _) d (.inl rfl)
def Fd (a₀:Array Keyed) (ps:Array (Nat × Nat × Nat)) (st:SortSt) (b n:Nat) (Q:Option Nat->SortSt->Prop):Prop:=∀m a,LB a₀ ps a->Lf b (arrOf st) (arrOf a)->1<=m->m<=n->Sg (arrOf a) b m->Q (some m) a
theorem Fd.by {st a:SortSt}{c n:Nat}{Q:Option Nat->SortSt->Prop}(h:Fd a₀ ps st c n Q) (g:Lf c (arrOf st) (arrOf a)):Fd a₀ ps a c n Q:=fun m d b l=>h m d b (g.trans l)
theorem xu {st:SortSt}{a m n:Nat}{Q:Option Nat->SortSt->Prop}(f:IntKeys a₀) (g:a+n<=a₀.size) (d:1<=m) (c:m<=n) (B:LB a₀ ps st) (o:Dc (arrOf st) a m) (h:Fd a₀ ps st a n Q):wpS (model prog w) A E s (tlL a m n) Q st:=by
 unfold tlL;have hz:a+m<=(arrOf st).size:=by rw[B.sz];omega
 refine v_ (wpS_reverse ?_);have b:=B.set (mirror_perm (arrOf st) a (a+m) ((a+m - a) / 2));refine v_ (xq f g d c b (fun i j q p r=>?_) fun k t e l _=>I_ (h k _ b (pZ (j_ _) hz) (by omega) e l));show K (mirror (arrOf st) _ _ _) i<=K (mirror (arrOf st) _ _ _) j;rw[K_mirror hz,K_mirror hz,if_pos (by omega),if_pos (by omega)];exact o _ _ (by omega) (by omega) (by omega)
theorem HF {st:SortSt}{b m n:Nat}{Q:DescSt->SortSt->Prop}(D:IntKeys a₀) (N:b+n<=a₀.size) (M:1<=m) (H:m<=n) (B:LB a₀ ps st) (G:Dc (arrOf st) b m)
  (h:∀k q a,LB a₀ ps a->Lf b (arrOf st) (arrOf a)->m<=k->k<=n->Dc (arrOf a) b k->q+1<=k->(∀i,b+k - (q+1)<=i->i<b+k->K (arrOf a) i=K (arrOf a) (b+k - 1))->Q (none,k,q) a):wpS (model prog w) A E s (deL b m n) Q st:=by
 unfold deL;have l:∀(xs:Array Keyed) x i,b+(x+1) - (0+1)<=i->i<b+(x+1)->K xs i=K xs (b+(x+1) - 1):=fun xs x i t p=>by rw[show i=b+(x+1) - 1 by omega]
 refine W4 (I:=fun x c a=>∃q,c=(none,x,q)/\LB a₀ ps a/\Lf b (arrOf st) (arrOf a)/\Dc (arrOf a) b x/\q+1<=x/\∀i,b+x - (q+1)<=i->i<b+x->K (arrOf a) i=K (arrOf a) (b+x - 1)) ?_ ?_ ⟨0,rfl,B,.refl,G,by omega,fun i t p=>by rw[show i=b+m - 1 by omega]⟩
 ·rintro x c a v J ⟨q,rfl,e,g,d,o,f⟩;dsimp only;have hz:b+x<=(arrOf a).size:=by rw[e.sz];omega
  refine v_ (e.lt D (by omega) (by omega) ?_);dsimp only;by_cases u:K (arrOf a) (b+x)<K (arrOf a) (b+x - 1)
  ·rw[if_pos (F_ u)];by_cases y:q>0
   ·rw[if_pos y];have r:=K_mirror_equal hz f;refine v_ (wpS_reverse (I_ ⟨0,rfl,e.set (mirror_perm _ _ _ _),g.trans (pZ (by omega) hz),Dc.more (by omega) (fun i j t p F=>?_) ?_,by omega,l _ x⟩))
    ·show K (mirror _ _ _ _) j<=K (mirror _ _ _ _) i;rw[r,r];exact d i j t p F
    show K (mirror _ _ _ _) _<=K (mirror _ _ _ _) _;rw[r,r];exact WP u
   rw[if_neg y];exact I_ ⟨0,rfl,e,g,d.more (by omega) (WP u),by omega,l _ x⟩
  rw[if_neg (by simpa using u)];refine v_ (e.lt D (by omega) (by omega) ?_);dsimp only;by_cases z:K (arrOf a) (b+x - 1)<K (arrOf a) (b+x)
  ·rw[if_pos (F_ z)];exact I_ (h x q a e g v (by omega) d o f)
  rw[if_neg (by simpa using z)];have C:K (arrOf a) (b+x)=K (arrOf a) (b+x - 1):=by omega
  refine I_ ⟨q+1,rfl,e,g,d.more (by omega) (by rw[C];exact WT _),by omega,fun i t p=>?_⟩;rw[show b+(x+1) - 1=b+x by omega];by_cases L:i=b+x
  ·rw[L]
  rw[C];exact f i (by omega) (by omega)
 rintro c a ⟨q,rfl,e,g,d,o,f⟩;rw[show max m n=n by omega] at d o f ⊢;exact h n q a e g H (j_ _) d o f
theorem xx {st:SortSt}{a m n:Nat}{Q:Option Nat->SortSt->Prop}(d:IntKeys a₀) (e:a+n<=a₀.size) (r:m+1<=n) (B:LB a₀ ps st) (x:Dc (arrOf st) a (m+1)) (h:Fd a₀ ps st a n Q):wpS (model prog w) A E s (dpL a m n) Q st:=by
 unfold dpL;refine v_ (wpS_lift (Y0 ⟨rfl,?_⟩));refine v_ (HF d e (by omega) r B x fun k q c f p z l b C y=>?_);dsimp only;have hz:a+k<=(arrOf c).size:=by rw[f.sz];omega
 by_cases g:q>0
 ·rw[if_pos g];have o:=K_mirror_equal hz y;refine v_ (wpS_reverse (xu d e (by omega) l (f.set (mirror_perm _ _ _ _)) (fun i j u t v=>?_) (h.by (p.trans (pZ (by omega) hz)))));show K (mirror _ _ _ _) j<=K (mirror _ _ _ _) i;rw[o,o];exact b i j u t v
 rw[if_neg g];exact xu d e (by omega) l f b (h.by p)
theorem Ow {st:SortSt}{a n:Nat}{Q:Option Nat->SortSt->Prop}(c:IntKeys a₀) (p:a+n<=a₀.size) (y:1<=n) (B:LB a₀ ps st) (h:Fd a₀ ps st a n Q):wpS (model prog w) A E s (countRun' a n) Q st:=by
 rw[Tz];refine v_ (xq c p (j_ 1) y B Ov fun m q u f x=>?_);dsimp only;by_cases e:m=n
 ·rw[if_pos (by simpa using e)];exact I_ (h m st B .refl q u f)
 rw[if_neg (by simpa using e)];have t:=x.resolve_left e;by_cases g:m>1
 ·rw[if_pos g];refine v_ (B.lt c (by omega) (by omega) ?_);dsimp only;by_cases v:K (arrOf st) a<K (arrOf st) (a+m - 1)
  ·rw[if_pos (F_ v)];exact I_ (h m st B .refl q u f)
  rw[if_neg (by simpa using v)];have hz:a+m<=(arrOf st).size:=by rw[B.sz];omega
  have l:∀k,a<=k->k<a+m->K (arrOf st) k=K (arrOf st) (a+m - 1):=fun k b o=>by have C:=f a k (j_ _) b o;have z:=f k (a+m - 1) b (by omega) (by omega);omega
  have d:=K_mirror_equal hz l;refine v_ (wpS_reverse (xx c p (by omega) (B.set (mirror_perm _ _ _ _)) (Dc.more q (fun i j b o r=>?_) ?_) (h.by (pZ (j_ _) hz))))
  ·show K (mirror _ _ _ _) j<=K (mirror _ _ _ _) i;rw[d,d,l i b (by omega),l j (by omega) r];exact WT _
  show K (mirror _ _ _ _) _<=K (mirror _ _ _ _) _;rw[d,d];exact WP t
 rw[if_neg g];obtain rfl:m=1:=by omega
 exact xx c p (by omega) B (Dc.more (j_ 1) (fun i j b o r=>by
  obtain rfl:i=j:=by omega
  exact WT _) (WP t)) h
theorem Ox {st:SortSt}{b n m:Nat}{Q:Bool->SortSt->Prop}(O:IntKeys a₀) (S:b+n<=a₀.size) (M:1<=m) (D:m<=n) (B:LB a₀ ps st) (H:Sg (arrOf st) b m)
  (h:∀a,LB a₀ ps a->Lf b (arrOf st) (arrOf a)->Sg (arrOf a) b n->Q true a):wpS (model prog w) A E s (binarySort' b n m) Q st:=by
 rw[binarySort'_eq];refine v_ (Yt (W4 (I:=fun k c a=>c=(none,())/\LB a₀ ps a/\Lf b (arrOf st) (arrOf a)/\Sg (arrOf a) b (min k n)) (Q:=fun c a=>c=(none,())/\LB a₀ ps a/\Lf b (arrOf st) (arrOf a)/\Sg (arrOf a) b n) ?_ ?_ ⟨rfl,B,.refl,by rw[show min (max m 1) n=m by omega];exact H⟩) ?_)
 ·rintro k c a F L ⟨rfl,o,t,e⟩;rw[show min k n=k by omega] at e;refine v_ (Yt (W4 (I:=fun x c f=>f=a/\∃l r,c=(none,l,r)/\l<=r/\r<=k/\r - l<=k - x/\(∀i,b<=i->i<b+l->K (arrOf a) i<=K (arrOf a) (b+k))/\∀i,b+r<=i->i<b+k->K (arrOf a) (b+k)<K (arrOf a) i)
   (Q:=fun c f=>f=a/\∃l r,c=(none,l,r)/\l<=k/\(∀i,b<=i->i<b+l->K (arrOf a) i<=K (arrOf a) (b+k))/\∀i,b+l<=i->i<b+k->K (arrOf a) (b+k)<K (arrOf a) i) ?_ ?_ ⟨rfl,0,k,rfl,by omega,by omega,by omega,fun i _ _=>by omega,fun i _ _=>by omega⟩) ?_)
  ·rintro x c f _ T ⟨rfl,l,r,rfl,N,v,G,q,p⟩;dsimp only;by_cases g:l ≥ r
   ·rw[if_pos g];obtain rfl:l=r:=by omega
    exact I_ ⟨rfl,l,l,rfl,v,q,p⟩
   rw[if_neg g];refine v_ (o.lt O (by omega) (by omega) ?_);dsimp only;by_cases y:K (arrOf f) (b+k)<K (arrOf f) (b+(l+r) / 2)
   ·rw[if_pos (F_ y)];exact I_ ⟨rfl,l,(l+r) / 2,rfl,by omega,by omega,by omega,q,fun i u z=>Int.lt_of_lt_of_le y (e _ _ (by omega) u z)⟩
   rw[if_neg (by simpa using y)];exact I_ ⟨rfl,(l+r) / 2+1,r,rfl,by omega,by omega,by omega,fun i u z=>WK (e i (b+(l+r) / 2) u (by omega) (by omega)) (Int.not_lt.mp y),p⟩
  ·rintro c f ⟨rfl,l,r,rfl,N,v,G,q,p⟩;obtain rfl:l=r:=by omega
   exact⟨rfl,l,l,rfl,v,q,p⟩
  rintro c f ⟨rfl,l,r,rfl,v,q,p⟩;show wpS _ _ _ _ (moveDown' (b+k) (b+l) >>= fun _=>pure (ForInStep.yield (none,()))) _ _;rw[moveDown'_eq];have J:b+k<(arrOf f).size:=by rw[o.sz];omega
  have C:=fun i=>K_bubble J (d:=b+k - (b+l)) (by omega) i;refine v_ (wpS_modify (I_ ⟨rfl,o.set (bubble_perm _ _ _),t.trans fun i U=>?_,?_⟩))
  ·show K (bubble _ _ _) i=_;rw[C,if_neg (by omega),if_neg (by omega)]
  rw[show min (k+1) n=k+1 by omega];intro i j u z R;show K (bubble _ _ _) i<=K (bubble _ _ _) j;rw[C,C,show b+k - (b+k - (b+l))=b+l by omega]
  repeat' split
  all_goals first
   | (exfalso;omega)
   |exact WT _
   |exact q _ (by omega) (by omega)
   |exact WP (p _ (by omega) (by omega))
   |exact e _ _ (by omega) (by omega) (by omega)
 ·rintro c a ⟨P,o,t,e⟩;rw[show min (max (max m 1) n) n=n by omega] at e;exact⟨P,o,t,e⟩
 rintro c a ⟨rfl,o,t,e⟩;exact I_ (h a o t e)
end
def Rns (xs:Array Keyed):Nat->List (Nat × Nat × Nat)->Nat->Prop
 |u,[],v=>u=v
 |u,p::ps,v=>p.1=u/\1<=p.2.1/\Sg xs u p.2.1/\Rns xs (u+p.2.1) ps v
theorem Rns.le {xs:Array Keyed}:∀{ps:List (Nat × Nat × Nat)}{u v:Nat},Rns xs u ps v->u+ps.length<=v
 |[],_,_,h=>Yw h
 |p::ps,u,v,h=>by
  have:=h.2.2.2.le
  have:=h.2.1
  rw[i_]
  omega
theorem Rns.by {xs c:Array Keyed}:∀{ps:List (Nat × Nat × Nat)}{u v:Nat},Rns xs u ps v->(∀i,u<=i->i<v->K c i=K xs i)->Rns c u ps v
 |[],_,_,h,_=>h
 |p::ps,u,v,h,k=>by
  have e:=h.2.2.2.le
  exact⟨h.1,h.2.1,fun i j b a d=>by rw[k i b (by omega),k j (by omega) (by omega)];exact h.2.2.1 i j b a d,h.2.2.2.by fun i b a=>k i (by omega) a⟩
theorem Rns.app {xs:Array Keyed}:∀{A B:List (Nat × Nat × Nat)}{u v:Nat},Rns xs u (A++B) v↔∃m,Rns xs u A m/\Rns xs m B v
 |[],B,u,v=>⟨fun h=>⟨u,rfl,h⟩,fun ⟨m,e,h⟩=>by rw[show u=m from e];exact h⟩
 |p::A,B,u,v=>by
  show (_/\_/\_/\Rns xs _ (A++B) v)↔_
  rw[Rns.app (A:=A)]
  exact⟨fun ⟨a,b,c,m,d,e⟩=>⟨m,⟨a,b,c,d⟩,e⟩,fun ⟨m,⟨a,b,c,d⟩,e⟩=>⟨a,b,c,m,d,e⟩⟩
section
variable {prog:Program}{w:World}{A:Around}{E:Value->Shared->Prop}{s:Shared}{a₀:Array Keyed}{ps:Array (Nat × Nat × Nat)}
theorem rN {st:SortSt}{i v:Nat}{U B:List (Nat × Nat × Nat)}{x y:Nat × Nat × Nat}{Q:Bool->SortSt->Prop}(T:IntKeys a₀) (b:LB a₀ ps st) (e:ps.toList=U++x::y::B) (l:U.length=i) (R:Rns (arrOf st) 0 ps.toList v) (hv:v<=a₀.size)
  (h:∀c ps',LB a₀ ps' c->ps'.toList=U++(x.1,x.2.1+y.2.1,x.2.2)::B->Rns (arrOf c) 0 ps'.toList v->(∀i,v<=i->K (arrOf c) i=K (arrOf st) i)->Q true c):wpS (model prog w) A E s (mergeAt' i) Q st:=by
 obtain⟨sa,na,p⟩:=x;obtain⟨sb,nb,q⟩:=y;subst l;have n:(pendingOf st).toList=U++(sa,na,p)::(sb,nb,q)::B:=by rw[b.pd,e]
 refine HB _ (sa:=sa) (na:=na) (p:=p) (sb:=sb) (nb:=nb) (q:=q) (by rw[<- Wq,n];simp) (by rw[<- Wq,n,M_ (by omega)];simp) ?_;rw[e] at R;obtain⟨m,J,r,o,D,G,H,F,f⟩:=Rns.app.mp R;dsimp only at r o D G H F f;subst r G;have lB:=f.le;obtain⟨P,X,Y,S,d,M,lx,ly⟩:=Tw (xs:=(arrOf st).toList) (u:=sa) (v:=sa+na) (t:=sa+na+nb) (by omega) (by omega) (by rw[D_,b.sz];omega);have j:X.length=na:=by omega
 have k:Y.length=nb:=by omega
 subst M j k;have L:(arrOf st).toList=P++X++(Y++S):=by rw[d];simp
 have eY:(arrOf st).toList=(P++X)++Y++S:=by rw[d];simp
 refine HD (st:=setPending st (((pendingOf st).setIfInBounds U.length (P.length,X.length+Y.length,p)).eraseIdxIfInBounds (U.length+1))) b.kd b.fl (b.iny T) d o H ((CT L).mp D) ((CT eY).mp (by rw[a_];exact F)) fun c Z W N k3 I C V=>?_;have ch:=Ou d I C;have O:Z.length=X.length+Y.length:=by rw[C.length_eq,a_]
 rw[a_] at ch;have g:∀i,i<P.length\/P.length+(X.length+Y.length)<=i->K (arrOf c) i=K (arrOf st) i:=fun i l=>K_congr (ch.ot i l);have z:(pendingOf c).toList=U++(P.length,X.length+Y.length,p)::B:=by rw[k3];show (((pendingOf st).setIfInBounds U.length (P.length,X.length+Y.length,p)).eraseIdxIfInBounds (U.length+1)).toList=_;rw[Array.toList_eraseIdxIfInBounds,Array.toList_setIfInBounds,n];simp only[List.set_append_right,j_,Nat.sub_self,List.set_cons_zero];rw[List.eraseIdx_append_of_length_le (by omega),show U.length+1 - U.length=1 by omega];rfl
 refine h c (pendingOf c) ⟨(Array.perm_iff_toList_perm.mpr ch.pm).trans b.pm,W,N,rfl⟩ z ?_ fun i a=>g i (.inr (by omega));rw[z];refine Rns.app.mpr ⟨P.length,J.by fun i _ a=>g i (.inl a),rfl,by dsimp only;omega,?_,?_⟩
 ·have:=(CT I).mpr V
  rwa [O] at this
 dsimp only;rw[<- Nat.add_assoc];exact f.by fun i a _=>g i (.inr (by omega))
theorem Rns.pw {xs:Array Keyed}{f:Nat × Nat × Nat->Nat × Nat × Nat}(a:∀x,(f x).1=x.1/\(f x).2.1=x.2.1):∀{ps:List (Nat × Nat × Nat)}{u v k:Nat},Rns xs u ps v->Rns xs u (ps.modify k f) v
 |[],_,_,0,h=>h
 |[],_,_,_+1,h=>h
 |p::ps,u,v,0,h=>by
  show (f p).1=u/\1<=(f p).2.1/\Sg xs u (f p).2.1/\Rns xs (u+(f p).2.1) ps v
  rw[(a p).1,(a p).2]
  exact h
 |p::ps,u,v,k+1,h=>⟨h.1,h.2.1,h.2.2.1,h.2.2.2.pw a⟩
def rsL (N a n:Nat):StateT SortSt Sem (ForInStep (Option Unit × Nat)):=do
 let q <- get
 match (pendingOf q).back? with
 |some (s1,n1,_)=>do
  let c <- forIn [:N] ((none,()):Option Unit × Unit) fun _ _=>do
   let q <- get
   match if (pendingOf q).size>1 then (pendingOf q)[(pendingOf q).size - 2]? else none with
   |some (_,_,older) =>
    if older<=power' N (2*s1+n1) (2*s1+n1+n1+n) N then pure (.done (none,()))
    else do
     let r <- mergeAt' ((pendingOf q).size - 2)
     if (!r)=true then pure (.done (some (),())) else pure (.yield (none,()))
   |_=>pure (.done (none,()))
  match c.1 with
  |some r=>pure (.done (some r,a))
  |none=>do
   modify fun s=>setPending s ((pendingOf s).modify ((pendingOf s).size - 1) fun x=>(x.1,x.2.1,power' N (2*s1+n1) (2*s1+n1+n1+n) N))
   modify fun s=>setPending s ((pendingOf s).push (a,n,0))
   pure (.yield (none,a+n))
 |_=>do
  modify fun s=>setPending s ((pendingOf s).push (a,n,0))
  pure (.yield (none,a+n))
theorem TF {a:Type}{ps:Array a}{i:Nat}(h:i+2<=ps.size):∃x y,ps.toList=ps.toList.take i++x::y::ps.toList.drop (i+2)/\(ps.toList.take i).length=i:=by
 refine⟨ps.toList[i]'(by rw[D_];omega),ps.toList[i+1]'(by rw[D_];omega),?_,by rw[Wi,D_];omega⟩;rw[<- W0,<- W0,Wg]
theorem xF {st:SortSt}{f n:Nat}{Q:ForInStep (Option Unit × Nat)->SortSt->Prop}{z:StateT SortSt Sem (ForInStep (Option Unit × Nat))}(F:z=rsL a₀.size f n) (L:IntKeys a₀) (b:LB a₀ ps st) (R:Rns (arrOf st) 0 ps.toList f) (D:1<=n) (O:f+n<=a₀.size) (q:Sg (arrOf st) f n)
  (h:∀d ps',LB a₀ ps' d->Rns (arrOf d) 0 ps'.toList (f+n)->Q (.yield (none,f+n)) d):wpS (model prog w) A E s z Q st:=by
 subst F;have o:∀st ps,LB a₀ ps st->Rns (arrOf st) 0 ps.toList f->Sg (arrOf st) f n->Q (.yield (none,f+n)) (setPending st ((pendingOf st).push (f,n,0))):=fun st ps b R q=>by refine h _ (ps.push (f,n,0)) ⟨b.pm,b.kd,b.fl,by show (pendingOf st).push _=_;rw[b.pd]⟩ ?_;rw[XN];exact Rns.app.mpr ⟨f,R,rfl,D,q,rfl⟩
 unfold rsL;refine v_ (wpS_get ?_);cases (pendingOf st).back? with
 |none=>exact v_ (wpS_modify (I_ (o st ps b R q)))
 |some p =>
 obtain⟨N,P,p⟩:=p;dsimp only;refine v_ (Yt (W4 (I:=fun _ c d=>∃ps,c=(none,())/\LB a₀ ps d/\Rns (arrOf d) 0 ps.toList f/\Sg (arrOf d) f n) (Q:=fun c d=>∃ps,c=(none,())/\LB a₀ ps d/\Rns (arrOf d) 0 ps.toList f/\Sg (arrOf d) f n) ?_ (fun _ _ z=>z) ⟨ps,rfl,b,R,q⟩) ?_)
 ·rintro x c g _ _ ⟨ps,rfl,k,R2,t⟩;refine v_ (wpS_get ?_);rw[k.pd];have m:=I_ (M:=model prog w) (A:=A) (E:=E) (s:=s) (Q:=fun r d=>match r with | .done c'=>∃ps,c'=(none,())/\LB a₀ ps d/\Rns (arrOf d) 0 ps.toList f/\Sg (arrOf d) f n | .yield c'=>∃ps,c'=(none,())/\LB a₀ ps d/\Rns (arrOf d) 0 ps.toList f/\Sg (arrOf d) f n) (a:=ForInStep.done ((none,()):Option Unit × Unit)) (st:=g) ⟨ps,rfl,k,R2,t⟩;by_cases B:ps.size>1
  ·rw[if_pos B];obtain⟨x,y,e,l⟩:=TF (i:=ps.size - 2) (ps:=ps) (by omega);split
   ·split
    ·exact m
    refine v_ (rN L k e l R2 (by omega) fun J u K _ R3 C=>?_);rw[WX,if_neg m_];exact I_ ⟨u,rfl,K,R3,fun i j v H G=>by rw[C i v,C j (by omega)];exact t i j v H G⟩
   exact m
  rw[if_neg B];exact m
 rintro c g ⟨ps,rfl,k,R2,t⟩;refine v_ (wpS_modify (v_ (wpS_modify (I_ (o _ _ ⟨k.pm,k.kd,k.fl,rfl⟩ ?_ t)))));show Rns (arrOf g) 0 ((pendingOf g).modify _ _).toList f;rw[Array.toList_modify,k.pd];refine Rns.pw ?_ R2;exact fun _=>⟨rfl,rfl⟩
theorem CW {st:SortSt}{Q:Unit->SortSt->Prop}(t:IntKeys a₀) (b:LB a₀ #[] st) (h1:1<=a₀.size) (h:∀d,(arrOf d).Perm a₀->failedOf d=none->SortedTo (arrOf d) a₀.size->Q () d):wpS (model prog w) A E s sortRuns' Q st:=by
 rw[sortRuns'_eq];refine v_ (wpS_get ?_);dsimp only;rw[b.sz];generalize minRun' a₀.size a₀.size 0=mr;refine v_ (Yt (W4 (I:=fun x c d=>∃g ps,c=(none,g)/\LB a₀ ps d/\Rns (arrOf d) 0 ps.toList g/\g<=a₀.size/\(x<=g\/g=a₀.size))
  (Q:=fun c d=>∃ps,c=(none,a₀.size)/\LB a₀ ps d/\Rns (arrOf d) 0 ps.toList a₀.size) ?step ?fin ⟨0,#[],rfl,b,rfl,by omega,.inl (j_ _)⟩) ?post)
 case fin =>
  rintro c d ⟨g,ps,rfl,o,R,W,S⟩
  obtain rfl:g=a₀.size:=by omega
  exact⟨ps,rfl,o,R⟩
 case step =>
  rintro x c d _ V ⟨g,ps,rfl,o,R,W,S⟩
  dsimp only
  by_cases r:g ≥ a₀.size
  ·
   rw[if_pos r]
   obtain rfl:g=a₀.size:=by omega
   exact I_ ⟨ps,rfl,o,R⟩
  rw[if_neg r]
  refine v_ (Ow t (by omega) (by omega) o fun m k f H K Y G=>?_)
  dsimp only
  split
  rotate_left
  refine xF ?_ t f (R.by fun i _ a=>H i a) K (by omega) G fun F n C v=>⟨_,n,rfl,C,v,by omega,by omega⟩
  rotate_left
  refine v_ (wpS_lift (Y0 ⟨rfl,?_⟩))
  refine v_ (Ox t (by omega) K (by omega) f G fun B D M T=>?_)
  rw[WX,if_neg m_]
  refine xF ?_ t D (R.by fun i _ a=>H.trans M i a) (by omega) (by omega) T fun F n C v=>⟨_,n,rfl,C,v,by omega,by omega⟩
  all_goals
   unfold rsL
   refine aL rfl fun q=>?_
   cases (pendingOf q).back? with
   |none=>rfl
   |some p =>
    refine aL (by congr 1) fun ⟨c,_⟩=>?_
    cases c <;> rfl
 case post =>
  rintro c d ⟨ps,rfl,o,R⟩
  dsimp only
  refine v_ (Yt (W4 (I:=fun x c d=>∃ps,c=(none,())/\LB a₀ ps d/\Rns (arrOf d) 0 ps.toList a₀.size/\(ps.size<=1\/ps.size+x<=a₀.size))
   (Q:=fun c d=>∃ps,c=(none,())/\LB a₀ ps d/\Rns (arrOf d) 0 ps.toList a₀.size/\ps.size<=1) ?_ ?_ ⟨ps,rfl,o,R,.inr (by have:=R.le;rw[D_] at this;omega)⟩) ?_)
  ·
   rintro x c k _ V ⟨ps,rfl,f,R,a⟩
   refine v_ (wpS_get ?_)
   rw[f.pd]
   by_cases r:ps.size<=1
   ·
    rw[if_pos r]
    exact I_ ⟨ps,rfl,f,R,r⟩
   rw[if_neg r]
   generalize O:(if Option.any _ _=true then ps.size - 2 - 1 else ps.size - 2)=i
   obtain⟨y,z,e,l⟩:=TF (ps:=ps) (i:=i) (by rw[<- O];(repeat' split) <;> omega)
   refine v_ (rN t f e l R (j_ _) fun B u D U R3 _=>?_)
   rw[WX,if_neg m_]
   refine I_ ⟨u,rfl,D,R3,.inr ?_⟩
   have:=U_ List.length U
   have J:=U_ List.length e
   rw[D_,a_,i_,l] at this J
   rw[i_] at J
   omega
  ·
   rintro c k ⟨ps,rfl,f,R,a⟩
   exact⟨ps,rfl,f,R,by omega⟩
  ·
   rintro c k ⟨ps,rfl,f,R,a⟩
   refine I_ (h k f.pm f.fl ?_)
   cases e:ps.toList with
   |nil=>rw[e] at R;have:0=a₀.size:=R;omega
   |cons p l =>
    have X:=U_ List.length e
    rw[D_,i_] at X
    have:=Xq.mp (show l.length=0 by omega)
    subst this
    rw[e] at R
    obtain⟨r1,r2,N,P⟩:=R
    have Z:0+p.2.1=a₀.size:=P
    intro i j L i2
    exact N i j (by omega) L (by omega)
theorem uY {a:Addr}{vs:List Value}{ns:List Int}{n:Nat}{R:PySem.Fin->Shared->Prop}(g:s.heap.get? a=some (seqObj "list" vs.toArray n)) (k:IntsAre vs ns) (hz:vs.length<=sizeLine)
  (h:∀(out:Array Value) (i:List Int),IntsAre out.toList i->i.Perm ns->i.Pairwise (·<=·)->R (.done (.ret .none)) { s with heap:=sortedHeap s.heap a vs out}):wpAny (model prog w) A (Builtin.«list.sort» ⟨[.ref a],[]⟩) R E s:=by
 by_cases b:vs.length<64
 ·exact list_sort_tree g k b h
 have B:a<s.heap.objs.size:=E_ g;rw[list_sort_plain];refine b_ (listItems_at g rfl (b_ (listUpdate_at g rfl ?_ (by rw[l_];omega) (Xa _))));obtain⟨c,j⟩:∃c,(s.heap.update a (Obj.mapSeq fun _=>(#[]:Array Value))).get? a=some (seqObj "list" #[] c):=⟨_,get?_update_seq g fun _=>#[]⟩;refine b_ (seqEpoch_at j rfl (b_ (wpAny_newTuple (b_ (wpAny_newList (Xu ?_) (Xa _))) hz)));have f:(((s.heap.update a (Obj.mapSeq fun _=>(#[]:Array Value))).push (seqObj "tuple" vs.toArray 0)).push (seqObj "list" #[] 0)).get? a=some (seqObj "list" #[] c):=e_ _ (e_ _ j);show wpAny (model prog w) A _ R E { s with heap:=((s.heap.update a (Obj.mapSeq fun _=>(#[]:Array Value))).push (seqObj "tuple" vs.toArray 0)).push (seqObj "list" #[] 0)};dsimp only;rw[l_,if_neg (by omega),if_neg (by omega)]
 match vs,b with
 |[],b=>exact absurd (by decide) b
 |[_],b=>exact absurd (show 1<64 by decide) b
 |u::v::r,_ =>
 rw[keyKind_ints k];refine b_ (k_ (b_ (W_ (CW (a₀:=pairsOf (u::v::r)) (Q:=fun _ d=>(arrOf d).Perm (pairsOf (u::v::r))/\failedOf d=none/\SortedTo (arrOf d) (pairsOf (u::v::r)).size) k.intKeys ⟨.refl _,rfl,rfl,rfl⟩ (by rw[pairsOf_size];simp) fun d x t y=>⟨x,t,y⟩) ?_ fun _ _ e=>e)));rintro⟨⟨⟩,d⟩ s' ⟨rfl,l,q,z⟩;dsimp only;refine b_ (seqEpoch_at f rfl (b_ (listUpdate_at f rfl ?_ (Xa _) (Wc (Yw ((Array.size_map ..).trans (l.size_eq.trans (pairsOf_size _)))) (Nat.le_succ_of_le hz)))));rw[q];simp only[bne_self_eq_false,H_,Wl];obtain⟨i,p,m,o⟩:=sorted_out k l z;exact k_ (h _ i p m o)
end
theorem HH:bootBuiltins "set"=some (.type "set"):=by decide +kernel
theorem Oz {X:Cx}{a:List (Addr × Obj)}{b:L2.St}{H:Hp}{s:Shared}(I:Inv X a b H s) (d:Drawn):Inv X a b H { s with drawn:=d}:=⟨I.ok,I.os,I.bare,I.base,I.loc,I.cell,I.free,I.freeC,I.pin,I.hok,I.len⟩
def Ris (ns us:List Int):Prop:=us.Pairwise (·<·)/\∀k,k∈us↔k∈ns
theorem xG:∀{a:List Value}{ns:List Int},IntsAre a ns->Vals (ns.map V.int) a
 |_,_,.nil=>.nil
 |_,_,.cons n t h=>.cons ⟨t,rfl⟩ (xG h)
section
variable {P:Program}{w:World}{A:Around}{E:Value->Shared->Prop}{s:Shared}
theorem HJ {x:Value}{Q:Value->Shared->Prop}(f:∀A' E',A'.handled=A.handled->wpAny (model P w) A' (collect x) (fun vs s1=>∃ns,IntsAre vs ns/\vs.length<=sizeLine /\
   ∀out b h' c,IntsAre out.toList b->b.Perm ns->b.Pairwise (·<=·)->Kpt s1.heap h'->h'.get? s1.heap.objs.size=some (seqObj "list" out c)->Q (.ref s1.heap.objs.size) { s1 with heap:=h'}) E' s):wpAny (model P w) A (call (.builtin "sorted") [x]) Q E s:=by
 refine Calls.call_function_entry kind_sorted plain_sorted entry_sorted (args_sorted1 _) ?_;unfold Builtin.«sorted»;refine b_ (m:=checkCount "sorted" 1 1 _) (k_ ?_);refine b_ (W_ (f _ _ rfl) (fun vs s1 n=>?_) fun _ _ e=>e);obtain⟨ns,g,hz,h⟩:=n;refine b_ (wpAny_newList ?_ hz);have a:(s1.heap.push (seqObj "list" vs.toArray 0)).get? s1.heap.objs.size=some (seqObj "list" vs.toArray 0):=C_ _ rfl;refine b_ (Xu (XX slot_list_sort ⟨_,a,rfl⟩ entry_list_sort (uY a g hz fun out b k l d=>⟨_,rfl,?_⟩) (args_list_sort _)));obtain⟨i,c,j⟩:=Hh (h:=s1.heap) (vs:=vs) (out:=out);exact k_ ⟨_,rfl,h out b _ c k l d i j⟩
variable {X:Cx}{e:Expr}{te:TE}{p1 p2 pos pos':Pos}
def HN (te:TE):TE:=fun b H Q=>te b H fun x a=>∃p ns,x=.ref p/\SqL X.K a p (ns.map V.int)/\ns.length<=1024/\∀us,Ris ns us->∀q,a q=none->Q (.ref q) (upd a q (.lst (us.map V.int)))
theorem HQ {f:List (Addr × Obj)}{r:L2.St}{H:Hp}{s:Shared}{Q:VK}(I:Inv X f r H s) (F:X.A.handled=none) {a:Addr}{ns:List Int}(K:SI X.prog X.w s.heap a ns) (y:ns.length<=1024) (h:∀us,Ris ns us->∀q,H q=none->Q (.ref q) (upd H q (.lst (us.map V.int)))) :
  wpAny (model X.prog X.w) X.A (call (.builtin "sorted") [.ref a]) (EP X f r Q) X.xe s:=by
 have hz:sizeLine=16777216:=rfl;have R:scanBound=4096:=rfl;refine HJ fun N M J=>rH (J.trans F) K (by omega) fun h' tk d vs B l m=>?_;obtain⟨v,C,E,S⟩:=m;generalize vs.map ivl=D at *;have P:=CK v;refine⟨D,v,by omega,fun out us g' c x p t G L=>?_⟩;have z:H h'.objs.size=none:=I.hok.fresh (Xc l);have O:=p.length_eq;refine⟨.ref h'.objs.size,upd H h'.objs.size (.lst (us.map V.int)),(Oz I d).laid (t':=tk) (fun b o e=>G b o (B b o e)) (Xc l) ⟨by rw[g_];omega,out.toList,c,xG x,L⟩,rfl,h _ ⟨?_,fun k=>by rw[p.mem_iff,E]⟩ _ z⟩;have n:=p.nodup_iff.mpr C;rw[Wj] at t ⊢;intro i j m u g;have:=t i j m u g;have:us[i]≠us[j]:=Wj.mp n i j m u g;omega
theorem yU (E:X.calm=true) (w:Gl X "sorted") (k:X.mg "sorted"=none) (r:Gl X "set") (j:X.mg "set"=none) (F:PE X e te)
  (B:starEach [e] X.env=(false,eval e X.env)::starEach [] X.env:=by rfl) (n:(backTo pos (starEach [] X.env)).any (·.1)=false:=by rfl) (d:(backTo pos' (starEach [] X.env)).any (·.1)=false:=by rfl) :
  PE X (.Call (.Name "sorted" p1) [.Call (.Name "set" p2) [e] [] pos'] [] pos) (HN (X:=X) te):=by
 intro c s z H Q I h;refine WR (dM I w k yS ?_ (by decide) (by decide));refine PyProof.Rows.callWith_builtin1 ?_ rfl n;show wpAny _ _ (spliced ((false,eval (.Call (.Name "set" p2) [e] [] pos') X.env)::backTo pos (starEach [] X.env))) _ _ s;refine W2 ?_;refine WR (dM I r j HH ?_ (by decide) (by decide));refine Wx ?_ B d;rw[B];show wpAny _ _ (spliced ((false,eval e X.env)::backTo pos' (starEach [] X.env))) _ _ s;refine W2 (thn (F c s z H _ I h) fun u s1 ⟨x,N,g,J,p,ns,M,K,m,q⟩=>?_);subst M;cases J;obtain⟨l,y,R,hz⟩:=g.list K;have a:=y.length;rw[g_] at a;have T:scanBound=4096:=rfl;refine Xh ?_;refine yP (xs:=ns) (g.ok.hd E) R.isList (by simp [a]) (fun i v S=>?_) (by simp;omega) fun h' tk P G=>?_
 ·have f:l[i]?=some v:=by simpa using S
  have C:i<ns.length:=by have:=(WY.mp f).1;omega
  obtain⟨u,A,L⟩:=y.get (i:=i) (x:=V.int ns[i]) (by rw[J_,d_ C];rfl);rw[f] at A;cases A;obtain⟨t,rfl⟩:=L;exact⟨ns[i],t,d_ C,rfl⟩
 refine Xh ?_;have O:Inv X c z N { s1 with heap:=h',toks:=tk}:=g.kept fun b o D=>G b o (E_ D) D;exact HQ O (g.ok.hd E) P m q
end
def yV (o:Option O3) (H:Hp3) (Q:VK3):Prop:=match o with
 |some (.lst ts)=>oq (ints3 ts) fun ns=>ns.length<=1024/\∀us,Ris ns us->∀q,H q=none->Q (.ref q) (up3 H q (.lst (us.map T.int)))
 |_=>False
def sls (x:T) (H:Hp3) (Q:VK3):Prop:=match x with
 |.ref a=>yV (H a) H Q
 |_=>False
def rO (te:TE3):TE3:=fun b H Q=>te b H fun x a=>sls x a Q
theorem CZ (te:TE3) {a:St3}{H:Hp3}{Q:VK3}:rO te a H Q=te a H fun x b=>sls x b Q:=rfl
theorem TJ (a:Addr) {H:Hp3}{Q:VK3}:sls (.ref a) H Q=yV (H a) H Q:=rfl
theorem OD (ns:List Int) {H:Hp3}{Q:VK3}:yV (some (.lst (ns.map T.int))) H Q=(ns.length<=1024/\∀us,Ris ns us->∀q,H q=none->Q (.ref q) (up3 H q (.lst (us.map T.int)))):=by
 unfold yV;simp only[jD];rfl
theorem rP:∀{ts:List T}{ns:List Int},ints3 ts=some ns->ts=ns.map T.int
 |[],_,h=>by cases h;rfl
 |t::r,ns,h=>by
  cases t with
  |int i =>
   cases e:ints3 r with
   |none=>simp [ints3,e] at h
   |some l =>
    simp [ints3,e] at h
    rw[<- h,rP e]
    rfl
  |_=>simp [ints3] at h
theorem rQ {K:Frag}{H:Hp}:∀{ns:List Int}{xs:List V},Reps K H (ns.map T.int) xs->xs=ns.map V.int
 |[],_,r=>r.inv0
 |n::ns,xs,r=>by
  obtain⟨v,a,rfl,q,b⟩:=r.inv
  rw[B_,<- rQ b,q.int]
theorem lL {K:Frag}{H:Hp}:∀{ns:List Int},Reps K H (ns.map T.int) (ns.map V.int)
 |[]=>.nil
 |_::_=>.cons .ofInt lL
section
variable {X:Cx}{e:Expr}{p1 p2 pos pos':Pos}
theorem yW {te:TE3}(F:X.calm=true) (o:Gl X "sorted") (i:X.mg "sorted"=none) (n:Gl X "set") (g:X.mg "set"=none) (u:PE3 X e te)
  (D:starEach [e] X.env=(false,eval e X.env)::starEach [] X.env:=by rfl) (l:(backTo pos (starEach [] X.env)).any (·.1)=false:=by rfl) (f:(backTo pos' (starEach [] X.env)).any (·.1)=false:=by rfl) :
  PE3 X (.Call (.Name "sorted" p1) [.Call (.Name "set" p2) [e] [] pos'] [] pos) (rO te):=by
 refine PE.imp (yU F o i n g u D l f) ?_;rintro G H Q ⟨m,H3,C,w,x,h,k⟩;refine⟨m,H3,_,w,x,h,fun v H' t d B c r q=>?_⟩;cases t with
 |ref a =>
  have b:yV (d a) d C:=q
  unfold yV at b
  split at b
  ·
   rename_i ts y
   cases z:ints3 ts with
   |none=>rw[z] at b;exact b.elim
   |some ns =>
    rw[z] at b
    have e:=rP z
    subst e
    obtain⟨I,s,E⟩:=c a _ y
    rw[rQ E] at s
    exact⟨a,ns,r.ref,.of s,b.1,fun us A p j=>k _ _ _ _ (B.trans (aN j)) (c.newLst j lL) .ofRef (b.2 us A p (c.fresh j))⟩
  ·
   exact b.elim
 |_=>exact q.elim
end
end L3
namespace M
open L2 L3
local macro_rules | `(tactic| walk_at "c") => `(tactic| try dsimp only [o9,List.replicate,B_,WW,Yp,Yb,Xr,Yr,Option.getD_some])
local macro_rules | `(tactic| walk_at "n") => `(tactic| (obtain ⟨e⟩:=‹Shut (_ = _)›; subst e; try dsimp only))
def nm0 : String := "ne_eq not_false_eq_true aD vV vY tC3 dZ Jx Aa Jp Js Mr uo Jt Jk Rb Jl Mw Rh Ac Ab Jv pA Jq Jr Vz Rf qU vZ VG Bb iT MF MJ Ri jE q_I VH MK MN MP Bc jF JD Rk Rm Rn Ro Rp JF Rq JG JH Rr Rt Ru Rv MT Rx VJ M3 Ry JK M4 Rz RC M5 RD RJ M6 RK M7 M8 Gp RL Gq M9 RM Nf Ng Nh Ni RN RP RQ RV RW RX RZ Sd Gr Sh Sq Ss Su Nj Sv Gs JL wD Nk Gu Nm aB Mv Ai nY ux uA uB yI uC Nu uD uE uF yJ uG GC qY qZ q8 uH q9 Bo pK pL pM rm pN rA rB rC uI rD wJ decide_true decide_false Bool.not_true Bool.not_false at0 at1 at2 at3 List.eraseIdx_cons_zero Int.toNat_natCast vU List.length_map List.length_cons List.length_nil Nat.zero_add Bool.false_eq_true if_false if_true List.getElem?_cons_zero List.getElem?_cons_succ List.set_cons_zero List.set_cons_succ SJ SM List.map_cons List.map_nil N7 S8 S9 SN SQ JR JS JX Bx BJ JZ Dl Kg JV Kl Dm GP J0 OJ O1 O2 O4 V0 GR GX GZ G4 N8 Td J2 BX Sx Sy Bk PB J8 Cr Oi J9 Ka Tp Cu Kc Kd Cv wN pO Tg V1 J3 Cg G6 Cj Od Ti Cm uO Og J4 J5 Cp J6 J7 Tr CZ TJ OD Gv Gw Nq Gx Bh Sw Gy NQ S5 GF S6"
local macro_rules | `(tactic| walk_at "") => do
 let ls <- ((nm0.splitOn " ").toArray.map String.toName).filterM fun n => do return !(<- Lean.Macro.resolveGlobalName n).isEmpty
 let ls <- ls.mapM fun n => let i:=Lean.mkIdent n; `(Lean.Parser.Tactic.simpLemma| $i:ident)
 `(tactic| ((try dsimp only [$[$ls:simpLemma],*]); try simp only [*,$[$ls:simpLemma],*]))
structure isNm (x:Str):Prop where
 lo:1<=x.length
 hi:x.length<=8
 az:∀c∈x.cps.toList,97<=c/\c<=122
structure Nms (ws:List Str):Prop where
 nm:∀x∈ws,isNm x
 nd:ws.Nodup
theorem Nms.nil:Nms []:=⟨fun _ h=>(nomatch h),Zt⟩
theorem Nms.snoc {ws:List Str}{x:Str}(n:Nms ws) (h:isNm x) (a:x∉ws):Nms (ws++[x]) :=
 ⟨fun y b=>(u_.mp b).elim (n.nm y) fun z=>by rw[h_.mp z];exact h,j6 n.nd a⟩
structure Wk where
 tasks:List (Str × Int × List Str)
 orders:List (Str × Str)
 pairs:List (Str × Str × Str)
 row:List Str
def sT (xs:List Str):T:=.tup (xs.map T.str)
def tkT (t:Str × Int × List Str):T:=.tup [.str t.1,.int t.2.1,sT t.2.2]
def orT (o:Str × Str):T:=.tup [.str o.1,.str o.2]
def prT (p:Str × Str × Str):T:=.tup [.str p.1,.str p.2.1,.str p.2.2]
def Wk.enc (W:Wk):T:=.tup [.tup (W.tasks.map tkT),.tup (W.orders.map orT),.tup (W.pairs.map prT),sT W.row]
structure tkOk (t:Str × Int × List Str):Prop where
 nm:isNm t.1
 lo:1<=t.2.1
 hi:t.2.1<10^60
 ks:Nms t.2.2
 kl:t.2.2.length<=4
structure WkOk (W:Wk):Prop where
 t1:1<=W.tasks.length
 t8:W.tasks.length<=8
 tk:∀t∈W.tasks,tkOk t
 nd:(W.tasks.map (·.1)).Nodup
 os:W.orders.length<=28
 od:W.orders.Nodup
 oo:∀o∈W.orders,o.1≠o.2/\o.1∈W.tasks.map (·.1)/\o.2∈W.tasks.map (·.1)
 ps:W.pairs.length<=12
 pd:W.pairs.Nodup
 pp:∀p∈W.pairs,(p.1="with"\/p.1="apart")/\p.2.1≠p.2.2/\p.2.1∈W.tasks.map (·.1)/\p.2.2∈W.tasks.map (·.1)
 r1:1<=W.row.length
 r8:W.row.length<=8
 rn:∀x∈W.row,isNm x
theorem gO {c:Type}{f:c->T}(g:∀{a b},f a=f b->a=b) {x:c}{xs:List c}:f x∈xs.map f↔x∈xs:=by
 rw[x_];exact⟨fun ⟨y,d,e⟩=>g e▸d,fun h=>⟨x,h,rfl⟩⟩
theorem j9 {a b:Str}(h:T.str a=T.str b):a=b:=by injection h
theorem TQ {c:Type}{f:c->T}(d:∀{a b},f a=f b->a=b) {x:c}{xs:List c}:d7 true (f x) (xs.map f)=true↔x∉xs:=by
 unfold d7;simp [gO d]
theorem jh (xs:List Str):(xs.map T.str).all (pl 20)=true:=by rw[WD];intro t a;obtain⟨x,_,rfl⟩:=x_.mp a;rfl
theorem OJ (W:Wk) (H:Hp3) (Q:VK3):qT W.enc (.int 0) H Q=Q (.tup (W.tasks.map tkT)) H:=rfl
theorem O1 (W:Wk) (H:Hp3) (Q:VK3):qT W.enc (.int 1) H Q=Q (.tup (W.orders.map orT)) H:=rfl
theorem O2 (W:Wk) (H:Hp3) (Q:VK3):qT W.enc (.int 2) H Q=Q (.tup (W.pairs.map prT)) H:=rfl
theorem O4 (W:Wk) (H:Hp3) (Q:VK3):qT W.enc (.int 3) H Q=Q (.tup (W.row.map T.str)) H:=rfl
def pick:List Str->Int->List Str
 |[],_=>[]
 |x::r,b=>if b%2=1 then x::pick r (b / 2) else pick r (b / 2)
def tot:List Str->Int->Int
 |[],_=>0
 |_::r,b=>(if b%2=1 then 1 else 0)+2*tot r (b / 2)
def numOf:List Str->List Str->Int
 |[],_=>0
 |x::r,ss=>(if x∈ss then 1 else 0)+2*numOf r ss
theorem ji:∀(ws:List Str) (b:Int),∀x∈pick ws b,x∈ws
 |[],_,x,h=>by cases h
 |y::r,b,x,h=>by
  unfold pick at h
  split at h
  ·
   rcases n_.mp h with rfl | h
   ·
    exact q_
   ·
    exact z_ _ (ji r _ x h)
  ·
   exact z_ _ (ji r _ x h)
theorem jU:∀(ws b a:List Str),(∀x∈ws,x∈b↔x∈a)->numOf ws b=numOf ws a
 |[],_,_,_=>rfl
 |y::r,b,a,h=>by
  have e:=h y q_
  have c:=jU r b a fun x d=>h x (z_ _ d)
  simp only[numOf,c,e]
theorem lM:∀(ws:List Str) (b:Int),ws.Nodup->numOf ws (pick ws b)=tot ws b
 |[],_,_=>rfl
 |y::r,b,nd=>by
  rw[W6] at nd
  have c:=lM r (b / 2) nd.2
  have f:y∉pick r (b / 2):=fun h=>nd.1 (ji r _ y h)
  by_cases a:b%2=1
  ·
   have e:numOf r (y::pick r (b / 2))=numOf r (pick r (b / 2)):=jU r _ _ fun x d=>by
    have:x≠y:=fun e=>nd.1 (e▸d)
    simp [this]
   simp only[numOf,tot,pick,a,if_true,e,c,n_,true_or]
  ·
   simp only[numOf,tot,pick,a,Wl,f,c]
theorem Dd:∀(ws:List Str) (b:Int),0<=b->b<2^ws.length->tot ws b=b
 |[],b,h0,h1=>by simp at h1;simp only[tot];omega
 |y::r,b,h0,h1=>by
  have a:b / 2<2^r.length:=by
   rw[i_,Zu] at h1
   omega
  have c:=Dd r (b / 2) (by omega) a
  simp only[tot,c]
  split <;> omega
theorem lN:∀(A:List Str) (y:Str) (a:List Str),numOf (A++[y]) a=numOf A a+2^A.length*(if y∈a then 1 else 0)
 |[],y,a=>by simp [numOf]
 |x::A,y,a=>by
  have b:=lN A y a
  simp only[Yp,numOf,i_,b,Zu]
  generalize (2:Int)^A.length=w
  generalize (if y∈a then (1:Int) else 0)=z
  rw[Int.mul_add,<- Int.mul_assoc,Int.mul_comm 2 w]
  omega
theorem rR:∀(A B:List Str) (b:Int),pick (A++B) b=pick A b++pick B (b / 2^A.length)
 |[],B,b=>by simp [pick]
 |y::A,B,b=>by
  have a:=rR A B (b / 2)
  have e:b / 2 / 2^A.length=b / 2^(A.length+1):=by
   rw[Zu,Int.mul_comm,Int.ediv_ediv_of_nonneg (by decide)]
  simp only[Yp,pick,i_,a,e]
  split <;> simp
theorem p6 (m n:Nat):Builtin.bitAnd (m:Int) (n:Int)=((m &&& n:Nat):Int):=by
 unfold Builtin.bitAnd;rfl
theorem O5 (m n:Nat):Builtin.bitOr (m:Int) (n:Int)=((m ||| n:Nat):Int):=by
 have h:∀z:Nat,decide ((0:Int)<=Builtin.bitNot (z:Int))=false:=fun z=>A_ (by unfold Builtin.bitNot;omega);have g:∀z:Int,Builtin.bitNot (Builtin.bitNot z)=z:=fun z=>by unfold Builtin.bitNot;omega
 unfold Builtin.bitOr Builtin.bitAnd;rw[h,h];simp only[g,Xi]
def bR:List Str->List Str->Nat
 |[],_=>0
 |x::r,ss=>(if x∈ss then 1 else 0)+2*bR r ss
theorem cz:∀(ns a:List Str),numOf ns a=((bR ns a:Nat):Int)
 |[],_=>rfl
 |x::r,a=>by
  have:=cz r a
  simp only[numOf,bR,this]
  by_cases h:x∈a <;> simp [h]
theorem HR (b c a d:Nat) (k:b<2) (j:c<2):(b+2*a) &&& (c+2*d)=(if b=1/\c=1 then 1 else 0)+2*(a &&& d):=by
 have f:((b+2*a) &&& (c+2*d)) / 2=(b+2*a) / 2 &&& (c+2*d) / 2:=Nat.and_div_two;have g:(b+2*a) / 2=a:=by omega
 have i:(c+2*d) / 2=d:=by omega
 rw[g,i] at f;have e:((b+2*a) &&& (c+2*d))%2=1↔(b+2*a)%2=1/\(c+2*d)%2=1:=Nat.and_mod_two_eq_one;by_cases h:b=1/\c=1
 ·rw[if_pos h];have:=e.mpr ⟨by omega,by omega⟩;omega
 rw[if_neg h];have:¬((b+2*a) &&& (c+2*d))%2=1:=fun z=>h (by have:=e.mp z;omega);omega
theorem O6 (b c a d:Nat) (k:b<2) (j:c<2):(b+2*a) ||| (c+2*d)=(if b=1\/c=1 then 1 else 0)+2*(a ||| d):=by
 have f:((b+2*a) ||| (c+2*d)) / 2=(b+2*a) / 2 ||| (c+2*d) / 2:=Nat.or_div_two;have g:(b+2*a) / 2=a:=by omega
 have i:(c+2*d) / 2=d:=by omega
 rw[g,i] at f;have e:((b+2*a) ||| (c+2*d))%2=1↔(b+2*a)%2=1\/(c+2*d)%2=1:=Nat.or_mod_two_eq_one;by_cases h:b=1\/c=1
 ·rw[if_pos h];have:=e.mpr (by omega);omega
 rw[if_neg h];have:¬((b+2*a) ||| (c+2*d))%2=1:=fun z=>h (by have:=e.mp z;omega);omega
theorem kh (p:Prop) [Decidable p]:(if p then 1 else 0)<2:=by split <;> decide
theorem lO:∀(ns A B:List Str),bR ns A &&& bR ns B=bR ns (A.filter fun x=>decide (x∈B))
 |[],_,_=>by simp [bR]
 |x::r,A,B=>by
  simp only[bR]
  rw[HR _ _ _ _ (kh _) (kh _),lO r A B]
  by_cases b:x∈A <;> by_cases a:x∈B <;> simp [b,a]
theorem xH:∀(ns A B:List Str),bR ns A ||| bR ns B=bR ns (A++B)
 |[],_,_=>by simp [bR]
 |x::r,A,B=>by
  simp only[bR]
  rw[O6 _ _ _ _ (kh _) (kh _),xH r A B]
  by_cases b:x∈A <;> by_cases a:x∈B <;> simp [b,a]
theorem jk:∀(ns A B:List Str),bR ns A=bR ns B↔∀x∈ns,x∈A↔x∈B
 |[],_,_=>by simp [bR]
 |y::r,A,B=>by
  have b:=jk r A B
  simp only[bR,n_,forall_eq_or_imp]
  rw[<- b]
  by_cases c:y∈A <;> by_cases a:y∈B <;> simp only[c,a,if_true,Wl,iff_true,iff_false,true_iff,false_iff,true_and,not_true,not_false_eq_true,false_and] <;> omega
theorem gP:∀ns:List Str,bR ns []=0
 |[]=>rfl
 |x::r=>by simp only[bR,W8,Wl,gP r]
theorem yX (ns A:List Str):bR ns A=0↔∀x∈ns,x∉A:=by
 have:=jk ns A [];rw[gP] at this;rw[this];simp
theorem eU (ns A B:List Str):(Builtin.bitAnd (numOf ns A) (numOf ns B)=numOf ns B)↔∀x∈ns,x∈B->x∈A:=by
 rw[cz,cz,p6,lO];constructor
 ·intro h x a b;have:=(jk ns _ _).mp (Int.ofNat.inj h) x a;exact (G_.mp (this.mpr b)).1
 intro h;refine U_ Int.ofNat ((jk ns _ _).mpr fun x a=>?_);rw[G_,p_];exact⟨fun z=>z.2,fun z=>⟨h x a z,z⟩⟩
theorem p7 (ns A B:List Str):(Builtin.bitAnd (numOf ns A) (numOf ns B)=0)↔∀x∈ns,¬(x∈A/\x∈B):=by
 rw[cz,cz,p6,lO];have e:((bR ns (A.filter fun x=>decide (x∈B)):Nat):Int)=0↔bR ns (A.filter fun x=>decide (x∈B))=0:=by omega
 rw[e,yX];constructor
 ·intro h x a z;exact h x a (G_.mpr ⟨z.1,F_ z.2⟩)
 intro h x a z;have:=G_.mp z;exact h x a ⟨this.1,Wz this.2⟩
theorem O7 (ns A B:List Str):Builtin.bitOr (numOf ns A) (numOf ns B)=numOf ns (A++B):=by
 rw[cz,cz,cz,O5,xH]
theorem De (ns A:List Str):0<=numOf ns A:=by rw[cz];exact X5 _
theorem rT:∀(ns A:List Str),numOf ns A<2^ns.length
 |[],_=>by simp [numOf]
 |x::r,A=>by
  have:=rT r A
  simp only[numOf,i_,Zu]
  split <;> omega
theorem rW:∀(ns:List Str) (A:List Str),ns.Nodup->pick ns (numOf ns A)=ns.filter fun x=>decide (x∈A)
 |[],_,_=>rfl
 |x::r,A,nd=>by
  rw[W6] at nd
  have c:=rW r A nd.2
  have n0:=De r A
  by_cases h:x∈A
  ·
   have b:(1+2*numOf r A)%2=1:=by omega
   have a:(1+2*numOf r A) / 2=numOf r A:=by omega
   simp only[numOf,h,if_true,pick,b,a,c,X4,XS]
  ·
   have b:¬(0+2*numOf r A)%2=1:=by omega
   have a:(0+2*numOf r A) / 2=numOf r A:=by omega
   simp only[numOf,h,Wl,pick,b,a,c,X4,Xx,H_]
theorem Df {ns:List Str}{n:Int}(a:ns.Nodup) (b:0<=n) (c:n<2^ns.length):numOf ns (pick ns n)=n:=by rw[lM ns n a,Dd ns n b c]
universe u
variable {α:Type u}
inductive RT (R:α->α->Prop):α->α->Prop
 |refl {a:α}:RT R a a
 |step {a b c:α}:RT R a b->R b c->RT R a c
theorem RT.trans {R:α->α->Prop}{a b c:α}(h:RT R a b) (g:RT R b c):RT R a c:=by
 induction g with
 |refl=>exact h
 |step _ r d=>exact .step d r
theorem RT.flip {R:α->α->Prop}{a b:α}(h:RT R a b):RT (fun x y=>R y x) b a:=by
 induction h with
 |refl=>exact .refl
 |step _ r c=>exact (RT.step (R:=fun x y=>R y x) .refl r).trans c
theorem HS {R:α->α->Prop}{a b:α}:RT (fun x y=>R y x) a b↔RT R b a:=⟨fun h=>h.flip,fun h=>h.flip⟩
theorem TV {L:List (α × α)}{F:List α}{s x:α}(e:s∈F) (c:∀a b,(a,b)∈L->a∈F->b∈F) (h:RT (fun a b=>(a,b)∈L) s x):x∈F:=by
 induction h with
 |refl=>exact e
 |step _ r d=>exact c _ _ r d
theorem Dg [DecidableEq α]:∀{l m:List α},l.Nodup->(∀x∈l,x∈m)->l.length<=m.length:=by
 intro l;induction l with
 |nil=>intro m _ _;exact Xa _
 |cons a l j =>
 intro m d i;rw[W6] at d;have f:=i a q_;have h:=j (m:=m.erase a) d.2 fun x g=>by have c:=i x (z_ _ g);have b:x≠a:=fun e=>d.1 (e▸g);exact (List.mem_erase_of_ne b).mpr c
 have e:=List.length_erase_of_mem f;have p:0<m.length:=List.length_pos_of_mem f;simp only[i_];omega
def mkS (l:List Nat):Str:=⟨l.toArray⟩
theorem dW (l:List Nat):(mkS l).cps.toList=l:=rfl
theorem dG (l:List Nat):(mkS l).length=l.length:=by show (l.toArray).size=_;simp
theorem O8 (x:Str):∃l,x=mkS l:=⟨x.cps.toList,by cases x;rfl⟩
theorem xJ {a b:List Nat}(h:mkS a=mkS b):a=b:=by have:=U_ (fun x=>x.cps.toList) h;exact this
theorem p8 (a b:List Nat):mkS a++mkS b=mkS (a++b):=by
 show (⟨a.toArray++b.toArray⟩:Str)=⟨(a++b).toArray⟩;simp
theorem TX (l:List Nat) (k:Nat) (h:k<=l.length):Txt.slice (mkS l) none (some (k:Int))=mkS (l.take k):=by
 have e:=StrLaws.sliceText_to (x:=mkS l) (j:=(k:Int)) ⟨X5 k,by rw[dW];omega⟩;rw[dW,Zk,Int.sub_zero,Xi] at e;exact e
theorem HW (l:List Nat) (k:Nat) (h:k<=l.length):Txt.slice (mkS l) (some (k:Int)) none=mkS (l.drop k):=by
 have e:=StrLaws.sliceText_from (x:=mkS l) (i:=(k:Int)) ⟨X5 k,by rw[dW];omega⟩;rw[dW,Xi,WM (by rw[Wo];omega)] at e;exact e
def jZ:List Nat:=[97,98,99,100,101,102,103,104,105,106,107,108,109,110,111,112,113,114,115,116,117,118,119,120,121,122]
theorem Dh:("abcdefghijklmnopqrstuvwxyz":Str)=mkS jZ:=by decide +kernel
theorem HX:∀i:_root_.Fin 26,jZ[i.val]?=some (97+i.val):=by decide
theorem Di (i:Int) (a:0<=i) (c:i<26):atI jZ i=some (97+i.toNat):=by
 obtain⟨j,rfl⟩:=Int.eq_ofNat_of_zero_le a;have b:j<26:=by omega
 have:=HX ⟨j,b⟩;exact bD (by simpa using this)
theorem HY:∀i:_root_.Fin 26,Builtin.Str.occurrences (mkS jZ) (mkS [97+i.val]) 0 26 1=[i.val]:=by decide +kernel
theorem O9 (c:Nat) (a:97<=c) (b:c<=122):Builtin.Str.occurrences (mkS jZ) (mkS [c]) 0 (mkS jZ).length 1=[c - 97]:=by
 have:=HY ⟨c - 97,by omega⟩;rw[show 97+(c - 97)=c by omega] at this;exact this
theorem Kf {l:List Nat}(b:1<=l.length) (a:l.length<=8) (h:∀c∈l,97<=c/\c<=122):isNm (mkS l):=⟨by rw[dG];exact b,by rw[dG];exact a,by rw[dW];exact h⟩
def tkW (t:Str × Int × List Str):List Str:=([("task":Str),t.1,(toString t.2.1:String)]:List Str)++t.2.2
end M
namespace L3
open L2
structure Shut (p:Prop):Prop where
 out:p
theorem aC {t u:TS3}{D:Ends3}{a:St3}{H:Hp3}(h:∀R,Shut (R=u)->(vV t R) D a H):(vV t u) D a H:=h u ⟨rfl⟩
theorem yZ {c:TT3}{d:TS3}{D:Ends3}{a:St3}{H:Hp3}(W:Nat->St3->Hp3->Prop) (e:∃m,W m a H) (f:∀m a H,W m a H->∀(WI:Nat->St3->Hp3->Prop) (TB:TS3) (NX:St3->Hp3->Prop),Shut (WI=W)->Shut (TB=d)->Shut (NX=D.nx) ->
  c a H fun b H1=>if b=true then TB { D with nx:=fun σ' H'=>∃m',m'<m/\WI m' σ' H',ct:=fun σ' H'=>∃m',m'<m/\WI m' σ' H',bk:=D.nx} a H1 else NX a H1):o8 c d D a H :=
 ⟨W,e,fun m a H w=>f m a H w W d D.nx ⟨rfl⟩ ⟨rfl⟩ ⟨rfl⟩⟩
theorem gD {m:Type}(c f:m->T) (p:m->Bool) (g:List m) (rest:St3) {tt:TT3}{te:TE3}{still:Hp3->Prop}{l:List T->Hp3->Prop}{v:Option T}{H:Hp3}(i:still H) (w:g.length<=sizeLine)
  (u:∀a∈g,∀Q:Bool->Hp3->Prop,Q (p a) H->tt (some (c a)::rest) H Q)
  (y:∀a∈g,p a=true->∀Q:VK3,Q (f a) H->te (some (c a)::rest) H Q) (j:l ((g.filter p).map f) H):cIter3 (dZ 0) tt te still l (g.map c) [] (v::rest) H:=by
 refine gK (fun r n o H'=>∃(d h:List m) (v:Option T),o=v::rest/\r=d.map c/\n=(h.filter p).map f/\h++d=g/\H'=H) ⟨g,[],v,rfl,rfl,rfl,rfl,rfl⟩ ?_ ?_
 ·rintro n o H' ⟨d,h,v,rfl,e,rfl,b,rfl⟩;have k:d=[]:=XQ.mp e.symm;subst k;rw[N_] at b;subst b;exact⟨i,by rw[g_];exact Wc (Ww _ _) w,j⟩
 rintro x r n o H' N ⟨d,h,v,rfl,e,rfl,b,rfl⟩ s;cases d with
 |nil=>cases e
 |cons t d =>
 injection e with e1 e2;subst e1 e2;refine⟨i,?_⟩;show tt (some (c t)::rest) H' _;refine u t (by rw[<- b];simp) _ ?_;cases q:p t with
 |true=>rw[if_pos rfl];refine y t (by rw[<- b];simp) q _ ⟨?_,s _ _ _ ⟨d,h++[t],_,rfl,rfl,by simp [q],by rw[<- b];simp,rfl⟩⟩;have:=U_ List.length b;simp only[a_,i_] at this;rw[g_];have:=Ww p h;omega
 |false =>
 rw[if_neg m_];exact s _ _ _ ⟨d,h++[t],_,rfl,rfl,by simp [q],by rw[<- b];simp,rfl⟩
end L3
namespace M
open L2 L3
local macro_rules | `(tactic| walk_at "c") => `(tactic| try dsimp only [o9,List.replicate,B_,WW,Yp,Yb,Xr,Yr,Option.getD_some])
local macro_rules | `(tactic| walk_at "n") => `(tactic| (obtain ⟨e⟩:=‹Shut (_ = _)›; subst e; try dsimp only))
local macro_rules | `(tactic| walk_at "") => do
 let ls <- ((nm0.splitOn " ").toArray.map String.toName).filterM fun n => do return !(<- Lean.Macro.resolveGlobalName n).isEmpty
 let ls <- ls.mapM fun n => let i:=Lean.mkIdent n; `(Lean.Parser.Tactic.simpLemma| $i:ident)
 `(tactic| ((try dsimp only [$[$ls:simpLemma],*]); try simp only [*,$[$ls:simpLemma],*]))
inductive Rw where
 |tk (t:Str × Int × List Str) | od (o:Str × Str) | pr (p:Str × Str × Str)
def Rw.words:Rw->List Str
 |.tk t=>tkW t
 |.od o=>["order",o.1,o.2]
 |.pr p=>[p.1,p.2.1,p.2.2]
def tks:List Rw->List (Str × Int × List Str)
 |[]=>[]
 |.tk t::r=>t::tks r
 |_::r=>tks r
def prs:List Rw->List (Str × Str × Str)
 |[]=>[]
 |.pr p::r=>p::prs r
 |_::r=>prs r
def fits (L:List Rw):Rw->Prop
 |.tk _=>True
 |.od o=>o.1∈(tks L).map (·.1)/\o.2∈(tks L).map (·.1)
 |.pr p=>p.2.1∈(tks L).map (·.1)/\p.2.2∈(tks L).map (·.1)
inductive RowW:List Str->Prop
 |tk {t:Str × Int × List Str} (h:tkOk t):RowW (tkW t)
 |od {a b:Str} (h1:isNm a) (h2:isNm b):RowW ["order",a,b]
 |pr {z a b:Str} (h0:z="with"\/z="apart") (h1:isNm a) (h2:isNm b):RowW [z,a,b]
 |row {xs:List Str} (h1:1<=xs.length) (h8:xs.length<=8) (h:∀x∈xs,isNm x):RowW (([("row":Str)]:List Str)++xs)
def lkP (ws:List Str) (p:Str × Str × Str):List (Str × Str):=if p.1∈ws then [(p.2.1,p.2.2),(p.2.2,p.2.1)] else []
def lkW (ws:List Str) (W:Wk):List (Str × Str):=W.orders++W.pairs.flatMap (lkP ws)
def lkR (ws:List Str) (W:Wk) (a b:Str):Prop:=(a,b)∈lkW ws W
theorem Ia (ws:List Str) (p:Str × Str × Str):(lkP ws p).length<=2:=by unfold lkP;split <;> simp
theorem qb (ws:List Str):∀ps:List (Str × Str × Str),(ps.flatMap (lkP ws)).length<=2*ps.length
 |[]=>j_ _
 |p::r=>by
  have b:=Ia ws p
  have a:=qb ws r
  simp only[List.flatMap_cons,a_,i_]
  omega
theorem xK {ws:List Str}{W:Wk}(h:WkOk W):(lkW ws W).length<=52:=by
 have c:=qb ws W.pairs;have a:=h.os;have b:=h.ps;unfold lkW;rw[a_];omega
def dF (F:List Str):List (Str × T):=F.map fun z=>(z,T.bl true)
theorem kj (z:Str):∀F:List Str,(aP z (dF F)).isSome=decide (z∈F)
 |[]=>rfl
 |y::r=>by
  have a:=kj z r
  unfold dF at a ⊢
  simp only[B_,aP]
  by_cases h:y=z
  ·
   simp [h]
  ·
   rw[if_neg h,a]
   have h':¬z=y:=fun e=>h e.symm
   simp [h']
theorem Pa (z:Str) (F:List Str):((dF F).any fun a=>decide (a.1=z))=decide (z∈F):=by
 unfold dF;rw[List.any_map];induction F with
 |nil=>rfl
 |cons y r b =>
 simp only[Zc,Function.comp_apply,b];by_cases h:y=z
 ·simp [h]
 have h':¬z=y:=fun e=>h e.symm;simp [h,h']
theorem Pb {z:Str}{F:List Str}(h:z∉F):put3 z (T.bl true) (dF F)=dF (F++[z]):=by
 unfold put3;rw[Pa,A_ h,if_neg m_];unfold dF;rw[y_];rfl
theorem Pg (F:List Str):(dF F).length=F.length:=g_ _
theorem Ph (z:Str):[(z,T.bl true)]=dF [z]:=rfl
theorem Dj {x:T}{ts:List T}{H:Hp3}{R:List T->(Hp3->Prop)->Hp3->Prop}(b:(∃a,x=.ref a/\H a=some (.lst ts))\/x=.tup ts)
  (h:∀still:Hp3->Prop,(still=cR\/∃a,still=cB a ts/\H a=some (.lst ts))->R ts still H):yH x H R:=by
 rcases b with ⟨a,rfl,e⟩ | rfl
 ·rw[Nt,e,wD];exact h _ (.inr ⟨a,rfl,e⟩)
 rw[Nr];exact h _ (.inl rfl)
def fM (W:Wk) (t:Str):List Str:=(W.tasks.map (·.1)).filter fun x=>@decide (RT (lkR ["with"] W) t x/\RT (lkR ["with"] W) x t) (Classical.propDecidable _)
def iW (W:Wk) (t:Str):List Str:=(W.tasks.map (·.1)).filter fun x=>@decide (RT (lkR ["with"] W) x t/\¬RT (lkR ["with"] W) t x) (Classical.propDecidable _)
def swp (o:Str × Str):Str × Str:=(o.2,o.1)
theorem Pj {L:List (Str × Str)}{a b:Str}:RT (fun x y=>(x,y)∈L.map swp) a b↔RT (fun x y=>(x,y)∈L) b a:=by
 have e:(fun x y=>(x,y)∈L.map swp)=fun x y:Str=>(y,x)∈L:=by funext x y;refine propext ⟨fun h=>?_,fun h=>x_.mpr ⟨(y,x),h,rfl⟩⟩;obtain⟨o,c,d⟩:=x_.mp h;obtain⟨f,g⟩:=o;cases d;exact c
 rw[e];exact HS
structure Hs (H:Hp3) (fs:List (Addr × O3)):Prop where
 at':∀q∈fs,H q.1=some q.2
 nd:(fs.map (·.1)).Nodup
def TY (H:Hp3) (x:T) (b:List Str):Prop:=x=sT b\/∃a,x=.ref a/\H a=some (.lst (b.map T.str))
theorem Ib {b:Bool}{y:Str}{x:T}{c:List Str}{H:Hp3}{Q:VK3}(h:TY H x c) (q:Q (.bl (if b then !decide (y∈c) else decide (y∈c))) H):ur b (.str y) x H Q:=by
 have e:d7 b (T.str y) (c.map T.str)=(if b then !decide (y∈c) else decide (y∈c)):=by unfold d7;have:(T.str y∈c.map T.str)↔y∈c:=gO j9;simp only[this]
 rcases h with rfl | ⟨a,rfl,d⟩
 ·show ur b (.str y) (.tup (c.map T.str)) H Q;rw[JF,e];exact⟨rfl,jh c,q⟩
 rw[JG,d,JH,e];exact⟨rfl,jh c,q⟩
def rY (a:List Str) (k:Str):Bool:=decide (a=[])||decide (k∈a)
def jl (W:Wk) (t:Str):List Str:=(W.pairs.filter fun p=>decide (p.1=("apart":Str))&&decide (p.2.1=t)).map (·.2.2)
def okT (W:Wk) (a:Str) (D S:List Str) (t:Str × Int × List Str):Bool :=
 !decide (t.1∈D)&&rY t.2.2 a&&@decide (∀x∈fM W t.1,x∈S) (Classical.propDecidable _)&&@decide (∀x∈iW W t.1,x∈S++D) (Classical.propDecidable _)&&@decide (∀x∈jl W t.1,x∉S) (Classical.propDecidable _)
def dq (ts:List (Str × Int × List Str)) (S:List Str):Int:=((ts.filter fun t=>decide (t.1∈S)).map (·.2.1)).sum
def uZ (W:Wk) (beat:Int) (a:Str) (D S:List Str):Bool:=(W.tasks.all fun t=>!decide (t.1∈S)||okT W a D S t)&&decide (dq W.tasks S<=beat)
def ruT (W:Wk) (ns:List Str) (t:Str × Int × List Str):T:=.tup [.int (numOf ns [t.1]),.int t.2.1,sT t.2.2,.int (numOf ns (fM W t.1)),.int (numOf ns (iW W t.1)),.int (numOf ns (jl W t.1))]
theorem u5 (A:List (Str × Int × List Str)) (t:Str × Int × List Str) (S:List Str):dq (A++[t]) S=dq A S+if t.1∈S then t.2.1 else 0:=by
 unfold dq;rw[X7,y_,List.sum_append];by_cases h:t.1∈S <;> simp [h]
theorem xM {ns A:List Str}{x:Str}(a:x∈ns):(Builtin.bitAnd (numOf ns A) (numOf ns [x])=numOf ns [x])↔x∈A:=by
 rw[eU];constructor
 ·intro h;exact h x a (by simp)
 intro h y _ b;rw[h_.mp b];exact h
end M
namespace L3
open L2
section
variable {X:Cx}
def ppH (o:Option O3) (a:Addr) (H:Hp3) (Q:VK3):Prop:=match o with
 |some (.lst xs)=>oq (xs[xs.length - 1]?) fun t=>Q t (up3 H a (.lst xs.dropLast))
 |_=>False
def Dk:T->List T->Hp3->VK3->Prop:=fun x ts H Q=>match x,ts with
 |.ref a,[]=>ppH (H a) a H Q
 |_,_=>False
theorem Dl (a:Addr) (H:Hp3) (Q:VK3):Dk (.ref a) [] H Q=ppH (H a) a H Q:=rfl
theorem Kg (xs:List T) (a:Addr) (H:Hp3) (Q:VK3):ppH (some (.lst xs)) a H Q=oq (xs[xs.length - 1]?) fun t=>Q t (up3 H a (.lst xs.dropLast)):=rfl
theorem Reps.dropLast {K:Frag}{H:Hp}{ts:List T}{vs:List V}(r:Reps K H ts vs):Reps K H ts.dropLast vs.dropLast:=by
 rw[List.dropLast_eq_take,List.dropLast_eq_take,r.length];exact r.take _
theorem Pk:um X "list.pop" Dk:=by
 refine MtR.imp Mg ?_;rintro x xs H Q ⟨m,ts,H3,p,j,l,d,h,k⟩;cases m with
 |ref a =>
  cases ts with
  |cons _ _=>exact h.elim
  |nil =>
  rw[Dl] at h;cases e:H3 a with
  |none=>rw[e] at h;exact h.elim
  |some o =>
  rw[e] at h;cases o with
  |lst f =>
   rw[Kg] at h;obtain⟨g,b,r⟩:=d a _ e;cases c:f[f.length - 1]? with
   |none=>rw[c] at h;exact h.elim
   |some t =>
   rw[c,jE] at h;obtain⟨v,n,i⟩:=r.get c;refine⟨a,g,v,j.ref,l.inv0,b,by rw[<- r.length];exact n,k _ _ _ _ (bH (by rw[b];exact trivial)) (d.wrL b r.dropLast) (i.mono (bH (by rw[b];exact trivial))) h⟩
  |_=>exact h.elim
 |_=>exact h.elim
def eqR (a b:Addr) (o u:Option O3) (H:Hp3) (Q:VK3):Prop:=match o,u with
 |some (.rol xs),some (.lst ys)=>a≠b/\xs.all (pl 20)=true/\ys.all (pl 20)=true/\Q (.bl (decide (xs=ys))) H
 |_,_=>False
def Kh:R3:=fun x y H Q=>match x,y with
 |.ref a,.ref b=>eqR a b (H a) (H b) H Q
 |_,_=>False
theorem Kl (a b:Addr) (H:Hp3) (Q:VK3):Kh (.ref a) (.ref b) H Q=eqR a b (H a) (H b) H Q:=rfl
theorem Dm (a b:Addr) (xs c:List T) (H:Hp3) (Q:VK3):eqR a b (some (.rol xs)) (some (.lst c)) H Q=(a≠b/\xs.all (pl 20)=true/\c.all (pl 20)=true/\Q (.bl (decide (xs=c))) H):=rfl
theorem Pn (D:X.A.units+30<cLine):dH X (compareOp .Eq) Kh:=by
 intro p s O H x y v u Q I B L h;obtain⟨G,J,H3,P,F,K,g,h,k⟩:=h;cases G with
 |ref a =>
  cases J with
  |ref b =>
   rw[Kl] at h;cases i:H3 a with
   |none=>rw[i] at h;exact h.elim
   |some o =>
   cases m:H3 b with
   |none=>rw[i,m] at h;cases o <;> exact h.elim
   |some w =>
   rw[i,m] at h;cases o with
   |rol ts =>
    cases w with
    |lst us =>
     rw[Dm] at h;obtain⟨xs,E,r⟩:=g.sqL (.inr i);obtain⟨R,M,n⟩:=g b _ m;cases F.ref;cases K.ref;cases B;cases L;obtain⟨l,c,t,_⟩:=I.list (X:=X) E;obtain⟨its',f,d,_⟩:=I.list (X:=X) (.of M);have N:l.length=ts.length:=by rw[<- c.length,<- r.length]
     have C:its'.length=us.length:=by rw[<- f.length,<- n.length]
     by_cases hsz:ts.length=us.length
     ·refine SeqAt.eq_listAt (e:=fun j=>decide (ts[j]?=us[j]?)) t.isList d.isList (by simp;omega) (by omega) (fJ I D h.2.1 h.2.2.1 r n c f) ⟨.bl _,H,I,rfl,?_⟩;have e:=fK (ts:=ts) (us:=us);rw[<- hsz,Nat.min_self,Y9,YG] at e;rw[l_,N,e];exact k _ _ _ _ .refl g .ofBl h.2.2.2
     refine SeqAt.eq_list_lengthsAt t.isList d.isList (by simp;omega) (by omega) ⟨.bl false,H,I,rfl,?_⟩;have e:decide (ts=us)=false:=A_ fun z=>hsz (by rw[z]);have q:=h.2.2.2;rw[e] at q;exact k _ _ _ _ .refl g .ofBl q
    |_=>exact h.elim
   |_=>cases w <;> exact h.elim
  |_=>exact h.elim
 |_=>exact h.elim
end
end L3
namespace M
open L2 L3
local macro_rules | `(tactic| walk_at "c") => `(tactic| try dsimp only [o9,List.replicate,B_,WW,Yp,Yb,Xr,Yr,Option.getD_some])
local macro_rules | `(tactic| walk_at "n") => `(tactic| (obtain ⟨e⟩:=‹Shut (_ = _)›; subst e; try dsimp only))
local macro_rules | `(tactic| walk_at "") => do
 let ls <- ((nm0.splitOn " ").toArray.map String.toName).filterM fun n => do return !(<- Lean.Macro.resolveGlobalName n).isEmpty
 let ls <- ls.mapM fun n => let i:=Lean.mkIdent n; `(Lean.Parser.Tactic.simpLemma| $i:ident)
 `(tactic| ((try dsimp only [$[$ls:simpLemma],*]); try simp only [*,$[$ls:simpLemma],*]))
structure Box (p:Prop):Prop where
 out:p
structure Cl (H:Hp3) (a:Addr):Prop where
 ex:∃ns:List Int,H a=some (.lst (ns.map T.int))/\ns.length<=504
structure Drw (a:Addr) (H H':Hp3):Prop where
 cl:Cl H' a
 off:∀b,b≠a->H' b=H b
theorem Cl.refl {a:Addr}{H:Hp3}(D:Cl H a):Drw a H H:=⟨D,fun _ _=>rfl⟩
theorem Cl.ne {a p:Addr}{H:Hp3}(D:Cl H a) (b:H p=none):p≠a:=fun e=>by obtain⟨ns,h,_⟩:=D.ex;rw[<- e,b] at h;cases h
theorem Cl.new {a p:Addr}{H:Hp3}{u:O3}(D:Cl H a) (h:p≠a):Cl (up3 H p u) a:=by
 obtain⟨ns,e,r⟩:=D.ex;exact⟨ns,by rw[aD (Ne.symm h)];exact e,r⟩
def Kep (a:Addr) (H H':Hp3):Prop:=∀b o,H b=some o->b≠a->H' b=some o
theorem Kep.refl {a:Addr}{H:Hp3}:Kep a H H:=fun _ _ h _=>h
theorem Kep.drw {a:Addr}{H d c:Hp3}(x:Kep a H d) (y:Drw a d c):Kep a H c:=fun b o h e=>by rw[y.off b e];exact x b o h e
theorem Kep.new {a p:Addr}{H c:Hp3}{u:O3}(x:Kep a H c) (d:c p=none):Kep a H (up3 c p u):=fun b o h e=>by
 have:=x b o h e;rw[aD (bh this d)];exact this
theorem Kep.at {a p:Addr}{H c:Hp3}{u:O3}(x:Kep a H c) (d:H p=none):Kep a H (up3 c p u):=fun b o h e=>by
 rw[aD (bh h d)];exact x b o h e
theorem Kep.sub {a:Addr}{H d c:Hp3}(x:Kep a H d) (s:Sub3 d c):Kep a H c:=fun b o h e=>s b o (x b o h e)
theorem jm {a:Addr}{H H':Hp3}{Q:VK3}{v:T}(D:Cl H' a) (k:Kep a H H') (q:∀H'',Drw a H H''->Q v H''):Fin3 Q v H':=by
 refine⟨fun b=>if b=a then H' b else H b,fun b o c=>?_,q _ ⟨?_,fun b d=>?_⟩⟩
 ·by_cases h:b=a
  ·simp only[h,if_true] at c ⊢;exact c
  simp only[h,Wl] at c;exact k b o c h
 ·obtain⟨ns,e,r⟩:=D.ex;exact⟨ns,by simp only[if_true];exact e,r⟩
 simp only[d,Wl]
structure Wt (c:Addr) (H0 H:Hp3) (fs:List (Addr × O3)):Prop where
 cl:Cl H c
 kp:Kep c H0 H
 at':∀p∈fs,H p.1=some p.2/\p.1≠c
theorem Wt.drw {c:Addr}{e H H':Hp3}{b:List (Addr × O3)}(w:Wt c e H b) (d:Drw c H H'):Wt c e H' b:=⟨d.cl,w.kp.drw d,fun p a=>⟨by rw[d.off _ (w.at' p a).2];exact (w.at' p a).1,(w.at' p a).2⟩⟩
theorem Wt.new {c p:Addr}{e H:Hp3}{d:List (Addr × O3)}{o:O3}(w:Wt c e H d) (b:H p=none):Wt c e (up3 H p o) ((p,o)::d):=⟨w.cl.new (w.cl.ne b),w.kp.new b,fun q a=>by
 rcases n_.mp a with rfl | a
 ·exact⟨aB,w.cl.ne b⟩
 exact⟨by rw[aD (bh (w.at' q a).1 b)];exact (w.at' q a).1,(w.at' q a).2⟩⟩
theorem Wt.hd {c p:Addr}{b H:Hp3}{o:O3}{a:List (Addr × O3)}(w:Wt c b H ((p,o)::a)):H p=some o:=(w.at' (p,o) q_).1
theorem Wt.tl {c:Addr}{q:Addr × O3}{b H:Hp3}{a:List (Addr × O3)}(w:Wt c b H (q::a)):Wt c b H a:=⟨w.cl,w.kp,fun p d=>w.at' p (z_ _ d)⟩
theorem Wt.set {c p:Addr}{e H:Hp3}{o:O3}{b:List (Addr × O3)}(w:Wt c e H ((p,o)::b)) (d:e p=none) (h:∀q∈b,q.1≠p) (f:O3):Wt c e (up3 H p f) ((p,f)::b) :=
 have g:=(w.at' (p,o) q_).2
 ⟨w.cl.new g,w.kp.at d,fun q a=>by
  rcases n_.mp a with rfl | a
  ·
   exact⟨aB,g⟩
  ·
   exact⟨by rw[aD (h q a)];exact (w.at' q (z_ _ a)).1,(w.at' q (z_ _ a)).2⟩⟩
theorem Wt.fresh {c p:Addr}{a H:Hp3}{d:List (Addr × O3)}(w:Wt c a H d) (b:H p=none):a p=none:=by
 cases e:a p with
 |none=>rfl
 |some o=>rw[w.kp p o e (w.cl.ne b)] at b;cases b
def Km:Sp3:=fun ts H Q=>∃(a:Addr) (ns:List Int),ts=[.ref a]/\H a=some (.rol (ns.map T.int))/\ns.length<=63/\∀(p:Addr) (H':Hp3),Sub3 H H'->H p=none->Cl H' p->Q (.ref p) H'
def mU:Sp3:=fun ts H Q=>∃(d:Addr) (m:Int),ts=[.ref d,.int m]/\0<m/\Cl H d/\∀(n:Int) (H':Hp3),0<=n->n<m->Drw d H H'->Q (.int n) H'
def T3:Sp3:=fun ts H Q=>∃(d:Addr) (m:Int),ts=[.ref d,.int m]/\0<m/\Cl H d/\∀(n:Int) (H':Hp3),0<=n->n<m->Drw d H H'->Q (.int n) H'
theorem fP {d p:Addr}{H H':Hp3}{Q:VK3}{o:O3}(D:Cl H' d) (k:Kep d H H') (g:H' p=some o) (f:H p=none) (i:p≠d) (q:∀H1,Drw d H H1->H1 p=none->Q (.ref p) (up3 H1 p o)):Fin3 Q (.ref p) H':=by
 refine⟨up3 (fun b=>if b=d then H' b else H b) p o,fun b u a=>?_,q _ ⟨?_,fun b c=>?_⟩ ?_⟩
 ·by_cases e:b=p
  ·subst e;rw[aB] at a;rw[g];exact a
  rw[aD e] at a;by_cases h:b=d
  ·simp only[h,if_true] at a ⊢;exact a
  simp only[h,Wl] at a;exact k b u a h
 ·obtain⟨ns,e,r⟩:=D.ex;exact⟨ns,by simp only[if_true];exact e,r⟩
 ·simp only[c,Wl]
 simp only[i,Wl];exact f
theorem Wt.swap {c p q:Addr}{b H:Hp3}{o u:O3}(w:Wt c b H [(p,o),(q,u)]):Wt c b H [(q,u),(p,o)]:=⟨w.cl,w.kp,fun x a=>w.at' x (by
 rcases n_.mp a with rfl | a
 ·
  simp
 ·
  rw[h_.mp a];simp)⟩
def Ie:Sp3:=fun ts H Q=>∃(d a:Addr) (xs:List T),ts=[.ref d,.ref a]/\a≠d/\H a=some (.lst xs)/\xs.all (pl 20)=true/\xs.length<=60/\Cl H d/\∀(c:List T) (b:Hp3) (p:Addr),c.Perm xs->Drw d H b->b p=none->Q (.ref p) (up3 b p (.lst c))
theorem Ig {a:Type}{xs:List a}{j:Nat}(h:j<xs.length):(xs[j]::xs.eraseIdx j).Perm xs:=by
 have e:xs=xs.take j++xs[j]::xs.drop (j+1):=by rw[<- W0 h];exact (Wg j xs).symm
 rw[List.eraseIdx_eq_take_drop_succ];exact List.perm_middle.symm.trans (by rw[<- e])
theorem Pq {xs:List T}(h:xs.all (pl 20)=true) (j:Nat):(xs.eraseIdx j).all (pl 20)=true:=by
 rw[WD] at h ⊢;exact fun t a=>h t (List.mem_of_mem_eraseIdx a)
theorem gQ (n:Nat):di 0 n=(List.range n).map fun (i:Nat)=>T.int (i:Int):=by
 unfold di;exact XF fun i _=>by rw[Int.zero_add]
theorem du {H H':Hp3}{p:Addr}(s:Sub3 H H') (a:H' p=none):H p=none:=by
 cases e:H p with
 |none=>rfl
 |some o=>rw[s _ _ e] at a;cases a
theorem Do (ns:List Int) (b:ns.length<=63):∃a:List Int,1<=a.length/\a.length<=63/\eO (ns.map T.int) none (some 63)++(List.replicate (if decide (ns.map T.int=[])=true then (1:Int) else 0).toNat [T.int 0]).flatten=a.map T.int:=by
 have e:eO (ns.map T.int) none (some 63)=ns.map T.int:=by rw[show (63:Int)=((63:Nat):Int) from rfl,Np,WM (by rw[g_];exact b)]
 rw[e];cases ns with
 |nil=>exact⟨[0],by decide,by decide,rfl⟩
 |cons n r=>exact⟨n::r,by simp,b,by simp⟩
theorem Ih (ns:List Int):(ns.map T.int).all (pl 20)=true:=by rw[WD];intro t a;obtain⟨x,_,rfl⟩:=x_.mp a;rfl
structure Nb (H0 H:Hp3) (pc pf:Addr) (cs fs:List Int):Prop where
 sb:Sub3 H0 H
 c:H pc=some (.lst (cs.map T.int))
 f:H pf=some (.lst (fs.map T.int))
 f0:H0 pf=none
 ne:pc≠pf
theorem Nb.new {g H:Hp3}{e d p:Addr}{h b:List Int}{o:O3}(x:Nb g H e d h b) (a:H p=none):Nb g (up3 H p o) e d h b :=
 ⟨x.sb.trans (Sub3.new a),by rw[aD (bh x.c a)];exact x.c,by rw[aD (bh x.f a)];exact x.f,x.f0,x.ne⟩
theorem Nb.put {g H:Hp3}{f d:Addr}{h b:List Int}(x:Nb g H f d h b) (z:Int):Nb g (up3 H d (.lst (b.map T.int++[T.int z]))) f d h (b++[z]) :=
 ⟨fun a u e=>by rw[aD (bh e x.f0)];exact x.sb a u e,by rw[aD x.ne];exact x.c,by rw[aB,y_];rfl,x.f0,x.ne⟩
theorem Dp (ns:List Int) (n:Int):((ns++[n]).map T.int)[((ns++[n]).map T.int).length - 1]?=some (T.int n):=by simp
theorem za (ns:List Int) (n:Int):((ns++[n]).map T.int).dropLast=ns.map T.int:=by simp
def T4:Sp3:=fun ts H Q=>∃(d:Addr) (m:Nat),ts=[.ref d,.int (m:Int)]/\m<=8/\Cl H d/\∀(b:List Int) (a:Hp3) (p:Addr),b.length=m->(∀l∈b,1<=l/\l<10^60)->Drw d H a->a p=none->Q (.ref p) (up3 a p (.lst (b.map T.int)))
theorem t60:(10:Int)^Int.toNat 60=1000000000000000000000000000000000000000000000000000000000000:=by decide
theorem t58:(10:Int)^Int.toNat 58=10000000000000000000000000000000000000000000000000000000000:=by decide
theorem T5:(10:Int)^60=1000000000000000000000000000000000000000000000000000000000000:=by decide
theorem pig:∀(ws:List Str) (f:Nat->Str),(∀i j,i<=ws.length->j<=ws.length->f i=f j->i=j)->(∀i,i<=ws.length->f i∈ws)->False
 |[],f,_,h=>by have:=h 0 (j_ _);simp at this
 |w::ws,f,inj,h=>by
  rw[i_] at inj h
  by_cases q:∃j,j<=ws.length+1/\f j=w
  ·
   obtain⟨j,g,e⟩:=q
   refine pig ws (fun i=>if i<j then f i else f (i+1)) (fun a b k m c=>?_) (fun i l=>?_)
   ·
    try dsimp only at c
    split at c <;> split at c
    ·
     exact inj a b (by omega) (by omega) c
    ·
     have:=inj a (b+1) (by omega) (by omega) c;omega
    ·
     have:=inj (a+1) b (by omega) (by omega) c;omega
    ·
     have:=inj (a+1) (b+1) (by omega) (by omega) c;omega
   ·
    show (if i<j then f i else f (i+1))∈ws
    split
    ·
     exact (n_.mp (h i (by omega))).resolve_left fun d=>by have:=inj i j (by omega) g (d.trans e.symm);omega
    ·
     exact (n_.mp (h (i+1) (by omega))).resolve_left fun d=>by have:=inj (i+1) j (by omega) g (d.trans e.symm);omega
  ·
   exact pig ws f (fun a b k m=>inj a b (by omega) (by omega)) fun i l=>(n_.mp (h i (by omega))).resolve_left fun e=>q ⟨i,by omega,e⟩
def dg:Nat->Int->List Nat
 |0,_=>[]
 |n+1,l=>(97+(l%26).toNat)::dg n (l / 26)
theorem u6:∀(n:Nat) (l:Int),(dg n l).length=n
 |0,_=>rfl
 |n+1,l=>by rw[dg,i_,u6 n]
theorem Ko:∀(n:Nat) (l:Int),∀c∈dg n l,97<=c/\c<=122
 |0,_,_,h=>nomatch h
 |n+1,l,c,h=>by
  rw[dg] at h
  have:=W5 l (show (0:Int)<26 by decide)
  rcases n_.mp h with rfl | h
  ·
   omega
  ·
   exact Ko n _ c h
theorem Pr {n:Nat}{a:Int}{i j:Nat}(b:i<=25) (c:j<=25) (h:mkS (dg (n+1) (a+i))=mkS (dg (n+1) (a+j))):i=j:=by
 have e:=xJ h;rw[dg,dg,Yc] at e;have g:=e.1;have f:=W7 (a+i) (show (26:Int)≠0 by decide);have d:=W7 (a+j) (show (26:Int)≠0 by decide);omega
def T6:Sp3:=fun ts H Q=>∃(b:Nat) (c:Int) (a:Addr) (ws:List Str),ts=[.int (b:Int),.int c,.ref a]/\1<=b/\b<=8/\H a=some (.lst (ws.map T.str))/\ws.length<=8/\∀x,isNm x->x∉ws->Q (.str x) H
def nmK (l:List Nat) (a s i:Nat):Str:=mkS (l.take a++[97+(((s:Int)+(i:Int))%26).toNat]++l.drop (a+1))
theorem Pu {l:List Nat}{a s i:Nat}(f:l.length<=8) (g:a<l.length) (e:∀c∈l,97<=c/\c<=122):isNm (nmK l a s i):=by
 have d:(l.take a++[97+(((s:Int)+(i:Int))%26).toNat]++l.drop (a+1)).length=l.length:=by rw[a_,a_,Wi,Wo,L_];omega
 refine Kf (by rw[d];omega) (by rw[d];exact f) fun c b=>?_;rcases u_.mp b with b | b
 ·rcases u_.mp b with b | b
  ·exact e c (Yh b)
  rw[h_.mp b];have:=W5 ((s:Int)+(i:Int)) (show (0:Int)<26 by decide);omega
 exact e c (List.mem_of_mem_drop b)
theorem Ii {l:List Nat}{a s i j:Nat}(b:i<26) (c:j<26) (h:nmK l a s i=nmK l a s j):i=j:=by
 have e:=xJ h;rw[t_,t_,List.append_cancel_left_eq,YM,YM,Yc] at e;have g:=e.1;have f:=W7 ((s:Int)+(i:Int)) (show (26:Int)≠0 by decide);have d:=W7 ((s:Int)+(j:Int)) (show (26:Int)≠0 by decide);omega
theorem Ij {l:List Nat}{a s m:Nat}(h:l.length<=8) (f:a<l.length) (e:∀c∈l,97<=c/\c<=122) (o:m<=8):Nms ((List.range m).map (nmK l a s)):=by
 refine⟨fun x b=>?_,?_⟩
 ·obtain⟨i,_,rfl⟩:=x_.mp b;exact Pu h f e
 rw[List.Nodup,Zo];refine Ze (fun {x y} b g d j=>?_) (List.nodup_range (n:=m));have p:=O_.mp b;have k:=O_.mp g;exact d (Ii (by omega) (by omega) j)
def T7:Sp3:=fun ts H Q=>∃(d:Addr) (m:Nat),ts=[.ref d,.int (m:Int)]/\1<=m/\m<=8/\Cl H d/\∀(ws:List Str) (a:Hp3) (p:Addr),ws.length=m->Nms ws->Drw d H a->a p=none->Q (.ref p) (up3 a p (.lst (ws.map T.str)))
structure Tb (H0 H:Hp3) (p:Addr) (m:Nat) (as:List Addr):Prop where
 sb:Sub3 H0 H
 l:as.length=m
 t:H p=some (.lst (as.map T.ref))
 r:∀a∈as,∃bs:List Bool,bs.length=m/\H a=some (.lst (bs.map T.bl))
 np:p∉as
 f0:H0 p=none
 fa:∀a∈as,H0 a=none
structure Rws (H0 H:Hp3) (m:Nat) (as:List Addr):Prop where
 sb:Sub3 H0 H
 r:∀a∈as,∃bs:List Bool,bs.length=m/\H a=some (.lst (bs.map T.bl))
 fa:∀a∈as,H0 a=none
theorem Rws.grow {g H:Hp3}{m:Nat}{f:List Addr}{q:Addr}{c:List Bool}(x:Rws g H m f) (j:c.length=m) (d:H q=none):Rws g (up3 H q (.lst (c.map T.bl))) m (f++[q]):=by
 refine⟨x.sb.trans (Sub3.new d),fun a b=>?_,fun a b=>?_⟩
 ·rcases u_.mp b with h | h
  ·obtain⟨k,i,e⟩:=x.r a h;exact⟨k,i,by rw[aD (bh e d)];exact e⟩
  rw[h_.mp h];exact⟨c,j,aB⟩
 rcases u_.mp b with h | h
 ·exact x.fa a h
 rw[h_.mp h];exact du x.sb d
theorem Tb.put {i H:Hp3}{p a:Addr}{m:Nat}{f:List Addr}{d:List Bool}(x:Tb i H p m f) (h:a∈f) (n:d.length=m):Tb i (up3 H a (.lst (d.map T.bl))) p m f:=by
 have g:p≠a:=fun e=>x.np (e▸h);refine⟨fun b u e=>by rw[aD (bh e (x.fa a h))];exact x.sb b u e,x.l,by rw[aD g];exact x.t,fun b c=>?_,x.np,x.f0,x.fa⟩;by_cases e:b=a
 ·subst e;exact⟨d,n,aB⟩
 obtain⟨o,k,j⟩:=x.r b c;exact⟨o,k,by rw[aD e];exact j⟩
theorem Tb.at' {h H:Hp3}{p:Addr}{m:Nat}{b:List Addr}(x:Tb h H p m b) {i:Nat}(f:i<m):∃(a:Addr) (c:List Bool),atI (b.map T.ref) (i:Int)=some (.ref a)/\a∈b/\c.length=m/\H a=some (.lst (c.map T.bl)):=by
 have d:i<b.length:=by rw[x.l];exact f
 obtain⟨c,g,e⟩:=x.r _ (Ws d);exact⟨b[i],c,bD (by rw[J_,d_ d];rfl),Ws d,g,e⟩
theorem lQ {a:List Bool}{j:Nat}(h:j<a.length):∃b,atI (a.map T.bl) (j:Int)=some (.bl b):=⟨a[j],bD (by rw[J_,d_ h];rfl)⟩
def T8:Sp3:=fun ts H Q=>∃(m:Nat) (a:Addr) (b:List T),ts=[.int (m:Int),.ref a]/\m<=8/\H a=some (.lst b)/\b.all (pl 20)=true/\∀(p:Addr) (c:List Addr) (H':Hp3),Tb H H' p m c->Q (.ref p) H'
def bw (b:Bool):Str:=if b then "with" else "apart"
def pT3 (x:Bool × Nat × Nat):T:=.tup [.str (bw x.1),.int (x.2.1:Int),.int (x.2.2:Int)]
def row2 (b:Bool) (m i:Nat):List (Bool × Nat × Nat):=(List.range m).map fun j=>(b,i,j)
def enm (b:Bool) (m:Nat) (A:List Nat):List (Bool × Nat × Nat):=A.flatMap (row2 b m)
def full (m:Nat):List (Bool × Nat × Nat):=enm true m (List.range m)++enm false m (List.range m)
theorem Ik:∀m:_root_.Fin 9,(full m.val).Nodup:=by decide +kernel
theorem rZ (b:Bool) (m:Nat) (A:List Nat) (i:Nat):enm b m (A++[i])=enm b m A++row2 b m i:=by simp [enm]
structure Tq (d:Addr) (H0 H:Hp3) (p:Addr) (m:Nat) (as:List Addr):Prop where
 l:as.length=m
 t:H p=some (.lst (as.map T.ref))
 r:∀a∈as,∃bs:List Bool,bs.length=m/\H a=some (.lst (bs.map T.bl))
 f0:H0 p=none
 fa:∀a∈as,H0 a=none
 nd:p≠d
 na:∀a∈as,a≠d
theorem Tq.drw {d:Addr}{e H H':Hp3}{p:Addr}{m:Nat}{c:List Addr}(x:Tq d e H p m c) (D:Drw d H H'):Tq d e H' p m c :=
 ⟨x.l,by rw[D.off _ x.nd];exact x.t,fun a b=>by obtain⟨h,g,f⟩:=x.r a b;exact⟨h,g,by rw[D.off _ (x.na a b)];exact f⟩,x.f0,x.fa,x.nd,x.na⟩
theorem Tq.new {d q:Addr}{e H:Hp3}{p:Addr}{m:Nat}{c:List Addr}{o:O3}(x:Tq d e H p m c) (f:H q=none):Tq d e (up3 H q o) p m c :=
 ⟨x.l,by rw[aD (bh x.t f)];exact x.t,fun a g=>by obtain⟨i,h,b⟩:=x.r a g;exact⟨i,h,by rw[aD (bh b f)];exact b⟩,x.f0,x.fa,x.nd,x.na⟩
theorem Tq.at' {d:Addr}{j H:Hp3}{p:Addr}{m:Nat}{b:List Addr}(x:Tq d j H p m b) {i:Nat}(g:i<m):∃(a:Addr) (c:List Bool),atI (b.map T.ref) (i:Int)=some (.ref a)/\a∈b/\c.length=m/\H a=some (.lst (c.map T.bl)):=by
 have e:i<b.length:=by rw[x.l];exact g
 obtain⟨c,h,f⟩:=x.r _ (Ws e);exact⟨b[i],c,bD (by rw[J_,d_ e];rfl),Ws e,h,f⟩
structure PI (d:Addr) (H0 H:Hp3) (pp pe a:Addr) (ws:List Str) (ps:List (Bool × Nat × Nat)) (es:List T):Prop where
 w:Wt d H0 H [(pp,.lst (ps.map pT3)),(pe,.lst es),(a,.lst (ws.map T.str))]
 ne:pe≠pp
 na:a≠pp
 l12:ps.length<=12
 ea:es.all (pl 20)=true
 el:es.length<=28+2*ps.length
 ok:∀x∈ps,x.2.1≠x.2.2/\x.2.1<ws.length/\x.2.2<ws.length
theorem PI.drw {d:Addr}{c H H':Hp3}{e f a:Addr}{ws:List Str}{ps:List (Bool × Nat × Nat)}{b:List T}(x:PI d c H e f a ws ps b) (D:Drw d H H'):PI d c H' e f a ws ps b:={ x with w:=x.w.drw D}
theorem PI.add {d:Addr}{k H:Hp3}{b s a q:Addr}{ws:List Str}{ps:List (Bool × Nat × Nat)}{f e:List T}{y:Bool × Nat × Nat}(x:PI d k H b s a ws ps f) (A:k b=none) (v:ps.length<12) (p:y.2.1≠y.2.2/\y.2.1<ws.length/\y.2.2<ws.length) {o:O3}{g:Addr}
  (j:up3 H b (.lst ((ps++[y]).map pT3)) g=none) (m:up3 (up3 H b (.lst ((ps++[y]).map pT3))) g o q=none) (n:e.all (pl 20)=true) (t:e.length=2):PI d k (up3 (up3 (up3 H b (.lst ((ps++[y]).map pT3))) g o) q (.lst (f++e))) b q a ws (ps++[y]) (f++e):=by
 have u:=x.w.set A (fun r c=>by
  rcases n_.mp c with rfl | c
  ·
   exact x.ne
  ·
   rw[h_.mp c];exact x.na) (.lst ((ps++[y]).map pT3))
 have l:=(u.new (o:=o) j).tl;have i:=l.new (o:=.lst (f++e)) m;refine⟨⟨i.cl,i.kp,fun r c=>i.at' r ?_⟩,Ne.symm (bh l.hd m),x.na,by rw[a_,L_];omega,by rw[List.all_append,x.ea,n];rfl,by have:=x.el;rw[a_,a_,L_,t];omega,fun z hz=>?_⟩
 ·simp only[n_,W8,Zd] at c ⊢;rcases c with h | h | h
  ·exact .inr (.inl h)
  ·exact .inl h
  exact .inr (.inr (.inr h))
 rcases u_.mp hz with h | h
 ·exact x.ok z h
 rw[h_.mp h];exact p
theorem PI.add1 {d:Addr}{c H:Hp3}{b g a:Addr}{ws:List Str}{ps:List (Bool × Nat × Nat)}{f:List T}{y:Bool × Nat × Nat}(x:PI d c H b g a ws ps f) (k:c b=none) (j:ps.length<12) (i:y.2.1≠y.2.2/\y.2.1<ws.length/\y.2.2<ws.length):PI d c (up3 H b (.lst ((ps++[y]).map pT3))) b g a ws (ps++[y]) f:=by
 refine⟨x.w.set k (fun r e=>by
  rcases n_.mp e with rfl | e
  ·
   exact x.ne
  ·
   rw[h_.mp e];exact x.na) _,x.ne,x.na,by rw[a_,L_];omega,x.ea,by have:=x.el;rw[a_,L_];omega,fun z hz=>?_⟩
 rcases u_.mp hz with h | h
 ·exact x.ok z h
 rw[h_.mp h];exact i
theorem PI.sub {d:Addr}{f H H':Hp3}{b e a:Addr}{ws:List Str}{ps:List (Bool × Nat × Nat)}{c:List T}(x:PI d f H b e a ws ps c) (s:Sub3 H H'):PI d f H' b e a ws ps c:=by
 refine { x with w:=⟨?_,x.w.kp.sub s,fun q g=>⟨s _ _ (x.w.at' q g).1,(x.w.at' q g).2⟩⟩};obtain⟨ns,i,h⟩:=x.w.cl.ex;exact⟨ns,s _ _ i,h⟩
theorem Tb.tq {d:Addr}{g H H':Hp3}{p:Addr}{m:Nat}{j:List Addr}(x:Tb H H' p m j) (c:Cl H d) (k:Kep d g H):Tq d g H' p m j:=by
 have i:∀b,H b=none->b≠d:=fun b f=>c.ne f;have n:∀b,H b=none->g b=none:=fun b f=>by
  cases e:g b with
  |none=>rfl
  |some o=>rw[k b o e (i b f)] at f;cases f
 exact⟨x.l,x.t,x.r,n _ x.f0,fun a h=>n a (x.fa a h),i _ x.f0,fun a h=>i a (x.fa a h)⟩
theorem Tq.set {d q:Addr}{e H:Hp3}{p:Addr}{m:Nat}{b:List Addr}{o:O3}(x:Tq d e H p m b) (g:p≠q) (f:∀a∈b,a≠q):Tq d e (up3 H q o) p m b :=
 ⟨x.l,by rw[aD g];exact x.t,fun a c=>by obtain⟨h,j,i⟩:=x.r a c;exact⟨h,j,by rw[aD (f a c)];exact i⟩,x.f0,x.fa,x.nd,x.na⟩
theorem jn {g k:Type}{f:g->k}:∀{d xs:List k},d.Perm xs->∀l:List g,xs=l.map f->∃c:List g,c.Perm l/\d=c.map f:=by
 intro d xs h;induction h with
 |nil=>intro l e;rw[XQ.mp e.symm];exact⟨[],Y6 _,rfl⟩
 |cons x _ p =>
  intro l e;cases l with
  |nil=>cases e
  |cons a r =>
  rw[B_,Yc] at e;obtain⟨c,o,m⟩:=p r e.2;exact⟨a::c,o.cons a,by rw[B_,m,e.1]⟩
 |swap x y t =>
  intro l e;cases l with
  |nil=>cases e
  |cons a r =>
  cases r with
  |nil=>rw[B_,Yc] at e;cases e.2
  |cons b r =>
  rw[B_,B_,Yc,Yc] at e;exact⟨b::a::r,List.Perm.swap a b r,by rw[B_,B_,<- e.1,<- e.2.1,<- e.2.2]⟩
 |trans _ _ j i =>
 intro l e;obtain⟨s,w,v⟩:=i l e;obtain⟨q,n,u⟩:=j s v;exact⟨q,n.trans w,u⟩
def nmP (ws:List Str) (x:Bool × Nat × Nat):Str × Str × Str:=(bw x.1,ws.getD x.2.1 "",ws.getD x.2.2 "")
theorem fU {ws:List Str}(h:ws.Nodup) {i j:Nat}(a:i<ws.length) (b:j<ws.length) (e:ws.getD i ""=ws.getD j ""):i=j:=by
 rw[Wd,Wd,d_ a,d_ b] at e;have c:ws[i]=ws[j]:=e;have d:=Wj.mp h;rcases Zn i j with q | q | q
 ·exact absurd c (d i j a b q)
 ·exact q
 exact absurd c.symm (d j i b a q)
theorem Px {ws:List Str}(h:ws.Nodup) {ps:List (Bool × Nat × Nat)}(n:ps.Nodup) (e:∀x∈ps,x.2.1≠x.2.2/\x.2.1<ws.length/\x.2.2<ws.length):(ps.map (nmP ws)).Nodup:=by
 rw[List.Nodup,Zo];refine Ze (fun {x y} j k b a=>b ?_) n;have c:=e x j;have d:=e y k;obtain⟨g,i,l⟩:=x;obtain⟨f,m,r⟩:=y;simp only[nmP,Prod.mk.injEq] at a;have o:i=m:=fU h c.2.1 d.2.1 a.2.1;have p:l=r:=fU h c.2.2 d.2.2 a.2.2;have q:g=f:=by have:=a.1;cases g <;> cases f <;> first | rfl | (exact absurd this (by decide +kernel))
 rw[o,p,q]
theorem Py {ws:List Str}(h:ws.Nodup) {x:Bool × Nat × Nat}(o:x.2.1≠x.2.2/\x.2.1<ws.length/\x.2.2<ws.length):((nmP ws x).1="with"\/(nmP ws x).1="apart")/\(nmP ws x).2.1≠(nmP ws x).2.2/\(nmP ws x).2.1∈ws/\(nmP ws x).2.2∈ws:=by
 have a:∀i,i<ws.length->ws.getD i ""∈ws:=fun i c=>by rw[Wd,d_ c];exact Ws c
 refine⟨?_,fun e=>o.1 (fU h o.2.1 o.2.2 e),a _ o.2.1,a _ o.2.2⟩;obtain⟨b,i,j⟩:=x;cases b
 ·exact .inr rfl
 exact .inl rfl
theorem getD_at {ws:List Str}{i:Nat}(h:i<ws.length):atI (ws.map T.str) (i:Int)=some (.str (ws.getD i "")):=bD (by rw[J_,d_ h,Wd,d_ h];rfl)
theorem u9 {a:Type}{ps E:List a}{y:a}(h:ps.Sublist E):(ps++[y]).Sublist (E++[y]):=h.append (Zv _)
theorem vd {a:Type}{ps E:List a}{y:a}(h:ps.Sublist E):ps.Sublist (E++[y]):=h.trans (List.sublist_append_left _ _)
def T9:Sp3:=fun ts H Q=>∃(d a o:Addr) (ws:List Str) (c:List T) (b:Int),ts=[.ref d,.ref a,.ref o,.int b]/\1<=b/\b<=100/\a≠d/\o≠d/\H a=some (.lst (ws.map T.str))/\Nms ws/\ws.length<=8/\H o=some (.lst c)/\c.all (pl 20)=true/\c.length<=28/\Cl H d /\
 ∀(prs:List (Str × Str × Str)) (p:Addr) (e:List Addr) (H':Hp3),prs.length<=12->prs.Nodup->(∀x∈prs,(x.1="with"\/x.1="apart")/\x.2.1≠x.2.2/\x.2.1∈ws/\x.2.2∈ws)->Cl H' d->Kep d H H'->Tq d H H' p ws.length e->Q (.tup [.tup (prs.map prT),.ref p]) H'
theorem Ua (ps:List (Bool × Nat × Nat)):(ps.map pT3).all (pl 20)=true:=by rw[WD];intro t a;obtain⟨x,_,rfl⟩:=x_.mp a;rfl
def Ub:Sp3:=fun ts H Q=>∃(d a:Addr) (c:Str) (ws:List Str),ts=[.ref d,.str c,.ref a]/\a≠d/\H a=some (.lst (ws.map T.str))/\Nms ws/\ws.length<=8/\isNm c/\Cl H d/\∀(b:List Str) (H':Hp3),Nms b->b.length<=4->Drw d H H'->Q (.tup (b.map T.str)) H'
theorem Nms.ins {ws:List Str}{i:Nat}{x:Str}(h:Nms ws) (b:isNm x) (c:x∉ws):Nms (ws.take i++x::ws.drop i):=by
 have a:(ws.take i++x::ws.drop i).Perm (x::ws):=List.perm_middle.trans (by rw[Wg]);refine⟨fun y d=>?_,a.nodup_iff.mpr (W6.mpr ⟨c,h.nd⟩)⟩;rcases n_.mp (a.mem_iff.mp d) with rfl | h'
 ·exact b
 exact h.nm y h'
theorem Dq {ws:List Str}{i:Nat}{x y:Str}(h:y∈ws.take i++x::ws.drop i):y=x\/y∈ws:=by
 have a:(ws.take i++x::ws.drop i).Perm (x::ws):=List.perm_middle.trans (by rw[Wg]);exact n_.mp (a.mem_iff.mp h)
theorem sr {m i:Nat}{A B:List Nat}(e:List.range m=A++i::B):i=A.length:=by
 have h:=U_ (fun l=>l[A.length]?) e;simp only[M_ (j_ _),Nat.sub_self,Xr] at h;have a:A.length<m:=by have:=U_ List.length e;simp only[o_,a_,i_] at this;omega
 rw[XD a] at h;exact (We h).symm
theorem oH {m:Nat}{A B:List Nat}(e:List.range m=A++B):A=List.range A.length:=by
 have h:=U_ (List.take A.length) e;rw[List.take_left',List.take_range] at h
 ·have a:A.length<=m:=by have:=U_ List.length e;simp only[o_,a_] at this;omega
  rw[Nat.min_eq_left a] at h;exact h.symm
 rfl
structure KI (d:Addr) (H3 H0 H:Hp3) (pf pc r a t:Addr) (row ws:List Str) (m:Nat) (as:List Addr) (cs:List Str) (ks:List (List Str)):Prop where
 w:Wt d H3 H [(pf,.lst (ks.map sT)),(pc,.lst (cs.map T.str)),(r,.lst (row.map T.str)),(a,.lst (ws.map T.str))]
 tq:Tq d H0 H t m as
 nfc:pf≠pc
 nr:r≠pc/\r≠pf
 na:a≠pc/\a≠pf
 nt:t≠pc/\t≠pf
 ns:∀x∈as,x≠pc/\x≠pf
 c0:H3 pc=none
 f0:H3 pf=none
theorem KI.drw {d:Addr}{H3 h H H':Hp3}{c g r a t:Addr}{b ws:List Str}{m:Nat}{e:List Addr}{i:List Str}{f:List (List Str)}(x:KI d H3 h H c g r a t b ws m e i f) (D:Drw d H H'):KI d H3 h H' c g r a t b ws m e i f:={ x with w:=x.w.drw D,tq:=x.tq.drw D}
theorem KI.new {d q:Addr}{H3 h H:Hp3}{c g r a t:Addr}{b ws:List Str}{m:Nat}{e:List Addr}{j:List Str}{f:List (List Str)}{o:O3}(x:KI d H3 h H c g r a t b ws m e j f) (i:H q=none):KI d H3 h (up3 H q o) c g r a t b ws m e j f:={ x with w:=(x.w.new i).tl,tq:=x.tq.new i}
theorem KI.putf {d:Addr}{H3 h H:Hp3}{e g r a t:Addr}{b ws:List Str}{m:Nat}{f:List Addr}{i:List Str}{l:List (List Str)}(x:KI d H3 h H e g r a t b ws m f i l) (c:List (List Str)):KI d H3 h (up3 H e (.lst (c.map sT))) e g r a t b ws m f i c :=
 { x with
  w:=x.w.set x.f0 (fun q j=>by
   simp only[n_,W8,Zd] at j
   rcases j with rfl | rfl | rfl
   ·
    exact Ne.symm x.nfc
   ·
    exact x.nr.2
   ·
    exact x.na.2) _
  tq:=x.tq.set x.nt.2 fun y k=>(x.ns y k).2}
theorem KI.putc {d:Addr}{H3 j H:Hp3}{f e r a t:Addr}{b ws:List Str}{m:Nat}{i:List Addr}{h:List Str}{g:List (List Str)}(x:KI d H3 j H f e r a t b ws m i h g) (c:List Str):KI d H3 j (up3 H e (.lst (c.map T.str))) f e r a t b ws m i c g:=by
 refine { x with
  w:=⟨x.w.cl.new (x.w.at' (e,.lst (h.map T.str)) (by simp)).2,x.w.kp.at x.c0,fun q k=>?_⟩
  tq:=x.tq.set x.nt.1 fun y l=>(x.ns y l).1}
 simp only[n_,W8,Zd] at k;rcases k with rfl | rfl | rfl | rfl
 ·exact⟨by rw[aD x.nfc];exact (x.w.at' (f,.lst (g.map sT)) (by simp)).1,(x.w.at' (f,.lst (g.map sT)) (by simp)).2⟩
 ·exact⟨aB,(x.w.at' (e,.lst (h.map T.str)) (by simp)).2⟩
 ·exact⟨by rw[aD x.nr.1];exact (x.w.at' (r,.lst (b.map T.str)) (by simp)).1,(x.w.at' (r,.lst (b.map T.str)) (by simp)).2⟩
 exact⟨by rw[aD x.na.1];exact (x.w.at' (a,.lst (ws.map T.str)) (by simp)).1,(x.w.at' (a,.lst (ws.map T.str)) (by simp)).2⟩
def Uc:Sp3:=fun ts H Q=>∃(d r a t:Addr) (b ws:List Str) (m:Nat) (g:Hp3) (f:List Addr),ts=[.ref d,.ref r,.ref a,.ref t]/\r≠d/\a≠d/\H r=some (.lst (b.map T.str))/\1<=b.length/\b.length<=8/\(∀x∈b,isNm x)/\H a=some (.lst (ws.map T.str))/\Nms ws/\ws.length<=8/\Tq d g H t m f/\m<=8/\Cl H d /\
 ∀(e:List (List Str)) (c:Hp3) (p:Addr),e.length=m->(∀k∈e,Nms k/\k.length<=4)->Drw d H c->c p=none->Q (.ref p) (up3 c p (.lst (e.map sT)))
def tkD (ws:List Str) (b:List Int) (a:List (List Str)) (k:Nat):Str × Int × List Str:=(ws.getD k "",b.getD k 0,a.getD k [])
def oD (ws:List Str) (a:List Nat) (x:Nat × Nat):Str × Str:=(ws.getD (a.getD x.1 0) "",ws.getD (a.getD x.2 0) "")
theorem getD_mem {a:Type}{l:List a}{d:a}{i:Nat}(h:i<l.length):l.getD i d∈l:=by
 rw[Wd,d_ h];exact Ws h
theorem lR {a:List Nat}(h:a.Nodup) {i j:Nat}(b:i<a.length) (c:j<a.length) (e:a.getD i 0=a.getD j 0):i=j:=by
 rw[Wd,Wd,d_ b,d_ c] at e;have f:a[i]=a[j]:=e;have d:=Wj.mp h;rcases Zn i j with q | q | q
 ·exact absurd f (d i j b c q)
 ·exact q
 exact absurd f.symm (d j i c b q)
theorem Il (ws:List Str) (b:List Int) (a:List (List Str)):((List.range ws.length).map (tkD ws b a)).map (·.1)=ws:=by
 apply List.ext_getElem?;intro i;rw[J_,J_];by_cases h:i<ws.length
 ·rw[XD h,d_ h];simp [tkD,Wd,d_ h]
 rw[Wf (by simp;omega),Wf (by omega)];rfl
theorem Ud {ws:List Str}{b:List Int}{a:List (List Str)}{n:List Nat}{p:List (Nat × Nat)}{prs:List (Str × Str × Str)}{f:List Str}(c:Nms ws) (w1:1<=ws.length) (L:ws.length<=8) (U:b.length=ws.length) (u:∀l∈b,1<=l/\l<10^60) (V:a.length=ws.length) (C:∀k∈a,Nms k/\k.length<=4)
  (R:n.length=ws.length) (j:n.Nodup) (F:∀x∈n,x<ws.length) (N:p.length<=28) (D:p.Nodup) (m:∀x∈p,x.1<x.2/\x.2<ws.length) (s:prs.length<=12) (A:prs.Nodup) (z:∀x∈prs,(x.1="with"\/x.1="apart")/\x.2.1≠x.2.2/\x.2.1∈ws/\x.2.2∈ws)
  (O:1<=f.length) (S:f.length<=8) (J:∀x∈f,isNm x):WkOk ⟨(List.range ws.length).map (tkD ws b a),p.map (oD ws n),prs,f⟩:=by
 have e:=Il ws b a;have g:∀i,i<ws.length->n.getD i 0<ws.length:=fun i hi=>F _ (getD_mem (by omega));refine⟨by show 1<=((List.range ws.length).map (tkD ws b a)).length;rw[g_,o_];exact w1,by show ((List.range ws.length).map (tkD ws b a)).length<=8;rw[g_,o_];exact L,fun t ht=>?_,by show (((List.range ws.length).map (tkD ws b a)).map (·.1)).Nodup;rw[e];exact c.nd,by show (p.map (oD ws n)).length<=28;rw[g_];exact N,?_,fun o Y=>?_,s,A,fun q K=>?_,O,S,J⟩
 ·obtain⟨k,M,rfl⟩:=x_.mp ht;have v:=O_.mp M;have H:=u _ (getD_mem (d:=0) (show k<b.length by omega));have r:=C _ (getD_mem (d:=[]) (show k<a.length by omega));exact⟨c.nm _ (getD_mem v),H.1,H.2,r.1,r.2⟩
 ·show (p.map (oD ws n)).Nodup;rw[List.Nodup,Zo];refine Ze (fun {x y} E X w B=>w ?_) D;have G:=m x E;have Z:=m y X;obtain⟨I,j1⟩:=x;obtain⟨T,W⟩:=y;simp only at G Z;simp only[oD,Prod.mk.injEq] at B;have Q:=fU c.nd (g I (by omega)) (g T (by omega)) B.1;have P:=fU c.nd (g j1 (by omega)) (g W (by omega)) B.2;rw[lR j (by omega) (by omega) Q,lR j (by omega) (by omega) P]
 ·show _/\o.1∈((List.range ws.length).map (tkD ws b a)).map (·.1)/\o.2∈((List.range ws.length).map (tkD ws b a)).map (·.1);rw[e];obtain⟨x,E,rfl⟩:=x_.mp Y;have G:=m x E;refine⟨fun h=>?_,getD_mem (g _ (by omega)),getD_mem (g _ (by omega))⟩;have:=lR j (by omega) (by omega) (fU c.nd (g _ (by omega)) (g _ (by omega)) h);omega
 show _/\_/\q.2.1∈((List.range ws.length).map (tkD ws b a)).map (·.1)/\q.2.2∈((List.range ws.length).map (tkD ws b a)).map (·.1);rw[e];exact z q K
theorem Ue {a:List Int}{i:Nat}(h:i<a.length):atI (a.map T.int) (i:Int)=some (.int (a.getD i 0)):=bD (by rw[J_,d_ h,Wd,d_ h];rfl)
theorem Ug {a:List (List Str)}{i:Nat}(h:i<a.length):atI (a.map sT) (i:Int)=some (sT (a.getD i [])):=bD (by rw[J_,d_ h,Wd,d_ h];rfl)
theorem Wt.kep {c:Addr}{g H H':Hp3}{d:List (Addr × O3)}(w:Wt c g H d) (i:Cl H' c) (f:Kep c H H'):Wt c g H' d:=⟨i,fun b o h e=>f b o (w.kp b o h e) e,fun p a=>⟨f _ _ (w.at' p a).1 (w.at' p a).2,(w.at' p a).2⟩⟩
def tri (m:Nat) (A:List Nat):List (Nat × Nat):=A.flatMap fun i=>(List.range' (i+1) (m - (i+1))).map fun j=>(i,j)
theorem Pz:∀m:_root_.Fin 9,(tri m.val (List.range m.val)).Nodup:=by decide +kernel
theorem xN:∀m:_root_.Fin 9,(tri m.val (List.range m.val)).length<=28:=by decide +kernel
theorem Dr (m:Nat) (A:List Nat) (i:Nat):tri m (A++[i])=tri m A++(List.range' (i+1) (m - (i+1))).map fun j=>(i,j):=by simp [tri]
def oT (a:List Nat) (x:Nat × Nat):T:=.tup [.int ((a.getD x.1 0:Nat):Int),.int ((a.getD x.2 0:Nat):Int)]
theorem Uh (i m:Nat):di ((i:Int)+1) ((m:Int) - ((i:Int)+1)).toNat=(List.range' (i+1) (m - (i+1))).map fun (j:Nat)=>T.int (j:Int):=by
 rw[show ((m:Int) - ((i:Int)+1)).toNat=m - (i+1) by omega];generalize m - (i+1)=n;unfold di;rw[List.range'_eq_map_range,WQ];exact XF fun k _=>by show T.int _=T.int _;congr 1
theorem Kp {a:List Nat}{i:Nat}(h:i<a.length):atI (a.map fun (k:Nat)=>T.int (k:Int)) (i:Int)=some (.int ((a.getD i 0:Nat):Int)):=bD (by rw[J_,d_ h,Wd,d_ h];rfl)
theorem Kq (a:List Nat) (ps:List (Nat × Nat)):(ps.map (oT a)).all (pl 20)=true:=by rw[WD];intro t b;obtain⟨x,_,rfl⟩:=x_.mp b;rfl
theorem Ui (a:List Nat):(a.map fun (k:Nat)=>T.int (k:Int)).all (pl 20)=true:=by rw[WD];intro t b;obtain⟨x,_,rfl⟩:=x_.mp b;rfl
theorem Im {m:Nat}{x:Nat × Nat}{A:List Nat}(d:∀i∈A,i<m) (h:x∈tri m A):x.1<x.2/\x.2<m:=by
 obtain⟨i,c,b⟩:=List.mem_flatMap.mp h;obtain⟨j,a,rfl⟩:=x_.mp b;have:=List.mem_range'_1.mp a;exact⟨by omega,by omega⟩
def fu (f:Str->Nat) (n:Str) (v:Nat):Str->Nat:=fun x=>if x=n then v else f x
def mu (m:Nat) (ns:List Str) (f:Str->Nat):Nat:=(ns.map fun n=>m - f n).sum
def ld (tk:List (Str × Int × List Str)) (ns:List Str):Int:=((tk.filter (fun t=>d7 false (.str t.1) (ns.map T.str))).map (·.2.1)).sum
theorem oK (ns:List Str) (f:Str->Nat) (m:Nat):(dealt ns f m).length=m:=by unfold dealt;rw[g_,o_]
def zb (k:Nat) (f:Str->Nat) (xs:List Str):Str->Nat:=xs.foldl (fun f n=>fu f n k) f
def fD (D:List (List Str)):Str->Nat:=D.zipIdx.foldl (fun f p=>zb p.2 f p.1) (fun _=>0)
theorem Io (A:List (List Str)) (s:List Str):fD (A++[s])=zb A.length (fD A) s:=by
 unfold fD;rw[List.zipIdx_append,Zw];simp
def kdOf (ts:List (Str × Int × List Str)) (n:Str):List Str:=match ts.find? (fun t=>decide (t.1=n)) with
 |some t=>t.2.2
 |none=>[]
def V2 (a:List Str) (D:List (List Str)):Option T:=if D.length>a.length then some (.tup [.str "stands",.int (D.length:Int)]) else none
def V3 (ns xs:List Str):Option T:=(xs.find? fun x=>!decide (x∈ns)).map fun x=>.tup [.str "strange",.str x]
def twG:List Str->List Str->Option Str
 |_,[]=>none
 |sn,x::r=>if x∈sn then some x else twG (sn++[x]) r
def twF (xs:List Str):Option T:=(twG [] xs).map fun x=>.tup [.str "twice",.str x]
def V4 (ns xs:List Str):Option T:=(ns.find? fun n=>!decide (n∈xs)).map fun n=>.tup [.str "lost",.str n]
def V5 (f:Str->Nat) (a:List (Str × Str)):Option T:=(a.find? fun o=>decide (f o.2<f o.1)).map fun o=>.tup [.str "order",.str o.1,.str o.2]
def V6 (f:Str->Nat) (ps:List (Str × Str × Str)):Option T:=(ps.find? fun p=>decide (f p.2.1=f p.2.2) != decide (p.1=("with":Str))).map fun p=>.tup [.str p.1,.str p.2.1,.str p.2.2]
def okK (a:List Str) (k:Str):Bool:=decide (a=[])||decide (k∈a)
def Uj (b:Str->List Str) (a:List Str):Nat->List (List Str)->Option T
 |_,[]=>none
 |k,s::r=>match s.find? fun n=>!okK (b n) (a.getD k "") with
  |some n=>some (.tup [.str "kind",.str n,.int (k:Int)])
  |none=>Uj b a (k+1) r
def Uk (g:List Str->Int) (beat:Int):Nat->List (List Str)->Option T
 |_,[]=>none
 |k,s::r=>if g s>beat then some (.tup [.str "beat",.int (k:Int)]) else Uk g beat (k+1) r
def V7 (W:Wk) (D:List (List Str)):Option T:=(V2 W.row D).or ((V3 (W.tasks.map (·.1)) D.flatten).or ((twF D.flatten).or (V4 (W.tasks.map (·.1)) D.flatten)))
def V8 (W:Wk) (beat:Int) (D:List (List Str)):Option T:=(V5 (fD D) W.orders).or ((V6 (fD D) W.pairs).or ((Uj (kdOf W.tasks) W.row 0 D).or (Uk (ld W.tasks) beat 0 D)))
def flt (W:Wk) (beat:Int) (D:List (List Str)):Option T:=(V7 W D).or (V8 W beat D)
structure Dok (W:Wk) (D:List (List Str)):Prop where
 rw:D.length<=W.row.length
 st:∀x∈D.flatten,x∈W.tasks.map (·.1)
 nd:D.flatten.Nodup
 al:∀n∈W.tasks.map (·.1),n∈D.flatten
theorem Dok.in {W:Wk}{D:List (List Str)}(h:Dok W D) {s:List Str}(a:s∈D):s.Nodup/\∀n∈s,n∈W.tasks.map (·.1) :=
 ⟨(List.sublist_flatten_of_mem a).nodup h.nd,fun n b=>h.st n (Xe.mpr ⟨s,a,b⟩)⟩
theorem PB (ts:List T) (i:Int) (H:Hp3) (Q:VK3):ixH (some (.rol ts)) i H Q=oq (atI ts i) fun t=>Q t H:=rfl
def Ul:Sp3:=fun ts H Q=>∃tk:List (Str × Int × List Str),ts=[.tup (tk.map tkT)]/\tk.length<=8/\∀p,H p=none->Q (.ref p) (up3 H p (.lst ((tk.map (·.1)).map T.str)))
structure Fil (W:Wk) (beat:Int) (kind:Str) (D S:List Str):Prop where
 one:∀t∈W.tasks,t.1∈S->t.1∉D/\rY t.2.2 kind=true/\(∀x∈fM W t.1,x∈S)/\(∀x∈iW W t.1,x∈S\/x∈D)/\∀x∈jl W t.1,x∉S
 ld:dq W.tasks S<=beat
theorem fil_iff {W:Wk}{beat:Int}{c:Str}{D S:List Str}:uZ W beat c D S=true↔Fil W beat c D S:=by
 unfold uZ;rw[Wr,p_,WD];have d:∀t:Str × Int × List Str,(!decide (t.1∈S)||okT W c D S t)=true↔(t.1∈S->t.1∉D/\rY t.2.2 c=true/\(∀x∈fM W t.1,x∈S)/\(∀x∈iW W t.1,x∈S\/x∈D)/\∀x∈jl W t.1,x∉S):=fun t=>by
  unfold okT;rw[Bool.or_eq_true,YW,decide_eq_false_iff_not,Wr,Wr,Wr,Wr,YW,decide_eq_false_iff_not,@p_ _ (Classical.propDecidable _),@p_ _ (Classical.propDecidable _),@p_ _ (Classical.propDecidable _)];constructor
  ·intro h e;obtain⟨⟨⟨⟨j,f⟩,i⟩,m⟩,k⟩:=h.resolve_left (fun z=>z e);exact⟨j,f,i,fun x g=>u_.mp (m x g),k⟩
  intro h;by_cases e:t.1∈S
  ·obtain⟨j,f,i,m,k⟩:=h e;exact .inr ⟨⟨⟨⟨j,f⟩,i⟩,fun x g=>u_.mpr (m x g)⟩,k⟩
  exact .inl e
 exact⟨fun ⟨a,b⟩=>⟨fun t l=>(d t).mp (a t l),b⟩,fun h=>⟨fun t l=>(d t).mpr (h.one t l),h.ld⟩⟩
theorem su {ts:List (Str × Int × List Str)}{S a:List Str}(h:∀x,x∈S↔x∈a):dq ts S=dq ts a:=by
 have e:(ts.filter fun t=>decide (t.1∈S))=ts.filter fun t=>decide (t.1∈a):=Xz fun t _=>by rw[decide_eq_decide];exact h t.1
 unfold dq;rw[e]
theorem Fil.congr {W:Wk}{beat:Int}{a:Str}{D S d g:List Str}(f:Fil W beat a D S) (e:∀x,x∈D↔x∈d) (c:∀x,x∈S↔x∈g):Fil W beat a d g :=
 ⟨fun t m l=>by
  obtain⟨i,h,j,n,k⟩:=f.one t m ((c _).mpr l)
  exact⟨fun z=>i ((e _).mpr z),h,fun x b=>(c x).mp (j x b),fun x b=>(n x b).imp (c x).mp (e x).mp,fun x b z=>k x b ((c x).mpr z)⟩,by rw[<- su c];exact f.ld⟩
def Fils (W:Wk) (beat:Int) (D:List (List Str)):Prop:=∀k s,D[k]?=some s->Fil W beat (W.row.getD k "") (D.take k).flatten s
theorem Fils.snoc {W:Wk}{beat:Int}{D:List (List Str)}{s:List Str}(h:Fils W beat D) (f:Fil W beat (W.row.getD D.length "") D.flatten s):Fils W beat (D++[s]):=fun k s' e=>by
 by_cases b:k<D.length
 ·rw[Wb b] at e;rw[Yu (by omega)];exact h k s' e
 rw[M_ (by omega)] at e;have c:k - D.length=0:=by
  cases hz:k - D.length with
  |zero=>rfl
  |succ n=>rw[hz] at e;simp at e
 have a:k=D.length:=by omega
 subst a;rw[c] at e;simp only[Xr,Option.some.injEq] at e;subst e;rw[List.take_left']
 ·exact f
 rfl
theorem Fils.nil {W:Wk}{beat:Int}:Fils W beat []:=fun k s e=>by simp at e
theorem vf {k:Nat}{n:Str}:∀{xs:List Str}{f:Str->Nat},n∉xs->zb k f xs n=f n
 |[],_,_=>rfl
 |x::r,f,h=>by
  rw[n_,not_or] at h
  show zb k (fu f x k) r n=f n
  rw[vf h.2]
  unfold fu
  rw[if_neg h.1]
theorem Ds {k:Nat}{n:Str}:∀{xs:List Str}{f:Str->Nat},n∈xs->zb k f xs n=k
 |x::r,f,h=>by
  show zb k (fu f x k) r n=k
  by_cases a:n∈r
  ·
   exact Ds a
  ·
   rw[vf a]
   unfold fu
   rw[if_pos ((n_.mp h).resolve_right a)]
theorem eV {D:List (List Str)}(a:D.flatten.Nodup):∀{k:Nat}{s:List Str}{n:Str},D[k]?=some s->n∈s->fD D n=k:=by
 induction hl:D.length generalizing D with
 |zero=>intro k s n e;rw[Xq.mp hl] at e;simp at e
 |succ m g =>
 intro k s n e b;obtain⟨A,l,rfl⟩:∃A l,D=A++[l]:=by refine⟨D.dropLast,D.getLast (by intro z;rw[z] at hl;cases hl),(YD _).symm⟩
 have d:A.length=m:=by simp at hl;exact hl
 rw[Io];rw[Za,List.flatten_singleton,YT] at a;by_cases c:k<A.length
 ·rw[Wb c] at e;have f:n∈A.flatten:=Xe.mpr ⟨s,Xp e,b⟩;rw[vf fun z=>a.2.2 n f n z rfl];exact g a.1 d e b
 rw[M_ (by omega)] at e;have h:k - A.length=0:=by
  cases hz:k - A.length with
  |zero=>rfl
  |succ n=>rw[hz] at e;simp at e
 rw[h] at e;simp only[Xr,Option.some.injEq] at e;subst e;rw[Ds b];omega
theorem jo {D:List (List Str)}{n:Str}(h:n∈D.flatten):∃(k:Nat) (s:List Str),D[k]?=some s/\n∈s:=by
 obtain⟨s,a,c⟩:=Xe.mp h;obtain⟨k,b⟩:=List.getElem?_of_mem a;exact⟨k,s,b,c⟩
theorem take_at {D:List (List Str)}{k:Nat}{n:Str}:n∈(D.take k).flatten↔∃(j:Nat) (s:List Str),j<k/\D[j]?=some s/\n∈s:=by
 constructor
 ·intro h;obtain⟨j,s,e,a⟩:=jo h;rw[List.getElem?_take] at e;split at e
  ·exact⟨j,s,by assumption,e,a⟩
  cases e
 rintro⟨j,s,b,e,a⟩;refine Xe.mpr ⟨s,?_,a⟩;refine Xp (i:=j) ?_;rw[List.getElem?_take,if_pos b];exact e
theorem Dt {W:Wk}{a b:Str}(h:lkR ["with"] W a b):(a,b)∈W.orders\/∃p∈W.pairs,p.1="with"/\(p.2=(a,b)\/p.2=(b,a)):=by
 unfold lkR lkW at h;rcases u_.mp h with h | h
 ·exact .inl h
 obtain⟨p,e,c⟩:=List.mem_flatMap.mp h;unfold lkP at c;split at c
 ·rename_i d;refine .inr ⟨p,e,by simpa using d,?_⟩;simp only[n_,Prod.mk.injEq,W8,Zd] at c;rcases c with ⟨rfl,rfl⟩ | ⟨rfl,rfl⟩
  ·exact .inl rfl
  exact .inr rfl
 cases c
theorem PJ {W:Wk}{a b:Str}(h:(a,b)∈W.orders):lkR ["with"] W a b:=Wn _ h
theorem Ip {W:Wk}{a b:Str}(h:(("with":Str),a,b)∈W.pairs):lkR ["with"] W a b/\lkR ["with"] W b a:=by
 have:∀q,q∈lkP ["with"] ("with",a,b)->q∈lkW ["with"] W:=fun q c=>V_ _ (List.mem_flatMap.mpr ⟨_,h,c⟩);constructor
 ·exact this _ (by unfold lkP;simp)
 exact this _ (by unfold lkP;simp)
structure Rgt (W:Wk) (beat:Int) (D:List (List Str)) (f:Str->Nat):Prop where
 ord:∀o∈W.orders,f o.1<=f o.2
 pai:∀p∈W.pairs,f p.2.1=f p.2.2↔p.1="with"
 kin:∀k s,D[k]?=some s->∀t∈W.tasks,t.1∈s->rY t.2.2 (W.row.getD k "")=true
 bea:∀s∈D,dq W.tasks s<=beat
theorem sE {W:Wk}{beat:Int}{D:List (List Str)}(O:WkOk W) (h:Dok W D):Rgt W beat D (fD D)↔Fils W beat D:=by
 have u:∀{n:Str},n∈W.tasks.map (·.1)->∃s,D[fD D n]?=some s/\n∈s:=fun g=>by obtain⟨k,s,e,c⟩:=jo (h.al _ g);rw[eV h.nd e c];exact⟨s,e,c⟩
 constructor
 ·intro r k s e;have w:∀{a b:Str},RT (lkR ["with"] W) a b->fD D a<=fD D b:=fun z=>by
   induction z with
   |refl=>exact j_ _
   |step _ l P =>
   refine Wc P ?_;rcases Dt l with o | ⟨p,m,v,e | e⟩
   ·exact r.ord _ o
   ·have:=(r.pai p m).mpr v;rw[e] at this;exact Yw this
   have:=(r.pai p m).mpr v;rw[e] at this;exact Yw this.symm
  refine⟨fun t i c=>?_,r.bea s (Xp e)⟩;have U:=eV h.nd e c;refine⟨fun z=>?_,r.kin k s e t i c,fun x H=>?_,fun x H=>?_,fun x H J=>?_⟩
  ·obtain⟨j,s',V,d,g⟩:=take_at.mp z;have:=eV h.nd d g;omega
  ·obtain⟨A,C⟩:=G_.mp H;rw[@p_ _ (Classical.propDecidable _)] at C;have B:=w C.1;have e2:=w C.2;obtain⟨s',d,g⟩:=u A;rw[show fD D x=k by omega,e] at d;cases d;exact g
  ·obtain⟨A,C⟩:=G_.mp H;rw[@p_ _ (Classical.propDecidable _)] at C;have B:=w C.1;obtain⟨s',d,g⟩:=u A;by_cases z:fD D x=k
   ·rw[z,e] at d;cases d;exact .inl g
   exact .inr (take_at.mpr ⟨_,s',by omega,d,g⟩)
  obtain⟨p,m,rfl⟩:=x_.mp H;obtain⟨m,v⟩:=G_.mp m;rw[Wr,p_,p_] at v;have B:=(r.pai p m).mp (by rw[v.2,U,eV h.nd e J]);rw[v.1] at B;exact absurd B (by decide)
 intro F;have fil:∀{t:Str × Int × List Str},t∈W.tasks->∃s,D[fD D t.1]?=some s/\t.1∈s/\Fil W beat (W.row.getD (fD D t.1) "") (D.take (fD D t.1)).flatten s:=fun i=>by obtain⟨s,e,c⟩:=u (x_.mpr ⟨_,i,rfl⟩);exact⟨s,e,c,F _ _ e⟩
 have w:∀{a b:Str},a∈W.tasks.map (·.1)->b∈W.tasks.map (·.1)->RT (lkR ["with"] W) a b->fD D a<=fD D b:=fun {a b} I hb z=>by
  obtain⟨t,i,rfl⟩:=x_.mp hb;obtain⟨s,e,c,f⟩:=fil i;obtain⟨_,_,Y,T,_⟩:=f.one t i c;by_cases y:RT (lkR ["with"] W) t.1 a
  ·have:=Y a (G_.mpr ⟨I,@F_ _ (Classical.propDecidable _) ⟨y,z⟩⟩);exact Yw (eV h.nd e this)
  rcases T a (G_.mpr ⟨I,@F_ _ (Classical.propDecidable _) ⟨z,y⟩⟩) with q | q
  ·exact Yw (eV h.nd e q)
  obtain⟨j,s',V,d,g⟩:=take_at.mp q;rw[eV h.nd d g];omega
 refine⟨fun o M=>?_,fun p m=>?_,fun k s e t i c=>((F k s e).one t i c).2.1,fun s c=>?_⟩
 ·obtain⟨_,G,E⟩:=O.oo o M;exact w G E (.step .refl (PJ M))
 ·obtain⟨v,_,G,E⟩:=O.pp p m;constructor
  ·intro e;refine v.resolve_right fun I=>?_;obtain⟨t,i,N⟩:=x_.mp G;obtain⟨s,B,c,f⟩:=fil i;obtain⟨_,_,_,_,R⟩:=f.one t i c;refine R p.2.2 (x_.mpr ⟨p,G_.mpr ⟨m,by rw[Wr,p_,p_];exact⟨I,N.symm⟩⟩,rfl⟩) ?_;obtain⟨s',d,g⟩:=u E;have X:fD D p.2.2=fD D t.1:=by rw[N];exact e.symm
   rw[X,B] at d;cases d;exact g
  intro L;have K:(("with":Str),p.2.1,p.2.2)∈W.pairs:=by rw[<- L];exact m
  obtain⟨Z,S⟩:=Ip K;exact Nat.le_antisymm (w G E (.step .refl Z)) (w E G (.step .refl S))
 obtain⟨k,Q⟩:=List.getElem?_of_mem c;exact (F k s Q).ld
theorem Ir {W:Wk}{beat:Int}:∀{D:List (List Str)},Fils W beat D->(∀s∈D,s.Nodup/\∀n∈s,n∈W.tasks.map (·.1))->D.flatten.Nodup:=by
 intro D;induction hl:D.length generalizing D with
 |zero=>intro _ _;rw[Xq.mp hl];exact Zt
 |succ m q =>
 intro F g;obtain⟨A,l,rfl⟩:∃A l,D=A++[l]:=by refine⟨D.dropLast,D.getLast (by intro z;rw[z] at hl;cases hl),(YD _).symm⟩
 have j:A.length=m:=by simp at hl;exact hl
 have o:Fils W beat A:=fun k s e=>by
  have p:k<A.length:=by
   rcases Zq k A.length with z | z
   ·exact z
   rw[Wf z] at e;cases e
  have:=F k s (by rw[Wb p];exact e)
  rwa [Yu (by omega)] at this
 rw[Za,List.flatten_singleton,YT];have c:=g l (by simp);refine⟨q j o fun s h=>g s (Wn _ h),c.1,fun a i b d e=>?_⟩;subst e;obtain⟨t,r,rfl⟩:=x_.mp (c.2 a d);have f:=F A.length l (by rw[M_ (j_ _)];simp);rw[List.take_left' rfl] at f;exact (f.one t r d).1 i
theorem PK {a:List Str}{k:Nat}(h:k<a.length):atI (a.map T.str) (k:Int)=some (.str (a.getD k "")):=bD (by rw[J_,d_ h,Wd,d_ h];rfl)
theorem oM:∀ns:List Str,pick ns 0=[]
 |[]=>rfl
 |n::r=>by
  have:=oM r
  unfold pick
  simpa using this
theorem xO:∀(ns:List Str) (b:Int),(pick ns b).Sublist ns
 |[],_=>Zv _
 |n::r,b=>by
  have:=xO r (b / 2)
  unfold pick
  split
  ·
   exact this.cons₂ n
  ·
   exact this.cons n
theorem jH {W:Wk}{ns:List Str}{f:Str->Nat}{m:Nat}(A:WkOk W) (g:ns.Perm (W.tasks.map (·.1))) (q:m<=W.row.length) (u:∀n,f n<m):Dok W (dealt ns f m):=by
 have d:∀x,x∈(dealt ns f m).flatten↔x∈ns:=fun x=>by
  rw[Xe];constructor
  ·rintro⟨s,o,c⟩;obtain⟨k,_,rfl⟩:=x_.mp o;exact (G_.mp c).1
  intro c;exact⟨_,x_.mpr ⟨f x,O_.mpr (u x),rfl⟩,G_.mpr ⟨c,F_ rfl⟩⟩
 refine⟨by rw[oK];exact q,fun x c=>g.mem_iff.mp ((d x).mp c),?_,fun x c=>(d x).mpr (g.mem_iff.mpr c)⟩;have w:=g.nodup_iff.mpr A.nd;unfold dealt;have:∀l:List Nat,l.Nodup->((l.map fun k=>ns.filter fun n=>decide (f n=k)).flatten).Nodup:=by
  intro l;induction l with
  |nil=>intro _;exact Zt
  |cons k r v =>
  intro i;rw[W6] at i;rw[B_,Xw,YT];refine⟨List.filter_sublist.nodup w,v i.2,fun a p b h e=>?_⟩;subst e;obtain⟨s,o,h⟩:=Xe.mp h;obtain⟨j,t,rfl⟩:=x_.mp o;have y:=Wz (G_.mp p).2;have z:=Wz (G_.mp h).2;exact i.1 (by rw[<- y,z];exact t)
 exact this _ List.nodup_range
def gre {b:Type}(a:b->b->Bool):List b->List b
 |[]=>[]
 |n::B=>if (gre a B).any (fun g=>a g n) then gre a B else gre a B++[n]
theorem qd {a:Type}{b:a->a->Bool}:∀(xs:List a),∀g∈gre b xs,g∈xs
 |[],g,h=>h
 |n::B,g,h=>by
  unfold gre at h
  split at h
  ·
   exact z_ _ (qd B g h)
  ·
   rcases u_.mp h with h | h
   ·
    exact z_ _ (qd B g h)
   ·
    rw[h_.mp h];exact q_
theorem xP {f:Type}{c:f->f->Bool}(i:∀a,c a a=true):∀(xs:List f),∀b∈xs,∃g∈gre c xs,c g b=true
 |n::B,b,h=>by
  unfold gre
  rcases n_.mp h with rfl | h
  ·
   split
   ·
    rename_i j
    obtain⟨g,d,e⟩:=X3.mp j
    exact⟨g,d,e⟩
   ·
    exact⟨b,by simp,i b⟩
  ·
   obtain⟨g,d,e⟩:=xP i B b h
   split
   ·
    exact⟨g,d,e⟩
   ·
    exact⟨g,Wn _ d,e⟩
theorem zc (m:Nat):List.range (m+m)=List.range m++(List.range m).map (·+m):=by
 rw[List.range_add];congr 1;exact XF fun a _=>Nat.add_comm _ _
theorem xQ:∀(ws:List Str) (b:Int),(pick ws b).length<=ws.length
 |[],_=>j_ _
 |x::r,b=>by
  unfold pick
  have:=xQ r (b / 2)
  split
  ·
   rw[i_,i_];omega
  ·
   rw[i_];omega
def bJ (b a:Nat):Bool:=decide (Builtin.bitAnd (b:Int) (a:Int)=(a:Int))
theorem fV (b a:Nat):bJ b a=true↔b &&& a=a:=by
 unfold bJ;rw[p_,p6];exact Int.ofNat_inj
theorem zf (a:Nat):bJ a a=true:=(fV a a).mpr (Nat.and_self a)
def nm (W:Wk):List Str:=W.tasks.map (·.1)
def pk (W:Wk) (i:Nat):List Str:=pick (nm W) (i:Int)
def top2 (W:Wk):Nat:=2^W.tasks.length
theorem lU (W:Wk):(nm W).length=W.tasks.length:=g_ _
theorem d8 {W:Wk}(a:WkOk W) {i:Nat}(h:i<top2 W):bR (nm W) (pk W i)=i:=by
 have b:((i:Int))<2^(nm W).length:=by
  have e:((2^W.tasks.length:Nat):Int)=(2:Int)^W.tasks.length:=by push_cast;rfl
  rw[lU,<- e];exact Int.ofNat_lt.mpr h
 have:=Df (ns:=nm W) a.nd (X5 i) b;rw[cz] at this;exact Int.ofNat.inj this
theorem km {W:Wk}(A:List Str):bR (nm W) A<top2 W:=by
 have:=rT (nm W) A;rw[cz,lU] at this;have e:((2^W.tasks.length:Nat):Int)=(2:Int)^W.tasks.length:=by push_cast;rfl
 rw[<- e] at this;exact Int.ofNat_lt.mp this
theorem Um {W:Wk}(a:WkOk W) (A:List Str):pk W (bR (nm W) A)=(nm W).filter fun x=>decide (x∈A):=by
 unfold pk;rw[<- cz];exact rW _ _ a.nd
theorem jJ {W:Wk}(a:WkOk W) {A:List Str}{x:Str}:x∈pk W (bR (nm W) A)↔x∈nm W/\x∈A:=by
 rw[Um a,G_,p_]
theorem gR {W:Wk}{i:Nat}{x:Str}(h:x∈pk W i):x∈nm W:=ji _ _ x h
theorem Uo {W:Wk}(a:WkOk W) (i:Nat):(pk W i).Nodup:=(xO _ _).nodup a.nd
theorem gF:∀(ns A B:List Str),(∀x∈ns,x∈B↔x∉A)->bR ns A+bR ns B+1=2^ns.length
 |[],_,_,_=>rfl
 |x::r,A,B,h=>by
  have d:=gF r A B fun y c=>h y (z_ _ c)
  have b:=h x q_
  simp only[bR,i_,Nat.pow_succ]
  by_cases a:x∈A
  ·
   rw[if_pos a,if_neg (fun z=>b.mp z a)];omega
  ·
   rw[if_neg a,if_pos (b.mpr a)];omega
theorem gU:∀(ns A B:List Str),(∀x∈ns,¬(x∈A/\x∈B))->bR ns A+bR ns B=bR ns (A++B)
 |[],_,_,_=>rfl
 |x::r,A,B,h=>by
  have e:=gU r A B fun y d=>h y (z_ _ d)
  have c:=h x q_
  simp only[bR,u_]
  by_cases a:x∈A
  ·
   have b:x∉B:=fun z=>c ⟨a,z⟩
   simp only[a,b,if_true,Wl,Zd];omega
  ·
   by_cases b:x∈B
   ·
    simp only[a,b,if_true,Wl,or_true];omega
   ·
    simp only[a,b,Wl,or_self];omega
theorem sG {W:Wk}{A B:List Str}:bJ (bR (nm W) A) (bR (nm W) B)=true↔∀x∈nm W,x∈B->x∈A:=by
 unfold bJ;rw[p_,<- cz,<- cz];exact eU _ _ _
def sH (N:Nat):List Nat:=(List.range (N+1)).filter (bJ N)
theorem Iu {N i:Nat}(h:bJ N i=true):i<=N:=by
 have:=(fV N i).mp h;have:=Nat.and_le_left (n:=N) (m:=i);omega
theorem xR {N M:Nat}(h:N<M):(List.range M).filter (bJ N)=sH N:=by
 obtain⟨k,rfl⟩:∃k,M=(N+1)+k:=⟨M - (N+1),by omega⟩;unfold sH;rw[List.range_add,X7];have:((List.range k).map fun x=>N+1+x).filter (bJ N)=[]:=by rw[Yz];intro a b;obtain⟨x,_,rfl⟩:=x_.mp b;intro z;have:=Iu z;omega
 rw[this,N_]
theorem sI {N k i:Nat}(e:i<2^k):bJ N (i+2^k)=(bJ N (2^k)&&bJ N i):=by
 have b:i+2^k=2^k ||| i:=by have:=Nat.two_pow_add_eq_or_of_lt e 1;rw[Nat.mul_one] at this;omega
 rw[Wv,Wr,fV,fV,fV,b];constructor
 ·intro h;have c:∀j,(N &&& (2^k ||| i)).testBit j=(2^k ||| i).testBit j:=fun j=>by rw[h]
  refine⟨Nat.eq_of_testBit_eq fun j=>?_,Nat.eq_of_testBit_eq fun j=>?_⟩
  ·have:=c j;rw[Nat.testBit_and,Nat.testBit_or] at this;rw[Nat.testBit_and];cases a:(2^k).testBit j <;> simp_all
  have:=c j;rw[Nat.testBit_and,Nat.testBit_or] at this;rw[Nat.testBit_and];cases a:i.testBit j <;> simp_all
 rintro⟨a,d⟩;rw[Nat.and_or_distrib_left,a,d]
theorem Du {N k:Nat}:(List.range (2^(k+1))).filter (bJ N)=(List.range (2^k)).filter (bJ N)++if bJ N (2^k)=true then ((List.range (2^k)).filter (bJ N)).map (·+2^k) else []:=by
 rw[show 2^(k+1)=2^k+2^k by rw[Nat.pow_succ];omega,zc,X7];congr 1;rw[List.filter_map];by_cases h:bJ N (2^k)=true
 ·rw[if_pos h];congr 1;refine Xz fun i a=>?_;show bJ N (i+2^k)=bJ N i;rw[sI (O_.mp a),h,Zz]
 rw[if_neg h,Yz.mpr,WW];intro i a;show ¬bJ N (i+2^k)=true;rw[sI (O_.mp a),Wr];exact fun z=>h z.1
def fil (W:Wk) (beat:Int) (k d i:Nat):Bool:=uZ W beat (W.row.getD k "") (pk W d) (pk W i)
def fls (W:Wk) (beat:Int) (k d:Nat):List Nat:=(List.range (top2 W)).filter (fil W beat k d)
theorem fls_mem {W:Wk}{beat:Int}{k d i:Nat}:i∈fls W beat k d↔i<top2 W/\Fil W beat (W.row.getD k "") (pk W d) (pk W i):=by
 unfold fls;rw[G_,O_];unfold fil;rw[fil_iff]
theorem Fil.apart {W:Wk}{beat:Int}{a:Str}{D S:List Str}(f:Fil W beat a D S) {x:Str}(b:x∈nm W) (d:x∈S):x∉D:=by
 obtain⟨t,c,rfl⟩:=x_.mp b;exact (f.one t c d).1
theorem zg {W:Wk}{beat:Int}{k d:Nat}(c:WkOk W) (l:d<top2 W):(sH (top2 W - 1 - d)).filter (fil W beat k d)=fls W beat k d:=by
 have m:top2 W - 1 - d<top2 W:=by omega
 rw[<- xR m];unfold fls;rw[List.filter_filter];refine Xz fun i e=>?_;have b:=O_.mp e;cases h:fil W beat k d i with
 |false=>rfl
 |true =>
 rw[Zz];have f:Fil W beat (W.row.getD k "") (pk W d) (pk W i):=fil_iff.mp h;have g:top2 W - 1 - d=bR (nm W) ((nm W).filter fun x=>decide (x∉pk W d)):=by
  have:=gF (nm W) (pk W d) ((nm W).filter fun x=>decide (x∉pk W d)) fun x a=>by rw[G_,p_];exact⟨fun z=>z.2,fun z=>⟨a,z⟩⟩
  rw[d8 c l,lU] at this;unfold top2;omega
 rw[g,show i=bR (nm W) (pk W i) from (d8 c b).symm];rw[sG];intro x a j;rw[G_,p_];exact⟨a,f.apart a j⟩
inductive Frw (W:Wk) (beat:Int):List Nat->Nat->Prop
 |nil:Frw W beat [] 0
 |snoc {fs:List Nat} {d f:Nat}:Frw W beat fs d->fs.length<W.row.length->f∈fls W beat fs.length d->Frw W beat (fs++[f]) (d+f)
theorem Iv (W:Wk):pk W 0=[]:=oM _
theorem Frw.ok {W:Wk}{beat:Int}{a:List Nat}{d:Nat}(i:WkOk W) (r:Frw W beat a d):d<top2 W/\a.length<=W.row.length/\(∀x,x∈pk W d↔x∈(a.map (pk W)).flatten)/\Fils W beat (a.map (pk W))/\∀f∈a,f<top2 W:=by
 induction r with
 |nil=>exact⟨Nat.pow_pos (by decide),Xa _,fun x=>by rw[Iv];rfl,Fils.nil,fun _ h=>(nomatch h)⟩
 |@snoc a d f r o l m =>
 obtain⟨q,_,j,p,n⟩:=m;obtain⟨c,F⟩:=fls_mem.mp l;have e:d+f=bR (nm W) (pk W d++pk W f):=by rw[<- gU _ _ _ fun x k z=>F.apart k z.2 z.1,d8 i q,d8 i c]
 refine⟨by rw[e];exact km _,by rw[a_];exact o,fun x=>?_,?_,fun g b=>?_⟩
 ·rw[e,jJ i,y_,Za,u_,u_,<- j x];simp only[B_,WW,Xw,List.flatten_nil,N_];exact⟨fun z=>z.2,fun z=>⟨z.elim gR gR,z⟩⟩
 ·rw[y_];refine p.snoc ?_;rw[g_];exact F.congr j fun x=>Iff.rfl
 rcases u_.mp b with b | b
 ·exact n g b
 rw[h_.mp b];exact c
theorem Frw.of {W:Wk}{beat:Int}(g:WkOk W):∀{D:List (List Str)},D.length<=W.row.length->(∀s∈D,∀n∈s,n∈nm W)->Fils W beat D->Frw W beat (D.map (bR (nm W))) (bR (nm W) D.flatten):=by
 intro D;induction hl:D.length generalizing D with
 |zero=>intro _ _ _;rw[Xq.mp hl,WW,List.flatten_nil,gP];exact .nil
 |succ m q =>
 intro t b F;obtain⟨A,l,rfl⟩:∃A l,D=A++[l]:=⟨D.dropLast,D.getLast (by intro z;rw[z] at hl;cases hl),(YD _).symm⟩;have p:A.length=m:=by simp at hl;exact hl
 have o:Fils W beat A:=fun k s e=>by
  have j:k<A.length:=by
   rcases Zq k A.length with z | z
   ·exact z
   rw[Wf z] at e;cases e
  have:=F k s (by rw[Wb j];exact e)
  rwa [Yu (by omega)] at this
 have r:=q p (by omega) (fun s h=>b s (Wn _ h)) o;have f:=F A.length l (by rw[M_ (j_ _)];simp);rw[List.take_left' rfl] at f;have c:=b l (by simp);have d:∀n∈A.flatten,n∈nm W:=fun n a=>by obtain⟨s,h,a⟩:=Xe.mp a;exact b s (Wn _ h) n a
 have:=Frw.snoc r (by rw[g_];omega) (f:=bR (nm W) l) (fls_mem.mpr ⟨km _,by
  rw[g_]
  exact f.congr (fun x=>by rw[jJ g];exact⟨fun z=>⟨d x z,z⟩,fun z=>z.2⟩) fun x=>by rw[jJ g];exact⟨fun z=>⟨c x z,z⟩,fun z=>z.2⟩⟩)
 rw[gU _ _ _ fun x i z=>f.apart i z.2 z.1] at this;rw[y_,Za];simpa using this
theorem oN {W:Wk}(b:WkOk W):∀x∈nm W,x∈pk W (top2 W - 1):=fun x a=>by
 have d:bR (nm W) (nm W)=top2 W - 1:=by
  have:=gF (nm W) (nm W) [] fun y c=>by simp [c]
  rw[gP,lU] at this;unfold top2;omega
 rw[<- d,jJ b];exact⟨a,a⟩
theorem jK {W:Wk}{A:List Str}(h:∀x∈nm W,x∈A):bR (nm W) A=top2 W - 1:=by
 have:=gF (nm W) A [] fun y a=>by simp [h y a]
 rw[gP,lU] at this;unfold top2;omega
theorem Frw.dok {W:Wk}{beat:Int}{b:List Nat}(c:WkOk W) (r:Frw W beat b (top2 W - 1)):Dok W (b.map (pk W))/\Fils W beat (b.map (pk W)):=by
 obtain⟨_,j,g,d,_⟩:=r.ok c;have e:∀s∈b.map (pk W),s.Nodup/\∀n∈s,n∈W.tasks.map (·.1):=fun s h=>by obtain⟨i,_,rfl⟩:=x_.mp h;exact⟨Uo c i,fun n a=>gR a⟩
 refine⟨⟨by rw[g_];exact j,fun x f=>?_,Ir d e,fun n a=>(g n).mp (oN c n a)⟩,d⟩;obtain⟨s,h,a⟩:=Xe.mp f;exact (e s h).2 x a
theorem Frw.ofD {W:Wk}{beat:Int}{D:List (List Str)}(b:WkOk W) (h:Dok W D) (F:Fils W beat D):Frw W beat (D.map (bR (nm W))) (top2 W - 1):=by
 have:=Frw.of b h.rw (fun s a=>(h.in a).2) F
 rwa [jK h.al] at this
def bF (i:Nat):T:=.int (i:Int)
def wkF (W:Wk) (beat:Int) (p:Addr):List (Str × T):=[("works",W.enc),("beat",.int beat),("rules",.ref p),("whole",.int ((top2 W:Int) - 1))]
structure Wlk (C:Addr) (W:Wk) (beat:Int) (H:Hp3) (a:Addr):Prop where
 ex:∃p,H a=some (.ins C (wkF W beat p))/\H p=some (.lst (W.tasks.map (ruT W (W.tasks.map (·.1)))))
theorem Wlk.sub {C:Addr}{W:Wk}{beat:Int}{H H':Hp3}{a:Addr}(h:Wlk C W beat H a) (s:Sub3 H H'):Wlk C W beat H' a:=by
 obtain⟨p,c,b⟩:=h.ex;exact⟨p,s _ _ c,s _ _ b⟩
theorem sJ {W:Wk}{beat:Int}{p:Addr}:aP "works" (wkF W beat p)=some W.enc:=rfl
theorem Iw {W:Wk}{beat:Int}{p:Addr}:aP "beat" (wkF W beat p)=some (.int beat):=by unfold wkF aP;rw[if_neg (by decide +kernel)];unfold aP;rw[if_pos rfl]
theorem Dv {W:Wk}{beat:Int}{p:Addr}:aP "rules" (wkF W beat p)=some (.ref p):=by unfold wkF aP;rw[if_neg (by decide +kernel)];unfold aP;rw[if_neg (by decide +kernel)];unfold aP;rw[if_pos rfl]
theorem sO {W:Wk}{beat:Int}{p:Addr}:aP "whole" (wkF W beat p)=some (.int ((top2 W:Int) - 1)):=by unfold wkF aP;rw[if_neg (by decide +kernel)];unfold aP;rw[if_neg (by decide +kernel)];unfold aP;rw[if_neg (by decide +kernel)];unfold aP;rw[if_pos rfl]
theorem Dw {W:Wk}{beat:Int}{p:Addr}{m:Str}(h:m∉(["works","beat","rules","whole"]:List Str)):aP m (wkF W beat p)=none:=by
 simp only[n_,W8,Zd,not_or] at h;unfold wkF;simp only[aP];rw[if_neg (Ne.symm h.1),if_neg (Ne.symm h.2.1),if_neg (Ne.symm h.2.2.1),if_neg (Ne.symm h.2.2.2)]
theorem Uq {W:Wk}(a:WkOk W) {i:Nat}(h:i<top2 W):numOf (W.tasks.map (·.1)) (pk W i)=(i:Int):=by
 rw[cz];exact U_ Int.ofNat (d8 a h)
theorem qe {W:Wk}(a:WkOk W):top2 W<=256:=Yi (n:=2) (by decide) a.t8
theorem lV (W:Wk):0<top2 W:=Nat.pow_pos (by decide)
def Kr:Sp3:=fun ts H Q=>∃N:Nat,ts=[.int (N:Int)]/\N<256/\∀p,H p=none->Q (.ref p) (up3 H p (.lst ((sH N).map bF)))
def Ur (C:Addr):Sp3:=fun ts H Q=>∃(a:Addr) (W:Wk) (beat:Int),ts=[.ref a,W.enc,.int beat]/\WkOk W/\H a=some (.ins C [])/\∀H',(∀b o,b≠a->H b=some o->H' b=some o)->Wlk C W beat H' a->Q .non H'
def Us (C:Addr):Sp3:=fun ts H Q=>∃(a:Addr) (W:Wk) (beat:Int) (k d:Nat),ts=[.ref a,.int (k:Int),.int (d:Int)]/\WkOk W/\Wlk C W beat H a/\k<W.row.length/\d<top2 W/\∀p,H p=none->Q (.ref p) (up3 H p (.lst ((fls W beat k d).map bF)))
def Ut (C:Addr):Sp3:=fun ts H Q=>∃(a:Addr) (W:Wk) (beat:Int) (b:List Nat),ts=[.ref a,.tup (b.map bF)]/\WkOk W/\Wlk C W beat H a/\b.length<=8/\(∀f∈b,f<top2 W)/\Q (.tup ((b.map (pk W)).map sT)) H
section
variable {α:Type}
def dz (k:Nat):List (Nat × α)->Option α
 |[]=>none
 | (k',v)::r=>if k'=k then some v else dz k r
def putN (k:Nat) (v:α) (E:List (Nat × α)):List (Nat × α) :=
 if (E.any fun e=>decide (e.1=k))=true then E.map (fun e=>if e.1=k then (e.1,v) else e) else E++[(k,v)]
def dI (a:α->T) (E:List (Nat × α)):List (Int × T):=E.map fun e=>((e.1:Int),a e.2)
theorem PL (a:α->T) (E:List (Nat × α)):(dI a E).length=E.length:=g_ _
theorem qg (a:α->T) (k:Nat):∀E:List (Nat × α),cU (k:Int) (dI a E)=(dz k E).map a
 |[]=>rfl
 | (k',v)::r=>by
  have b:=qg a k r
  unfold dI at b ⊢
  rw[B_]
  unfold cU dz
  by_cases h:k'=k
  ·
   rw[if_pos h,if_pos (show ((k':Nat):Int)=(k:Int) by rw[h])];rfl
  ·
   rw[if_neg h,if_neg (show ¬((k':Nat):Int)=(k:Int) by omega),b]
theorem PN (a:α->T) (k:Nat) (v:α) (E:List (Nat × α)):uM (k:Int) (a v) (dI a E)=dI a (putN k v E):=by
 have c:((dI a E).any fun b=>decide (b.1=(k:Int)))=E.any fun e=>decide (e.1=k):=by unfold dI;rw[List.any_map];congr 1;funext e;show decide ((e.1:Int)=(k:Int))=decide (e.1=k);rw[decide_eq_decide];omega
 unfold uM putN;rw[c];split
 ·unfold dI;rw[WQ,WQ];refine XF fun e _=>?_;show (if (e.1:Int)=(k:Int) then ((e.1:Int),a v) else ((e.1:Int),a e.2))=_;show _=((((if e.1=k then (e.1,v) else e).1:Nat):Int),a (if e.1=k then (e.1,v) else e).2);by_cases h:e.1=k
  ·rw[if_pos h,if_pos (by rw[h])]
  rw[if_neg h,if_neg (by omega)]
 unfold dI;rw[y_];rfl
theorem ir {k:Nat}{v:α}:∀{E:List (Nat × α)},dz k E=some v->(k,v)∈E
 | (k',v')::r,h=>by
  unfold dz at h
  by_cases e:k'=k
  ·
   rw[if_pos e] at h;cases h;subst e;exact q_
  ·
   rw[if_neg e] at h;exact z_ _ (ir h)
theorem lW {k:Nat}:∀{E:List (Nat × α)},dz k E=none->∀e∈E,e.1≠k
 | (k',v')::r,h,e,a=>by
  unfold dz at h
  by_cases z:k'=k
  ·
   rw[if_pos z] at h;cases h
  ·
   rw[if_neg z] at h
   rcases n_.mp a with rfl | a
   ·
    exact z
   ·
    exact lW h e a
theorem zj (k:Nat) (v:α) (E:List (Nat × α)):(putN k v E).map (·.1)=if k∈E.map (·.1) then E.map (·.1) else E.map (·.1)++[k]:=by
 have a:(E.any fun e=>decide (e.1=k))=decide (k∈E.map (·.1)):=by rw[Wv,X3,p_,x_];exact⟨fun ⟨e,h,z⟩=>⟨e,h,Wz z⟩,fun ⟨e,h,z⟩=>⟨e,h,F_ z⟩⟩
 unfold putN;rw[a];by_cases h:k∈E.map (·.1)
 ·rw[if_pos h,if_pos (F_ h),WQ];refine XF fun e _=>?_;show (if e.1=k then (e.1,v) else e).1=e.1;split <;> rfl
 rw[if_neg h,if_neg (Bq h),y_];rfl
theorem sS {k:Nat}{v:α}{E:List (Nat × α)}{e:Nat × α}(h:e∈putN k v E):e=(k,v)\/(e∈E/\e.1≠k)\/(e∈E/\k∉E.map (·.1)):=by
 unfold putN at h;split at h
 ·obtain⟨x,a,rfl⟩:=x_.mp h;by_cases z:x.1=k
  ·rw[if_pos z,z];exact .inl rfl
  rw[if_neg z];exact .inr (.inl ⟨a,z⟩)
 rename_i b;rcases u_.mp h with h | h
 ·refine .inr (.inr ⟨h,fun z=>b ?_⟩);obtain⟨x,a,e⟩:=x_.mp z;exact X3.mpr ⟨x,a,F_ e⟩
 exact .inl (h_.mp h)
theorem Dy (k:Nat) (v:α) (E:List (Nat × α)):(k,v)∈putN k v E:=by
 unfold putN;split
 ·rename_i h;obtain⟨x,a,e⟩:=X3.mp h;refine x_.mpr ⟨x,a,?_⟩;have:=Wz e;rw[if_pos this,this]
 exact V_ _ (h_.mpr rfl)
theorem Dz {k:Nat}{v:α}{E:List (Nat × α)}{e:Nat × α}(h:e∈E) (a:e.1≠k):e∈putN k v E:=by
 unfold putN;split
 ·exact x_.mpr ⟨e,h,if_neg a⟩
 exact Wn _ h
theorem xT {k:Nat}{v:α}{E:List (Nat × α)}(h:(E.map (·.1)).Nodup):((putN k v E).map (·.1)).Nodup:=by
 rw[zj];split
 ·exact h
 rename_i z;exact j6 h z
theorem xU {k:Nat}{v:α}:∀{E:List (Nat × α)},(E.map (·.1)).Nodup->(k,v)∈E->dz k E=some v
 | (k',v')::r,nd,h=>by
  rw[B_,W6] at nd
  unfold dz
  rcases n_.mp h with e | h
  ·
   cases e;rw[if_pos rfl]
  ·
   rw[if_neg (fun z=>nd.1 (by rw[z];exact x_.mpr ⟨_,h,rfl⟩))]
   exact xU nd.2 h
end
abbrev Ev:=List (Nat × Int × List Nat)
def ldN (W:Wk) (i:Nat):Int:=dq W.tasks (pk W i)
def stp (W:Wk) (d:Nat) (v:Int × List Nat) (B:Ev) (f:Nat):Ev:=match dz (d+f) B with
 |none=>putN (d+f) (v.1+ldN W f^2,v.2++[f]) B
 |some u=>if v.1+ldN W f^2<u.1 then putN (d+f) (v.1+ldN W f^2,v.2++[f]) B else B
theorem Frw.inv {W:Wk}{beat:Int}{c:List Nat}{d:Nat}(r:Frw W beat c d) {k:Nat}(b:c.length=k+1):∃a d' f,c=a++[f]/\d=d'+f/\Frw W beat a d'/\a.length=k/\f∈fls W beat k d':=by
 cases r with
 |nil=>cases b
 |@snoc a d' f r g e =>
  have:a.length=k:=by rw[a_] at b;simp at b;exact b
  exact⟨a,d',f,rfl,rfl,r,this,by rw[<- this];exact e⟩
theorem Frw.nil0 {W:Wk}{beat:Int}{a:List Nat}{d:Nat}(r:Frw W beat a d) (h:a=[]):d=0:=by
 cases r with
 |nil=>rfl
 |@snoc b d' f r e c=>exact absurd h (by simp)
theorem Iz {W:Wk}{beat:Int}{k d f:Nat}(b:WkOk W) (h:d<top2 W) (g:f∈fls W beat k d):d+f<top2 W:=by
 obtain⟨a,F⟩:=fls_mem.mp g;have e:d+f=bR (nm W) (pk W d++pk W f):=by rw[<- gU _ _ _ fun x c z=>F.apart c z.2 z.1,d8 b h,d8 b a]
 rw[e];exact km _
theorem Wlk.frz {C:Addr}{W:Wk}{beat:Int}{H:Hp3}{a q:Addr}{o:O3}{E:List (Int × T)}(h:Wlk C W beat H a) (c:H q=some (.dci E)):Wlk C W beat (up3 H q o) a:=by
 obtain⟨p,d,b⟩:=h.ex;exact⟨p,by rw[aD (ne3 d c (by simp))];exact d,by rw[aD (ne3 b c (by simp))];exact b⟩
def Kb1 (a:Addr) (H H':Hp3):Prop:=∀b u,b≠a->H b=some u->H' b=some u
theorem Kb1.new {a p:Addr}{H H':Hp3}{o:O3}(k:Kb1 a H H') (d:H' p=none):Kb1 a H (up3 H' p o):=fun b u c h=>by rw[aD (bh (k b u c h) d)];exact k b u c h
theorem Kb1.put {a:Addr}{H H':Hp3}{o:O3}(k:Kb1 a H H'):Kb1 a H (up3 H' a o):=fun b u c h=>by rw[aD c];exact k b u c h
theorem Kb1.wlk {C:Addr}{W:Wk}{beat:Int}{b a:Addr}{H H':Hp3}(k:Kb1 b H H') (d:H b=none) (h:Wlk C W beat H a):Wlk C W beat H' a:=by
 obtain⟨p,e,c⟩:=h.ex;exact⟨p,k _ _ (bh e d) e,k _ _ (bh c d) c⟩
structure Hol (W:Wk) (f:Str->Nat):Prop where
 ord:∀o∈W.orders,f o.1<=f o.2
 pai:∀p∈W.pairs,f p.2.1=f p.2.2↔p.1="with"
 kin:∀t∈W.tasks,rY t.2.2 (W.row.getD (f t.1) "")=true
theorem Hol.congr {W:Wk}{f g:Str->Nat}(c:WkOk W) (h:Hol W f) (e:∀n∈nm W,f n=g n):Hol W g :=
 ⟨fun o b=>by
  have q:=c.oo o b
  rw[<- e _ q.2.1,<- e _ q.2.2];exact h.ord o b,fun p d=>by
  have q:=c.pp p d
  rw[<- e _ q.2.2.1,<- e _ q.2.2.2];exact h.pai p d,fun t a=>by
  rw[<- e _ (x_.mpr ⟨t,a,rfl⟩)];exact h.kin t a⟩
def ldF (ts:List (Str × Int × List Str)) (f:Str->Nat) (k:Nat):Int:=((ts.filter fun t=>decide (f t.1=k)).map (·.2.1)).sum
def lds (W:Wk) (f:Str->Nat) (m:Nat):List Int:=(List.range m).map (ldF W.tasks f)
theorem zm {ts:List (Str × Int × List Str)}{f g:Str->Nat}(e:∀t∈ts,f t.1=g t.1) (k:Nat):ldF ts f k=ldF ts g k:=by
 have:(ts.filter fun t=>decide (f t.1=k))=ts.filter fun t=>decide (g t.1=k):=Xz fun t a=>by rw[e t a]
 unfold ldF;rw[this]
theorem zp {W:Wk}{f g:Str->Nat}(e:∀n∈nm W,f n=g n) (m:Nat):lds W f m=lds W g m :=
 XF fun k _=>zm (fun t a=>e _ (x_.mpr ⟨t,a,rfl⟩)) k
theorem DG (A:List (Str × Int × List Str)) (t:Str × Int × List Str) (f:Str->Nat) (k:Nat):ldF (A++[t]) f k=ldF A f k+if f t.1=k then t.2.1 else 0:=by
 unfold ldF;rw[X7,y_,List.sum_append];by_cases h:f t.1=k <;> simp [h]
theorem DK {ns:List Str}{f:Str->Nat}{m k:Nat}(a:k<m):(dealt ns f m)[k]?=some (ns.filter fun n=>decide (f n=k)):=by
 unfold dealt;rw[J_,XD a];rfl
theorem DN {W:Wk}{f:Str->Nat}{m:Nat}(b:WkOk W) (d:m<=W.row.length) (a:∀n,f n<m):∀n∈nm W,fD (dealt (nm W) f m) n=f n:=fun n c =>
 eV (jH b (Y6 _) d a).nd (DK (a n)) (G_.mpr ⟨c,F_ rfl⟩)
theorem vg {W:Wk}{f:Str->Nat}{k:Nat}:dq W.tasks ((nm W).filter fun n=>decide (f n=k))=ldF W.tasks f k:=by
 have e:(W.tasks.filter fun t=>decide (t.1∈(nm W).filter fun n=>decide (f n=k)))=W.tasks.filter fun t=>decide (f t.1=k):=Xz fun t a=>by rw[decide_eq_decide,G_,p_];exact⟨fun z=>z.2,fun z=>⟨x_.mpr ⟨t,a,rfl⟩,z⟩⟩
 unfold dq ldF;rw[e]
theorem DP {W:Wk}{beat:Int}{f:Str->Nat}{m:Nat}(b:WkOk W) (i:m<=W.row.length) (j:∀n,f n<m) (h:Hol W f) (q:∀l∈lds W f m,l<=beat):Fils W beat (dealt (nm W) f m):=by
 have d:Dok W (dealt (nm W) f m):=jH (W:=W) b (Y6 _) i j;have e:=DN b i j;have c:=h.congr b (g:=fD (dealt (nm W) f m)) fun n r=>(e n r).symm;refine (sE b d).mp ⟨c.ord,c.pai,fun k s o t u a=>?_,fun s a=>?_⟩
 ·have:=eV d.nd o a;have:=c.kin t u
  rwa [eV d.nd o a] at this
 obtain⟨k,p,rfl⟩:=x_.mp a;show dq W.tasks ((nm W).filter fun n=>decide (f n=k))<=beat
 rw[vg];exact q _ (x_.mpr ⟨k,p,rfl⟩)
def gfl (W:Wk) (beat:Int) (k d:Nat):List Nat:=(gre bJ (fls W beat k d)).reverse
theorem qi {W:Wk}{beat:Int}{k d f:Nat}(h:f∈gfl W beat k d):f∈fls W beat k d:=qd _ _ (List.mem_reverse.mp h)
theorem IK {W:Wk}{beat:Int}{k d f:Nat}(h:f∈fls W beat k d):∃g∈gfl W beat k d,bJ g f=true:=by
 obtain⟨g,a,e⟩:=xP zf _ f h;exact⟨g,List.mem_reverse.mpr a,e⟩
theorem DQ {W:Wk}{t x:Str}(h:x∈fM W t) (a:t∈nm W):t∈fM W x:=by
 unfold fM at h ⊢;rw[G_,@p_ _ (Classical.propDecidable _)] at h ⊢;exact⟨a,h.2.2,h.2.1⟩
theorem Frw.grp {W:Wk}{beat:Int}{h:List Nat}{d:Nat}(n:WkOk W) (r:Frw W beat h d) {t x:Str}(g:t∈pk W d) (i:x∈fM W t):x∈pk W d:=by
 obtain⟨_,_,b,l,_⟩:=r.ok n;obtain⟨s,e,a⟩:=Xe.mp ((b t).mp g);obtain⟨j,k⟩:=List.getElem?_of_mem e;obtain⟨u,m,c⟩:=x_.mp (gR g);have f:=(l j s k).one u m (by rw[c];exact a);exact (b x).mpr (Xe.mpr ⟨s,e,f.2.2.1 x (by rw[c];exact i)⟩)
theorem vh {ts:List (Str × Int × List Str)}{S a:List Str}(d:∀t∈ts,0<=t.2.1) (h:∀x∈a,x∈S):dq ts a<=dq ts S:=by
 unfold dq;induction ts with
 |nil=>exact WT _
 |cons t r e =>
  have i:=e fun u f=>d u (z_ _ f)
  have g:=d t q_
  rw[X4,X4]
  by_cases b:t.1∈a
  ·
   rw[if_pos (F_ b),if_pos (F_ (h _ b)),B_,B_,XJ,XJ]
   omega
  ·
   rw[if_neg (Bq b)]
   by_cases c:t.1∈S
   ·
    rw[if_pos (F_ c),B_,XJ];omega
   ·
    rw[if_neg (Bq c)];exact i
theorem Fil.more {W:Wk}{beat:Int}{b:Str}{D S c:List Str}(l:WkOk W) (f:Fil W beat b D S) (i:∀x∈D,x∈c) (g:∀t x,t∈c->x∈fM W t->x∈c):Fil W beat b c (S.filter fun x=>decide (x∉c)) :=
 ⟨fun t e d=>by
  rw[G_,p_] at d
  obtain⟨n,h,j,m,k⟩:=f.one t e d.1
  refine⟨d.2,h,fun x a=>?_,fun x a=>?_,fun x a z=>k x a (G_.mp z).1⟩
  ·
   rw[G_,p_]
   exact⟨j x a,fun z=>d.2 (g x t.1 z (DQ a (x_.mpr ⟨t,e,rfl⟩)))⟩
  ·
   by_cases z:x∈c
   ·
    exact .inr z
   ·
    exact .inl (G_.mpr ⟨(m x a).resolve_right fun q=>z (i x q),F_ z⟩),
  WK (vh (fun t e=>by have:=(l.tk t e).lo;omega) fun x a=>(G_.mp a).1) f.ld⟩
abbrev Wy:=List (Nat × List Nat)
def iy (d:Nat) (v:List Nat) (B:Wy) (f:Nat):Wy:=match dz (d+f) B with
 |none=>putN (d+f) (v++[f]) B
 |some _=>B
def wbh (W:Wk) (beat:Int) (k:Nat) (E:Wy):Wy:=E.foldl (fun B e=>(gfl W beat k e.1).foldl (iy e.1 e.2) B) []
def wys (W:Wk) (beat:Int):Nat->Wy
 |0=>[(0,[])]
 |k+1=>wbh W beat k (wys W beat k)
structure Wtb (W:Wk) (beat:Int) (k:Nat) (E:Wy):Prop where
 nd:(E.map (·.1)).Nodup
 ok:∀e∈E,Frw W beat e.2 e.1/\e.2.length=k
 al:∀fs d,Frw W beat fs d->fs.length=k->∃e∈E,∀x∈pk W d,x∈pk W e.1
structure WtI (W:Wk) (beat:Int) (k:Nat) (sub:Nat->Nat->Prop) (B:Wy):Prop where
 nd:(B.map (·.1)).Nodup
 ok:∀e∈B,Frw W beat e.2 e.1/\e.2.length=k+1
 al:∀d f,sub d f->∃e∈B,e.1=d+f
theorem WtI.step {W:Wk}{beat:Int}{k:Nat}{sub:Nat->Nat->Prop}{B:Wy}{d:Nat}{v:List Nat}{f:Nat}(h:WtI W beat k sub B) (m:Frw W beat v d) (i:v.length=k) (n:k<W.row.length) (j:f∈fls W beat k d) :
  WtI W beat k (fun d' c=>sub d' c\/(d'=d/\c=f)) (iy d v B f):=by
 have g:Frw W beat (v++[f]) (d+f)/\(v++[f]).length=k+1 :=
  ⟨.snoc m (by omega) (by rw[i];exact j),by rw[a_,i];rfl⟩
 unfold iy;cases e:dz (d+f) B with
 |none =>
  refine⟨xT h.nd,fun x a=>?_,fun d' c b=>?_⟩
  ·rcases sS a with rfl | ⟨a,_⟩ | ⟨a,_⟩
   ·exact g
   ·exact h.ok x a
   exact h.ok x a
  rcases b with b | ⟨rfl,rfl⟩
  ·obtain⟨x,a,l⟩:=h.al d' c b;exact⟨x,Dz a (lW e x a),l⟩
  exact⟨_,Dy _ _ _,rfl⟩
 |some u =>
 refine⟨h.nd,h.ok,fun d' c b=>?_⟩;rcases b with b | ⟨rfl,rfl⟩
 ·exact h.al d' c b
 exact⟨_,ir e,rfl⟩
theorem WtI.inner {W:Wk}{beat:Int}{k:Nat}{sub:Nat->Nat->Prop}{B:Wy}{d:Nat}{v:List Nat}(p:Frw W beat v d) (o:v.length=k) (m:k<W.row.length) :
  ∀{xs:List Nat},(∀f∈xs,f∈fls W beat k d)->WtI W beat k sub B->WtI W beat k (fun d' a=>sub d' a\/(d'=d/\a∈xs)) (xs.foldl (iy d v) B):=by
 intro xs;induction xs generalizing sub B with
 |nil=>intro _ h;exact⟨h.nd,h.ok,fun d' a b=>h.al d' a (b.resolve_right fun z=>nomatch z.2)⟩
 |cons f r n =>
 intro i h;have e:=n (fun g l=>i g (z_ _ l)) (h.step p o m (i f q_));refine⟨e.nd,e.ok,fun d' a b=>e.al d' a ?_⟩;rcases b with b | ⟨j,c⟩
 ·exact .inl (.inl b)
 rcases n_.mp c with c | c
 ·exact .inl (.inr ⟨j,c⟩)
 exact .inr ⟨j,c⟩
theorem WtI.outer {W:Wk}{beat:Int}{k:Nat}(c:k<W.row.length):∀{xs:Wy}{sub:Nat->Nat->Prop}{B:Wy},(∀e∈xs,Frw W beat e.2 e.1/\e.2.length=k)->WtI W beat k sub B ->
  WtI W beat k (fun d f=>sub d f\/((∃v,(d,v)∈xs)/\f∈gfl W beat k d)) (xs.foldl (fun B e=>(gfl W beat k e.1).foldl (iy e.1 e.2) B) B)
 |[],_,_,_,h=>⟨h.nd,h.ok,fun d f a=>h.al d f (a.resolve_right fun z=>z.1.elim fun _ q=>nomatch q)⟩
 |e::r,sub,B,hx,h=>by
  obtain⟨l,i⟩:=hx e q_
  have q:=WtI.outer c (xs:=r) (fun x b=>hx x (z_ _ b)) (WtI.inner (xs:=gfl W beat k e.1) l i c (fun f j=>qi j) h)
  refine⟨q.nd,q.ok,fun d f a=>q.al d f ?_⟩
  rcases a with a | ⟨⟨v,m⟩,g⟩
  ·
   exact .inl (.inl a)
  ·
   rcases n_.mp m with z | z
   ·
    rw[<- z] at *
    exact .inl (.inr ⟨rfl,g⟩)
   ·
    exact .inr ⟨⟨v,z⟩,g⟩
theorem DR {W:Wk}{beat:Int}{k d f:Nat}(b:WkOk W) (h:d<top2 W) (g:f∈fls W beat k d) {x:Str}:x∈pk W (d+f)↔x∈pk W d\/x∈pk W f:=by
 obtain⟨a,F⟩:=fls_mem.mp g;have e:d+f=bR (nm W) (pk W d++pk W f):=by rw[<- gU _ _ _ fun x c z=>F.apart c z.2 z.1,d8 b h,d8 b a]
 rw[e,jJ b,u_];exact⟨fun z=>z.2,fun z=>⟨z.elim gR gR,z⟩⟩
theorem DW {W:Wk}{beat:Int}{k:Nat}{E:Wy}(a:WkOk W) (h:Wtb W beat k E) (G:k<W.row.length):Wtb W beat (k+1) (wbh W beat k E):=by
 have q:=WtI.outer (W:=W) (beat:=beat) G (xs:=E) (sub:=fun _ _=>False) (B:=[]) h.ok ⟨Zt,fun _ z=>(nomatch z),fun _ _ z=>z.elim⟩;refine⟨q.nd,q.ok,fun M d r K=>?_⟩;obtain⟨D,d',f,rfl,rfl,s,i,p⟩:=r.inv K;obtain⟨e,u,o⟩:=h.al D d' s i;have w:=(h.ok e u).1;have l:=(w.ok a).1;obtain⟨C,F⟩:=fls_mem.mp p;have H:=F.more a o fun t x L n=>w.grp a L n;have j:bR (nm W) ((pk W f).filter fun x=>decide (x∉pk W e.1))∈fls W beat k e.1:=fls_mem.mpr ⟨km _,H.congr (fun x=>Iff.rfl) fun x=>by rw[jJ a];exact⟨fun z=>⟨gR (G_.mp z).1,z⟩,fun z=>z.2⟩⟩;obtain⟨g,v,A⟩:=IK j;have b:=qi v;obtain⟨x,n,I⟩:=q.al e.1 g (.inr ⟨⟨e.2,u⟩,v⟩);have m:=(fls_mem.mp b).1;refine⟨x,n,fun y J=>?_⟩;rw[I,DR a l b];rcases (DR a (s.ok a).1 p).mp J with z | z
 ·exact .inl (o y z)
 by_cases c:y∈pk W e.1
 ·exact .inl c
 refine .inr ?_;rw[<- d8 a m,sG] at A;exact A y (gR z) (G_.mpr ⟨z,F_ c⟩)
theorem wtb {W:Wk}{beat:Int}(b:WkOk W):∀{k:Nat},k<=W.row.length->Wtb W beat k (wys W beat k)
 |0,_=>⟨by simp [wys],fun e f=>by rw[h_.mp f];exact⟨.nil,rfl⟩,fun g d r c=>by
   refine⟨(0,[]),h_.mpr rfl,fun x a=>?_⟩
   rw[r.nil0 (Xq.mp c)] at a
   exact a⟩
 |k+1,h=>DW b (wtb b (by omega)) (by omega)
structure WOk (W:Wk) (n:Nat) (E:Wy):Prop where
 nd:(E.map (·.1)).Nodup
 lt:∀e∈E,e.1<top2 W/\e.2.length<=n/\∀f∈e.2,f<top2 W
theorem WOk.len {W:Wk}{n:Nat}{E:Wy}(h:WOk W n E):E.length<=top2 W:=by
 have:=Dg (l:=E.map (·.1)) (m:=List.range (top2 W)) h.nd fun x a=>by obtain⟨e,b,rfl⟩:=x_.mp a;exact O_.mpr (h.lt e b).1
 rwa [g_,o_] at this
theorem WOk.stp {W:Wk}{beat:Int}{k n d f:Nat}{v:List Nat}{B:Wy}(j:WkOk W) (h:WOk W (n+1) B) (i:d<top2 W) (l:v.length<=n) (c:∀f∈v,f<top2 W) (e:f∈fls W beat k d):WOk W (n+1) (iy d v B f):=by
 unfold iy;split
 ·refine⟨xT h.nd,fun x b=>?_⟩;rcases sS b with rfl | ⟨b,_⟩ | ⟨b,_⟩
  ·refine⟨Iz j i e,by rw[a_];simp;exact l,fun g a=>?_⟩;rcases u_.mp a with a | a
   ·exact c g a
   rw[h_.mp a];exact (fls_mem.mp e).1
  ·exact h.lt x b
  exact h.lt x b
 exact h
theorem Wtb.wok {W:Wk}{beat:Int}{k:Nat}{E:Wy}(d:WkOk W) (h:Wtb W beat k E):WOk W k E:=⟨h.nd,fun e c=>by
 obtain⟨r,f⟩:=h.ok e c;obtain⟨a,_,_,_,b⟩:=r.ok d;exact⟨a,by omega,b⟩⟩
theorem IV {W:Wk}{beat:Int}(b:WkOk W) {m:Nat}(f:m<=W.row.length):(dz (top2 W - 1) (wys W beat m)).isSome=true↔∃a,Frw W beat a (top2 W - 1)/\a.length=m:=by
 have T:=wtb (beat:=beat) b f;constructor
 ·intro h;obtain⟨v,e⟩:=Option.isSome_iff_exists.mp h;have:=T.ok _ (ir e);exact⟨v,this.1,this.2⟩
 rintro⟨a,r,i⟩;obtain⟨e,c,h⟩:=T.al a _ r i;have g:e.1=top2 W - 1:=by rw[<- d8 b ((T.ok e c).1.ok b).1];exact jK fun x d=>h x (oN b x d)
 have:=xU T.nd (show (e.1,e.2)∈wys W beat m from c);rw[g] at this;rw[this];rfl
def wyT (v:List Nat):T:=.tup (v.map bF)
def wyE (e:Nat × List Nat):T:=.tup [.int (e.1:Int),wyT e.2]
theorem Uu (E:Wy):(dI wyT E).map itT=E.map wyE:=by unfold dI;rw[WQ];rfl
def wbF (W:Wk) (beat:Int) (k:Nat) (B:Wy) (e:Nat × List Nat):Wy:=(gfl W beat k e.1).foldl (iy e.1 e.2) B
def Uv:Sp3:=fun ts H Q=>∃(a:Addr) (b:List Nat),ts=[.ref a]/\H a=some (.lst (b.map bF))/\b.length<=256/\∀p,H p=none->Q (.ref p) (up3 H p (.lst ((gre bJ b).reverse.map bF)))
theorem qj {b:Type}(a:b->b->Bool):∀xs:List b,(gre a xs).length<=xs.length
 |[]=>j_ _
 |n::B=>by
  have:=qj a B
  unfold gre
  split
  ·
   rw[i_];omega
  ·
   rw[a_,i_];simp only[i_,Xn];omega
def Uw (C:Addr):Sp3:=fun ts H Q=>∃(a:Addr) (W:Wk) (beat:Int) (k d:Nat),ts=[.ref a,.int (k:Int),.int (d:Int)]/\WkOk W/\Wlk C W beat H a/\k<W.row.length/\d<top2 W/\∀p,H p=none->Q (.ref p) (up3 H p (.lst ((gfl W beat k d).map bF)))
def Ux (C:Addr):Sp3:=fun ts H Q=>∃(a q:Addr) (W:Wk) (beat:Int) (k n:Nat) (E:Wy),ts=[.ref a,.int (k:Int),.ref q]/\WkOk W/\Wlk C W beat H a/\k<W.row.length/\n<=8/\WOk W n E/\H q=some (.dci (dI wyT E))/\∀o p,H p=none->Q (.ref p) (up3 (up3 H q (.dif o (dI wyT E))) p (.dci (dI wyT (wbh W beat k E))))
def dtT (W:Wk) (beat:Int) (m:Nat):T:=match dz (top2 W - 1) (wys W beat m) with
 |none=>.non
 |some v=>.tup ((v.map (pk W)).map sT)
def Uy:Sp3:=fun ts H Q=>∃(W:Wk) (beat:Int) (m:Nat),ts=[W.enc,.int beat,.int (m:Int)]/\WkOk W/\m<=W.row.length/\Q (dtT W beat m) H
def Can (W:Wk) (m:Nat) (b:Int):Prop:=∃f:Str->Nat,(∀n,f n<m)/\Hol W f/\∀l∈lds W f m,l<=b
theorem IW {W:Wk}{beat:Int}{m:Nat}{a:List Nat}(j:WkOk W) (r:Frw W beat a (top2 W - 1)) (v:a.length=m):Can W m beat:=by
 obtain⟨b,F⟩:=r.dok j;have R:=(sE j b).mpr F;have q:∀n∈nm W,fD (a.map (pk W)) n<m:=fun n h=>by
  obtain⟨k,s,e,i⟩:=jo (b.al n h);rw[eV b.nd e i];have:k<(a.map (pk W)).length:=by
   rcases Zq k (a.map (pk W)).length with z | z
   ·exact z
   rw[Wf z] at e;cases e
  rwa [g_,v] at this
 have x:Hol W (fD (a.map (pk W))):=⟨R.ord,R.pai,fun t c=>by
  obtain⟨k,s,e,i⟩:=jo (b.al t.1 (x_.mpr ⟨t,c,rfl⟩))
  rw[eV b.nd e i]
  exact R.kin k s e t c i⟩
 have y:0<m:=by obtain⟨t,c⟩:∃t,t∈W.tasks:=List.exists_mem_of_length_pos (by have:=j.t1;omega);have:=q t.1 (x_.mpr ⟨t,c,rfl⟩);omega
 have u:∀n∈nm W,fD (a.map (pk W)) n=if n∈nm W then fD (a.map (pk W)) n else 0:=fun n h=>by rw[if_pos h]
 refine⟨fun n=>if n∈nm W then fD (a.map (pk W)) n else 0,fun n=>?_,x.congr j u,fun l g=>?_⟩
 ·show (if n∈nm W then fD (a.map (pk W)) n else 0)<m;split
  ·exact q n (by assumption)
  exact y
 rw[<- zp u] at g;obtain⟨k,w,rfl⟩:=x_.mp g;have f:k<(a.map (pk W)).length:=by rw[g_,v];exact O_.mp w
 have p:=d_ f;refine WK (Int.le_of_eq ?_) (R.bea _ (Ws f));unfold ldF dq;congr 2;refine Xz fun t c=>?_;rw[decide_eq_decide];have h:t.1∈nm W:=x_.mpr ⟨t,c,rfl⟩;constructor
 ·intro z;obtain⟨B,A,o,d⟩:=jo (b.al t.1 h);rw[eV b.nd o d] at z;subst z;rw[p] at o;cases o;exact d
 intro z;exact eV b.nd p z
theorem DX {W:Wk}{beat:Int}{m:Nat}(a:WkOk W) (b:m<=W.row.length):(dtT W beat m=.non/\¬Can W m beat)\/((∃xs,dtT W beat m=.tup xs)/\Can W m beat):=by
 have h:=IV (beat:=beat) a b;unfold dtT;cases e:dz (top2 W - 1) (wys W beat m) with
 |none=>refine .inl ⟨rfl,fun ⟨f,c,d,g⟩=>?_⟩;have:=h.mpr ⟨_,Frw.ofD a (jH (W:=W) a (Y6 _) b c) (DP a b c d g),by rw[g_,oK]⟩;rw[e] at this;cases this
 |some v =>
 obtain⟨j,r,i⟩:=h.mp (by rw[e];rfl);exact .inr ⟨⟨_,rfl⟩,IW a r i⟩
def alS (l:List Int) (t:Str × Int × List Str):List Int:=l++l.map (·+t.2.1)
def alD (ts:List (Str × Int × List Str)):List Int:=ts.foldl alS [0]
theorem jq (A:List (Str × Int × List Str)) (t:Str × Int × List Str):alD (A++[t])=alS (alD A) t:=by unfold alD;rw[Zw];rfl
theorem snoc_ind {a:Type}{C:List a->Prop}(c:C []) (d:∀A t,C A->C (A++[t])) (l:List a):C l:=by
 have:∀l:List a,C l.reverse:=fun l=>by
  induction l with
  |nil=>exact c
  |cons x r b=>rw[Zj];exact d _ _ b
 simpa using this l.reverse
theorem ql (ts:List (Str × Int × List Str)):(alD ts).length=2^ts.length:=by
 refine snoc_ind (C:=fun ts=>(alD ts).length=2^ts.length) rfl (fun A t a=>?_) ts;rw[jq];unfold alS;rw[a_,g_,a,a_,L_,Nat.pow_succ];omega
theorem PP (ts:List (Str × Int × List Str)) (f:Str->Nat) (k:Nat):ldF ts f k∈alD ts:=by
 refine snoc_ind (C:=fun ts=>ldF ts f k∈alD ts) (h_.mpr rfl) (fun A t a=>?_) ts;rw[jq,DG];unfold alS;split
 ·exact V_ _ (x_.mpr ⟨_,a,rfl⟩)
 rw[Int.add_zero];exact Wn _ a
theorem xV:∀{l:List Int},l≠[]->∃M∈l,∀x∈l,x<=M
 |[],h=>absurd rfl h
 |[x],_=>⟨x,.head _,fun y b=>by rw[h_.mp b];exact WT _⟩
 |x::y::r,_=>by
  obtain⟨M,d,a⟩:=xV (l:=y::r) (by simp)
  by_cases c:M<=x
  ·
   exact⟨x,.head _,fun z hz=>by
    rcases n_.mp hz with rfl | hz
    ·
     exact WT _
    ·
     exact WK (a z hz) c⟩
  ·
   exact⟨M,.tail _ d,fun z hz=>by
    rcases n_.mp hz with rfl | hz
    ·
     omega
    ·
     exact a z hz⟩
def Lb (W:Wk) (m:Nat) (t:T):Prop:=(t=.non/\∀b,¬Can W m b)\/∃b,t=.int b/\Can W m b/\∀c,Can W m c->b<=c
theorem Can.mono {W:Wk}{m:Nat}{b c:Int}(h:Can W m b) (g:b<=c):Can W m c:=by
 obtain⟨f,e,a,d⟩:=h;exact⟨f,e,a,fun l i=>WK (d l i) g⟩
theorem DY {W:Wk}{m:Nat}{c:Int}{us:List Int}(p:∀k,k∈us↔k∈alD W.tasks) (h:Can W m c):∃i,∃b:i<us.length,Can W m us[i]/\us[i]<=c:=by
 obtain⟨f,d,l,o⟩:=h;have a:lds W f m≠[]:=fun z=>by have:=U_ List.length z;unfold lds at this;rw[g_,o_] at this;have j:=d "";rw[this] at j;cases j
 obtain⟨M,g,n⟩:=xV a;obtain⟨k,_,e⟩:=x_.mp g;have:M∈us:=(p M).mpr (by rw[<- e];exact PP _ _ _);obtain⟨i,b,rfl⟩:=WF this;exact⟨i,b,⟨f,d,l,n⟩,o _ g⟩
theorem vm {us:List Int}(h:us.Pairwise (·<·)) {i j:Nat}(a:i<us.length) (b:j<us.length) (e:i<=j):us[i]<=us[j]:=by
 rcases X6 e with z | z
 ·exact WP (Wj.mp h i j a b z)
 subst z;exact WT _
theorem Ja {W:Wk}{m:Nat}{us:List Int}(a:Ris (alD W.tasks) us) {j:Nat}(f:j+1=us.length) (h:¬Can W m (us[j]'(by omega))):Lb W m .non:=.inl ⟨rfl,fun b e=>by
 obtain⟨i,c,d,_⟩:=DY a.2 e;exact h (d.mono (vm a.1 c (by omega) (by omega)))⟩
theorem Jb {W:Wk}{m:Nat}{us:List Int}(d:Ris (alD W.tasks) us) {a:Nat}(k:a<us.length) (h:Can W m us[a]) (j:∀i (b:i<us.length),i<a->¬Can W m us[i]):Lb W m (.int us[a]):=.inr ⟨_,rfl,h,fun c g=>by
 obtain⟨i,b,f,e⟩:=DY d.2 g;rcases Zq i a with z | z
 ·exact absurd f (j i b z)
 exact WK (vm d.1 k b z) e⟩
def Uz:Sp3:=fun ts H Q=>∃(W:Wk),ts=[W.enc]/\WkOk W/\W.tasks.length<=8/\∀(H':Hp3) (p:Addr) (us:List Int),Sub3 H H'->Ris (alD W.tasks) us->H' p=some (.lst (us.map T.int))->Q (.ref p) H'
def PQ:Sp3:=fun ts H Q=>∃(W:Wk) (m:Nat),ts=[W.enc,.int (m:Int)]/\WkOk W/\W.tasks.length<=8/\m<=W.row.length/\∀(H':Hp3) (t:T),Sub3 H H'->Lb W m t->Q t H'
def UG:Sp3:=fun ts H Q=>∃(d:Addr) (b a st:Int),ts=[.ref d,.int b,.int a,.int st]/\1<=b/\1<=a/\b+a<=9/\1<=st/\st<=8/\Cl H d/\∀(W:Wk) (H':Hp3),WkOk W->(W.tasks.length:Int)<=b+a - 1->(W.row.length:Int)<=st->Drw d H H'->Q W.enc H'
def UJ:Sp3:=fun ts H Q=>∃(W:Wk),ts=[W.enc]/\WkOk W/\W.tasks.length<=8/\∀(ts:List T),ts.length=W.row.length->(∀(i:Nat) (t:T),ts[i]?=some t->Lb W (i+1) t)->Q (.tup ts) H
variable {W:Wk}
theorem Lb.uniq {m:Nat}{t u:T}(h:Lb W m t) (h':Lb W m u):t=u:=by
 rcases h with ⟨rfl,g⟩ | ⟨b,rfl,e,f⟩ <;> rcases h' with ⟨rfl,a⟩ | ⟨c,rfl,d,i⟩
 ·rfl
 ·exact absurd d (g c)
 ·exact absurd e (a b)
 rw[Int.le_antisymm (f c d) (i b e)]
theorem Ea {ts:List (Str × Int × List Str)}(h:∀t∈ts,0<=t.2.1) (f:Str->Nat) (k:Nat):0<=ldF ts f k/\∀t∈ts,f t.1=k->t.2.1<=ldF ts f k:=by
 unfold ldF;induction ts with
 |nil=>exact⟨WT _,fun t a=>nomatch a⟩
 |cons u r g =>
 obtain⟨d,b⟩:=g fun t a=>h t (.tail _ a);have i:=h u (.head _);rw[X4];split
 ·rw[B_,XJ];refine⟨by omega,fun t a e=>?_⟩;rcases n_.mp a with rfl | a
  ·omega
  have:=b t a e;omega
 rename_i c;refine⟨d,fun t a e=>?_⟩;rcases n_.mp a with rfl | a
 ·exact absurd (F_ e) c
 exact b t a e
theorem xW {ts:List (Str × Int × List Str)}{f:Str->Nat}:∀{m:Nat},(∀t∈ts,f t.1<m)->((List.range m).map (ldF ts f)).sum=(ts.map (·.2.1)).sum:=by
 have b:∀m,((List.range m).map (ldF ts f)).sum=((ts.filter fun t=>decide (f t.1<m)).map (·.2.1)).sum:=fun m=>by
  induction m with
  |zero=>rw[Yz.mpr fun t _ z=>absurd (Wz z) (Nat.not_lt_zero _)];rfl
  |succ m a =>
  rw[List.range_succ,y_,List.sum_append,a];unfold ldF;clear a;induction ts with
  |nil=>rfl
  |cons u r a =>
  simp only[B_,WW,XJ,List.sum_nil,X4,decide_eq_true_eq] at a ⊢;rcases Zn (f u.1) m with c | c | c
  ·rw[if_pos c,if_neg (by omega),if_pos (by omega),B_,B_,XJ,XJ,<- a];omega
  ·rw[if_neg (by omega),if_pos c,if_pos (by omega),B_,B_,XJ,XJ,<- a];omega
  rw[if_neg (by omega),if_neg (by omega),if_neg (by omega),<- a]
 intro m h;rw[b m,List.filter_eq_self.mpr fun t d=>F_ (h t d)]
theorem lX {b:Int}:∀{l:List Int},(∀x∈l,x<=b)->l.sum<=(l.length:Int)*b
 |[],_=>by simp
 |x::r,h=>by
  have d:=lX fun y a=>h y (.tail _ a)
  have c:=h x (.head _)
  rw[XJ,i_]
  push_cast
  rw[Int.add_mul]
  omega
variable {W:Wk}
def Eb (W:Wk):Int:=(W.tasks.map (·.2.1)).sum
theorem Can.in {m:Nat}{b:Int}(j:WkOk W) (h:Can W m b):(∀t∈W.tasks,t.2.1<=b)/\Eb W<=(m:Int)*b/\0<=b:=by
 obtain⟨f,c,n,e⟩:=h;have g:∀t∈W.tasks,0<=t.2.1:=fun t d=>by have:=(j.tk t d).lo;omega
 have a:∀k,k<m->ldF W.tasks f k<=b:=fun k i=>e _ (x_.mpr ⟨k,O_.mpr i,rfl⟩);refine⟨fun t d=>WK ((Ea g f _).2 t d rfl) (a _ (c _)),?_,WK (Ea g f _).1 (a _ (c ""))⟩;have:=lX (l:=lds W f m) e;unfold lds at this;rw[xW fun t _=>c _,g_,o_] at this;exact this
theorem Can.up {m:Nat}{b:Int}(i:WkOk W) (h:Can W m b):Can W (m+1) b:=by
 have g:=(h.in i).2.2;obtain⟨f,d,e,c⟩:=h;refine⟨f,fun n=>Xk (d n),e,fun l a=>?_⟩;unfold lds at a c;rw[List.range_succ,y_] at a;rcases u_.mp a with q | q
 ·exact c l q
 rw[h_.mp q];have:ldF W.tasks f m=0:=by unfold ldF;rw[Yz.mpr fun t _ z=>by have:=d t.1;have:=Wz z;omega];rfl
 rw[this];exact g
theorem Can.one {b:Int}(h:Can W 1 b):Can W 1 (Eb W):=by
 obtain⟨f,c,d,g⟩:=h;refine⟨f,c,d,fun l a=>?_⟩;have:=xW (ts:=W.tasks) (f:=f) (m:=1) fun t _=>c _;rw[show (List.range 1)=[0] from rfl,List.map_singleton,List.sum_singleton] at this;have e:l=ldF W.tasks f 0:=by unfold lds at a;rw[show (List.range 1)=[0] from rfl] at a;exact h_.mp a
 rw[e,this];exact WT _
theorem Lb.first {b:Int}(f:WkOk W) (h:Lb W 1 (.int b)):b=Eb W:=by
 rcases h with ⟨e,_⟩ | ⟨c,e,a,d⟩
 ·cases e
 cases e;have:=(a.in f).2.1;have:=d _ a.one;omega
theorem Lb.more {m:Nat}{t u:T}(d:WkOk W) (h:Lb W m t) (g:Lb W (m+1) u):t=.non\/∃b c,t=.int b/\u=.int c/\c<=b:=by
 rcases h with ⟨e,_⟩ | ⟨b,e,a,j⟩
 ·exact .inl e
 rcases g with ⟨_,g⟩ | ⟨c,i,k,f⟩
 ·exact absurd (a.up d) (g b)
 exact .inr ⟨b,c,e,i,f _ (a.up d)⟩
section
variable {P:Program}{w:World}{K:Frag}{mg:Str->Option Value}{base:Heap}
abbrev oO:List Str:=["_law_script","_law_cells","_law_found","_law_cell","_law_k","_law_number"]
theorem sc_numbers:FnScope oO ["_law_script"] (aA (top 34)):=bB
theorem vo {f:Addr}{fd:FuncData}(g:G3 K mg "_law_numbers" (top 34) ["_law_script"] f fd) (B:Bl mg):Cal P w K mg base 1 "_law_numbers" (top 34) ["_law_script"] Km:=by
 refine⟨f,fd,g,?_⟩;refine fn3 g.fn sc_numbers (fun ts H Q h=>?_) (fun cdv A outer s H E ts H3 Q hr h=>?_)
 ·obtain⟨a,ns,rfl,_⟩:=h;rfl
 have M:=Room.u30 hr;obtain⟨a,ns,rfl,ha,hl,k⟩:=h;refine⟨_,(ao (aG (i:=1) sc_numbers.nd (aH aZ (je (v3 0) jd (fL aq)) (aH Nz (bI (aa aq ak)) (bG wA rfl B.int_ uw (aa (gm (Pn M) (v3 0) (bI ak)) ak)))))
   (ao (aG (i:=2) sc_numbers.nd (bI ak))
   (ao (bV (aW (dj M) (aH dC (aJ ix3 (v3 1) aq) aq) aq) (ao (bA K_ rfl (cL (aH aZ (bI (aa (aH dU (aJ ix3 (v3 1) aq) aq) ak)) (je (v3 1) (fL aq) jd))) (aF (i:=3) sc_numbers.nd) (au (bA K_ rfl (aU rfl B.range_ (aa aq ak)) (aF (i:=4) sc_numbers.nd) (ao (bY (dm Q_ S_ T_ bC (v3 2) (aa (aH dC (v3 3) (aH gJ aq aq)) ak)))
      (au (aG (i:=3) sc_numbers.nd (aH dU (v3 3) (aH gJ aq aq))))))))
    (au (aM (wM (v3 2) (fL (uJ aq)))))) bu)
   (ao (aG (i:=5) sc_numbers.nd (aH dC (aH dU (aJ ix3 (v3 1) aq) aq) aq))
   (ao (bA K_ rfl (aU rfl B.range_ (aa aq ak)) (aF (i:=4) sc_numbers.nd) (ao (aG (i:=3) sc_numbers.nd (aH dC (aJ ix3 (v3 1) (aH dC (v3 4) (aV cj rfl B.len_ cu (aa (v3 1) ak)))) aq))
    (ao (aG (i:=5) sc_numbers.nd (aH dC (aH aZ (aH aZ (aH gB (v3 5) (v3 5)) (aH gB aq (v3 3))) (v3 4)) aq))
    (au (bY (dm Q_ S_ T_ bC (v3 2) (aa (aH dU (aH dC (aH gB (v3 5) (aH aZ (v3 5) aq)) aq) aq) ak)))))))
   (au (aM (wM (v3 2) (fL (uJ aq)))))))))),?_⟩
 rw[show aR oO [T.ref a]=[some (T.ref a),none,none,none,none,none] from rfl];have hsz:sizeLine=16777216:=rfl;have k':=Box.mk k;clear k;refine aC fun R0 hR0=>?_;walk_at "";refine fun p1 W=>⟨by decide,fun p2 X=>⟨by omega,fun p3 hp3=>?_⟩⟩;have h2:=(b8 X);have h3:=(b8 hp3);have h3':=(b8 h3.2);have na1:a≠p1:=bh ha W;have na2:a≠p2:=bh ha h2.2;have na3:a≠p3:=bh ha h3'.2;have hpl:(ns.map T.int).all (pl 20)=true:=by rw[WD];intro t ht;obtain⟨x,_,rfl⟩:=x_.mp ht;rfl
 have n32:p2≠p3:=Ne.symm h3.1;have n31:p1≠p3:=Ne.symm h3'.1;have n21:p1≠p2:=Ne.symm h2.1;walk_at "";obtain⟨O,c1,c63,Z⟩:=Do ns hl;refine⟨trivial,trivial,rfl,⟨by split <;> decide,by split <;> decide,by split <;> decide⟩,fun p4 hp4=>?_⟩;have h4:=b8 hp4;have h4':=b8 h4.2;have U:=b8 h4'.2;rw[aD (Ne.symm U.1),aD n31,aD n21,aB,jF,Z];have hcl:(eO (ns.map T.int) none (some 63)).length+(List.replicate (if decide (ns.map T.int=[])=true then (1:Int) else 0).toNat [T.int 0]).flatten.length<=16777216:=by have:=U_ List.length Z;rw[a_,g_] at this;omega
 refine⟨hcl,fun C hpc=>?_⟩;have hS:Sub3 H3 (up3 (up3 (up3 (up3 H3 p1 (.lst (eO (ns.map T.int) none (some 63)))) p2 (.lst [T.int 0])) p3 (.lst [])) p4 (.lst (List.replicate (if decide (ns.map T.int=[])=true then (1:Int) else 0).toNat [T.int 0]).flatten)) :=
  (((Sub3.new W).trans (Sub3.new X)).trans (Sub3.new hp3)).trans (Sub3.new hp4)
 have F:=hS.trans (Sub3.new (o:=.lst (O.map T.int)) hpc);have v:∀H:Hp3,up3 H C (.lst (O.map T.int)) C=some (.lst (O.map T.int)):=fun _=>aB;have v:=v (up3 (up3 (up3 (up3 H3 p1 (.lst (eO (ns.map T.int) none (some 63)))) p2 (.lst [T.int 0])) p3 (.lst [])) p4 (.lst (List.replicate (if decide (ns.map T.int=[])=true then (1:Int) else 0).toNat [T.int 0]).flatten));generalize up3 (up3 (up3 (up3 (up3 H3 p1 (.lst (eO (ns.map T.int) none (some 63)))) p2 (.lst [T.int 0])) p3 (.lst [])) p4 (.lst (List.replicate (if decide (ns.map T.int=[])=true then (1:Int) else 0).toNat [T.int 0]).flatten)) C (.lst (O.map T.int))=H5 at F v;clear hS hcl Z hpc hp4 h4 h4' U hp3 h3 h3' X h2 W n32 n31 n21 na1 na2 na3 hpl ha hl;walk_at "n";refine aC fun R1 hR1=>?_;walk_at "";refine⟨by omega,fun n u=>?_⟩;have nb:Nb H3 (up3 H5 n (.lst [])) C n O []:=⟨F.trans (Sub3.new u),by rw[aD (bh v u)];exact v,aB,by
  cases e:H3 n with
  |none=>rfl
  |some o=>exact absurd (u.symm.trans (F _ _ e)) (by simp),bh v u⟩
 generalize up3 H5 n (.lst [])=H6 at nb;clear F v u;walk_at "n";cases O with
 |nil=>simp at c1
 |cons d j =>
 refine aC fun R2 hR2=>?_;have v:=nb.c;rw[B_] at v;walk_at "";refine⟨by decide,?_⟩;by_cases hev:d%2=0
 ·rw[F_ hev,if_pos rfl];clear hR2;refine⟨⟨by decide,by decide +kernel⟩,by decide,fun q1 hq1=>?_⟩;have I:=nb.new (o:=.lst [T.int (d / 2)]) hq1;have gq:up3 H6 q1 (.lst [T.int (d / 2)]) q1=some (.lst [T.int (d / 2)]):=aB;have gc1:=I.c;generalize up3 H6 q1 (.lst [T.int (d / 2)])=H7 at I gq gc1;clear nb v hq1;rw[gc1,JK];intro q2 V;rw[show (1:Int)=((1:Nat):Int) from rfl,Be,B_,List.drop_one,List.tail_cons];have D:=I.new (o:=.lst (j.map T.int)) V;have Y:up3 H7 q2 (.lst (j.map T.int)) q1=_ := upa gq V;have gq2:up3 H7 q2 (.lst (j.map T.int)) q2=some (.lst (j.map T.int)):=aB;generalize up3 H7 q2 (.lst (j.map T.int))=H8 at D Y gq2;clear I gq gc1 V;rw[i_] at c63;rw[Bc,Y,gq2,jF];refine⟨by rw[g_,L_];omega,fun q3 hq3=>?_⟩;have L:=D.new (o:=.lst ([T.int (d / 2)]++j.map T.int)) hq3;have G:up3 H8 q3 (.lst ([T.int (d / 2)]++j.map T.int)) q3=some (.lst ([T.int (d / 2)]++j.map T.int)):=aB;have n3f:q3≠n:=Ne.symm (bh D.f hq3);rw[show [T.int (d / 2)]++j.map T.int=((d / 2)::j).map T.int from rfl] at *;generalize up3 H8 q3 (.lst (((d / 2)::j).map T.int))=H9 at L G;clear D Y gq2 hq3;have xl:((d / 2)::j).length<=63:=by rw[i_];exact c63
  generalize (d / 2)::j=xs at *;walk_at "";refine bf T.int xs (fun A q H=>∃(l:List Int) (v3 m:Option T),q=[some (.ref a),some (.ref C),some (.ref n),v3,m,none]/\Nb H3 H C n (d::j) l/\H q3=some (.lst (xs.map T.int))/\l.length=8*A.length) ⟨[],_,_,rfl,L,G,rfl⟩ ?_ ?_
  ·rintro q H ⟨l,v3,m,rfl,nb,S,R⟩;refine⟨.inl S,?_⟩;have gf:=nb.f;clear L G;walk_at "";refine⟨by first | trivial | rfl,fun p hp=>Fin3.of Sub3.refl (k'.out p _ (nb.sb.trans (Sub3.new hp)) (du nb.sb hp) ⟨l.reverse,by rw[aB,List.map_reverse],by rw[Xg];omega⟩)⟩
  rintro A c B q H N e ⟨l,v3,m,rfl,nb,S,R⟩ hN;refine⟨.inl S,?_⟩;have hA:A.length+1<=63:=by have:=U_ List.length e;simp only[a_,i_] at this;omega
  have J:=Box.mk hN;clear hN e L G k';walk_at "";refine⟨trivial,by decide,by decide,?_⟩;have rl:(di 0 (Int.toNat 8)).length=8:=by unfold di;rw[g_,o_];rfl
  generalize di 0 (Int.toNat 8)=ts0 at rl;refine j7 (fun r q H=>∃(l:List Int) (c:Int) (m:Option T),q=[some (.ref a),some (.ref C),some (.ref n),some (.int c),m,none]/\Nb H3 H C n (d::j) l/\H q3=some (.lst (xs.map T.int))/\l.length+r.length=8*(A.length+1)) ⟨l,c,_,rfl,nb,S,by omega⟩ ?_ ?_
  ·rintro q H ⟨l,c,m,rfl,nb,S,R⟩;rw[Xn] at R;exact⟨trivial,J.out _ _ ⟨l,_,_,rfl,nb,S,by rw[a_,L_];omega⟩⟩
  rintro x r q H N2 ⟨l,c,m,rfl,nb,S,R⟩ hN2;refine⟨trivial,?_⟩;rw[i_] at R;have hM:=Box.mk hN2;have gf:=nb.f;clear hN2 J;walk_at "";refine⟨⟨trivial,trivial⟩,⟨by decide,by decide,by decide⟩,by decide,by omega,⟨by decide,by decide,by decide⟩,⟨by decide,by decide +kernel⟩,?_⟩;exact hM.out _ _ ⟨_,_,_,rfl,nb.put _,by rw[aD n3f];exact S,by rw[a_,L_];omega⟩
 rw[A_ hev,if_neg m_];walk_at "n";refine aC fun R3 hR3=>?_;walk_at "";refine⟨⟨by decide,by decide +kernel⟩,by decide,?_⟩;have m0:=W7 (d / 2) (show (2147483629:Int)≠0 by decide);have m1:=W5 (d / 2) (show (0:Int)<2147483629 by decide);generalize d / 2%2147483629=b at m0 m1;walk_at "n";refine aC fun R4 hR4=>?_;walk_at "";refine⟨by first | trivial | decide,by decide,by decide,?_⟩;rw[show di 0 (Int.toNat 504)=(List.range 504).map (fun (i:Nat)=>T.int (i:Int)) from gQ 504];refine bf (fun (i:Nat)=>T.int (i:Int)) (List.range 504) (fun A q H=>∃(l:List Int) (v3 m:Option T) (b:Int),q=[some (.ref a),some (.ref C),some (.ref n),v3,m,some (.int b)]/\Nb H3 H C n (d::j) l/\l.length=A.length/\0<=b/\b<2147483629) ⟨[],_,_,b,rfl,nb,rfl,m0,m1⟩ ?_ ?_
 ·rintro q H ⟨l,v3,m,b,rfl,nb,R,_,_⟩;refine⟨trivial,?_⟩;rw[o_] at R;walk_at "n";have gf:=nb.f;walk_at "";refine⟨by first | trivial | rfl,fun p hp=>Fin3.of Sub3.refl (k'.out p _ (nb.sb.trans (Sub3.new hp)) (du nb.sb hp) ⟨l.reverse,by rw[aB,List.map_reverse],by rw[Xg];omega⟩)⟩
 rintro A c B q H N e ⟨l,v3,m,b,rfl,nb,R,m0,m1⟩ hN;refine⟨trivial,?_⟩;have hA:A.length+1<=504:=by have:=U_ List.length e;simp only[a_,i_,o_] at this;omega
 have J:=Box.mk hN;have v:=nb.c;obtain⟨z,_,hz⟩:=wG (d::j) ((c:Int)%((d::j).length:Int)) (W7 _ (by rw[i_];omega)) (W5 _ (by rw[i_];omega));have hz':atI ((d::j).map T.int) ((c:Int)%((d::j).length:Int))=some (T.int z):=by rw[pI,hz];rfl
 generalize d::j=O at *;clear hN e hz hR4 k';refine aC fun R5 hR5=>?_;have cl:(0:Int)<(O.length:Int):=by omega
 walk_at "";refine⟨by first | trivial | omega,by decide,?_⟩;have z0:=W7 z (show (2147483647:Int)≠0 by decide);have z1:=W5 z (show (0:Int)<2147483647 by decide);generalize z%2147483647=z' at z0 z1;walk_at "n";refine aC fun R6 hR6=>?_;walk_at "";refine⟨.inl ⟨by omega,by omega⟩,.inl ⟨by decide,by decide⟩,by decide,?_⟩;have y0:=W7 (b*b+69621*z'+(c:Int)) (show (2147483629:Int)≠0 by decide);have y1:=W5 (b*b+69621*z'+(c:Int)) (show (0:Int)<2147483629 by decide);generalize (b*b+69621*z'+(c:Int))%2147483629=y at y0 y1;walk_at "n";have gf:=nb.f;walk_at "";refine⟨⟨trivial,trivial⟩,.inl ⟨by omega,by omega⟩,by decide,⟨by decide,by decide +kernel⟩,by omega,?_⟩;exact J.out _ _ ⟨_,_,_,_,rfl,nb.put _,by rw[a_,a_,L_,L_];omega,y0,y1⟩
abbrev lY:List Str:=["_law_deck","_law_most"]
theorem Jc:FnScope lY lY (aA (top 35)):=bB
theorem Jd {f:Addr}{z:FuncData}(g:G3 K mg "_law_draw" (top 35) lY f z) (B:Bl mg):Cal P w K mg base 1 "_law_draw" (top 35) lY mU:=by
 refine⟨f,z,g,?_⟩;refine fn3 g.fn Jc (fun ts H Q h=>?_) (fun M A l s H E ts H3 Q J h=>?_)
 ·obtain⟨d,m,rfl,_⟩:=h;rfl
 have i:=Room.u30 J;obtain⟨d,m,rfl,v,G,k⟩:=h;refine⟨_,(ao (bV (aW (dj i) (v3 0) (bI ak)) (au (aM aq)) bu)
   (au (aM (aH dC (NZ Q_ PySem.F.slot_list_pop PySem.F.type_list_pop Pk (v3 0)) (v3 1))))),?_⟩
 rw[show aR lY [T.ref d,T.int m]=[some (T.ref d),some (T.int m)] from rfl];have hsz:sizeLine=16777216:=rfl;obtain⟨ns,C,O⟩:=G.ex;walk_at "";refine⟨by omega,fun p u=>?_⟩;have e:d≠p:=bh C u;have j:(ns.map T.int).all (pl 20)=true:=by rw[WD];intro t R;obtain⟨x,_,rfl⟩:=x_.mp R;rfl
 have D:=Box.mk k;clear k;walk_at "";refine⟨by first | trivial | exact e,by first | trivial | exact j,by first | trivial | rfl,?_⟩;rcases List.eq_nil_or_concat ns with rfl | ⟨r,n,rfl⟩
 ·simp only[WW,wJ,if_true];exact jm (a:=d) (H:=H3) (G.new (Ne.symm e)) (Kep.refl.new u) fun c y=>D.out 0 c (WT _) v y
 rw[A_ (by simp),if_neg m_];rw[List.concat_eq_append] at *;have S:=Dp r n;have U:=za r n;have q:up3 H3 p (.lst []) d=some (.lst ((r++[n]).map T.int)):=by rw[aD e];exact C
 generalize L:up3 H3 p (.lst [])=V at q;clear j;walk_at "";refine⟨⟨trivial,trivial⟩,?_⟩;rw[show (List.map T.int (r++[n]))[(r++[n]).length - 1]?=some (T.int n) by simp,jE];walk_at "";refine⟨by first | trivial | exact v,jm (a:=d) (H:=H3) ⟨r,aB,by rw[a_,L_] at O;omega⟩ (fun b o I N=>?_) fun c y=>D.out _ c (W7 _ (by omega)) (W5 _ v) y⟩;rw[aD N,<- L,aD (bh I u)];exact I
abbrev xX:List Str:=["_law_deck","_law_most","_law_total","_law_k"]
theorem sc_great:FnScope xX ["_law_deck","_law_most"] (aA (top 36)):=bB
theorem Ec {f:Addr}{u:FuncData}(g:G3 K mg "_law_great" (top 36) ["_law_deck","_law_most"] f u) (B:Bl mg) (a:Cal P w K mg base 1 "_law_draw" (top 35) ["_law_deck","_law_most"] mU):Cal P w K mg base 2 "_law_great" (top 36) ["_law_deck","_law_most"] T3:=by
 refine⟨f,u,g,?_⟩;refine fn3 g.fn sc_great (fun ts H Q h=>?_) (fun F A j s H E ts H3 Q D h=>?_)
 ·obtain⟨d,m,rfl,_⟩:=h;rfl
 obtain⟨d,m,rfl,y,I,k⟩:=h;refine⟨_,(ao (aG (i:=2) sc_great.nd aq)
   (ao (bA K_ rfl (aU rfl B.range_ (aa aq ak)) (aF (i:=3) sc_great.nd) (au (aG (i:=2) sc_great.nd (aH aZ (aH gB (v3 2) (aH gJ aq aq)) (aK a D rfl (aa (v3 0) (aa (aH gJ aq aq) ak)))))))
   (au (aM (aH dC (v3 2) (v3 1)))))),?_⟩
 rw[show aR xX [T.ref d,T.int m]=[some (T.ref d),some (T.int m),none,none] from rfl];have z:=Box.mk k;clear k;refine aC fun O C=>?_;walk_at "";walk_at "n";refine aC fun L o=>?_;walk_at "";refine⟨by first | trivial | decide,by decide,by decide,?_⟩;generalize di 0 (Int.toNat 6)=G;refine j7 (fun r e H=>∃(t:Int) (v3:Option T),e=[some (.ref d),some (.int m),some (.int t),v3]/\Cl H d/\Kep d H3 H) ⟨_,_,rfl,I,Kep.refl⟩ ?_ ?_
 ·rintro e H ⟨t,v3,rfl,q,l⟩;refine⟨trivial,?_⟩;walk_at "n";walk_at "";refine⟨by first | trivial | exact y,jm q l fun p b=>z.out _ p (W7 _ (by omega)) (W5 _ y) b⟩
 rintro x r e H N ⟨t,v3,rfl,q,l⟩ v;refine⟨trivial,?_⟩;have c:=Box.mk v;clear v o z;walk_at "";refine⟨⟨by decide,by decide,by decide⟩,.inr ⟨by decide,by decide⟩,⟨by decide,by decide,by decide⟩,d,10^Int.toNat 12,rfl,by decide,q,fun n M n0 J b=>?_⟩;exact c.out _ _ ⟨_,_,rfl,b.cl,l.drw b⟩
abbrev Ed:List Str:=["_law_deck","_law_things","_law_left","_law_found"]
theorem sc_turn:FnScope Ed ["_law_deck","_law_things"] (aA (top 39)):=bB
theorem Je {f:Addr}{fd:FuncData}(g:G3 K mg "_law_turn" (top 39) ["_law_deck","_law_things"] f fd) (B:Bl mg) (v:Cal P w K mg base 1 "_law_draw" (top 35) ["_law_deck","_law_most"] mU):Cal P w K mg base 2 "_law_turn" (top 39) ["_law_deck","_law_things"] Ie:=by
 refine⟨f,fd,g,?_⟩;refine fn3 g.fn sc_turn (fun ts H Q h=>?_) (fun cdv A outer s H E ts H3 Q hr h=>?_)
 ·obtain⟨d,a,xs,rfl,_⟩:=h;rfl
 have O:=Room.u30 hr;obtain⟨d,a,xs,rfl,nad,ha,V,hl,hC,k⟩:=h;refine⟨_,(ao (aG (i:=2) sc_turn.nd (bG pG rfl B.list_ jf (aa (v3 1) ak)))
   (ao (aG (i:=3) sc_turn.nd (bI ak))
   (ao (jc K_ (aW (lA O) (v3 2) (bI ak)) (au (bY (dm Q_ S_ T_ bC (v3 3) (aa (dm Q_ PySem.F.slot_list_pop PySem.F.type_list_pop Ay (v3 2) (aa (aK v hr rfl (aa (v3 0) (aa (aV cj rfl B.len_ cu (aa (v3 2) ak)) ak))) ak)) ak)))))
   (au (aM (v3 3)))))),?_⟩
 rw[show aR Ed [T.ref d,T.ref a]=[some (T.ref d),some (T.ref a),none,none] from rfl];have hsz:sizeLine=16777216:=rfl;have k':=Box.mk k;clear k;have w0:Wt d H3 H3 []:=⟨hC,Kep.refl,(fun _ h=>nomatch h)⟩;refine aC fun R0 hR0=>?_;walk_at "";intro e c;have l0:=w0.fresh c;have W:=w0.new (o:=.lst xs) c;generalize up3 H3 e (.lst xs)=H4 at W;clear w0 c;walk_at "n";refine aC fun R1 hR1=>?_;walk_at "";refine⟨by omega,fun N u=>?_⟩;have f0:=W.fresh u;have J:N≠e:=Ne.symm (bh W.hd u);have w2:=W.new (o:=.lst []) u;generalize up3 H4 N (.lst [])=H5 at w2;clear W u;walk_at "n";refine aC fun R2 hR2=>?_;show o8 _ _ _ _ _;refine yZ (fun m σ H=>∃(C l:List T),m=C.length/\σ=[some (.ref d),some (.ref a),some (.ref e),some (.ref N)]/\Wt d H3 H [(N,.lst l),(e,.lst C)]/\(l++C).Perm xs/\C.all (pl 20)=true) ⟨_,xs,[],rfl,rfl,w2,Y6 _,V⟩ ?_;intro m σ H hI WI TB NX X y p;obtain⟨C,l,rfl,rfl,w,b,S⟩:=hI;have z:=b.length_eq;rw[a_] at z;have gl:=w.tl.hd;have gf:=w.hd;clear w2;walk_at "";refine⟨by omega,fun M I=>?_⟩;have G:=w.new (o:=.lst []) I;have U:=G.tl.tl.hd;have nle:e≠M:=bh gl I;walk_at "";refine⟨trivial,trivial,rfl,?_⟩;have npd:N≠d:=(w.at' _ q_).2;have L:=G.tl.hd;generalize up3 H M (.lst [])=H6 at G U L;clear w gl gf I nle;cases C with
 |nil=>rw[if_neg (by simp)];clear y X;obtain⟨p⟩:=p;subst p;walk_at "n";walk_at "";rw[N_] at b;exact fP G.cl G.kp L f0 npd fun H1 Z h1=>k'.out l H1 N b Z h1
 |cons t r =>
 rw[if_pos (by simp)];clear p hR2 k';obtain⟨y⟩:=y;subst y;have D:=G.tl;clear G;walk_at "";refine⟨⟨trivial,trivial⟩,⟨trivial,trivial⟩,d,_,rfl,by omega,D.cl,fun n H7 n0 n1 Z=>?_⟩;have Y:=D.drw Z;have gl4:=Y.tl.hd;have gf4:=Y.hd;clear D U L Z;obtain⟨j,rfl⟩:∃j:Nat,n=(j:Int):=⟨n.toNat,by omega⟩;have hj:j<(t::r).length:=by rw[i_];omega
 have ej:=wF hj;have ex:=d_ hj;have M:=Ig hj;have le:=Y4 hj;generalize (t::r)[j]=x at ex M;have hal:=Pq S j;have w5:=(Y.swap.set l0 (fun q hq=>by rw[h_.mp hq];exact J) (.lst ((t::r).eraseIdx j))).swap.set f0 (fun q hq=>by rw[h_.mp hq];exact Ne.symm J) (.lst (l++[x]));have hfl:l.length<60:=by rw[i_] at z;omega
 have nfl':=Ne.symm J;have hpm:(l++[x]++(t::r).eraseIdx j).Perm xs:=by refine List.Perm.trans ?_ b;rw[t_];exact (Y6 l).append M
 have hlr:=Box.mk (show (t::r).length=r.length+1 from rfl);have le':=Box.mk le;generalize R:(t::r)=C at *;clear Y S b M R le;walk_at "";exact⟨by omega,(C.eraseIdx j).length,by have:=hlr.out;have:=le'.out;omega,by rw[X.out];exact⟨_,l++[x],rfl,rfl,w5,hpm,hal⟩⟩
abbrev gG:List Str:=["_law_deck","_law_common","_law_names_here","_law_found","_law_name"]
theorem sc_some_kinds:FnScope gG ["_law_deck","_law_common","_law_names_here"] (aA (top 43)):=bB
theorem mV {f:Addr}{fd:FuncData}(g:G3 K mg "_law_some_kinds" (top 43) ["_law_deck","_law_common","_law_names_here"] f fd) (B:Bl mg) (v:Cal P w K mg base 2 "_law_turn" (top 39) ["_law_deck","_law_things"] Ie) (j:Cal P w K mg base 1 "_law_draw" (top 35) ["_law_deck","_law_most"] mU):Cal P w K mg base 3 "_law_some_kinds" (top 43) ["_law_deck","_law_common","_law_names_here"] Ub:=by
 refine⟨f,fd,g,?_⟩;refine fn3 g.fn sc_some_kinds (fun ts H Q h=>?_) (fun cdv A outer s H E ts H3 Q hr h=>?_)
 ·obtain⟨d,a,b,ws,rfl,_⟩:=h;rfl
 have z:=Room.u30 hr;obtain⟨d,a,b,ws,rfl,nad,ha,V,w8,hcm,hC,k⟩:=h;refine⟨_,(ao (aG (i:=3) sc_some_kinds.nd (bI (aa (v3 1) ak)))
   (ao (bA K_ rfl (cL (aK v hr rfl (aa (v3 0) (aa (bL rfl (bW (n0:=(aA (top 43)).names) (N:=gG) (N':=["_law_name","_law_common"]) (nt:=1) (cap:=[1]) rfl rfl (by decide +kernel)) (cL (v3 2)) (fun cl pins s H C0 fp=>⟨(aF (i:=0) (show List.Nodup [("_law_name":Str),("_law_common":Str)] by decide +kernel)),(ie (aW (lA z) (v3 0) (v3 1))),(v3 0)⟩)) ak)))) (aF (i:=4) sc_some_kinds.nd) (au (bV (PW3.pt (cG (aW nZ (aV cj rfl B.len_ cu (aa (v3 3) ak)) aq) (cJ (aW (dj z) (aK j hr rfl (aa (v3 0) (aa aq ak))) aq)))) (au (bY (dm Q_ PySem.F.slot_list_insert PySem.F.type_list_insert yM (v3 3) (aa (aK j hr rfl (aa (v3 0) (aa (aH aZ (aV cj rfl B.len_ cu (aa (v3 3) ak)) aq) ak))) (aa (v3 4) ak))))) bu)))
   (au (aM (bG cT rfl B.tuple_ cH (aa (v3 3) ak)))))),?_⟩
 rw[show aR gG [T.ref d,T.str b,T.ref a]=[some (T.ref d),some (T.str b),some (T.ref a),none,none] from rfl];have hsz:sizeLine=16777216:=rfl;have k':=Box.mk k;clear k;have w0:Wt d H3 H3 [(a,.lst (ws.map T.str))]:=⟨hC,Kep.refl,fun q p=>by rw[h_.mp p];exact⟨ha,nad⟩⟩;clear hC;refine aC fun R0 hR0=>?_;walk_at "";refine⟨by decide,fun D u=>?_⟩;have f0:=w0.fresh u;have nfa:a≠D:=bh ha u;have w1:=w0.new (o:=.lst [T.str b]) u;generalize up3 H3 D (.lst [T.str b])=H4 at w1;clear w0 u ha;walk_at "n";refine aC fun R1 U=>?_;have gA:=w1.tl.hd;walk_at "";walk_at "c";refine gD T.str T.str (fun x=>!decide (x=b)) ws [some (.str b)] (.inl gA) (by omega) (fun x l Q' p=>?_) (fun x l _ Q' p=>p) (fun q p=>?_)
 ·have hq':=Box.mk p;clear k' p U;walk_at "";first | exact hq'.out | trivial
 have L:=w1.new (o:=.lst ((ws.filter fun x=>!decide (x=b)).map T.str)) p;have gq:=L.hd;generalize up3 H4 q (.lst ((ws.filter fun x=>!decide (x=b)).map T.str))=H5 at L gq;clear w1 p gA;refine⟨d,q,(ws.filter fun x=>!decide (x=b)).map T.str,rfl,(L.at' _ q_).2,gq,jh _,by rw[g_];have:=Ww (fun x=>!decide (x=b)) ws;omega,L.cl,fun ys W R n hD I=>?_⟩;obtain⟨t,m,rfl⟩:=jn n _ rfl;have S:Nms t:=⟨fun x l=>V.nm x (G_.mp (m.mem_iff.mp l)).1,m.nodup_iff.mpr (V.nd.filter _)⟩;have fcm:b∉t:=fun h=>by have:=(G_.mp (m.mem_iff.mp h)).2;simp at this
 have fl:t.length<=8:=by rw[m.length_eq];have:=Ww (fun x=>!decide (x=b)) ws;omega
 have M:=(L.drw hD).tl.new (o:=.lst (t.map T.str)) I;have Z:=M.hd;have nfq:D≠R:=bh (L.drw hD).tl.hd I;generalize up3 W R (.lst (t.map T.str))=H7 at M Z;clear L hD I gq n m;try dsimp only
 walk_at "";have w4:Wt d H3 H7 [(D,.lst ([b].map T.str)),(R,.lst (t.map T.str))]:=⟨M.cl,M.kp,fun x l=>by
  rcases n_.mp l with rfl | l
  ·
   exact M.at' _ (by simp)
  ·
   rw[h_.mp l];exact M.at' _ q_⟩
 clear M Z;refine bf T.str t (fun A σ H=>∃(c:List Str) (v4:Option T),σ=[some (.ref d),some (.str b),some (.ref a),some (.ref D),v4]/\Nms c/\c.length<=4/\(∀x∈c,x=b\/x∈A)/\Wt d H3 H [(D,.lst (c.map T.str)),(R,.lst (t.map T.str))]) ⟨[b],_,rfl,⟨fun x l=>by rw[h_.mp l];exact hcm,by simp⟩,by simp,fun x l=>.inl (h_.mp l),w4⟩ ?_ ?_
 ·rintro σ H ⟨c,v4,rfl,hk,k4,_,w⟩;refine⟨.inl w.tl.hd,?_⟩;have g:=w.hd;walk_at "n";clear w4;try dsimp only
  walk_at "";exact jm w.cl w.kp fun H'' hD=>k'.out c H'' hk k4 hD
 rintro A x B σ H N e ⟨c,v4,rfl,hk,k4,J,w⟩ hN;refine⟨.inl w.tl.hd,?_⟩;have l:isNm x:=S.nm x (by rw[e];simp);have hnx:x∉c:=fun h=>by
  rcases J x h with h | h
  ·exact fcm (by rw[<- h,e];simp)
  have nd:=S.nd;rw[e,YT] at nd;exact nd.2.2 x h x q_ rfl
 have Y:=Box.mk hN;have G:=Box.mk J;clear hN J e k' U w4;have g:=w.hd;walk_at "";have C:∀W,Wt d H3 W [(D,.lst (c.map T.str)),(R,.lst (t.map T.str))]->N [some (.ref d),some (.str b),some (.ref a),some (.ref D),some (.str x)] W:=fun W w'=>Y.out _ _ ⟨c,_,rfl,hk,k4,fun y hy=>(G.out y hy).imp id fun h=>Wn _ h,w'⟩;have r:=Box.mk C;clear C;split
 ·rename_i h4;have h4':c.length<4:=by have:=Wz h4;omega
  refine⟨d,2,rfl,by decide,w.cl,fun n1 H8 p0 p1 hD1=>?_⟩;have w5:=w.drw hD1;have g5:=w5.hd;clear w g hD1;walk_at "";split
  ·refine⟨⟨trivial,trivial⟩,d,_,rfl,by omega,w5.cl,fun O H9 r0 r1 X=>?_⟩;have w6:=w5.drw X;have g6:=w6.hd;clear w5 g5 X;walk_at "";have em:(c.map T.str).take O.toNat++T.str x::(c.map T.str).drop O.toNat=(c.take O.toNat++x::c.drop O.toNat).map T.str:=by rw[y_,B_,List.map_take,List.map_drop]
   rw[em];refine⟨⟨by first | trivial | omega,by first | trivial | omega,by first | trivial | omega⟩,Y.out _ _ ⟨c.take O.toNat++x::c.drop O.toNat,_,rfl,hk.ins l hnx,?_,fun y hy=>?_,w6.set f0 (fun q p=>by rw[h_.mp p];exact Ne.symm nfq) _⟩⟩
   ·rw[a_,i_,Wi,Wo];omega
   rcases Dq hy with rfl | h
   ·exact .inr (V_ _ (h_.mpr rfl))
   exact (G.out y h).imp id fun h=>Wn _ h
  exact r.out _ w5
 exact r.out _ w
abbrev qm:List Str:=["_law_deck","_law_row","_law_names_here","_law_table","_law_many","_law_commons","_law_found","_law_i","_law_first"]
theorem sc_kinds:FnScope qm ["_law_deck","_law_row","_law_names_here","_law_table"] (aA (top 44)):=bB
theorem Ef {f:Addr}{fd:FuncData}(g:G3 K mg "_law_kinds" (top 44) ["_law_deck","_law_row","_law_names_here","_law_table"] f fd) (B:Bl mg) (I:Cal P w K mg base 1 "_law_draw" (top 35) ["_law_deck","_law_most"] mU) (b:Cal P w K mg base 3 "_law_some_kinds" (top 43) ["_law_deck","_law_common","_law_names_here"] Ub):Cal P w K mg base 4 "_law_kinds" (top 44) ["_law_deck","_law_row","_law_names_here","_law_table"] Uc:=by
 refine⟨f,fd,g,?_⟩;refine fn3 g.fn sc_kinds (fun ts H Q h=>?_) (fun cdv A outer s H E ts H3 Q hr h=>?_)
 ·obtain⟨d,r,a,t,F,ws,m,H0,as,rfl,_⟩:=h;rfl
 have O:=Room.u30 hr;obtain⟨d,r,a,t,F,ws,m,H0,as,rfl,nrd,nad,hr',r1,r8,hrow,ha,hws,w8,tq,m8,hC,k⟩:=h;refine⟨_,(ao (aG (i:=4) sc_kinds.nd (aV cj rfl B.len_ cu (aa (v3 3) ak)))
   (ao (aG (i:=5) sc_kinds.nd (bI ak))
   (ao (aG (i:=6) sc_kinds.nd (bI ak))
   (ao (bA K_ rfl (aU rfl B.range_ (aa (v3 4) ak)) (aF (i:=7) sc_kinds.nd) (ao (aG (i:=8) sc_kinds.nd (aJ ix3 (bL rfl (bW (n0:=(aA (top 44)).names) (N:=qm) (N':=["_law_j","_law_i","_law_table"]) (nt:=1) (cap:=[7,3]) rfl rfl (by decide +kernel)) (aU rfl B.range_ (aa (v3 4) ak)) (fun cl pins s H C0 fp=>⟨(aF (i:=0) (show List.Nodup [("_law_j":Str),("_law_i":Str),("_law_table":Str)] by decide +kernel)),(ie (PW3.pt (lg (aW (dj O) (v3 0) (v3 1)) (jC (PW3.pt (cG (cP (aJ ix3 (aJ ix3 (v3 2) (v3 1)) (v3 0))) (cJ (cP (aJ ix3 (aJ ix3 (v3 2) (v3 0)) (v3 1)))))))))),(v3 0)⟩)) aq))
    (ao (bV (aW (dj O) (v3 8) (v3 7)) (au (bY (dm Q_ S_ T_ bC (v3 5) (aa (aJ ix3 (v3 1) (aK I hr rfl (aa (v3 0) (aa (aV cj rfl B.len_ cu (aa (v3 1) ak)) ak)))) ak)))) (au (bY (dm Q_ S_ T_ bC (v3 5) (aa (aJ ix3 (v3 5) (v3 8)) ak)))))
    (au (bV (aW (dj O) (aK I hr rfl (aa (v3 0) (aa aq ak))) aq) (au (bY (dm Q_ S_ T_ bC (v3 6) (aa (aK b hr rfl (aa (v3 0) (aa (aJ ix3 (v3 5) (v3 7)) (aa (v3 2) ak)))) ak)))) (au (bY (dm Q_ S_ T_ bC (v3 6) (aa (cA ak) ak)))))))))
   (au (aM (v3 6))))))),?_⟩
 rw[show aR qm [T.ref d,T.ref r,T.ref a,T.ref t]=[some (T.ref d),some (T.ref r),some (T.ref a),some (T.ref t),none,none,none,none,none] from rfl];have hsz:sizeLine=16777216:=rfl;have k':=Box.mk k;clear k;have gt:=tq.t;have tl:as.length=m:=tq.l;have w0:Wt d H3 H3 [(r,.lst (F.map T.str)),(a,.lst (ws.map T.str))]:=⟨hC,Kep.refl,fun q hq=>by
  rcases n_.mp hq with rfl | hq
  ·
   exact⟨hr',nrd⟩
  ·
   rw[h_.mp hq];exact⟨ha,nad⟩⟩
 clear hC;have rg:di 0 m=(List.range m).map fun (i:Nat)=>T.int (i:Int):=gQ _;refine aC fun R0 hR0=>?_;walk_at "";walk_at "n";refine aC fun R1 hR1=>?_;walk_at "";refine⟨by omega,fun W C=>?_⟩;have c0:=w0.fresh C;have nrc:r≠W:=bh hr' C;have nac:a≠W:=bh ha C;have ntc:t≠W:=bh gt C;have nsc:∀x∈as,x≠W:=fun x hx=>by obtain⟨bs,_,h2⟩:=tq.r x hx;exact bh h2 C
 have w1:=w0.new (o:=.lst []) C;have S:=tq.new (o:=.lst []) C;generalize up3 H3 W (.lst [])=H4 at w1 S;clear C gt;walk_at "n";refine aC fun R2 hR2=>?_;walk_at "";refine⟨by omega,fun Y u=>?_⟩;have G:KI d H3 H0 (up3 H4 Y (.lst [])) Y W r a t F ws m as [] [] :=
  ⟨w1.new u,S.new u,Ne.symm (bh w1.hd u),⟨nrc,bh w1.tl.hd u⟩,⟨nac,bh w1.tl.tl.hd u⟩,⟨ntc,bh S.t u⟩,fun x hx=>⟨nsc x hx,by obtain⟨bs,_,h2⟩:=S.r x hx;exact bh h2 u⟩,c0,w1.fresh u⟩
 generalize up3 H4 Y (.lst [])=H5 at G;clear w1 S u nrc nac ntc nsc c0 tq;walk_at "n";refine aC fun R3 hR3=>?_;walk_at "";refine⟨by first | trivial | omega,by omega,by omega,?_⟩;try rw[rg]
 refine bf (fun (i:Nat)=>T.int (i:Int)) (List.range m) (fun A σ H=>∃(p:List Str) (J:List (List Str)) (v7 v8:Option T),σ=[some (.ref d),some (.ref r),some (.ref a),some (.ref t),some (.int (m:Int)),some (.ref W),some (.ref Y),v7,v8]/\KI d H3 H0 H Y W r a t F ws m as p J/\p.length=A.length/\J.length=A.length/\(∀c∈p,isNm c)/\(∀k∈J,Nms k/\k.length<=4)) ⟨[],[],_,_,rfl,G,rfl,rfl,(fun _ h=>nomatch h),(fun _ h=>nomatch h)⟩ ?_ ?_
 ·rintro σ H ⟨p,J,v7,v8,rfl,G,hcl,V,hc,hk⟩;refine⟨trivial,?_⟩;rw[o_] at V;walk_at "n";walk_at "";exact fP G.w.cl G.w.kp G.w.hd G.f0 (G.w.at' _ q_).2 fun H1 hD h1=>k'.out J H1 Y V hk hD h1
 rintro A i B σ H N e ⟨p,J,v7,v8,rfl,G,hcl,V,hc,hk⟩ hN;refine⟨trivial,?_⟩;have hi:i<m:=O_.mp (by rw[e];simp);have hiA:=Box.mk (sr e);have hN':=Box.mk hN;have R:=Box.mk hcl;have U:=Box.mk V;clear hN e k' hR3 hcl V;refine aC fun R4 hR4=>?_;walk_at "";refine⟨by first | trivial | omega,by omega,by omega,?_⟩;try rw[rg]
 walk_at "c";refine c7 (fun (j:Nat)=>T.int (j:Int)) (List.range m) (fun A2 ys σ H'=>∃(M:List Nat) (v:Option T),σ=[v,some (.int (i:Int)),some (.ref t)]/\ys=M.map (fun (j:Nat)=>T.int (j:Int))/\M.length<=A2.length/\H=H'/\((M=[]/\i∉A2)\/∃f rest,M=f::rest/\f<=i)) ⟨[],_,rfl,rfl,j_ _,rfl,.inl ⟨rfl,by simp⟩⟩ ?_ ?_;rotate_left
 ·rintro A2 j B2 ys σ H' N2 e2 ⟨M,v,rfl,rfl,X,rfl,L⟩ hN2;refine⟨trivial,?_⟩;have hj:j<m:=O_.mp (by rw[e2];simp);have hjA:=sr e2;have hpr:=oH e2;have hA2:A2.length<8:=by omega
  have app:N2 (M.map (fun (j:Nat)=>T.int (j:Int))++[T.int (j:Int)]) [some (T.int (j:Int)),some (.int (i:Int)),some (.ref t)] H:=hN2 _ _ _ ⟨M++[j],_,rfl,by rw[y_];rfl,by rw[a_,a_];simp only[L_];omega,rfl,.inr (by
   rcases L with ⟨rfl,hni⟩ | ⟨f,rest,rfl,hf⟩
   ·
    refine⟨j,[],rfl,?_⟩
    rw[hpr,O_,<- hjA] at hni
    omega
   ·
    exact⟨f,rest++[j],rfl,hf⟩)⟩
  have skip:j≠i->N2 (M.map (fun (j:Nat)=>T.int (j:Int))) [some (T.int (j:Int)),some (.int (i:Int)),some (.ref t)] H:=fun hne=>hN2 _ _ _ ⟨M,_,rfl,rfl,by rw[a_];simp only[L_];omega,rfl,by
   rcases L with ⟨rfl,hni⟩ | h
   ·
    exact .inl ⟨rfl,fun h=>by
     rcases u_.mp h with h | h
     ·
      exact hni h
     ·
      exact hne (h_.mp h).symm⟩
   ·
    exact .inr h⟩
  have app':=Box.mk app;have skip':=Box.mk skip;have gt:=G.tq.t;obtain⟨ri,bi,gi,hri,li,gri⟩:=G.tq.at' hi;obtain⟨rj,bj,gj,hrj,lj,grj⟩:=G.tq.at' hj;obtain⟨x1,gx1⟩:=lQ (show j<bi.length by omega);obtain⟨x2,gx2⟩:=lQ (show i<bj.length by omega);have hjl':M.length<8:=by omega
  clear li lj app skip hN2 hN' L hjA hpr e2 hR4 X rg;walk_at "";by_cases hji:(j:Int)=(i:Int)
  ·rw[F_ hji,if_pos rfl];exact⟨by omega,app'.out⟩
  rw[A_ hji,if_neg m_];have sk:=skip'.out (fun h=>hji (by rw[h]));split
  ·split
   ·exact⟨by omega,app'.out⟩
   exact sk
  exact sk
 rintro ys σ H' ⟨M,v,rfl,rfl,X,rfl,L⟩;rw[o_] at X;refine⟨trivial,by rw[g_];omega,fun q hq=>?_⟩;obtain⟨f,rest,rfl,hf⟩:∃f rest,M=f::rest/\f<=i:=L.resolve_left fun h=>h.2 (O_.mpr hi);have y:=G.new (o:=.lst ((f::rest).map fun (j:Nat)=>T.int (j:Int))) hq;generalize up3 H q (.lst ((f::rest).map fun (j:Nat)=>T.int (j:Int)))=H6 at y;clear G hq L X;rw[B_,at0,jE];walk_at "n";refine aC fun R5 hR5=>?_;have il:p.length=i:=R.out.trans hiA.out.symm;have key:∀(c:Str) (H7:Hp3),isNm c->KI d H3 H0 H7 Y W r a t F ws m as (p++[c]) J->R5 { nx:=N,rt:=Fin3 Q,bk:=R3 { nx:=fun x H'=>Fin3 Q T.non H',rt:=Fin3 Q},ct:=N} [some (T.ref d),some (T.ref r),some (T.ref a),some (T.ref t),some (T.int (m:Int)),some (T.ref W),some (T.ref Y),some (T.int (i:Int)),some (T.int (f:Int))] H7:=fun c H7 hcn ki7=>by
  walk_at "n";clear y;have hcs:∀x∈p++[c],isNm x:=fun x hx=>by
   rcases u_.mp hx with h | h
   ·exact hc x h
   rw[h_.mp h];exact hcn
  have gci:atI ((p++[c]).map T.str) (i:Int)=some (.str c):=bD (by rw[<- il];simp);have il':=Box.mk il;clear il;walk_at "";refine⟨d,3,rfl,by decide,ki7.w.cl,fun n H8 p0 p1 hD=>?_⟩;have D:=ki7.drw hD;have gf:=D.w.hd;have gc:=D.w.tl.hd;have gA:=D.w.tl.tl.tl.hd;have kl:J.length<8:=by rw[U.out,<- hiA.out];omega
  clear ki7 hD;walk_at "";split
  ·refine⟨⟨trivial,trivial⟩,d,a,c,ws,rfl,nad,gA,hws,w8,hcn,D.w.cl,fun k1 H9 hk1 hk4 hD9=>?_⟩;have ki9:=D.drw hD9;have gf9:=ki9.w.hd;clear D hD9 gf gc gA;try dsimp only
   walk_at "";have em:J.map sT++[T.tup (k1.map T.str)]=(J++[k1]).map sT:=by rw[y_];rfl
   rw[em];refine⟨by omega,hN'.out _ _ ⟨p++[c],J++[k1],_,_,rfl,ki9.putf _,by rw[a_,a_,R.out];rfl,by rw[a_,a_,U.out];rfl,hcs,fun k hk'=>?_⟩⟩;rcases u_.mp hk' with h | h
   ·exact hk k h
   rw[h_.mp h];exact⟨hk1,hk4⟩
  have em:J.map sT++[T.tup []]=(J++[[]]).map sT:=by rw[y_];rfl
  rw[em];refine⟨⟨trivial,trivial⟩,by first | trivial | omega,by omega,hN'.out _ _ ⟨p++[c],J++[[]],_,_,rfl,D.putf _,by rw[a_,a_,R.out];rfl,by rw[a_,a_,U.out];rfl,hcs,fun k hk'=>?_⟩⟩;rcases u_.mp hk' with h | h
  ·exact hk k h
  rw[h_.mp h];exact⟨Nms.nil,by decide⟩
 have Z:=Box.mk key;have gc:=y.w.tl.hd;have gr:=y.w.tl.tl.hd;have cl8:p.length<8:=by omega
 clear key hR5;walk_at "";by_cases hfi:(f:Int)=(i:Int)
 ·rw[F_ hfi,if_pos rfl];refine⟨⟨trivial,trivial⟩,d,_,rfl,by omega,y.w.cl,fun n H7 p0 p1 hD=>?_⟩;have ki3:=y.drw hD;have gr3:=ki3.w.tl.tl.hd;have gc3:=ki3.w.tl.hd;clear y hD gc gr;obtain⟨z,hz,ez⟩:=wG F n p0 (by omega);have ez':atI (F.map T.str) n=some (T.str z):=by rw[pI,ez];rfl
  clear ez;have em:p.map T.str++[T.str z]=(p++[z]).map T.str:=by rw[y_];rfl
  walk_at "";have fin:=Z.out z _ (hrow z hz) (ki3.putc _);rw[hfi] at fin;exact⟨by omega,fin⟩
 rw[A_ hfi,if_neg m_];have hfl:f<p.length:=by omega
 have gz:atI (p.map T.str) (f:Int)=some (T.str p[f]):=bD (by rw[J_,d_ hfl];rfl);have hz:=hc _ (Ws hfl);generalize p[f]=z at gz hz;have em:p.map T.str++[T.str z]=(p++[z]).map T.str:=by rw[y_];rfl
 rw[gz,jE,em];exact⟨⟨trivial,trivial⟩,by omega,Z.out z _ hz (y.putc _)⟩
abbrev jL:List Str:=["_law_many","_law_edges","_law_table","_law_k","_law_i","_law_j"]
theorem sc_chained:FnScope jL ["_law_many","_law_edges"] (aA (top 41)):=bB
theorem vp {f:Addr}{fd:FuncData}(g:G3 K mg "_law_chained" (top 41) ["_law_many","_law_edges"] f fd) (B:Bl mg):Cal P w K mg base 1 "_law_chained" (top 41) ["_law_many","_law_edges"] T8:=by
 refine⟨f,fd,g,?_⟩;refine fn3 g.fn sc_chained (fun ts H Q h=>?_) (fun cdv A outer s H E ts H3 Q hr h=>?_)
 ·obtain⟨m,a,W,rfl,_⟩:=h;rfl
 have G:=Room.u31 hr;obtain⟨m,a,W,rfl,m8,Z,hes,k⟩:=h;refine⟨_,(ao (ph (i:=2) rfl sc_chained.nd (bW (n0:=(aA (top 41)).names) (N:=jL) (N':=["_law_i","_law_edges","_law_many"]) (nt:=1) (cap:=[1,0]) rfl rfl (by decide +kernel)) (aU rfl B.range_ (aa (v3 0) ak)) (fun cl I s H C0 fp=>⟨(aF (i:=0) (show List.Nodup [("_law_i":Str),("_law_edges":Str),("_law_many":Str)] by decide +kernel)),b7,(bL rfl (Gm (n00:=(aA (top 41)).names) (N:=["_law_i","_law_edges","_law_many"]) (N':=["_law_j","_law_edges","_law_i"]) (nt:=1) (cap:=[1,0]) rfl rfl rfl (by decide +kernel)) (aU rfl B.range_ (aa (v3 2) ak)) (fun cl I s H C0 fp=>⟨(aF (i:=0) (show List.Nodup [("_law_j":Str),("_law_edges":Str),("_law_i":Str)] by decide +kernel)),b7,(gm (Am G) (cA (aa (v3 2) (aa (v3 0) ak))) (v3 1) rfl)⟩))⟩))
   (ao (bA K_ rfl (aU rfl B.range_ (aa (v3 0) ak)) (aF (i:=3) sc_chained.nd) (au (bA K_ rfl (aU rfl B.range_ (aa (v3 0) ak)) (aF (i:=4) sc_chained.nd) (au (bA K_ rfl (aU rfl B.range_ (aa (v3 0) ak)) (aF (i:=5) sc_chained.nd) (au (Ad (Jo (aJ ix3 (aJ ix3 (v3 2) (v3 4)) (v3 5)) (o7 (z9 (aJ ix3 (aJ ix3 (v3 2) (v3 4)) (v3 3)) (o7 (aJ ix3 (aJ ix3 (v3 2) (v3 3)) (v3 5)))))) (Mt (aJ ix3 (v3 2) (v3 4)) (v3 5) yG))))))))
   (au (aM (v3 2))))),?_⟩
 rw[show aR jL [T.int (m:Int),T.ref a]=[some (T.int (m:Int)),some (T.ref a),none,none,none,none] from rfl];have hsz:sizeLine=16777216:=rfl;have k':=Box.mk k;clear k;have x:di 0 m=(List.range m).map fun (i:Nat)=>T.int (i:Int):=gQ m;refine aC fun R0 hR0=>?_;walk_at "";refine⟨by first | trivial | omega,by omega,by omega,?_⟩;try rw[x]
 walk_at "c";refine c7 (fun (i:Nat)=>T.int (i:Int)) (List.range m) (fun A ys d H=>∃(l:List Addr) (v:Option T),d=[v,some (.ref a),some (.int (m:Int))]/\ys=l.map T.ref/\l.length=A.length/\Rws H3 H m l) ⟨[],_,rfl,rfl,rfl,Sub3.refl,(fun _ h=>nomatch h),(fun _ h=>nomatch h)⟩ ?_ ?_;rotate_left
 ·rintro A i B ys d H N e ⟨l,v,rfl,rfl,V,u⟩ hN;refine⟨trivial,?_⟩;have hA:A.length<8:=by have:=U_ List.length e;simp only[a_,i_,o_] at this;omega
  have J:=Box.mk hN;have ha':=u.sb _ _ Z;clear hN e k' hR0 Z;walk_at "";refine⟨by first | trivial | omega,by omega,by omega,?_⟩;try rw[x]
  walk_at "c";refine cI (fun (j:Nat)=>T.int (j:Int)) (fun j=>.bl (d7 false (.tup [.int (i:Int),.int (j:Int)]) W)) (List.range m) [some (.ref a),some (.int (i:Int))] trivial (by rw[o_];omega) (fun j hj Q' hq=>?_) (fun q hq=>?_)
  ·clear J x;walk_at "";exact⟨by decide,rfl,trivial,trivial⟩
  rw[show (List.range m).map (fun (j:Nat)=>T.bl (d7 false (.tup [.int (i:Int),.int (j:Int)]) W))=((List.range m).map fun (j:Nat)=>d7 false (.tup [.int (i:Int),.int (j:Int)]) W).map T.bl by rw[WQ];rfl];refine⟨by first | omega | (rw[g_,V];omega),J.out _ _ _ ⟨l++[q],_,rfl,by rw[y_];rfl,by rw[a_,a_,V];rfl,u.grow (by rw[g_,o_]) hq⟩⟩
 rintro ys d H ⟨l,v,rfl,rfl,V,u⟩;rw[o_] at V;refine⟨trivial,by rw[g_];omega,fun p z=>?_⟩;have c:Tb H3 (up3 H p (.lst (l.map T.ref))) p m l:=by
  refine⟨u.sb.trans (Sub3.new z),V,aB,fun b hb=>?_,fun hin=>?_,du u.sb z,u.fa⟩
  ·obtain⟨bs,h1,X⟩:=u.r b hb;exact⟨bs,h1,by rw[aD (bh X z)];exact X⟩
  obtain⟨bs,_,X⟩:=u.r p hin;rw[X] at z;cases z
 generalize up3 H p (.lst (l.map T.ref))=H4 at c;clear u z;walk_at "n";refine aC fun R1 hR1=>?_;walk_at "";refine⟨by first | trivial | omega,by omega,by omega,?_⟩;try rw[x]
 refine bf (fun (i:Nat)=>T.int (i:Int)) (List.range m) (fun _ d H=>∃(v3 y n:Option T),d=[some (.int (m:Int)),some (.ref a),some (.ref p),v3,y,n]/\Tb H3 H p m l) ⟨_,_,_,rfl,c⟩ ?_ ?_
 ·rintro d H ⟨v3,y,n,rfl,c⟩;refine⟨trivial,?_⟩;walk_at "n";walk_at "";exact Fin3.of Sub3.refl (k'.out p l H c)
 rintro A1 L B1 d H N1 e1 ⟨v3,y,n,rfl,c⟩ C;refine⟨trivial,?_⟩;have hk:L<m:=O_.mp (by rw[e1];simp);have M:=Box.mk C;clear C e1 hR1 k' Z;walk_at "";refine⟨by first | trivial | omega,by omega,by omega,?_⟩;try rw[x]
 refine bf (fun (i:Nat)=>T.int (i:Int)) (List.range m) (fun _ d H=>∃(y n:Option T),d=[some (.int (m:Int)),some (.ref a),some (.ref p),some (.int (L:Int)),y,n]/\Tb H3 H p m l) ⟨_,_,rfl,c⟩ ?_ ?_
 ·rintro d H ⟨y,n,rfl,c⟩;exact⟨trivial,M.out _ _ ⟨_,_,_,rfl,c⟩⟩
 rintro A2 ii B2 d H N2 e2 ⟨y,n,rfl,c⟩ R;refine⟨trivial,?_⟩;have hii:ii<m:=O_.mp (by rw[e2];simp);have U:=Box.mk R;clear R e2 M;walk_at "";refine⟨by first | trivial | omega,by omega,by omega,?_⟩;try rw[x]
 refine bf (fun (i:Nat)=>T.int (i:Int)) (List.range m) (fun _ d H=>∃(n:Option T),d=[some (.int (m:Int)),some (.ref a),some (.ref p),some (.int (L:Int)),some (.int (ii:Int)),n]/\Tb H3 H p m l) ⟨_,rfl,c⟩ ?_ ?_
 ·rintro d H ⟨n,rfl,c⟩;exact⟨trivial,U.out _ _ ⟨_,_,rfl,c⟩⟩
 rintro A3 O B3 d H N3 e3 ⟨n,rfl,c⟩ S;refine⟨trivial,?_⟩;have hjj:O<m:=O_.mp (by rw[e3];simp);have hM3:=Box.mk S;clear S e3 U x;have gt:=c.t;obtain⟨ri,Y,gi,hri,li,gri⟩:=c.at' hii;obtain⟨rk,bk,gk,hrk,lk,grk⟩:=c.at' hk;obtain⟨x1,gx1⟩:=lQ (show O<Y.length by omega);obtain⟨x2,gx2⟩:=lQ (show L<Y.length by omega);obtain⟨x3,gx3⟩:=lQ (show O<bk.length by omega);have D:=Box.mk li;clear li lk;have F:∀b:Bool,oq (ixN Y.length (O:Int)) fun j=>N3 [some (T.int (m:Int)),some (T.ref a),some (T.ref p),some (T.int (L:Int)),some (T.int (ii:Int)),some (T.int (O:Int))] (up3 H ri (O3.lst ((List.map T.bl Y).set j (T.bl b)))):=fun b=>by rw[wF (by have:=D.out;omega),jE,<- List.map_set];exact hM3.out _ _ ⟨_,rfl,c.put hri (by rw[List.length_set];exact D.out)⟩
 have o:=Box.mk F;clear F;walk_at "";split
 ·exact o.out true
 split
 ·exact o.out x3
 exact o.out false
abbrev qp:List Str:=["_law_deck","_law_names_here","_law_orders","_law_lots","_law_many","_law_pairs_here","_law_edges","_law_i","_law_j","_law_table"]
theorem sc_pairs:FnScope qp ["_law_deck","_law_names_here","_law_orders","_law_lots"] (aA (top 42)):=bB
theorem Eg {f:Addr}{fd:FuncData}(g:G3 K mg "_law_pairs" (top 42) ["_law_deck","_law_names_here","_law_orders","_law_lots"] f fd) (B:Bl mg) (F_turn:Cal P w K mg base 2 "_law_turn" (top 39) ["_law_deck","_law_things"] Ie) (R:Cal P w K mg base 1 "_law_draw" (top 35) ["_law_deck","_law_most"] mU) (F:Cal P w K mg base 1 "_law_chained" (top 41) ["_law_many","_law_edges"] T8):Cal P w K mg base 3 "_law_pairs" (top 42) ["_law_deck","_law_names_here","_law_orders","_law_lots"] T9:=by
 refine⟨f,fd,g,?_⟩;refine fn3 g.fn sc_pairs (fun ts H Q h=>?_) (fun cdv A outer s H E ts H3 Q hr h=>?_)
 ·obtain⟨d,a,o,ws,u,l,rfl,_⟩:=h;rfl
 have M:=Room.u30 hr;obtain⟨d,a,o,ws,u,l,rfl,l1,l100,nad,nod,ha,hws,w8,ho,hes,e28,hC,k⟩:=h;refine⟨_,(ao (aG (i:=4) sc_pairs.nd (aV cj rfl B.len_ cu (aa (v3 1) ak)))
   (ao (aG (i:=5) sc_pairs.nd (bI ak))
   (ao (aG (i:=6) sc_pairs.nd (bG pG rfl B.list_ jf (aa (v3 2) ak)))
   (ao (bA K_ rfl (aU rfl B.range_ (aa (v3 4) ak)) (aF (i:=7) sc_pairs.nd) (au (bA K_ rfl (aU rfl B.range_ (aa (v3 4) ak)) (aF (i:=8) sc_pairs.nd) (au (bV (PW3.pt (cG (aW (lA M) (v3 7) (v3 8)) (cG (aW (dj M) (aK R hr rfl (aa (v3 0) (aa (aH gB aq (v3 3)) ak))) aq) (cJ (aW nZ (aV cj rfl B.len_ cu (aa (v3 5) ak)) aq))))) (ao (bY (dm Q_ S_ T_ bC (v3 5) (aa (cA (aa gh (aa (v3 7) (aa (v3 8) ak)))) ak)))
      (au (aG (i:=6) sc_pairs.nd (aH aZ (v3 6) (bI (aa (cA (aa (v3 7) (aa (v3 8) ak))) (aa (cA (aa (v3 8) (aa (v3 7) ak))) ak))))))) bu)))))
   (ao (aG (i:=9) sc_pairs.nd (aK F hr rfl (aa (v3 4) (aa (v3 6) ak))))
   (ao (bA K_ rfl (aU rfl B.range_ (aa (v3 4) ak)) (aF (i:=7) sc_pairs.nd) (au (bA K_ rfl (aU rfl B.range_ (aa (v3 4) ak)) (aF (i:=8) sc_pairs.nd) (au (bV (PW3.pt (cG (aW (lA M) (v3 7) (v3 8)) (cG (aW (dj M) (aK R hr rfl (aa (v3 0) (aa (v3 3) ak))) aq) (cG (iJ (PW3.pt (cG (cP (aJ ix3 (aJ ix3 (v3 9) (v3 7)) (v3 8))) (cJ (cP (aJ ix3 (aJ ix3 (v3 9) (v3 8)) (v3 7))))))) (cJ (aW nZ (aV cj rfl B.len_ cu (aa (v3 5) ak)) aq)))))) (au (bY (dm Q_ S_ T_ bC (v3 5) (aa (cA (aa gh (aa (v3 7) (aa (v3 8) ak)))) ak)))) bu)))))
   (ao (aG (i:=5) sc_pairs.nd (aK F_turn hr rfl (aa (v3 0) (aa (v3 5) ak))))
   (au (aM (cA (aa (bG cT rfl B.tuple_ cH (aa (bL rfl (bW (n0:=(aA (top 42)).names) (N:=qp) (N':=["_law_word","_law_i","_law_j","_law_names_here"]) (nt:=3) (cap:=[1]) rfl rfl (by decide +kernel)) (cL (v3 5)) (fun cl pins s H C0 fp=>⟨(dN (n:=3) rfl (aO (aF (i:=0) (show List.Nodup [("_law_word":Str),("_law_i":Str),("_law_j":Str),("_law_names_here":Str)] by decide +kernel)) (aO (aF (i:=1) (show List.Nodup [("_law_word":Str),("_law_i":Str),("_law_j":Str),("_law_names_here":Str)] by decide +kernel)) (aO (aF (i:=2) (show List.Nodup [("_law_word":Str),("_law_i":Str),("_law_j":Str),("_law_names_here":Str)] by decide +kernel)) cW)))),b7,(cA (aa (v3 0) (aa (aJ ix3 (v3 3) (v3 1)) (aa (aJ ix3 (v3 3) (v3 2)) ak))))⟩)) ak)) (aa (v3 9) ak)))))))))))),?_⟩
 rw[show aR qp [T.ref d,T.ref a,T.ref o,T.int l]=[some (T.ref d),some (T.ref a),some (T.ref o),some (T.int l),none,none,none,none,none,none] from rfl];have hsz:sizeLine=16777216:=rfl;have k':=Box.mk k;clear k;have w0:Wt d H3 H3 []:=⟨hC,Kep.refl,(fun _ h=>nomatch h)⟩;have w0:Wt d H3 H3 [(a,.lst (ws.map T.str))]:=⟨hC,Kep.refl,fun q J=>by rw[h_.mp J];exact⟨ha,nad⟩⟩;clear hC;have rg:di 0 ws.length=(List.range ws.length).map fun (i:Nat)=>T.int (i:Int):=gQ _;refine aC fun R0 hR0=>?_;walk_at "";walk_at "n";refine aC fun R1 hR1=>?_;walk_at "";refine⟨by omega,fun z Z=>?_⟩;have pp0:=w0.fresh Z;have npa:a≠z:=bh ha Z;have npo:o≠z:=bh ho Z;have w1:=w0.new (o:=.lst []) Z;have ho1:up3 H3 z (.lst []) o=some (.lst u):=by rw[aD npo];exact ho
 generalize up3 H3 z (.lst [])=H4 at w1 ho1;clear w0 Z ha;walk_at "n";refine aC fun R2 hR2=>?_;walk_at "";intro r W;have w2:=w1.new (o:=.lst u) W;have pe0:=w1.fresh W;have npe:z≠r:=bh w1.hd W;have nae:a≠r:=bh w1.tl.hd W;generalize up3 H4 r (.lst u)=H5 at w2;clear w1 W ho1;walk_at "n";have pi0:PI d H3 H5 z r a ws [] u:=⟨⟨w2.cl,w2.kp,fun q J=>w2.at' q (by simp only[n_,W8,Zd] at J ⊢;rcases J with h | h | h;exact .inr (.inl h);exact .inl h;exact .inr (.inr h))⟩,Ne.symm npe,npa,by decide,hes,by simp;omega,(fun _ h=>nomatch h)⟩;clear w2 pe0 npe nae;refine aC fun R3 hR3=>?_;walk_at "";refine⟨trivial,by omega,by omega,?_⟩;try rw[rg]
 refine bf (fun (i:Nat)=>T.int (i:Int)) (List.range ws.length) (fun A D H=>∃(ps:List (Bool × Nat × Nat)) (u:List T) (r:Addr) (v7 G:Option T),D=[some (.ref d),some (.ref a),some (.ref o),some (.int l),some (.int (ws.length:Int)),some (.ref z),some (.ref r),v7,G,none]/\PI d H3 H z r a ws ps u/\ps.Sublist (enm true ws.length A)) ⟨[],u,r,_,_,rfl,pi0,Zv _⟩ ?_ ?_;rotate_left
 ·rintro A i B D H N e ⟨ps,u,r,v7,G,rfl,c,b⟩ hN;refine⟨trivial,?_⟩;have hi:i<ws.length:=O_.mp (by rw[e];simp);have hM:=Box.mk hN;clear hN e pi0 k' hR3;walk_at "";refine⟨trivial,by omega,by omega,?_⟩;try rw[rg]
  refine bf (fun (i:Nat)=>T.int (i:Int)) (List.range ws.length) (fun A2 D H=>∃(ps:List (Bool × Nat × Nat)) (u:List T) (r:Addr) (G:Option T),D=[some (.ref d),some (.ref a),some (.ref o),some (.int l),some (.int (ws.length:Int)),some (.ref z),some (.ref r),some (.int (i:Int)),G,none]/\PI d H3 H z r a ws ps u/\ps.Sublist (enm true ws.length A++A2.map fun j=>(true,i,j))) ⟨ps,u,r,_,rfl,c,by rw[WW,N_];exact b⟩ ?_ ?_
  ·rintro D H ⟨ps,u,r,G,rfl,c,b⟩;exact⟨trivial,hM.out _ _ ⟨ps,u,r,_,_,rfl,c,by rw[rZ];exact b⟩⟩
  rintro A2 j B2 D H N2 e2 ⟨ps,u,r,G,rfl,c,b⟩ Y;refine⟨trivial,?_⟩;have hj:j<ws.length:=O_.mp (by rw[e2];simp);have C:=Box.mk Y;have X:=u9 (y:=(true,i,j)) b;have L:=vd (y:=(true,i,j)) b;rw[t_,show [(true,i,j)]=[j].map fun j=>(true,i,j) from rfl,<- y_] at X L;clear Y e2 hM rg b;walk_at "";by_cases I:(i:Int)=(j:Int)
  ·rw[F_ I];simp only[WX,H_,Wl];exact C.out _ _ ⟨ps,u,r,_,rfl,c,L⟩
  rw[A_ I];simp only[Xm,if_true];refine⟨.inl ⟨by decide,by decide⟩,d,_,rfl,by omega,c.w.cl,fun n H6 n0 n1 hD=>?_⟩;have v:=c.drw hD;clear c hD;have g1:=v.w.hd;have g2:=v.w.tl.hd;walk_at "";have O:=Box.mk (C.out [some (.ref d),some (.ref a),some (.ref o),some (.int l),some (.int (ws.length:Int)),some (.ref z),some (.ref r),some (.int (i:Int)),some (.int (j:Int)),none] H6 ⟨ps,u,r,_,rfl,v,L⟩);split
  ·split
   ·rename_i h12;have h12':ps.length<12:=by have:=Wz h12;omega
    have el:=v.el;have e1:ps.map pT3++[T.tup [T.str (Str.ofString "with"),T.int (i:Int),T.int (j:Int)]]=(ps++[(true,i,j)]).map pT3:=by rw[y_];rfl
    rw[e1];refine⟨⟨trivial,trivial⟩,by decide,by omega,by decide,by decide,by decide,fun q0 hq0=>?_⟩;have U:up3 H6 z (.lst ((ps++[(true,i,j)]).map pT3)) r=some (.lst u):=by rw[aD v.ne];exact g2
    rw[aD (bh U hq0),U,jF];refine⟨by rw[i_,i_,Xn];omega,fun q J=>?_⟩;exact C.out _ _ ⟨ps++[(true,i,j)],u++[T.tup [T.int (i:Int),T.int (j:Int)],T.tup [T.int (j:Int),T.int (i:Int)]],q,_,rfl,v.add pp0 h12' ⟨fun h=>I (by have:i=j:=h;rw[this]),hi,hj⟩ hq0 J rfl rfl,X⟩
   first | exact O.out | trivial
  first | exact O.out | trivial
 rintro D H ⟨ps,u,r,v7,G,rfl,c,b⟩;refine⟨trivial,?_⟩;clear pi0;walk_at "n";refine aC fun R4 hR4=>?_;have U:=c.w.tl.hd;walk_at "";refine⟨ws.length,r,u,rfl,w8,U,c.ea,fun pt as H7 tb=>?_⟩;have S:Tq d H3 H7 pt ws.length as:=tb.tq c.w.cl c.w.kp;have npt:pt≠z:=Ne.symm (bh c.w.hd tb.f0);have nas:∀x∈as,x≠z:=fun x hx=>Ne.symm (bh c.w.hd (tb.fa x hx));have pi1:=c.sub tb.sb;clear c tb U;walk_at "n";refine aC fun R5 hR5=>?_;walk_at "";refine⟨trivial,by omega,by omega,?_⟩;try rw[rg]
 refine bf (fun (i:Nat)=>T.int (i:Int)) (List.range ws.length) (fun A D H=>∃(ps:List (Bool × Nat × Nat)) (v7 G:Option T),D=[some (.ref d),some (.ref a),some (.ref o),some (.int l),some (.int (ws.length:Int)),some (.ref z),some (.ref r),v7,G,some (.ref pt)]/\PI d H3 H z r a ws ps u/\Tq d H3 H pt ws.length as/\ps.Sublist (enm true ws.length (List.range ws.length)++enm false ws.length A)) ⟨ps,_,_,rfl,pi1,S,by rw[show enm false ws.length []=[] from rfl,N_];exact b⟩ ?_ ?_;rotate_left
 ·rintro A i B D H N e ⟨ps,v7,G,rfl,c,S,b⟩ hN;refine⟨trivial,?_⟩;have hi:i<ws.length:=O_.mp (by rw[e];simp);have hM:=Box.mk hN;clear hN e pi1 k' hR5;walk_at "";refine⟨trivial,by omega,by omega,?_⟩;try rw[rg]
  refine bf (fun (i:Nat)=>T.int (i:Int)) (List.range ws.length) (fun A2 D H=>∃(ps:List (Bool × Nat × Nat)) (G:Option T),D=[some (.ref d),some (.ref a),some (.ref o),some (.int l),some (.int (ws.length:Int)),some (.ref z),some (.ref r),some (.int (i:Int)),G,some (.ref pt)]/\PI d H3 H z r a ws ps u/\Tq d H3 H pt ws.length as/\ps.Sublist (enm true ws.length (List.range ws.length)++enm false ws.length A++A2.map fun j=>(false,i,j))) ⟨ps,_,rfl,c,S,by rw[WW,N_];exact b⟩ ?_ ?_
  ·rintro D H ⟨ps,G,rfl,c,S,b⟩;exact⟨trivial,hM.out _ _ ⟨ps,_,_,rfl,c,S,by rw[rZ,<- t_];exact b⟩⟩
  rintro A2 j B2 D H N2 e2 ⟨ps,G,rfl,c,S,b⟩ Y;refine⟨trivial,?_⟩;have hj:j<ws.length:=O_.mp (by rw[e2];simp);have C:=Box.mk Y;have X:=u9 (y:=(false,i,j)) b;have L:=vd (y:=(false,i,j)) b;rw[t_ (_++_),show [(false,i,j)]=[j].map fun j=>(false,i,j) from rfl,<- y_] at X L;clear Y e2 hM rg b;walk_at "";by_cases I:(i:Int)=(j:Int)
  ·rw[F_ I];simp only[WX,H_,Wl];exact C.out _ _ ⟨ps,_,rfl,c,S,L⟩
  rw[A_ I];simp only[Xm,if_true];refine⟨d,_,rfl,by omega,c.w.cl,fun n H6 n0 n1 hD=>?_⟩;have v:=c.drw hD;have V:=S.drw hD;clear c hD S;have g1:=v.w.hd;have gt:=V.t;obtain⟨ri,bi,gi,hri,li,gri⟩:=V.at' hi;obtain⟨rj,bj,gj,hrj,lj,grj⟩:=V.at' hj;obtain⟨x1,gx1⟩:=lQ (show j<bi.length by omega);obtain⟨x2,gx2⟩:=lQ (show i<bj.length by omega);clear li lj;have O:=Box.mk (C.out [some (.ref d),some (.ref a),some (.ref o),some (.int l),some (.int (ws.length:Int)),some (.ref z),some (.ref r),some (.int (i:Int)),some (.int (j:Int)),some (.ref pt)] H6 ⟨ps,_,rfl,v,V,L⟩);have e1:ps.map pT3++[T.tup [T.str (Str.ofString "apart"),T.int (i:Int),T.int (j:Int)]]=(ps++[(false,i,j)]).map pT3:=by rw[y_];rfl
  have go:decide ((ps.length:Int)<12)=true->N2 [some (.ref d),some (.ref a),some (.ref o),some (.int l),some (.int (ws.length:Int)),some (.ref z),some (.ref r),some (.int (i:Int)),some (.int (j:Int)),some (.ref pt)] (up3 H6 z (O3.lst (List.map pT3 ps++[T.tup [T.str (Str.ofString "apart"),T.int (i:Int),T.int (j:Int)]]))):=fun h12=>by rw[e1];exact C.out _ _ ⟨ps++[(false,i,j)],_,rfl,v.add1 pp0 (by have:=Wz h12;omega) ⟨fun h=>I (by have:i=j:=h;rw[this]),hi,hj⟩,V.set npt nas,X⟩
  have go':=Box.mk go;have l12:=v.l12;clear go e1;walk_at ""
  repeat' split
  all_goals first | exact O.out | exact⟨⟨trivial,trivial⟩,by decide,by omega,go'.out (by assumption)⟩ | trivial
 rintro D H ⟨ps,v7,G,rfl,c,S,b⟩;refine⟨trivial,?_⟩;clear pi1;walk_at "n";refine aC fun R6 hR6=>?_;have g1:=c.w.hd;have l12:=c.l12;walk_at "";refine⟨d,z,ps.map pT3,rfl,(c.w.at' _ q_).2,g1,Ua ps,by rw[g_];omega,c.w.cl,fun ys H8 q hperm hD J=>?_⟩;obtain⟨m,hp',rfl⟩:=jn hperm ps rfl;have nd':m.Nodup:=(hp'.nodup_iff).mpr ((Ik ⟨ws.length,by omega⟩).sublist b);have ok':∀x∈m,x.2.1≠x.2.2/\x.2.1<ws.length/\x.2.2<ws.length:=fun x hx=>c.ok x (hp'.mem_iff.mp hx);have l12':m.length<=12:=by rw[hp'.length_eq];exact l12
 have w9:=(c.w.drw hD).tl.tl.new (o:=.lst (m.map pT3)) J;have tq9:=(S.drw hD).new (o:=.lst (m.map pT3)) J;generalize up3 H8 q (.lst (m.map pT3))=H9 at w9 tq9;clear hD J c S hperm hp' b g1 l12 rg;walk_at "n";have gq:=w9.hd;have gA:=w9.tl.hd;try dsimp only
 walk_at "";walk_at "c";refine BK (fun x:Bool × Nat × Nat=>.str (bw x.1)) (fun x=>.int (x.2.1:Int)) (fun x=>.int (x.2.2:Int)) (fun x=>prT (nmP ws x)) (fun _=>true) m [some (.ref a)] (.inl gq) (by omega) (fun x hx Q' J=>J) (fun x hx _ Q' J=>?_) (fun p hp=>?_)
 ·have o:=ok' x hx;have a1:=getD_at o.2.1;have a2:=getD_at o.2.2;have hq':=Box.mk J;clear k' J;walk_at "";exact⟨by decide,hq'.out⟩
 rw[show m.filter (fun _=>true)=m from List.filter_eq_self.mpr fun _ _=>rfl] at *;rw[show m.map (fun x=>prT (nmP ws x))=(m.map (nmP ws)).map prT by rw[WQ];rfl];have w10:=w9.new (o:=.lst ((m.map (nmP ws)).map prT)) hp;have tq10:=tq9.new (o:=.lst ((m.map (nmP ws)).map prT)) hp;generalize up3 H9 p (.lst ((m.map (nmP ws)).map prT))=H10 at w10 tq10;walk_at "";exact⟨by decide,Fin3.of Sub3.refl (k'.out (m.map (nmP ws)) pt as H10 (by rw[g_];exact l12') (Px hws.nd nd' ok') (fun x hx=>by obtain⟨y,hy,rfl⟩:=x_.mp hx;exact Py hws.nd (ok' y hy)) w10.cl w10.kp tq10)⟩
abbrev jV:List Str:=["_law_size","_law_number","_law_names_here","_law_letters","_law_found","_law_turn_here","_law_left","_law_name","_law_k"]
theorem sc_free_name:FnScope jV ["_law_size","_law_number","_law_names_here"] (aA (top 37)):=bB
theorem qt {f:Addr}{fd:FuncData}(g:G3 K mg "_law_free_name" (top 37) ["_law_size","_law_number","_law_names_here"] f fd) (B:Bl mg):Cal P w K mg base 1 "_law_free_name" (top 37) ["_law_size","_law_number","_law_names_here"] T6:=by
 refine⟨f,fd,g,?_⟩;refine fn3 g.fn sc_free_name (fun ts H Q h=>?_) (fun cdv A U s H E ts H3 Q hr h=>?_)
 ·obtain⟨d,b,a,ws,rfl,_⟩:=h;rfl
 have I:=Room.u30 hr;have J:=Room.u31 hr;obtain⟨d,b,a,ws,rfl,s1,s8,ha,hl,k⟩:=h;refine⟨_,(ao (aG (i:=3) sc_free_name.nd gh)
   (ao (aG (i:=4) sc_free_name.nd gh)
   (ao (bA K_ rfl (aU rfl B.range_ (aa (aH aZ (aV cj rfl B.len_ cu (aa (v3 2) ak)) aq) ak)) (aF (i:=5) sc_free_name.nd) (ao (aG (i:=6) sc_free_name.nd (aH aZ (v3 1) (v3 5)))
    (ao (aG (i:=7) sc_free_name.nd gh)
    (ao (bA K_ rfl (aU rfl B.range_ (aa (v3 0) ak)) (aF (i:=8) sc_free_name.nd) (ao (aG (i:=7) sc_free_name.nd (aH aZ (v3 7) (aJ ix3 (v3 3) (aH dC (v3 6) aq))))
     (au (aG (i:=6) sc_free_name.nd (aH dU (v3 6) aq)))))
    (au (bV (PW3.pt (cG (aW (dj I) (v3 4) gh) (cJ (aW (An J) (v3 7) (v3 2) rfl)))) (au (aG (i:=4) sc_free_name.nd (v3 7))) bu))))))
   (au (aM (v3 4)))))),?_⟩
 rw[show aR jV [T.int (d:Int),T.int b,T.ref a]=[some (T.int (d:Int)),some (T.int b),some (T.ref a),none,none,none,none,none,none] from rfl];have hsz:sizeLine=16777216:=rfl;have al:(mkS jZ).length<=sizeLine:=by rw[dG];decide
 have k':=Box.mk k;clear k;have e0:("":Str)=mkS []:=by decide +kernel
 refine aC fun R0 hR0=>?_;walk_at "";simp only[Dh];walk_at "n";refine aC fun R1 hR1=>?_;walk_at "";walk_at "n";refine aC fun R2 W=>?_;walk_at "";refine⟨by first | trivial | omega,by omega,by omega,?_⟩;rw[show di 0 ((ws.length:Int)+1).toNat=(List.range (ws.length+1)).map (fun (i:Nat)=>T.int (i:Int)) by rw[show ((ws.length:Int)+1).toNat=ws.length+1 by omega];exact gQ _];refine bf (fun (i:Nat)=>T.int (i:Int)) (List.range (ws.length+1)) (fun A z H=>∃(m:Str) (Y v6 V F:Option T),z=[some (.int (d:Int)),some (.int b),some (.ref a),some (.str (mkS jZ)),some (.str m),Y,v6,V,F]/\H3=H/\((m=""/\∀i∈A,mkS (dg d (b+i))∈ws)\/(isNm m/\m∉ws))) ⟨"",_,_,_,_,rfl,rfl,.inl ⟨rfl,(fun _ h=>nomatch h)⟩⟩ ?_ ?_
 ·rintro z H ⟨m,Y,v6,V,F,rfl,rfl,u⟩;refine⟨trivial,?_⟩;walk_at "n";walk_at "";rcases u with ⟨_,t⟩ | ⟨h1,h2⟩
  ·exfalso;obtain⟨n,rfl⟩:∃n,d=n+1:=⟨d - 1,by omega⟩;exact pig ws (fun i=>mkS (dg (n+1) (b+i))) (fun i j hi G h=>Pr (by omega) (by omega) h) fun i hi=>t i (O_.mpr (by omega))
  exact Fin3.of Sub3.refl (k'.out m h1 h2)
 rintro A i B z H N e ⟨m,Y,v6,V,F,rfl,rfl,u⟩ hN;refine⟨trivial,?_⟩;have o:=Box.mk hN;have p:=Box.mk u;clear hN u e k' W;refine aC fun R3 hR3=>?_;walk_at "";walk_at "n";refine aC fun R4 hR4=>?_;walk_at "";walk_at "n";refine aC fun R5 S=>?_;walk_at "";refine⟨by first | trivial | omega,by omega,by omega,?_⟩;have D:(di 0 d).length=d:=by unfold di;rw[g_,o_]
 generalize di 0 d=ts0 at D;try rw[e0]
 refine j7 (fun r z H=>∃(l:List Nat) (y:Int) (F:Option T),z=[some (.int (d:Int)),some (.int b),some (.ref a),some (.str (mkS jZ)),some (.str m),some (.int (i:Int)),some (.int y),some (.str (mkS l)),F]/\l++dg r.length y=dg d (b+i)/\l.length+r.length=d/\H3=H) ⟨[],b+i,_,rfl,by rw[D];rfl,by rw[D];exact Nat.zero_add _,rfl⟩ ?_ ?_
 ·rintro z H ⟨l,y,F,rfl,c,v,rfl⟩;refine⟨trivial,?_⟩;rw[Xn,dg,N_] at c;subst c;walk_at "n";walk_at "";have O:isNm (mkS (dg d (b+(i:Int)))):=Kf (by rw[u6];omega) (by rw[u6];omega) (Ko _ _);by_cases q:m=mkS []
  ·rw[F_ q,if_pos rfl];refine⟨rfl,jh ws,?_⟩;split
   ·rename_i X;exact o.out _ _ ⟨_,_,_,_,_,rfl,rfl,.inr ⟨O,(TQ j9 (x:=mkS (dg d (b+(i:Int))))).mp X⟩⟩
   rename_i X;have Z:mkS (dg d (b+(i:Int)))∈ws:=Classical.byContradiction fun h=>X ((TQ j9).mpr h);rcases p.out with ⟨_,t⟩ | h
   ·exact o.out _ _ ⟨m,_,_,_,_,rfl,rfl,.inl ⟨q.trans e0.symm,fun j G=>by
     rcases u_.mp G with G | G
     ·
      exact t j G
     ·
      rw[h_.mp G];exact Z⟩⟩
   exact o.out _ _ ⟨m,_,_,_,_,rfl,rfl,.inr h⟩
  rw[A_ q,if_neg m_];rcases p.out with ⟨h,_⟩ | h
  ·exact absurd (h.trans e0) q
  exact o.out _ _ ⟨m,_,_,_,_,rfl,rfl,.inr h⟩
 rintro x r z H N2 ⟨l,y,F,rfl,c,v,rfl⟩ L;refine⟨trivial,?_⟩;rw[i_] at c v;rw[dg] at c;have hM:=Box.mk L;have C:=Box.mk c;have hpl':l.length<8:=by omega
 have M:=Box.mk v;have R:=Di (y%26) (W7 _ (by decide)) (W5 _ (by decide));clear L o p S c v;walk_at "";simp only[dW,R,jE];walk_at "";rw[show (⟨#[97+(y%26).toNat]⟩:Str)=mkS [97+(y%26).toNat] from rfl];refine⟨by decide,al,by rw[dG,dG];simp only[L_];omega,⟨by decide,by decide +kernel⟩,?_⟩;rw[p8];exact hM.out _ _ ⟨_,_,_,rfl,by rw[t_];exact C.out,by rw[a_,L_];have:=M.out;omega,rfl⟩
abbrev qu:List Str:=["_law_deck","_law_many","_law_letters","_law_found","_law_k","_law_base","_law_at","_law_spot"]
theorem sc_names:FnScope qu ["_law_deck","_law_many"] (aA (top 38)):=bB
theorem Eh {f:Addr}{fd:FuncData}(g:G3 K mg "_law_names" (top 38) ["_law_deck","_law_many"] f fd) (B:Bl mg) (a:Cal P w K mg base 1 "_law_draw" (top 35) ["_law_deck","_law_most"] mU) (c:Cal P w K mg base 1 "_law_free_name" (top 37) ["_law_size","_law_number","_law_names_here"] T6):Cal P w K mg base 2 "_law_names" (top 38) ["_law_deck","_law_many"] T7:=by
 refine⟨f,fd,g,?_⟩;refine fn3 g.fn sc_names (fun ts H Q h=>?_) (fun cdv A outer s H E ts H3 Q r h=>?_)
 ·obtain⟨d,m,rfl,_⟩:=h;rfl
 obtain⟨d,m,rfl,m1,m8,hC,k⟩:=h;refine⟨_,(ao (aG (i:=2) sc_names.nd gh)
   (ao (aG (i:=3) sc_names.nd (bI ak))
   (ao (bV (aW ww (aK a r rfl (aa (v3 0) (aa aq ak))) aq) (ao (bA K_ rfl (aU rfl B.range_ (aa (v3 1) ak)) (aF (i:=4) sc_names.nd) (au (bY (dm Q_ S_ T_ bC (v3 3) (aa (aK c r rfl (aa (aH aZ aq (aK a r rfl (aa (v3 0) (aa aq ak)))) (aa (aK a r rfl (aa (v3 0) (aa (aH gJ aq aq) ak))) (aa (v3 3) ak)))) ak)))))
    (au (aM (v3 3)))) bu)
   (ao (aG (i:=5) sc_names.nd (aK c r rfl (aa (aH aZ aq (aK a r rfl (aa (v3 0) (aa aq ak)))) (aa (aK a r rfl (aa (v3 0) (aa (aH gJ aq aq) ak))) (aa (bI ak) ak)))))
   (ao (aG (i:=6) sc_names.nd (aK a r rfl (aa (v3 0) (aa (aV cj rfl B.len_ cu (aa (v3 5) ak)) ak))))
   (ao (aG (i:=7) sc_names.nd (dm PySem.F.plainAttrs_str PySem.F.slot_str_index PySem.F.type_str_index Az (v3 2) (aa (aJ ix3 (v3 5) (v3 6)) ak)))
   (au (aM (bL rfl (bW (n0:=(aA (top 38)).names) (N:=qu) (N':=["_law_k","_law_base","_law_letters","_law_at","_law_spot"]) (nt:=1) (cap:=[5,2,6,7]) rfl rfl (by decide +kernel)) (aU rfl B.range_ (aa (v3 1) ak)) (fun cl pins s H C0 fp=>⟨(aF (i:=0) (show List.Nodup [("_law_k":Str),("_law_base":Str),("_law_letters":Str),("_law_at":Str),("_law_spot":Str)] by decide +kernel)),b7,(aH aZ (aH aZ (je (v3 1) jd (fL (v3 3))) (aJ ix3 (v3 2) (aH dC (aH aZ (v3 4) (v3 0)) aq))) (je (v3 1) (fL (aH aZ (v3 3) aq)) jd))⟩)))))))))),?_⟩
 rw[show aR qu [T.ref d,T.int (m:Int)]=[some (T.ref d),some (T.int (m:Int)),none,none,none,none,none,none] from rfl];have hsz:sizeLine=16777216:=rfl;have al:(mkS jZ).length<=sizeLine:=by rw[dG];decide
 have M:=Box.mk k;clear k;have O:Wt d H3 H3 []:=⟨hC,Kep.refl,(fun _ h=>nomatch h)⟩;clear hC;refine aC fun R0 hR0=>?_;walk_at "";simp only[Dh];walk_at "n";refine aC fun R1 hR1=>?_;walk_at "";refine⟨by omega,fun D q=>?_⟩;have f0:=O.fresh q;have npd:=O.cl.ne q;have R:=O.new (o:=.lst []) q;generalize up3 H3 D (.lst [])=H4 at R;clear O q;walk_at "n";refine aC fun R2 hR2=>?_;walk_at "";refine⟨d,3,rfl,by decide,R.cl,fun way H5 y0 y1 y=>?_⟩;have v:=R.drw y;clear R y;walk_at "";have X:di 0 m=(List.range m).map fun (i:Nat)=>T.int (i:Int):=gQ m;by_cases hw:0<way
 ·rw[F_ hw,if_pos rfl];clear hR2;refine⟨by first | trivial | omega,by omega,by omega,?_⟩;try rw[X]
  refine bf (fun (i:Nat)=>T.int (i:Int)) (List.range m) (fun A σ H=>∃(ws:List Str) (v4:Option T),σ=[some (.ref d),some (.int (m:Int)),some (.str (mkS jZ)),some (.ref D),v4,none,none,none]/\Nms ws/\ws.length=A.length/\Wt d H3 H [(D,.lst (ws.map T.str))]) ⟨[],_,rfl,Nms.nil,rfl,v⟩ ?_ ?_
  ·rintro σ H ⟨ws,v4,rfl,hn,S,w⟩;refine⟨trivial,?_⟩;rw[o_] at S;clear v;walk_at "";exact fP w.cl w.kp w.hd f0 npd fun H1 y h1=>M.out ws H1 D S hn y h1
  rintro A i B σ H N e ⟨ws,v4,rfl,hn,S,w⟩ hN;refine⟨trivial,?_⟩;have hA:A.length<8:=by have:=U_ List.length e;simp only[a_,i_,o_] at this;omega
  have hN':=Box.mk hN;have g:=w.hd;clear hN e M v;walk_at "";refine⟨⟨trivial,trivial⟩,d,8,rfl,by decide,w.cl,fun U H6 p0 p1 n=>?_⟩;have t:=w.drw n;clear w g n;walk_at "";refine⟨⟨by decide,by decide,by decide⟩,d,_,rfl,by decide,t.cl,fun n2 H7 q0 q1 j=>?_⟩;have L:=t.drw j;have g4:=L.hd;clear t j;try dsimp only
  refine⟨(1+U).toNat,n2,D,ws,by rw[Yl (by omega)],by omega,by omega,g4,by omega,fun x I hnx=>?_⟩;walk_at "";refine⟨by omega,hN'.out _ _ ⟨ws++[x],_,rfl,hn.snoc I hnx,by rw[a_,a_,S];rfl,?_⟩⟩;have z:=L.set f0 (fun _ h=>nomatch h) (.lst (ws.map T.str++[T.str x]));rw[y_];exact z
 rw[A_ hw,if_neg m_];walk_at "n";refine aC fun R3 hR3=>?_;walk_at "";refine⟨d,8,rfl,by decide,v.cl,fun U H6 p0 p1 n=>?_⟩;have t:=v.drw n;clear v n;walk_at "";refine⟨⟨by decide,by decide,by decide⟩,d,_,rfl,by decide,t.cl,fun n2 H7 q0 q1 j=>?_⟩;have L:=t.drw j;clear t j;refine⟨by omega,fun pe C=>?_⟩;have z:=L.new (o:=.lst []) C;have V:=z.hd;generalize up3 H7 pe (.lst [])=H8 at z V;clear L C;refine⟨(1+U).toNat,n2,pe,[],by rw[Yl (by omega)],by omega,by omega,V,by decide,fun x I _=>?_⟩;have w6:=z.tl;clear z V;obtain⟨l,rfl⟩:=O8 x;have e1:=I.lo;have e2:=I.hi;have Z:=I.az;rw[dG] at e1 e2;rw[dW] at Z;have ml:=dG l;walk_at "n";refine aC fun R4 hR4=>?_;walk_at "";refine⟨by first | trivial | omega,d,_,rfl,by omega,w6.cl,fun n3 H9 r0 r1 J=>?_⟩;have w7:=w6.drw J;clear w6 J;obtain⟨b,rfl⟩:∃b:Nat,n3=(b:Int):=⟨n3.toNat,by omega⟩;have u:b<l.length:=by omega
 walk_at "n";refine aC fun R5 hR5=>?_;have Y:atI l (b:Int)=some l[b]:=bD (d_ u);have gz:=Z _ (Ws u);generalize l[b]=ch at Y gz;have G:=O9 ch gz.1 gz.2;walk_at "";refine⟨trivial,by omega,?_⟩;rw[dW,Y,jE,show (⟨#[ch]⟩:Str)=mkS [ch] from rfl,G];clear Y G;walk_at "";walk_at "n";walk_at "";refine⟨by first | trivial | omega,by omega,by omega,?_⟩;try rw[X]
 walk_at "c";refine cI (fun (i:Nat)=>T.int (i:Int)) (fun i=>.str (nmK l b (ch - 97) i)) (List.range m) [some (.str (mkS l)),some (.str (mkS jZ)),some (.int (b:Int)),some (.int ((ch - 97:Nat):Int))] trivial (by rw[o_];omega) (fun i hi Q' hq=>?_) (fun p hp=>?_)
 ·have hch:=Di ((((ch - 97:Nat):Int)+(i:Int))%26) (W7 _ (by decide)) (W5 _ (by decide));have st:=TX l b (by omega);have sf:=HW l (b+1) (by omega);rw[show ((b+1:Nat):Int)=(b:Int)+1 by omega] at sf;have hq':=Box.mk hq;clear M hq X;walk_at "";refine⟨by omega,by decide,by rw[dG];decide,?_⟩;rw[dW,hch,jE,show (⟨#[97+((((ch - 97:Nat):Int)+(i:Int))%26).toNat]⟩:Str)=mkS [97+((((ch - 97:Nat):Int)+(i:Int))%26).toNat] from rfl];rw[p8,p8];simp only[dG,a_,Wi,Wo,L_];exact⟨by omega,by omega,by omega,hq'.out⟩
 have el:(List.range m).map (fun i=>T.str (nmK l b (ch - 97) i))=((List.range m).map (nmK l b (ch - 97))).map T.str:=by rw[WQ];rfl
 rw[el];have W:=w7.new (o:=.lst (((List.range m).map (nmK l b (ch - 97))).map T.str)) hp;exact fP W.cl W.kp W.hd (w7.fresh hp) (w7.cl.ne hp) fun H1 y h1=>M.out _ H1 p (by rw[g_,o_]) (Ij e2 u Z m8) y h1
abbrev iu:List Str:=["_law_deck","_law_many","_law_way","_law_base"]
theorem sc_lengths:FnScope iu ["_law_deck","_law_many"] (aA (top 40)):=bB
theorem vz {f:Addr}{fd:FuncData}(g:G3 K mg "_law_lengths" (top 40) ["_law_deck","_law_many"] f fd) (B:Bl mg) (a:Cal P w K mg base 1 "_law_draw" (top 35) ["_law_deck","_law_most"] mU) (c:Cal P w K mg base 2 "_law_great" (top 36) ["_law_deck","_law_most"] T3):Cal P w K mg base 3 "_law_lengths" (top 40) ["_law_deck","_law_many"] T4:=by
 refine⟨f,fd,g,?_⟩;refine fn3 g.fn sc_lengths (fun ts H Q h=>?_) (fun cdv A X s H E ts H3 Q r h=>?_)
 ·obtain⟨d,m,rfl,_⟩:=h;rfl
 have M:=Room.u30 r;obtain⟨d,m,rfl,hm,hC,k⟩:=h;refine⟨_,(ao (aG (i:=2) sc_lengths.nd (aK a r rfl (aa (v3 0) (aa aq ak))))
   (ao (bV (aW (dj M) (v3 2) aq) (au (aM (bL rfl (bW (n0:=(aA (top 40)).names) (N:=iu) (N':=["_law_k","_law_deck"]) (nt:=1) (cap:=[0]) rfl rfl (by decide +kernel)) (aU rfl B.range_ (aa (v3 1) ak)) (fun cl R s H C0 fp=>⟨(aF (i:=0) (show List.Nodup [("_law_k":Str),("_law_deck":Str)] by decide +kernel)),b7,(aH aZ aq (aK c r rfl (aa (v3 1) (aa (aH iM (aH gJ aq aq) aq) ak))))⟩)))) bu)
   (ao (aG (i:=3) sc_lengths.nd (aH aZ aq (aK c r rfl (aa (v3 0) (aa (aJ ix3 (bI (aa aq (aa aq (aa (aH gJ aq aq) ak)))) (aH iM (v3 2) aq)) ak)))))
   (au (aM (bL rfl (bW (n0:=(aA (top 40)).names) (N:=iu) (N':=["_law_k","_law_base","_law_deck"]) (nt:=1) (cap:=[3,0]) rfl rfl (by decide +kernel)) (aU rfl B.range_ (aa (v3 1) ak)) (fun cl R s H C0 fp=>⟨(aF (i:=0) (show List.Nodup [("_law_k":Str),("_law_base":Str),("_law_deck":Str)] by decide +kernel)),b7,(aH aZ (aH gB (v3 1) (aH aZ aq (aK a r rfl (aa (v3 2) (aa aq ak))))) (aH dU (aK a r rfl (aa (v3 2) (aa aq ak))) aq))⟩))))))),?_⟩
 rw[show aR iu [T.ref d,T.int (m:Int)]=[some (T.ref d),some (T.int (m:Int)),none,none] from rfl];have hsz:sizeLine=16777216:=rfl;have U:=Box.mk k;clear k;have Y:Wt d H3 H3 []:=⟨hC,Kep.refl,(fun _ h=>nomatch h)⟩;clear hC;refine aC fun R0 hR0=>?_;walk_at "";refine⟨d,4,rfl,by decide,Y.cl,fun u H4 y0 y1 t=>?_⟩;have V:=Y.drw t;clear Y t;walk_at "n";refine aC fun R1 hR1=>?_;walk_at "";have rg:di 0 m=(List.range m).map fun (i:Nat)=>T.int (i:Int):=gQ m;by_cases hw:u=0
 ·rw[F_ hw,if_pos rfl];clear hR1;refine⟨trivial,by omega,by omega,?_⟩;try rw[rg]
  walk_at "c";refine c7 (fun (i:Nat)=>T.int (i:Int)) (List.range m) (fun A G D H=>∃(j:List Int) (v:Option T),D=[v,some (.ref d)]/\G=j.map T.int/\j.length=A.length/\(∀l∈j,1<=l/\l<10^60)/\Wt d H3 H []) ⟨[],_,rfl,rfl,rfl,(fun _ h=>nomatch h),V⟩ ?_ ?_
  ·rintro G D H ⟨j,v,rfl,rfl,z,r,w⟩;rw[o_] at z;refine⟨trivial,by rw[g_];omega,fun p x=>?_⟩;have q:=w.new (o:=.lst (j.map T.int)) x;exact fP q.cl q.kp q.hd (w.fresh x) (w.cl.ne x) fun H1 t Z=>U.out j H1 p z r t Z
  rintro A i B G D H N e ⟨j,v,rfl,rfl,z,r,w⟩ O;refine⟨trivial,?_⟩;have hA:A.length<8:=by have:=U_ List.length e;simp only[a_,i_,o_] at this;omega
  have C:=Box.mk O;clear O e U V;walk_at "";refine⟨⟨by decide,by decide,by decide⟩,d,_,rfl,by rw[t60];decide,w.cl,fun n H5 n0 I t=>?_⟩;rw[t60] at I;walk_at "";refine⟨by omega,C.out _ _ _ ⟨j++[1+n],_,rfl,by rw[y_];rfl,by rw[a_,a_,z];rfl,fun l F=>?_,w.drw t⟩⟩;rcases u_.mp F with h | h
  ·exact r l h
  rw[h_.mp h,T5];omega
 rw[A_ hw,if_neg m_];walk_at "n";refine aC fun R2 hR2=>?_;walk_at "";refine⟨⟨by decide,by decide,by decide⟩,by decide,fun p x=>?_⟩;obtain⟨b,y,L⟩:=wG ([1,9,10^Int.toNat 58]:List Int) (u - 1) (by omega) (by show u - 1<3;omega);have S:atI [T.int 1,T.int 9,T.int (10^Int.toNat 58)] (u - 1)=some (T.int b):=by have:=pI T.int ([1,9,10^Int.toNat 58]:List Int) (u - 1);rw[L] at this;exact this
 have hb0:1<=b/\b<=10000000000000000000000000000000000000000000000000000000000:=by rw[t58] at y;simp only[n_,W8,Zd] at y;rcases y with h | h | h <;> omega
 rw[S,jE];have q:=(V.new (o:=.lst [T.int 1,T.int 9,T.int (10^Int.toNat 58)]) x).tl;generalize up3 H4 p (.lst [T.int 1,T.int 9,T.int (10^Int.toNat 58)])=H5 at q;clear V x S L y;refine⟨d,b,rfl,by omega,q.cl,fun n H6 n0 I t=>?_⟩;have w3:=q.drw t;clear q t;have u0:1<=1+n:=by omega
 have u1:1+n<=10000000000000000000000000000000000000000000000000000000000:=by omega
 try dsimp only
 walk_at "";generalize 1+n=J at u0 u1;walk_at "n";walk_at "";refine⟨by first | trivial | omega,by omega,by omega,?_⟩;try rw[rg]
 walk_at "c";refine c7 (fun (i:Nat)=>T.int (i:Int)) (List.range m) (fun A G D H=>∃(j:List Int) (v:Option T),D=[v,some (.int J),some (.ref d)]/\G=j.map T.int/\j.length=A.length/\(∀l∈j,1<=l/\l<10^60)/\Wt d H3 H []) ⟨[],_,rfl,rfl,rfl,(fun _ h=>nomatch h),w3⟩ ?_ ?_
 ·rintro G D H ⟨j,v,rfl,rfl,z,r,w⟩;rw[o_] at z;refine⟨trivial,by rw[g_];omega,fun p x=>?_⟩;have q:=w.new (o:=.lst (j.map T.int)) x;exact fP q.cl q.kp q.hd (w.fresh x) (w.cl.ne x) fun H1 t Z=>U.out j H1 p z r t Z
 rintro A i B G D H N e ⟨j,v,rfl,rfl,z,r,w⟩ O;refine⟨trivial,?_⟩;have hA:A.length<8:=by have:=U_ List.length e;simp only[a_,i_,o_] at this;omega
 have C:=Box.mk O;clear O e U w3;walk_at "";refine⟨d,9,rfl,by decide,w.cl,fun I H7 p0 p1 W=>?_⟩;have q:=w.drw W;walk_at "";refine⟨.inr ⟨by omega,by omega⟩,d,5,rfl,by decide,q.cl,fun n2 H8 q0 q1 hD2=>?_⟩;have w4:=q.drw hD2;walk_at "";refine⟨⟨by decide,by decide +kernel⟩,by omega,C.out _ _ _ ⟨j++[J*(1+I)+n2 / 3],_,rfl,by rw[y_];rfl,by rw[a_,a_,z];rfl,fun l F=>?_,w4⟩⟩;rcases u_.mp F with h | h
 ·exact r l h
 rw[h_.mp h,T5];have m1:J*(1+I)<=J*9:=Int.mul_le_mul_of_nonneg_left (by omega) (by omega);have m2:J*1<=J*(1+I):=Int.mul_le_mul_of_nonneg_left (by omega) (by omega);omega
abbrev jr:List Str:=["_law_deck","_law_least","_law_most","_law_stands","_law_names_here","_law_many","_law_turn_here","_law_orders","_law_lots","_law_i","_law_j","_law_pairs_here","_law_table","_law_kinds_here","_law_row","_law_some","_law_lengths_here","_law_tasks"]
theorem sc_works:FnScope jr ["_law_deck","_law_least","_law_most","_law_stands"] (aA (top 45)):=bB
theorem Ei {f:Addr}{fd:FuncData}(g:G3 K mg "_law_works" (top 45) ["_law_deck","_law_least","_law_most","_law_stands"] f fd) (B:Bl mg) (G:Cal P w K mg base 2 "_law_names" (top 38) ["_law_deck","_law_many"] T7) (b:Cal P w K mg base 1 "_law_draw" (top 35) ["_law_deck","_law_most"] mU) (M:Cal P w K mg base 2 "_law_turn" (top 39) ["_law_deck","_law_things"] Ie) (Z:Cal P w K mg base 3 "_law_pairs" (top 42) ["_law_deck","_law_names_here","_law_orders","_law_lots"] T9) (U:Cal P w K mg base 4 "_law_kinds" (top 44) ["_law_deck","_law_row","_law_names_here","_law_table"] Uc) (J:Cal P w K mg base 3 "_law_lengths" (top 40) ["_law_deck","_law_many"] T4):Cal P w K mg base 5 "_law_works" (top 45) ["_law_deck","_law_least","_law_most","_law_stands"] UG:=by
 refine⟨f,fd,g,?_⟩;refine fn3 g.fn sc_works (fun ts H Q h=>?_) (fun cdv A outer s H E ts H3 Q L h=>?_)
 ·obtain⟨d,I,t,st,rfl,_⟩:=h;rfl
 have hu30:=Room.u30 L;obtain⟨d,I,t,st,rfl,l1,m1,m8,s1,s8,hC,k⟩:=h;refine⟨_,(ao (aG (i:=4) sc_works.nd (aK G L rfl (aa (v3 0) (aa (aH aZ (v3 1) (aK b L rfl (aa (v3 0) (aa (v3 2) ak)))) ak))))
   (ao (aG (i:=5) sc_works.nd (aV cj rfl B.len_ cu (aa (v3 4) ak)))
   (ao (aG (i:=6) sc_works.nd (aK M L rfl (aa (v3 0) (aa (BR rfl rfl B.list_ rfl B.range_ (v3 5)) ak))))
   (ao (aG (i:=7) sc_works.nd (bI ak))
   (ao (aG (i:=8) sc_works.nd (aH aZ aq (aK b L rfl (aa (v3 0) (aa aq ak)))))
   (ao (bA K_ rfl (aU rfl B.range_ (aa (v3 5) ak)) (aF (i:=9) sc_works.nd) (au (bA K_ rfl (nU rfl B.range_ (aa (aH aZ (v3 9) aq) (aa (v3 5) ak))) (aF (i:=10) sc_works.nd) (au (bV (aW (dj hu30) (aK b L rfl (aa (v3 0) (aa (v3 8) ak))) aq) (au (bY (dm Q_ S_ T_ bC (v3 7) (aa (cA (aa (aJ ix3 (v3 6) (v3 9)) (aa (aJ ix3 (v3 6) (v3 10)) ak))) ak)))) bu)))))
   (ao (aG (i:=7) sc_works.nd (aK M L rfl (aa (v3 0) (aa (v3 7) ak))))
   (ao (Ad (aK Z L rfl (aa (v3 0) (aa (v3 4) (aa (v3 7) (aa (aH aZ aq (aK b L rfl (aa (v3 0) (aa aq ak)))) ak))))) (dN (n:=2) rfl (aO (aF (i:=11) sc_works.nd) (aO (aF (i:=12) sc_works.nd) cW))))
   (ao (aG (i:=13) sc_works.nd (aK G L rfl (aa (v3 0) (aa (aH aZ aq (aK b L rfl (aa (v3 0) (aa aq ak)))) ak))))
   (ao (ph (i:=14) rfl sc_works.nd (bW (n0:=(aA (top 45)).names) (N:=jr) (N':=["_law_k","_law_kinds_here","_law_deck"]) (nt:=1) (cap:=[13,0]) rfl rfl (by decide +kernel)) (aU rfl B.range_ (aa (aH aZ aq (aK b L rfl (aa (v3 0) (aa (v3 3) ak)))) ak)) (fun cl pins s H C0 fp=>⟨(aF (i:=0) (show List.Nodup [("_law_k":Str),("_law_kinds_here":Str),("_law_deck":Str)] by decide +kernel)),b7,(aJ ix3 (v3 1) (aK b L rfl (aa (v3 2) (aa (aV cj rfl B.len_ cu (aa (v3 1) ak)) ak))))⟩))
   (ao (aG (i:=15) sc_works.nd (aK U L rfl (aa (v3 0) (aa (v3 14) (aa (v3 13) (aa (v3 12) ak))))))
   (ao (aG (i:=16) sc_works.nd (aK J L rfl (aa (v3 0) (aa (v3 5) ak))))
   (ao (aG (i:=17) sc_works.nd (bG cT rfl B.tuple_ cH (aa (bL rfl (bW (n0:=(aA (top 45)).names) (N:=jr) (N':=["_law_k","_law_names_here","_law_lengths_here","_law_some"]) (nt:=1) (cap:=[4,16,15]) rfl rfl (by decide +kernel)) (aU rfl B.range_ (aa (v3 5) ak)) (fun cl pins s H C0 fp=>⟨(aF (i:=0) (show List.Nodup [("_law_k":Str),("_law_names_here":Str),("_law_lengths_here":Str),("_law_some":Str)] by decide +kernel)),b7,(cA (aa (aJ ix3 (v3 1) (v3 0)) (aa (aJ ix3 (v3 2) (v3 0)) (aa (aJ ix3 (v3 3) (v3 0)) ak))))⟩)) ak)))
   (au (aM (cA (aa (v3 17) (aa (bG cT rfl B.tuple_ cH (aa (bL rfl (bW (n0:=(aA (top 45)).names) (N:=jr) (N':=["_law_i","_law_j","_law_names_here"]) (nt:=2) (cap:=[4]) rfl rfl (by decide +kernel)) (cL (v3 7)) (fun cl pins s H C0 fp=>⟨(dN (n:=2) rfl (aO (aF (i:=0) (show List.Nodup [("_law_i":Str),("_law_j":Str),("_law_names_here":Str)] by decide +kernel)) (aO (aF (i:=1) (show List.Nodup [("_law_i":Str),("_law_j":Str),("_law_names_here":Str)] by decide +kernel)) cW))),b7,(cA (aa (aJ ix3 (v3 2) (v3 0)) (aa (aJ ix3 (v3 2) (v3 1)) ak)))⟩)) ak)) (aa (v3 11) (aa (bG cT rfl B.tuple_ cH (aa (v3 14) ak)) ak)))))))))))))))))))),?_⟩
 rw[show aR jr [T.ref d,T.int I,T.int t,T.int st]=[some (T.ref d),some (T.int I),some (T.int t),some (T.int st),none,none,none,none,none,none,none,none,none,none,none,none,none,none] from rfl];have hsz:sizeLine=16777216:=rfl;have k':=Box.mk k;clear k;have w0:Wt d H3 H3 []:=⟨hC,Kep.refl,(fun _ h=>nomatch h)⟩;clear hC;refine aC fun R0 hR0=>?_;walk_at "";refine⟨d,t,rfl,by omega,w0.cl,fun n0 H4 a0 a1 hD0=>?_⟩;have w1:=w0.drw hD0;clear w0 hD0;walk_at "";refine⟨d,(I+n0).toNat,by rw[Yl (by omega)],by omega,by omega,w1.cl,fun ws H5 O hwl hws hD1 hpn=>?_⟩;have w2:=(w1.drw hD1).new (o:=.lst (ws.map T.str)) hpn;generalize up3 H5 O (.lst (ws.map T.str))=H6 at w2;clear w1 hD1 hpn;have ws1:1<=ws.length:=by omega
 have ws8:ws.length<=8:=by omega
 have wsm:(ws.length:Int)<=I+t - 1:=by omega
 clear hwl a0 a1;walk_at "n";refine aC fun R1 hR1=>?_;have gn:=w2.hd;walk_at "";walk_at "n";refine aC fun R2 hR2=>?_;walk_at "";refine⟨⟨by omega,by omega⟩,fun q1 hq1=>?_⟩;have w3:=w2.new (o:=.lst ((List.range ws.length).map fun (k:Nat)=>T.int (k:Int))) hq1;have gq1:=w3.hd;generalize up3 H6 q1 (.lst ((List.range ws.length).map fun (k:Nat)=>T.int (k:Int)))=H7 at w3 gq1;clear w2 hq1 gn;try dsimp only
 refine⟨d,q1,_,rfl,(w3.at' _ q_).2,gq1,Ui _,by rw[g_,o_];omega,w3.cl,fun ys H8 pt D hD2 hpt=>?_⟩;obtain⟨l,htv,rfl⟩:=jn D _ rfl;have tvl:l.length=ws.length:=by rw[htv.length_eq,o_]
 have tvn:l.Nodup:=htv.nodup_iff.mpr List.nodup_range;have tvm:∀x∈l,x<ws.length:=fun x hx=>O_.mp (htv.mem_iff.mp hx);have w4:=(w3.drw hD2).tl.new (o:=.lst (l.map fun (k:Nat)=>T.int (k:Int))) hpt;generalize up3 H8 pt (.lst (l.map fun (k:Nat)=>T.int (k:Int)))=H9 at w4;clear w3 hD2 hpt gq1 D htv;walk_at "n";refine aC fun R3 hR3=>?_;walk_at "";refine⟨by omega,fun po V=>?_⟩;have po0:=w4.fresh V;have nto:pt≠po:=bh w4.hd V;have nno:O≠po:=bh w4.tl.hd V;have w5:=w4.new (o:=.lst []) V;generalize up3 H9 po (.lst [])=H10 at w5;clear w4 V;walk_at "n";refine aC fun R4 hR4=>?_;walk_at "";refine⟨d,6,rfl,by decide,w5.cl,fun n1 H11 b0 b1 hD3=>?_⟩;have w6:=w5.drw hD3;clear w5 hD3;have lo0:3<=3+n1:=by omega
 have lo1:3+n1<=8:=by omega
 walk_at "";generalize 3+n1=lots at lo0 lo1;walk_at "n";refine aC fun R5 hR5=>?_;walk_at "";refine⟨by first | trivial | omega,by omega,by omega,?_⟩;rw[gQ];refine bf (fun (i:Nat)=>T.int (i:Int)) (List.range ws.length) (fun A σ H=>∃(F:List (Nat × Nat)) (v8 v9:Option T),σ=[some (.ref d),some (.int I),some (.int t),some (.int st),some (.ref O),some (.int (ws.length:Int)),some (.ref pt),some (.ref po),some (.int lots),v8,v9,none,none,none,none,none,none,none]/\Wt d H3 H [(po,.lst (F.map (oT l))),(pt,.lst (l.map fun (k:Nat)=>T.int (k:Int))),(O,.lst (ws.map T.str))]/\F.Sublist (tri ws.length A)) ⟨[],_,_,rfl,w6,Zv _⟩ ?_ ?_;rotate_left
 ·rintro A i B σ H N e ⟨F,v8,v9,rfl,w,a⟩ hN;refine⟨trivial,?_⟩;have hi:i<ws.length:=O_.mp (by rw[e];simp);have hM:=Box.mk hN;have hAl:(tri ws.length A).length<=64:=by
   have h1:=oH e;have h2:A.length<=8:=by have:=U_ List.length e;simp only[a_,i_,o_] at this;omega
   have h3:∀(A:List Nat),(tri ws.length A).length<=8*A.length:=fun A=>by
    induction A with
    |nil=>exact j_ _
    |cons x r ih =>
     have e3:tri ws.length (x::r)=(List.range' (x+1) (ws.length - (x+1))).map (fun j=>(x,j))++tri ws.length r:=rfl
     rw[e3,a_,g_,List.length_range',i_]
     omega
   have:=h3 A;omega
  clear hN e w6 k' hR5;walk_at "";refine⟨by first | trivial | omega,⟨by omega,by omega,by omega,by omega⟩,?_⟩;rw[Uh];refine bf (fun (j:Nat)=>T.int (j:Int)) (List.range' (i+1) (ws.length - (i+1))) (fun A2 σ H=>∃(F:List (Nat × Nat)) (v9:Option T),σ=[some (.ref d),some (.int I),some (.int t),some (.int st),some (.ref O),some (.int (ws.length:Int)),some (.ref pt),some (.ref po),some (.int lots),some (.int (i:Int)),v9,none,none,none,none,none,none,none]/\Wt d H3 H [(po,.lst (F.map (oT l))),(pt,.lst (l.map fun (k:Nat)=>T.int (k:Int))),(O,.lst (ws.map T.str))]/\F.Sublist (tri ws.length A++A2.map fun j=>(i,j))) ⟨F,_,rfl,w,by rw[WW,N_];exact a⟩ ?_ ?_
  ·rintro σ H ⟨F,v9,rfl,w,a⟩;exact⟨trivial,hM.out _ _ ⟨F,_,_,rfl,w,by rw[Dr];exact a⟩⟩
  rintro A2 j B2 σ H N2 e2 ⟨F,v9,rfl,w,a⟩ hN2;refine⟨trivial,?_⟩;have hj:=List.mem_range'_1.mp (show j∈List.range' (i+1) (ws.length - (i+1)) by rw[e2];simp);have hN':=Box.mk hN2;have hs1:=u9 (y:=(i,j)) a;have hs2:=vd (y:=(i,j)) a;rw[t_,show [(i,j)]=[j].map fun j=>(i,j) from rfl,<- y_] at hs1 hs2;have hA2:A2.length<8:=by have:=U_ List.length e2;simp only[a_,i_,List.length_range'] at this;omega
  have hol:F.length<=100:=by have h1:=a.length_le;have h2:=(xN ⟨ws.length,by omega⟩);have h3:(tri ws.length A).length<=64:=hAl;rw[a_,g_] at h1;omega
  clear hN2 e2 hM a;walk_at "";refine⟨d,lots,rfl,by omega,w.cl,fun n H12 c0 c1 hD=>?_⟩;have w7:=w.drw hD;have go':=w7.hd;have gt':=w7.tl.hd;have x1:=Kp (show i<l.length by omega);have x2:=Kp (show j<l.length by omega);clear w hD;have tvl':=Box.mk tvl;clear tvl;walk_at "";split
  ·have em:F.map (oT l)++[T.tup [T.int ((l.getD i 0:Nat):Int),T.int ((l.getD j 0:Nat):Int)]]=(F++[(i,j)]).map (oT l):=by rw[y_];rfl
   rw[em];refine⟨⟨trivial,trivial⟩,by decide,by omega,hN'.out _ _ ⟨F++[(i,j)],_,rfl,w7.set po0 (fun q hq=>?_) _,hs1⟩⟩;rcases n_.mp hq with rfl | hq
   ·exact nto
   rw[h_.mp hq];exact nno
  exact hN'.out _ _ ⟨F,_,rfl,w7,hs2⟩
 rintro σ H ⟨F,v8,v9,rfl,w,a⟩;refine⟨trivial,?_⟩;clear w6;walk_at "n";refine aC fun R6 hR6=>?_;have ol28:F.length<=28:=Wc a.length_le (xN ⟨ws.length,by omega⟩);have ond:F.Nodup:=(Pz ⟨ws.length,by omega⟩).sublist a;have oin:∀x∈F,x.1<x.2/\x.2<ws.length:=fun x hx=>Im (fun i hi=>O_.mp hi) (a.subset hx);have go':=w.hd;walk_at "";refine⟨d,po,_,rfl,(w.at' _ q_).2,go',Kq l F,by rw[g_];omega,w.cl,fun ys H12 q2 D hD4 hq2=>?_⟩;obtain⟨c,hos,rfl⟩:=jn D _ rfl;have ol':c.length<=28:=by rw[hos.length_eq];exact ol28
 have ond':c.Nodup:=hos.nodup_iff.mpr ond;have oin':∀x∈c,x.1<x.2/\x.2<ws.length:=fun x hx=>oin x (hos.mem_iff.mp hx);have w7:=(w.drw hD4).tl.tl.new (o:=.lst (c.map (oT l))) hq2;generalize up3 H12 q2 (.lst (c.map (oT l)))=H13 at w7;clear w hD4 hq2 go' D hos a ol28 ond oin;walk_at "n";refine aC fun R7 hR7=>?_;walk_at "";refine⟨d,24,rfl,by decide,w7.cl,fun n2 H14 c0 c1 hD5=>?_⟩;have w8:=w7.drw hD5;clear w7 hD5;try dsimp only
 walk_at "";refine⟨d,O,q2,ws,_,8+n2,rfl,by omega,by omega,(w8.at' (O,.lst (ws.map T.str)) (by simp)).2,(w8.at' _ q_).2,w8.tl.hd,hws,ws8,w8.hd,Kq l c,by rw[g_];exact ol',w8.cl,fun prs pb as H15 p12 pnd pok hcl hkp tq=>?_⟩;have w9:=w8.kep hcl hkp;clear w8 hkp hcl;try dsimp only
 walk_at "";refine⟨trivial,?_⟩;walk_at "n";refine aC fun R8 hR8=>?_;walk_at "";refine⟨d,5,rfl,by decide,w9.cl,fun n3 H16 d0 d1 hD6=>?_⟩;have w10:=w9.drw hD6;have tq1:=tq.drw hD6;clear w9 tq hD6;walk_at "";refine⟨d,(1+n3).toNat,by rw[Yl (by omega)],by omega,by omega,w10.cl,fun u H17 pk hkl hks hD7 hpk=>?_⟩;have w11:=(w10.drw hD7).new (o:=.lst (u.map T.str)) hpk;have tq2:=(tq1.drw hD7).new (o:=.lst (u.map T.str)) hpk;generalize up3 H17 pk (.lst (u.map T.str))=H18 at w11 tq2;have ks1:1<=u.length:=by omega
 have ks8:u.length<=8:=by omega
 clear w10 tq1 hD7 hpk hkl;walk_at "n";refine aC fun R9 hR9=>?_;walk_at "";refine⟨d,st,rfl,by omega,w11.cl,fun n4 H19 e0 e1 hD8=>?_⟩;have w12:=w11.drw hD8;have tq3:=tq2.drw hD8;clear w11 tq2 hD8;walk_at "";refine⟨by first | trivial | omega,by omega,by omega,?_⟩;have hrl:(di 0 (1+n4).toNat).length=(1+n4).toNat:=by unfold di;rw[g_,o_]
 generalize di 0 (1+n4).toNat=ts0 at hrl;walk_at "c";refine gK (fun r ys σ H=>∃(m:List Str) (v:Option T),σ=[v,some (.ref pk),some (.ref d)]/\ys=m.map T.str/\m.length+r.length=(1+n4).toNat/\(∀x∈m,x∈u)/\Wt d H3 H [(pk,.lst (u.map T.str)),(q2,.lst (c.map (oT l))),(O,.lst (ws.map T.str))]/\Tq d H14 H pb ws.length as) ⟨[],_,rfl,rfl,by rw[hrl];exact Nat.zero_add _,(fun _ h=>nomatch h),w12,tq3⟩ ?_ ?_;rotate_left
 ·rintro x r ys σ H N ⟨m,v,rfl,rfl,hrw,X,w,tq⟩ hN;refine⟨trivial,?_⟩;rw[i_] at hrw;have hN':=Box.mk hN;have hin':=Box.mk X;have g:=w.hd;have ks1':(0:Int)<(u.length:Int):=by omega
  clear hN X w12 tq3 k' hR9;walk_at "";refine⟨d,_,rfl,ks1',w.cl,fun n5 H20 f0 f1 hD9=>?_⟩;have C:=w.drw hD9;have W:=tq.drw hD9;have g13:=C.hd;clear w tq g hD9;obtain⟨z,hz,ez⟩:=wG u n5 f0 f1;have ez':atI (u.map T.str) n5=some (T.str z):=by rw[pI,ez];rfl
  clear ez;walk_at "";refine⟨by first | omega | (rw[g_];omega),hN'.out _ _ _ ⟨m++[z],_,rfl,by rw[y_];rfl,by rw[a_,L_];omega,fun y hy=>?_,C,W⟩⟩;rcases u_.mp hy with h | h
  ·exact hin'.out y h
  rw[h_.mp h];exact hz
 rintro ys σ H ⟨m,v,rfl,rfl,hrw,X,w,tq⟩;rw[Xn,Nat.add_zero] at hrw;refine⟨trivial,by rw[g_];omega,fun pr hpr=>?_⟩;have C:=w.new (o:=.lst (m.map T.str)) hpr;have W:=tq.new (o:=.lst (m.map T.str)) hpr;generalize up3 H pr (.lst (m.map T.str))=H20 at C W;clear w tq hpr w12 tq3 hrl;have rw1:1<=m.length:=by omega
 have rw8:m.length<=8:=by omega
 have rws:(m.length:Int)<=st:=by omega
 clear hrw;walk_at "n";refine aC fun R10 hR10=>?_;walk_at "";refine⟨d,pr,pk,pb,m,u,ws.length,H14,as,rfl,(C.at' _ q_).2,(C.at' (pk,.lst (u.map T.str)) (by simp)).2,C.hd,rw1,rw8,fun x hx=>hks.nm x (X x hx),C.tl.hd,hks,ks8,W,ws8,C.cl,fun kk H21 pso hkk hkb hD10 hpso=>?_⟩;have w14:=(C.drw hD10).new (o:=.lst (kk.map sT)) hpso;generalize up3 H21 pso (.lst (kk.map sT))=H22 at w14;clear C W hD10 hpso;walk_at "n";refine aC fun R11 hR11=>?_;walk_at "";refine⟨d,ws.length,rfl,ws8,w14.cl,fun ls H23 pl_ hll hlb hD11 hpl_=>?_⟩;have S:=(w14.drw hD11).new (o:=.lst (ls.map T.int)) hpl_;generalize up3 H23 pl_ (.lst (ls.map T.int))=H24 at S;clear w14 hD11 hpl_;walk_at "n";refine aC fun R12 hR12=>?_;walk_at "";refine⟨by first | trivial | omega,by omega,by omega,?_⟩;rw[gQ];walk_at "c";refine cI (fun (k:Nat)=>T.int (k:Int)) (fun k=>tkT (tkD ws ls kk k)) (List.range ws.length) [some (.ref O),some (.ref pl_),some (.ref pso)] trivial (by rw[o_];omega) (fun i hi Q' hq=>?_) (fun p hp=>?_)
 ·have hi':=O_.mp hi;have g1:=(S.at' (O,.lst (ws.map T.str)) (by simp)).1;have g2:=S.hd;have g3:=S.tl.hd;have x1:=getD_at hi';have x2:=Ue (show i<ls.length by omega);have x3:=Ug (show i<kk.length by omega);have hq':=Box.mk hq;clear k' hq hR12;try dsimp only at g1
  walk_at "";exact⟨by decide,hq'.out⟩
 rw[show (List.range ws.length).map (fun k=>tkT (tkD ws ls kk k))=((List.range ws.length).map (tkD ws ls kk)).map tkT by rw[WQ];rfl];have R:=(S.new (o:=.lst (((List.range ws.length).map (tkD ws ls kk)).map tkT)) hp).tl;generalize up3 H24 p (.lst (((List.range ws.length).map (tkD ws ls kk)).map tkT))=Y at R;clear S hp;walk_at "n";have gq:Y q2=some (.lst (c.map (oT l))):=(R.at' (q2,.lst (c.map (oT l))) (by simp)).1;have gn:Y O=some (.lst (ws.map T.str)):=(R.at' (O,.lst (ws.map T.str)) (by simp)).1;have gr:Y pr=some (.lst (m.map T.str)):=R.tl.tl.hd;walk_at "";walk_at "c";refine qX (fun x:Nat × Nat=>.int ((l.getD x.1 0:Nat):Int)) (fun x=>.int ((l.getD x.2 0:Nat):Int)) (fun x=>orT (oD ws l x)) c [some (.ref O)] (.inl gq) (by omega) (fun x hx Q' hq=>?_) (fun p hp=>?_)
 ·have ox:=oin' x hx;have y1:=getD_at (tvm _ (getD_mem (d:=0) (show x.1<l.length by omega)));have y2:=getD_at (tvm _ (getD_mem (d:=0) (show x.2<l.length by omega)));have hq':=Box.mk hq;clear k' hq gr gq;walk_at "";exact⟨by decide,hq'.out⟩
 rw[show c.map (fun x=>orT (oD ws l x))=(c.map (oD ws l)).map orT by rw[WQ];rfl];have w17:=R.new (o:=.lst ((c.map (oD ws l)).map orT)) hp;have gr2:up3 Y p (.lst ((c.map (oD ws l)).map orT)) pr=_ := upa gr hp;generalize up3 Y p (.lst ((c.map (oD ws l)).map orT))=H26 at w17 gr2;clear R hp gq gn gr;walk_at "";refine⟨by decide,jm w17.cl w17.kp fun H'' hD=>?_⟩;exact k'.out ⟨(List.range ws.length).map (tkD ws ls kk),c.map (oD ws l),prs,m⟩ H'' (Ud hws ws1 ws8 hll hlb hkk hkb tvl tvn tvm ol' ond' oin' p12 pnd pok rw1 rw8 fun x hx=>hks.nm x (X x hx)) (by show (((List.range ws.length).map (tkD ws ls kk)).length:Int)<=I+t - 1;rw[g_,o_];exact wsm) rws hD
theorem Lb.pl {W:Wk}{m:Nat}{t:T}(h:Lb W m t):pl 20 t=true:=by
 rcases h with ⟨rfl,_⟩ | ⟨b,rfl,_⟩ <;> rfl
def xY:Sp3:=fun ts H Q=>∃(a:Addr) (ns:List Int),ts=[.ref a]/\H a=some (.rol (ns.map T.int))/\ns.length<=63/\∀H',Q (.bl true) H'
abbrev Ej:List Str:=["_law_script","_law_deck","_law_big","_law_works_here","_law_found","_law_lengths_here","_law_k","_law_at"]
theorem sc_law:FnScope Ej ["_law_script"] (aA (top 46)):=bB
theorem PX {f:Addr}{fd:FuncData}(g:G3 K mg "law" (top 46) ["_law_script"] f fd) (B:Bl mg) (F:Cal P w K mg base 1 "_law_numbers" (top 34) ["_law_script"] Km) (O:Cal P w K mg base 5 "_law_works" (top 45) ["_law_deck","_law_least","_law_most","_law_stands"] UG) (y:Cal P w K mg base 9 "beats_of" (top 32) ["works"] UJ) (S:Cal P w K mg base 1 "_law_draw" (top 35) ["_law_deck","_law_most"] mU) (l:Cal P w K mg base 8 "least_beat" (top 31) ["works","many"] PQ):jQ P w K mg base 10 f fd ["_law_script"] xY:=by
 refine fn3 g.fn sc_law (fun ts H Q h=>?_) (fun cdv A outer s H E ts H3 Q hr h=>?_)
 ·obtain⟨a,ns,rfl,_⟩:=h;rfl
 have q:=Room.u30 hr;obtain⟨a,ns,rfl,ha,h63,k⟩:=h;refine⟨_,(ao (aG (i:=1) sc_law.nd (aK F hr rfl (aa (v3 0) ak)))
   (ao (aG (i:=2) sc_law.nd (bG wA rfl B.int_ uw (aa (z9 (gm (Oa q) (v3 0) (bI ak)) (o7 (gm (dj q) (aH dC (aH dU (aJ ix3 (v3 0) aq) aq) aq) aq))) ak)))
   (ao (aG (i:=3) sc_law.nd (aK O hr rfl (aa (v3 1) (aa (aJ ix3 (bI (aa aq (aa aq ak))) (v3 2)) (aa (aJ ix3 (bI (aa aq (aa aq ak))) (v3 2)) (aa (aJ ix3 (bI (aa aq (aa aq ak))) (v3 2)) ak))))))
   (ao (aG (i:=4) sc_law.nd (aK y hr rfl (aa (v3 3) ak)))
   (ao (ph (i:=5) rfl sc_law.nd (bW (n0:=(aA (top 46)).names) (N:=Ej) (N':=["_law_name","_law_length","_law_kinds_here"]) (nt:=3) (cap:=[]) rfl rfl (by decide +kernel)) (dO (aJ ix3 (v3 3) aq)) (fun cl pins s H C0 fp=>⟨(dN (n:=3) rfl (aO (aF (i:=0) (show List.Nodup [("_law_name":Str),("_law_length":Str),("_law_kinds_here":Str)] by decide +kernel)) (aO (aF (i:=1) (show List.Nodup [("_law_name":Str),("_law_length":Str),("_law_kinds_here":Str)] by decide +kernel)) (aO (aF (i:=2) (show List.Nodup [("_law_name":Str),("_law_length":Str),("_law_kinds_here":Str)] by decide +kernel)) cW)))),b7,(v3 1)⟩))
   (ao (bV (PW3.pt (lg (iJ (cP (aV uv rfl B.isinstance_ fc (aa (v3 4) (aa (Av rfl B.tuple_ cH) ak))))) (jC (aW (lA q) (aV cj rfl B.len_ cu (aa (v3 4) ak)) (aV cj rfl B.len_ cu (aa (aJ ix3 (v3 3) aq) ak)))))) (au (aM fH)) bu)
   (ao (bV (PW3.pt (cG (aW uR (aJ ix3 (v3 4) aq) gH) (cJ (aW (lA q) (aJ ix3 (v3 4) aq) (aV (Ax rfl) rfl B.sum_ Ba (aa (v3 5) ak)))))) (au (aM fH)) bu)
   (ao (bA K_ rfl (aU rfl B.range_ (aa (aV cj rfl B.len_ cu (aa (v3 4) ak)) ak)) (aF (i:=6) sc_law.nd) (ao (bV (aW BW (aJ ix3 (v3 4) (v3 6)) gH) (ao (bV (PW3.pt (cG (aW ww (v3 6) aq) (cJ (aW uR (aJ ix3 (v3 4) (aH iM (v3 6) aq)) gH)))) (au (aM fH)) bu)
     (au qN)) bu)
    (ao (bV (PW3.pt (lg (iJ (cP (aV uv rfl B.isinstance_ fc (aa (aJ ix3 (v3 4) (v3 6)) (aa (Av rfl B.int_ uw) ak))))) (lg (cP (aV uv rfl B.isinstance_ fc (aa (aJ ix3 (v3 4) (v3 6)) (aa (Av rfl B.bool_ Gn) ak)))) (jC (aW nZ (aJ ix3 (v3 4) (v3 6)) (aV (GK rfl) rfl B.max_ Nx (aa (v3 5) ak))))))) (au (aM fH)) bu)
    (au (bV (PW3.pt (lg (aW nZ (aH gB (aH aZ (v3 6) aq) (aJ ix3 (v3 4) (v3 6))) (aV (Ax rfl) rfl B.sum_ Ba (aa (v3 5) ak))) (jC (PW3.pt (cG (aW ww (v3 6) aq) (cG (aW uR (aJ ix3 (v3 4) (aH iM (v3 6) aq)) gH) (cJ (aW ww (aJ ix3 (v3 4) (v3 6)) (aJ ix3 (v3 4) (aH iM (v3 6) aq)))))))))) (au (aM fH)) bu)))))
   (ao (aG (i:=7) sc_law.nd (aK S hr rfl (aa (v3 1) (aa (aV cj rfl B.len_ cu (aa (v3 4) ak)) ak))))
   (au (aM (gm (dj q) (aK l hr rfl (aa (v3 3) (aa (aH aZ (v3 7) aq) ak))) (aJ ix3 (v3 4) (v3 7)))))))))))))),?_⟩
 rw[show aR Ej [T.ref a]=[some (T.ref a),none,none,none,none,none,none,none] from rfl];have hsz:sizeLine=16777216:=rfl;have k':=Box.mk k;clear k;refine aC fun R0 hR0=>?_;walk_at "";refine⟨a,ns,rfl,ha,h63,fun d H4 V hd hC=>?_⟩;have w0:Wt d H4 H4 []:=⟨hC,Kep.refl,(fun _ h=>nomatch h)⟩;have ga:=V a _ ha;clear hC V hd ha;walk_at "n";refine aC fun R1 hR1=>?_;have key:∀(b:Bool) (H5:Hp3),Wt d H4 H5 []->R1 { nx:=fun _ H'=>Fin3 Q .non H',rt:=Fin3 Q} [some (.ref a),some (.ref d),some (.int (if b=true then 1 else 0)),none,none,none,none,none] H5:=by
  intro b H5 w1;clear ga;walk_at "n";have x1:atI [T.int 1,T.int 7] (if b=true then 1 else 0)=some (T.int (if b then 7 else 1)):=by cases b <;> rfl
  have x2:atI [T.int 6,T.int 2] (if b=true then 1 else 0)=some (T.int (if b then 2 else 6)):=by cases b <;> rfl
  have x3:atI [T.int 4,T.int 2] (if b=true then 1 else 0)=some (T.int (if b then 2 else 4)):=by cases b <;> rfl
  refine aC fun R2 hR2=>?_;walk_at "";refine⟨by decide,fun p1 hp1=>⟨by decide,fun p2 hp2=>⟨by decide,fun p3 hp3=>?_⟩⟩⟩;have w2:=(((w1.new (o:=.lst [T.int 1,T.int 7]) hp1).new (o:=.lst [T.int 6,T.int 2]) hp2).new (o:=.lst [T.int 4,T.int 2]) hp3).tl.tl.tl;generalize up3 (up3 (up3 H5 p1 _) p2 _) p3 _=H6 at w2 ⊢;clear w1 hp1 hp2 hp3 x1 x2 x3;refine⟨d,_,_,_,rfl,by cases b <;> decide,by cases b <;> decide,by cases b <;> decide,by cases b <;> decide,by cases b <;> decide,w2.cl,fun W H7 hW _ _ hD=>?_⟩;have w3:=w2.drw hD;clear w2 hD;have D:=Box.mk hW;have t1:1<=W.tasks.length:=hW.t1;have t8:W.tasks.length<=8:=hW.t8;have r1:1<=W.row.length:=hW.r1;have r8:W.row.length<=8:=hW.r8;clear hW;walk_at "n";refine aC fun R3 hR3=>?_;walk_at "";refine⟨W,rfl,D.out,t8,fun R lbs hbs=>?_⟩;have C:=Box.mk hbs;clear hbs;walk_at "n";refine aC fun R4 hR4=>?_;walk_at "";walk_at "c";refine c7 tkT W.tasks (fun A ys Z H=>∃v0 Y v2:Option T,Z=[v0,Y,v2]/\H=H7/\ys=(A.map fun t=>t.2.1).map T.int) ⟨_,_,_,rfl,rfl,rfl⟩ ?_ ?_;rotate_left
  ·rintro A ⟨x,ln,ks⟩ B ys Z H N e ⟨v0,Y,v2,rfl,rfl,rfl⟩ hN;refine⟨trivial,?_⟩;have hA:A.length<9:=by have:=U_ List.length e;simp only[a_,i_] at this;omega
   have G:Box (∀v0 Y v2,N ((A.map fun t=>t.2.1).map T.int++[.int ln]) [v0,Y,v2] H):=⟨fun v0 Y v2=>hN _ _ _ ⟨v0,Y,v2,rfl,rfl,by rw[y_,y_];rfl⟩⟩;clear hN e;rw[show tkT (x,ln,ks)=.tup [.str x,.int ln,sT ks] from rfl];walk_at "";exact⟨trivial,by omega,G.out _ _ _⟩
  rintro ys Z H ⟨v0,Y,v2,rfl,rfl,rfl⟩;refine⟨trivial,by rw[g_,g_];omega,fun p hp=>?_⟩;have w4:=w3.new (o:=.lst ((W.tasks.map fun t=>t.2.1).map T.int)) hp;have gp:=w4.hd;have ei:=jD (W.tasks.map fun t=>t.2.1);generalize up3 H p _=H8 at w4 gp ⊢;clear w3 hp;walk_at "n";refine aC fun R5 hR5=>?_;walk_at "";walk_at "n";obtain⟨t0,e0⟩:∃t,R[0]?=some t:=⟨_,d_ (by omega)⟩;have at0:atI R 0=some t0:=bD (j:=0) e0;have l0:=C.out 0 t0 e0;refine aC fun R6 hR6=>?_;have U:R6 { nx:=fun x H'=>Fin3 Q .non H',rt:=Fin3 Q} [some (.ref a),some (.ref d),some (.int (if b=true then 1 else 0)),some W.enc,some (.tup R),some (.ref p),none,none] H8:=by
   clear at0 l0 e0;walk_at "n";refine aC fun R7 hR7=>?_;walk_at "";refine⟨trivial,by omega,by omega,?_⟩;try rw[Xi]
   rw[gQ];refine bf (fun (m:Nat)=>T.int (m:Int)) (List.range W.row.length) (fun A Z H=>∃v6:Option T,Z=[some (.ref a),some (.ref d),some (.int (if b=true then 1 else 0)),some W.enc,some (.tup R),some (.ref p),v6,none]/\H=H8) ⟨_,rfl,rfl⟩ ?_ ?_
   ·rintro Z H ⟨v6,rfl,rfl⟩;refine⟨trivial,?_⟩;walk_at "n";refine aC fun R8 hR8=>?_;walk_at "";refine⟨d,_,rfl,by omega,w4.tl.cl,fun n H9 n0 n1 hD=>?_⟩;have w5:=w4.tl.drw hD;clear w4 hD gp ei;obtain⟨i,rfl⟩:∃i:Nat,n=(i:Int):=⟨n.toNat,by omega⟩;obtain⟨ti,I⟩:∃t,R[i]?=some t:=⟨_,d_ (by omega)⟩;have ai:atI R (i:Int)=some ti:=bD I;have li:=C.out i ti I;have pt:=li.pl;walk_at "n";clear I;walk_at "";refine⟨W,i+1,by rw[show (i:Int)+1=((i+1:Nat):Int) by push_cast;rfl],D.out,t8,by omega,fun H10 u sb hu=>?_⟩;have e3:=hu.uniq li;subst e3;clear hu;walk_at "";rcases li with ⟨rfl,_⟩ | ⟨b0,rfl,_⟩
    ·exact Fin3.of Sub3.refl (k'.out _)
    rw[JD,F_ rfl];exact Fin3.of Sub3.refl (k'.out _)
   rintro A i B Z H N e ⟨v6,rfl,rfl⟩ hN;refine⟨trivial,?_⟩;have hi:i<W.row.length:=O_.mp (by rw[e];simp);have G:=Box.mk fun v=>hN _ H ⟨v,rfl,rfl⟩;clear hN e hR7 w4;obtain⟨ti,I⟩:∃t,R[i]?=some t:=⟨_,d_ (by omega)⟩;have ai:atI R (i:Int)=some ti:=bD I;have li:=C.out i ti I;have aj:Box (0<i->∃X,atI R ((i:Int) - 1)=some X/\(X=.non\/∃b c,X=.int b/\ti=.int c/\c<=b)):=⟨fun z=>by
    obtain⟨j,rfl⟩:∃j,i=j+1:=⟨i - 1,by omega⟩
    obtain⟨X,ej⟩:∃t,R[j]?=some t:=⟨_,d_ (by omega)⟩
    exact⟨X,by rw[show ((j+1:Nat):Int) - 1=(j:Int) by push_cast;omega];exact bD ej,(C.out j X ej).more D.out li⟩⟩
   clear I C;have i0:¬0<i->¬decide (0<(i:Int))=true:=fun z=>by simpa using z
   have i0':=Box.mk i0;rcases li with ⟨rfl,_⟩ | ⟨b0,rfl,hc,_⟩
   ·clear D i0;walk_at "";by_cases z:0<i
    ·obtain⟨X,e5,rfl | ⟨_,_,_,e6,_⟩⟩:=aj.out z
     ·rw[if_pos (F_ (by omega)),e5];exact G.out _
     cases e6
    rw[if_neg (i0'.out z)];exact G.out _
   obtain⟨c1,c2,c3⟩:=hc.in D.out;have c1':=Box.mk c1;unfold Eb at c2;have c2':=Box.mk c2;clear D hc c1 c2 i0;walk_at "";refine⟨fun z=>by have:=U_ List.length z;rw[g_,Xn] at this;omega,fun M hM _=>?_⟩;obtain⟨t,ht,rfl⟩:=x_.mp hM;rw[if_neg (by simpa using c1'.out t ht)];refine⟨.inl ⟨by omega,by omega⟩,?_⟩;rw[if_neg (by simpa using c2'.out)];by_cases z:0<i
   ·obtain⟨X,e5,h⟩:=aj.out z;rw[if_pos (F_ (by omega)),e5];rcases h with rfl | ⟨b1,c,rfl,e6,hcb⟩
    ·exact G.out _
    cases e6;have hd:decide (b1<b0)=false:=A_ (by omega);walk_at "";exact G.out _
   rw[if_neg (i0'.out z)];exact G.out _
  have L:=Box.mk U;clear U hR6;rcases id l0 with ⟨rfl,_⟩ | ⟨b0,rfl,_⟩
  ·clear l0 e0;walk_at "";exact L.out
  have e2:=l0.first D.out;unfold Eb at e2;clear l0 e0;walk_at "";exact L.out
 have J:=Box.mk key;clear key hR1 k';walk_at "";refine⟨by decide,fun p hp=>?_⟩;have nap:a≠p:=bh ga hp;have pa:=Ih ns;have w1:=(w0.new (o:=.lst []) hp).tl;have g1:up3 H4 p (.lst []) p=some (.lst []):=aB;have g2:up3 H4 p (.lst []) a=some (.rol (ns.map T.int)):=by rw[aD nap];exact ga
 generalize up3 H4 p (.lst [])=H5 at w1 g1 g2 ⊢;clear w0 hp ga;walk_at "";refine⟨by first | trivial | exact nap,by first | trivial | exact pa,by first | trivial | rfl,?_⟩;cases ns with
 |nil=>rw[if_neg (by simp)];exact J.out false H5 w1
 |cons z r =>
 rw[if_pos (by simp)];have key2:=Box.mk (J.out (decide (z / 2%8=5)) H5 w1);clear J g1 g2 pa;rw[B_];walk_at "";exact⟨⟨by decide,by decide⟩,by decide,key2.out⟩
theorem sU:FnScope ["works"] ["works"] (aA (top 32)):=bB
theorem sV {f:Addr}{x:FuncData}(g:G3 K mg "beats_of" (top 32) ["works"] f x) (B:Bl mg) (a:Cal P w K mg base 8 "least_beat" (top 31) ["works","many"] PQ):Cal P w K mg base 9 "beats_of" (top 32) ["works"] UJ:=by
 refine⟨f,x,g,?_⟩;refine fn3 g.fn sU (fun ts H Q h=>?_) (fun R A o s H E ts H3 Q M h=>?_)
 ·obtain⟨W,rfl,_⟩:=h;rfl
 obtain⟨W,rfl,G,I,r⟩:=h;refine⟨_,(au (aM (bG cT rfl B.tuple_ cH (aa (bL rfl (bW (n0:=(aA (top 32)).names) (N:=["works"]) (N':=["many","works"]) (nt:=1) (cap:=[0]) rfl rfl (by decide +kernel)) (nU rfl B.range_ (aa aq (aa (aH aZ (aV cj rfl B.len_ cu (aa (aJ ix3 (v3 0) aq) ak)) aq) ak))) (fun cl F s H C0 X=>⟨(aF (i:=0) (show List.Nodup [("many":Str),("works":Str)] by decide +kernel)),b7,(aK a M rfl (aa (v3 1) (aa (v3 0) ak)))⟩)) ak)))),?_⟩;rw[show aR ["works"] [W.enc]=[some (W.enc)] from rfl];have hsz:sizeLine=16777216:=rfl;have C:=Box.mk r;clear r;have Y:W.row.length<=8:=G.r8;walk_at "";refine⟨trivial,⟨by decide,by decide,by omega,by omega⟩,?_⟩;rw[show ((W.row.length:Int)+1 - 1).toNat=W.row.length by omega,show o9 1 [0] [some W.enc]=[none,some W.enc] from rfl];refine c7 (fun (i:Nat)=>T.int (1+(i:Int))) (List.range W.row.length) (fun A b m H=>∃v:Option T,m=[v,some W.enc]/\Sub3 H3 H/\b.length=A.length/\∀(i:Nat) (t:T),b[i]?=some t->Lb W (i+1) t) ⟨_,rfl,Sub3.refl,rfl,fun i t e=>by simp at e⟩ ?_ ?_
 ·rintro b m H' ⟨v,rfl,sb,k,q⟩;rw[o_] at k;exact⟨trivial,by omega,fun p L=>Fin3.of (sb.trans (Sub3.new L)) (C.out b k q)⟩
 rintro A j B b m H' N e ⟨v,rfl,sb,k,q⟩ y;refine⟨trivial,?_⟩;have S:A.length<W.row.length:=by have:=U_ List.length e;simp only[a_,i_,o_] at this;omega
 have O:j=A.length:=by
  have D:(List.range W.row.length)[A.length]?=some j:=by rw[e,M_ (j_ _)];simp
  rw[XD S] at D;exact (We D).symm
 subst O;have l:=Box.mk y;clear y e C;walk_at "";refine⟨W,A.length+1,by rw[show (1:Int)+(A.length:Int)=((A.length+1:Nat):Int) by push_cast;omega],G,I,by omega,fun Z t J V=>?_⟩;refine⟨by omega,l.out _ _ _ ⟨_,rfl,sb.trans J,by simp [k],fun i u d=>?_⟩⟩;by_cases c:i<b.length
 ·rw[Wb c] at d;exact q i u d
 rw[M_ (by omega)] at d;have U:i - b.length=0:=by
  cases z:i - b.length with
  |zero=>rfl
  |succ n=>rw[z] at d;simp at d
 rw[U] at d;cases d;rw[show i=A.length by omega];exact V
abbrev jt:List Str:=["works","many","loads","low","high","middle"]
theorem sc_least_beat:FnScope jt ["works","many"] (aA (top 31)):=bB
theorem mW {f:Addr}{V:FuncData}(g:G3 K mg "least_beat" (top 31) ["works","many"] f V) (B:Bl mg) (b:Cal P w K mg base 1 "loads_rising" (top 30) ["works"] Uz) (a:Cal P w K mg base 7 "dealing_to" (top 28) ["works","beat","many"] Uy):Cal P w K mg base 8 "least_beat" (top 31) ["works","many"] PQ:=by
 refine⟨f,V,g,?_⟩;refine fn3 g.fn sc_least_beat (fun ts H Q h=>?_) (fun cdv A J s H E ts H3 Q u h=>?_)
 ·obtain⟨W,m,rfl,_⟩:=h;rfl
 obtain⟨W,m,rfl,y,h5,F,U⟩:=h;refine⟨_,(ao (aG (i:=2) sc_least_beat.nd (aK b u rfl (aa (v3 0) ak)))
   (ao (bV (aW BW (aK a u rfl (aa (v3 0) (aa (aJ ix3 (v3 2) (uJ aq)) (aa (v3 1) ak)))) gH) (au (aM gH)) bu)
   (ao (aG (i:=3) sc_least_beat.nd aq)
   (ao (aG (i:=4) sc_least_beat.nd (aH iM (aV cj rfl B.len_ cu (aa (v3 2) ak)) aq))
   (ao (jc K_ (aW nZ (v3 3) (v3 4)) (ao (aG (i:=5) sc_least_beat.nd (aH dU (aH aZ (v3 3) (v3 4)) aq))
    (au (bV (aW BW (aK a u rfl (aa (v3 0) (aa (aJ ix3 (v3 2) (v3 5)) (aa (v3 1) ak)))) gH) (au (aG (i:=3) sc_least_beat.nd (aH aZ (v3 5) aq))) (au (aG (i:=4) sc_least_beat.nd (v3 5)))))))
   (au (aM (aJ ix3 (v3 2) (v3 3))))))))),?_⟩
 rw[show aR jt [W.enc,T.int (m:Int)]=[some (W.enc),some (T.int (m:Int)),none,none,none,none] from rfl];have hsz:sizeLine=16777216:=rfl;have D:=Box.mk U;clear U;refine aC fun R0 hR0=>?_;walk_at "";refine⟨W,rfl,y,h5,fun H4 p us sb u gp=>?_⟩;have hl:=ql W.tasks;have hne:0<us.length:=by
  obtain⟨i,k,_⟩:=WF ((u.2 0).mpr ((show ∀ts,(0:Int)∈alD ts from fun ts=>by
   refine snoc_ind (C:=fun ts=>(0:Int)∈alD ts) (h_.mpr rfl) (fun A t ih=>?_) ts
   rw[jq]
   exact Wn _ ih) W.tasks))
  omega
 walk_at "n";obtain⟨j,ej⟩:∃j,j+1=us.length:=⟨us.length - 1,by omega⟩;have Z:j<us.length:=by omega
 have at1:atI (us.map T.int) (-1)=some (.int us[j]):=by have X:=Wg j us;rw[W0 Z,W3 (by omega)] at X;have e3:=U_ (List.map T.int) X;rw[y_] at e3;rw[<- e3];exact zR _ _
 have l:=Box.mk u;clear u;refine aC fun R1 hR1=>?_;walk_at "";refine⟨W,us[j],m,rfl,y,F,?_⟩;rcases DX (beat:=us[j]) y F with ⟨q,v⟩ | ⟨⟨xs,q⟩,v⟩
 ·rw[q,if_pos (show isN .non=true from rfl)];exact Fin3.of Sub3.refl (D.out H4 .non sb (Ja l.out ej v))
 rw[q,if_neg (show ¬isN (.tup xs)=true from m_)];clear q at1;walk_at "n";refine aC fun R2 hR2=>?_;walk_at "";walk_at "n";refine aC fun R3 hR3=>?_;walk_at "";walk_at "n";rw[show ((us.length:Int) - 1)=(j:Int) by omega];refine aC fun R4 x=>?_;refine⟨fun n S H=>∃(e k:Nat) (v5:Option T) (G:k<us.length),S=[some W.enc,some (.int (m:Int)),some (.ref p),some (.int (e:Int)),some (.int (k:Int)),v5]/\H=H4/\e<=k/\n=k - e/\Can W m us[k]/\∀i (k:i<us.length),i<e->¬Can W m us[i],⟨_,0,j,_,Z,rfl,rfl,by omega,rfl,v,fun i _ h=>absurd h (Nat.not_lt_zero _)⟩,?_⟩;rintro n S H ⟨e,k,v5,G,rfl,rfl,hlh,rfl,ch,z⟩;obtain⟨d,Y⟩:∃d:Nat,d=(e+k) / 2:=⟨_,rfl⟩;have ed:((e:Int)+(k:Int)) / 2=(d:Int):=by omega
 have at2:∀i (h:i<us.length),atI (us.map T.int) (i:Int)=some (.int us[i]):=fun i h=>bD (by rw[J_,d_ h];rfl);have o:=x;clear x;by_cases c:e<k
 ·have r:d<us.length:=by omega
  have hd1:e<=d:=by omega
  have hd2:d<k:=by omega
  clear Y;have at3:=at2 d r;have cd:Aj ((e:Int)+(k:Int)) 2:=⟨by omega,by decide +kernel⟩;have I:=Box.mk ch;have N:=Box.mk z;have R:=Box.mk at2;have c':decide ((e:Int)<(k:Int))=true:=F_ (by omega);have M:=l;clear ch z at2 D l o;walk_at "";refine⟨by first | trivial | exact cd,W,us[d],m,rfl,y,F,?_⟩;rcases DX (beat:=us[d]) y F with ⟨q,v⟩ | ⟨⟨xs,q⟩,v⟩
  ·rw[q,if_pos (show isN .non=true from rfl)];refine⟨k - (d+1),by omega,d+1,k,_,G,by push_cast;rfl,rfl,by omega,rfl,I.out,fun i L hlt hx=>v (hx.mono (vm M.out.1 L r (by omega)))⟩
  rw[q,if_neg (show ¬isN (.tup xs)=true from m_)];exact⟨d - e,by omega,e,d,_,r,rfl,rfl,by omega,rfl,v,N.out⟩
 obtain rfl:e=k:=by omega
 have c':decide ((e:Int)<(e:Int))=false:=A_ (by omega);have at3:=at2 e G;have O:=Box.mk (D.out H _ sb (Jb l.out G ch z));clear at2 ch z D l ed Y;walk_at "";obtain⟨o⟩:=o;subst o;try dsimp only
 walk_at "";exact Fin3.of Sub3.refl O.out
abbrev d9:List Str:=["works","loads","name","length","kinds"]
theorem sc_loads_rising:FnScope d9 ["works"] (aA (top 30)):=bB
theorem j0 {f:Addr}{L:FuncData}(g:G3 K mg "loads_rising" (top 30) ["works"] f L) (B:Bl mg):Cal P w K mg base 1 "loads_rising" (top 30) ["works"] Uz:=by
 refine⟨f,L,g,?_⟩;refine fn3 g.fn sc_loads_rising (fun ts H Q h=>?_) (fun cdv A z s H E ts H3 Q hr h=>?_)
 ·obtain⟨W,rfl,_⟩:=h;rfl
 obtain⟨W,rfl,hW,U,J⟩:=h;refine⟨_,(ao (aG (i:=1) sc_loads_rising.nd (bI (aa aq ak)))
   (ao (bA K_ rfl (dO (aJ ix3 (v3 0) aq)) (dN (n:=3) rfl (aO (aF (i:=2) sc_loads_rising.nd) (aO (aF (i:=3) sc_loads_rising.nd) (aO (aF (i:=4) sc_loads_rising.nd) cW)))) (au (aG (i:=1) sc_loads_rising.nd (aH aZ (v3 1) (bL rfl (bW (n0:=(aA (top 30)).names) (N:=d9) (N':=["load","length"]) (nt:=1) (cap:=[3]) rfl rfl (by decide +kernel)) (cL (v3 1)) (fun cl R s H C0 fp=>⟨(aF (i:=0) (show List.Nodup [("load":Str),("length":Str)] by decide +kernel)),b7,(aH aZ (v3 0) (v3 1))⟩))))))
   (au (aM (yW rfl rfl B.sorted_ rfl B.set_ (v3 1)))))),?_⟩
 rw[show aR d9 [W.enc]=[some (W.enc),none,none,none,none] from rfl];have hsz:sizeLine=16777216:=rfl;have O:=Box.mk J;clear J;refine aC fun R0 S=>?_;walk_at "";refine⟨by decide,fun m d=>?_⟩;have b:Sub3 H3 (up3 H3 m (.lst [T.int 0])):=Sub3.new d;have D:up3 H3 m (.lst [T.int 0]) m=some (.lst ((alD []).map T.int)):=aB;generalize up3 H3 m (.lst [T.int 0])=H4 at b D ⊢;clear d;walk_at "n";refine aC fun R1 F=>?_;walk_at "";refine bf tkT W.tasks (fun A u H=>∃(q:Addr) (c v3 a:Option T),u=[some W.enc,some (.ref q),c,v3,a]/\Sub3 H3 H/\H q=some (.lst ((alD A).map T.int))) ⟨m,_,_,_,rfl,b,D⟩ ?_ ?_
 ·rintro u H ⟨q,c,v3,a,rfl,sb,o⟩;refine⟨trivial,?_⟩;have hl:=ql W.tasks;have C:2^W.tasks.length<=2^8:=Yi (by decide) U;generalize alD W.tasks=I at *;walk_at "n";walk_at "";refine⟨by omega,fun us V p Z=>?_⟩;exact Fin3.of Sub3.refl (O.out _ p us (sb.trans (Sub3.new Z)) V aB)
 rintro A ⟨x,y,ks⟩ B u H N e ⟨q,c,v3,a,rfl,sb,o⟩ M;refine⟨trivial,?_⟩;have hA:A.length<8:=by have:=U_ List.length e;simp only[a_,i_] at this;omega
 have hl:=ql A;have C:2^A.length<=2^8:=Yi (by decide) (by omega);have l:Box (∀(r:Addr) (H':Hp3) c v3 a,Sub3 H3 H'->H' r=some (.lst ((alD A).map T.int++((alD A).map (·+y)).map T.int))->N [some W.enc,some (.ref r),c,v3,a] H'):=⟨fun r H' c v3 a X Y=>M _ _ ⟨r,c,v3,a,rfl,X,by rw[Y,jq];unfold alS;rw[y_]⟩⟩;clear M e O F b D;generalize alD A=I at *;simp only[tkT];walk_at "";refine⟨trivial,?_⟩;walk_at "c";refine cI T.int (fun i=>T.int (i+y)) I [some (.int y)] (.inl o) (by omega) (fun i hi Q' j=>?_) (fun pc k=>?_)
 ·have v:=Box.mk j;clear j l;walk_at "";exact v.out
 have G:q≠pc:=bh o k;rw[aD G,o,jF];refine⟨by rw[g_,g_];omega,fun pq t=>?_⟩;exact l.out pq _ _ _ _ ((sb.trans (Sub3.new k)).trans (Sub3.new t)) (by rw[aB,WQ];rfl)
theorem V9 {X:Cx}(i:Nat) {x:Str}{b a h:Pos}{k v:Expr}{tk c:TE3}(l:X.N.Nodup) (e:PE3 X k tk) (j:PE3 X v c) (d:X.N[i]?=some x) (f:Loc X.env.scope x) (g:X.fn x=true\/X.env.scope.names.lookup x=some .local):PS3 X (.Assign [.Name x a] (.Dict [some k] [v] h) b) (vY (pO tk c) (dZ i)):=aG l (yO e j) d f rfl g
abbrev ju:List Str:=["works","beat","many","walk","ways","stand"]
theorem sc_dealing_to:FnScope ju ["works","beat","many"] (aA (top 28)):=bB
theorem mZ {f:Addr}{fd:FuncData}(g:G3 K mg "dealing_to" (top 28) ["works","beat","many"] f fd) (B:Bl mg) {c:Addr}(l:InsC K c ["works","beat","rules","whole"]) (t:MkC P w K mg base c 5 "Walk" ["self","works","beat"] (Ur c)) (d:Cal P w K mg base 5 "ways_behind" (top 27) ["walk","stand","ways"] (Ux c)) (k:MtC P w K mg base c 2 "dealing_of" ["self","fillings"] (Ut c)):Cal P w K mg base 7 "dealing_to" (top 28) ["works","beat","many"] Uy:=by
 refine⟨f,fd,g,?_⟩;refine fn3 g.fn sc_dealing_to (fun ts H Q h=>?_) (fun cdv A outer s H E ts H3 Q U h=>?_)
 ·obtain⟨W,beat,m,rfl,_⟩:=h;rfl
 have R:=Room.u1 U;obtain⟨W,beat,m,rfl,D,hm,kk⟩:=h;refine⟨_,(ao (aG (i:=3) sc_dealing_to.nd (G8 t (U.mono (by decide)) rfl (aa (v3 0) (aa (v3 1) ak))))
   (@ao _ _ _ _ _ (@V9 _ 4 _ _ _ _ _ _ _ _ sc_dealing_to.nd aq (cA ak) rfl (by first | exact Or.inl rfl | exact Or.inr rfl) (by first | exact .inl rfl | exact .inr rfl | assumption))
   (ao (bA K_ rfl (aU rfl B.range_ (aa (v3 2) ak)) (aF (i:=5) sc_dealing_to.nd) (au (aG (i:=4) sc_dealing_to.nd (aK d U rfl (aa (v3 3) (aa (v3 5) (aa (v3 4) ak)))))))
   (ao (bV (uN R (gM l (v3 3)) (v3 4)) (au (aM gH)) bu)
   (au (aM (pQ k (U.mono (by decide)) (v3 3) (aa (Ci R (v3 4) (gM l (v3 3))) ak)))))))),?_⟩
 rw[show aR ju [W.enc,T.int beat,T.int (m:Int)]=[some (W.enc),some (T.int beat),some (T.int (m:Int)),none,none,none] from rfl];have hsz:sizeLine=16777216:=rfl;have V:=Box.mk kk;clear kk;have t1:=lV W;have r8:W.row.length<=8:=D.r8;refine aC fun R0 hR0=>?_;walk_at "";intro a Y;refine⟨a,W,beat,rfl,D,aB,fun X kp C=>⟨rfl,?_⟩⟩;have sb:Sub3 H3 X:=fun b u I=>kp b u (bh I Y) (by rw[aD (bh I Y)];exact I);clear kp Y;walk_at "n";refine aC fun R1 hR1=>?_;walk_at "";intro L r;refine⟨by decide,trivial,?_⟩;have e0:([(0,T.tup [])]:List (Int × T))=dI wyT (wys W beat 0):=rfl;rw[e0];have n:Sub3 H3 (up3 X L (.dci (dI wyT (wys W beat 0)))):=sb.trans (Sub3.new r);have x:=C.sub (Sub3.new (o:=.dci (dI wyT (wys W beat 0))) r);have y:up3 X L (.dci (dI wyT (wys W beat 0))) L=some (.dci (dI wyT (wys W beat 0))):=aB;have hq3:=du sb r;generalize up3 X L (.dci (dI wyT (wys W beat 0)))=H5 at n y x ⊢;clear e0 r sb C;walk_at "n";refine aC fun R2 hR2=>?_;walk_at "";refine⟨trivial,by omega,by omega,?_⟩;rw[gQ];refine bf (fun (j:Nat)=>T.int (j:Int)) (List.range m) (fun A σ H=>∃(q:Addr) (v5:Option T),σ=[some W.enc,some (.int beat),some (.int (m:Int)),some (.ref a),some (.ref q),v5]/\Sub3 H3 H/\H3 q=none/\Wlk c W beat H a/\H q=some (.dci (dI wyT (wys W beat A.length)))) ⟨L,_,rfl,n,hq3,x,y⟩ ?_ ?_
 ·rintro σ H ⟨q,v5,rfl,sb,hq,C,M⟩;refine⟨trivial,?_⟩;rw[o_] at M;walk_at "n";obtain⟨pw,gw,_⟩:=C.ex;have f4:=sO (W:=W) (beat:=beat) (p:=pw);have lm:=Dw (W:=W) (beat:=beat) (p:=pw) (m:="dealing_of") (by decide +kernel);have J:=qg wyT (top2 W - 1) (wys W beat m);have ec:((top2 W - 1:Nat):Int)=(top2 W:Int) - 1:=by omega
  rw[ec] at J;have G:=V.out;unfold dtT at G;have F:=wtb (W:=W) (beat:=beat) D hm;clear n x y;refine aC fun R3 hR3=>?_;cases S:dz (top2 W - 1) (wys W beat m) with
  |none=>rw[S] at J G;rw[Option.map_none] at J;have k3:=Box.mk G;clear V G hR3 F;walk_at "";simp only[Option.isSome_none,Xm,if_true];exact Fin3.of sb k3.out
  |some v =>
  obtain⟨_,O,hb3⟩:=(F.wok D).lt _ (ir S);have hb4:v.length<=m:=O;clear O;rw[S] at J G;rw[Option.map_some] at J;simp only[wyT] at J;have k3:=Box.mk G;clear V G F S;generalize wys W beat m=E at *;walk_at "";simp only[Option.isSome_some,WX,H_,Wl];walk_at "n";walk_at "";refine⟨by first | trivial | exact lm,a,W,beat,v,rfl,D,C,by omega,hb3,?_⟩;exact Fin3.of sb k3.out
 rintro A j B σ H N e ⟨q,v5,rfl,sb,hq,C,M⟩ hN;refine⟨trivial,?_⟩;have hA:A.length<m:=by have:=U_ List.length e;simp only[a_,i_,o_] at this;omega
 have hj:j=A.length:=by
  have h1:(List.range m)[A.length]?=some j:=by rw[e,M_ (j_ _)];simp
  rw[XD hA] at h1;exact (We h1).symm
 subst hj;have Z:=Box.mk hN;clear hN e V hR2 n x y;walk_at "";refine⟨a,q,W,beat,A.length,A.length,wys W beat A.length,rfl,D,C,by omega,by omega,(wtb D (by omega)).wok D,M,fun o p2 z=>?_⟩;have nq2:q≠p2:=bh M z;have hwf:=C.frz (o:=.dif o (dI wyT (wys W beat A.length))) M;refine Z.out _ _ ⟨p2,_,rfl,fun b u I=>?_,du sb ?_,hwf.sub (Sub3.new (by rw[aD (Ne.symm nq2)];exact z)),?_⟩
 ·rw[aD (bh (sb b u I) ?_),aD (bh I hq)]
  ·exact sb b u I
  exact z
 ·exact z
 rw[aB,a_];rfl
abbrev iC:List Str:=["walk","stand","ways","behind","done","fillings","filling"]
theorem sc_ways_behind:FnScope iC ["walk","stand","ways"] (aA (top 27)):=bB
theorem lZ {f:Addr}{fd:FuncData}(g:G3 K mg "ways_behind" (top 27) ["walk","stand","ways"] f fd) (B:Bl mg) {c:Addr}(I_Walk:InsC K c ["works","beat","rules","whole"]) (j:MtC P w K mg base c 4 "greatest_at" ["self","stand","done"] (Uw c)):Cal P w K mg base 5 "ways_behind" (top 27) ["walk","stand","ways"] (Ux c):=by
 refine⟨f,fd,g,?_⟩;refine fn3 g.fn sc_ways_behind (fun ts H Q h=>?_) (fun cdv A outer s H E ts H3 Q hr h=>?_)
 ·obtain⟨a,q,W,beat,k,n,E,rfl,_⟩:=h;rfl
 obtain⟨a,q,W,beat,k,n,E,rfl,hW,hw,hk,hn,hE,hq,kk⟩:=h;refine⟨_,(ao (aG (i:=3) sc_ways_behind.nd Ce)
   (ao (bA K_ rfl (Cq (v3 2)) (dN (n:=2) rfl (aO (aF (i:=4) sc_ways_behind.nd) (aO (aF (i:=5) sc_ways_behind.nd) cW))) (au (bA K_ rfl (cL (pQ j (hr.mono (by decide)) (v3 0) (aa (v3 1) (aa (v3 4) ak)))) (aF (i:=6) sc_ways_behind.nd) (au (bY (G7 (v3 3) (aH aZ (v3 4) (v3 6)) (aH aZ (v3 5) (cA (aa (v3 6) ak)))))))))
   (au (aM (v3 3))))),?_⟩
 rw[show aR iC [T.ref a,T.int (k:Int),T.ref q]=[some (T.ref a),some (T.int (k:Int)),some (T.ref q),none,none,none,none] from rfl];have hsz:sizeLine=16777216:=rfl;have k':=Box.mk kk;clear kk;have t2:=qe hW;have hE':=Box.mk hE;clear hE;refine aC fun R0 hR0=>?_;walk_at "";intro l X;have x:q≠l:=bh hq X;walk_at "n";refine aC fun R1 hR1=>?_;have gq:up3 H3 l (.dci []) q=some (.dci (dI wyT E)):=by rw[aD x];exact hq
 walk_at "";intro o;rw[Uu];have hw0:Wlk c W beat (up3 H3 q (.dif o (dI wyT E))) a:=hw.frz hq;have g0:up3 H3 q (.dif o (dI wyT E)) q=some (.dif o (dI wyT E)):=aB;have n0:up3 H3 q (.dif o (dI wyT E)) l=none:=by rw[aD (Ne.symm x)];exact X
 have V:Kb1 l (up3 H3 q (.dif o (dI wyT E))) (up3 (up3 H3 l (.dci [])) q (.dif o (dI wyT E))):=fun b u hb h=>by
  by_cases e:b=q
  ·subst e;rw[aB] at h ⊢;exact h
  rw[aD e] at h ⊢;rw[aD hb];exact h
 have M:up3 (up3 H3 l (.dci [])) q (.dif o (dI wyT E)) l=some (.dci (dI wyT [])):=by rw[aD (Ne.symm x),aB];rfl
 have k2:=Box.mk (k'.out o l X);generalize up3 (up3 H3 l (.dci [])) q (.dif o (dI wyT E))=H4 at V M ⊢;generalize up3 H3 q (.dif o (dI wyT E))=H0 at *;clear k' gq hq hw;refine bf wyE E (fun A R H=>∃(v4 v5 r:Option T),R=[some (.ref a),some (.int (k:Int)),some (.ref q),some (.ref l),v4,v5,r]/\Kb1 l H0 H/\H l=some (.dci (dI wyT (A.foldl (wbF W beat k) [])))/\WOk W (n+1) (A.foldl (wbF W beat k) [])) ⟨_,_,_,rfl,V,M,⟨Zt,fun _ z=>(nomatch z)⟩⟩ ?_ ?_
 ·rintro R H ⟨v4,v5,r,rfl,v,G,_⟩;refine⟨v q _ x g0,?_⟩;walk_at "n";walk_at "";refine Fin3.of (fun b u hb=>?_) k2.out;by_cases e:b=l
  ·subst e;rw[aB] at hb;rw[G,<- hb];rfl
  rw[aD e] at hb;exact v b u e hb
 rintro A e B R H N eE ⟨v4,v5,r,rfl,v,G,hB⟩ hN;refine⟨v q _ x g0,?_⟩;obtain⟨ed,el,et⟩:=hE'.out.lt e (by rw[eE];simp);have d:(A++[e]).foldl (wbF W beat k) []=wbF W beat k (A.foldl (wbF W beat k) []) e:=by rw[Zw];rfl
 have O:=Box.mk hN;clear hN eE hR1 k2 V M;rw[d] at O;generalize A.foldl (wbF W beat k) []=B0 at *;clear d;simp only[wyE];walk_at "";have L:=v.wlk n0 hw0;obtain⟨pw,gw,_⟩:=L.ex;have lm:=Dw (W:=W) (beat:=beat) (p:=pw) (m:="greatest_at") (by decide +kernel);refine⟨trivial,?_⟩;try rw[gw,Kd]
 refine⟨lm,a,W,beat,k,e.1,rfl,hW,L,hk,ed,fun I U=>?_⟩;have npf:l≠I:=bh G U;have flen:(gfl W beat k e.1).length<=256:=by have:=qj bJ (fls W beat k e.1);have h2:(fls W beat k e.1).length<=256:=Wc (Ww _ _) (by rw[o_];exact t2);unfold gfl;rw[Xg];omega
 have Z:Kb1 l H0 (up3 H I (.lst ((gfl W beat k e.1).map bF))):=v.new U;have S:up3 H I (.lst ((gfl W beat k e.1).map bF)) l=some (.dci (dI wyT B0)):=by rw[aD npf];exact G
 have Y:up3 H I (.lst ((gfl W beat k e.1).map bF)) I=some (.lst ((gfl W beat k e.1).map bF)):=aB;generalize up3 H I (.lst ((gfl W beat k e.1).map bF))=H5 at Z S Y ⊢;clear v G L gw lm U;try walk_at ""
 refine bf bF (gfl W beat k e.1) (fun A2 R H=>∃(r:Option T),R=[some (.ref a),some (.int (k:Int)),some (.ref q),some (.ref l),some (.int (e.1:Int)),some (wyT e.2),r]/\Kb1 l H0 H/\H I=some (.lst ((gfl W beat k e.1).map bF))/\H l=some (.dci (dI wyT (A2.foldl (iy e.1 e.2) B0)))/\WOk W (n+1) (A2.foldl (iy e.1 e.2) B0)) ⟨_,rfl,Z,Y,S,hB⟩ ?_ ?_
 ·rintro R H ⟨r,rfl,v,gf,G,C⟩;refine⟨.inl gf,?_⟩;exact O.out _ _ ⟨_,_,_,rfl,v,G,C⟩
 rintro A2 f B2 R H N eF ⟨r,rfl,v,gf,G,C⟩ hN2;refine⟨.inl gf,?_⟩;have hf:f∈fls W beat k e.1:=qi (by rw[eF];simp);have d:(A2++[f]).foldl (iy e.1 e.2) B0=iy e.1 e.2 (A2.foldl (iy e.1 e.2) B0) f:=by rw[Zw];rfl
 have hB3:=C.stp hW ed el et hf;have hlen:=C.len;have y:=Box.mk hN2;clear hN2 eF O Z Y S hB;rw[d] at y;generalize A2.foldl (iy e.1 e.2) B0=F at *;clear d;have D:Box (∀(r:Option T) (H':Hp3),Kb1 l H0 H'->H' I=some (.lst ((gfl W beat k e.1).map bF))->H' l=some (.dci (dI wyT (iy e.1 e.2 F f)))->N [some (.ref a),some (.int (k:Int)),some (.ref q),some (.ref l),some (.int (e.1:Int)),some (wyT e.2),r] H'):=⟨fun r H' h1 h2 h3=>y.out _ _ ⟨r,rfl,h1,h2,h3,hB3⟩⟩;clear y hB3;have lk:=qg wyT (e.1+f) F;have pt:=PN wyT (e.1+f) (e.2++[f]) F;have dl:=PL wyT F;have J:wyT (e.2++[f])=.tup (e.2.map bF++[.int (f:Int)]):=by unfold wyT;rw[y_];rfl
 have ec:((e.1+f:Nat):Int)=(e.1:Int)+(f:Int):=by push_cast;rfl
 rw[J,ec] at pt;rw[ec] at lk;have hst:iy e.1 e.2 F f=match dz (e.1+f) F with
   |none=>putN (e.1+f) (e.2++[f]) F
   |some _=>F:=rfl
 have t:=Box.mk hst;clear hst;try simp only[wyT,bF] at pt
 simp only[wyT,bF];cases el2:dz (e.1+f) F with
 |none =>
  rw[el2] at lk t;rw[Option.map_none] at lk;have yes:=Box.mk (fun r=>D.out r _ v.put (by rw[aD (Ne.symm npf)];exact gf) (by rw[aB,t.out,<- pt]));try simp only[wyT,bF] at yes
  clear D pt J;walk_at "";exact⟨trivial,by omega,by omega,by omega,yes.out _⟩
 |some u =>
 rw[el2] at lk t;rw[Option.map_some] at lk;have no:=Box.mk (fun r=>D.out r H v gf (by rw[t.out];exact G));try simp only[wyT,bF] at no
 clear D pt J;walk_at "";exact⟨trivial,by omega,by omega,by omega,no.out _⟩
abbrev cC:List Str:=["self","stand","done"]
theorem mj:FnScope cC cC (aA (topm 25 2)):=bB
theorem mq {f:Addr}{x:FuncData}{c:Addr}(g:GM K c "greatest_at" "Walk.greatest_at" (topm 25 2) cC f x) (B:Bl mg) (q:InsC K c ["works","beat","rules","whole"]) (i:Cal P w K mg base 2 "greatest_numbers" (top 22) ["numbers"] Uv) (j:MtC P w K mg base c 3 "fillings_at" cC (Us c)):MtC P w K mg base c 4 "greatest_at" cC (Uw c):=by
 refine⟨g.cls,f,x,g.mt,g.b,?_⟩;refine fn3 g.fn mj (fun ts H Q h=>?_) (fun O A t s H E ts H3 Q z h=>?_)
 ·obtain⟨a,W,beat,k,d,rfl,_⟩:=h;rfl
 obtain⟨a,W,beat,k,d,rfl,D,y,I,M,v⟩:=h;refine⟨_,(au (aM (aK i z rfl (aa (pQ j (z.mono (by decide)) (v3 0) (aa (v3 1) (aa (v3 2) ak))) ak)))),?_⟩;rw[show aR cC [T.ref a,T.int (k:Int),T.int (d:Int)]=[some (T.ref a),some (T.int (k:Int)),some (T.int (d:Int))] from rfl];have hsz:sizeLine=16777216:=rfl;have N:=Box.mk v;clear v;have J:=qe D;obtain⟨G,R,_⟩:=y.ex;have F:=Dw (W:=W) (beat:=beat) (p:=G) (m:="fillings_at") (by decide +kernel);walk_at "";refine⟨by first | trivial | exact F,a,W,beat,k,d,rfl,D,y,I,M,fun C u=>?_⟩;have l:(fls W beat k d).length<=256:=Wc (Ww _ _) (by rw[o_];exact J);refine⟨C,fls W beat k d,rfl,aB,l,fun p L=>?_⟩;have n:Sub3 H3 (up3 H3 C (.lst ((fls W beat k d).map bF))):=Sub3.new u;refine Fin3.of ?_ (N.out p (du n L));intro b o r;by_cases e:b=p
 ·subst e;rw[aB] at r ⊢;exact r
 rw[aD e] at r ⊢;exact n b o r
def P0:Sp3:=fun ts H Q=>∃W:Wk,ts=[W.enc]/\WkOk W/\∀p,H p=none->Q (.ref p) (up3 H p (.lst ((lkW ["with"] W).map orT)))
def Qa:Sp3:=fun ts H Q=>∃(x:T) (L:List (Str × Str)) (s:Str),ts=[x,.str s]/\((∃a,x=.ref a/\H a=some (.lst (L.map orT)))\/x=.tup (L.map orT))/\L.length<=100 /\
 ∀(p:Addr) (kvs:List (Str × T)),H p=none->(∀z,(aP z kvs).isSome=true↔RT (fun a b=>(a,b)∈L) s z)->Q (.ref p) (up3 H p (.dct kvs))
def Qc:Sp3:=fun ts H Q=>∃(W:Wk) (t:Str),ts=[W.enc,.str t]/\WkOk W/\∀(p:Addr) (kvs:List (Str × T)),H p=none->(∀z,(aP z kvs).isSome=true↔RT (lkR ["with"] W) t z)->Q (.ref p) (up3 H p (.dct kvs))
def Qd:Sp3:=fun ts H Q=>∃(W:Wk) (t:Str),ts=[W.enc,.str t]/\WkOk W/\∀(p:Addr) (kvs:List (Str × T)),H p=none->(∀z,(aP z kvs).isSome=true↔RT (lkR ["with"] W) z t)->Q (.ref p) (up3 H p (.dct kvs))
def UL:Sp3:=fun ts H Q=>∃(W:Wk) (a b:Addr) (c d:List (Str × T)),ts=[W.enc,.ref a,.ref b]/\WkOk W/\H a=some (.dct c)/\H b=some (.dct d)/\Q (sT ((W.tasks.map (·.1)).filter fun x=>(aP x c).isSome&&(aP x d).isSome)) H
def UT:Sp3:=fun ts H Q=>∃(W:Wk) (a b:Addr) (c d:List (Str × T)),ts=[W.enc,.ref a,.ref b]/\WkOk W/\H a=some (.dct c)/\H b=some (.dct d)/\Q (sT ((W.tasks.map (·.1)).filter fun x=>(aP x c).isSome&&!(aP x d).isSome)) H
def UV:Sp3:=fun ts H Q=>∃(W:Wk) (t:Str),ts=[W.enc,.str t]/\WkOk W/\Q (sT (fM W t)) H
def UW:Sp3:=fun ts H Q=>∃(W:Wk) (t:Str),ts=[W.enc,.str t]/\WkOk W/\Q (sT (iW W t)) H
abbrev my:List Str:=["works","links","word","one","other"]
theorem sc_links_of:FnScope my ["works"] (aA (top 2)):=bB
theorem sW {f:Addr}{C:FuncData}(g:G3 K mg "links_of" (top 2) ["works"] f C) (B:Bl mg):Cal P w K mg base 1 "links_of" (top 2) ["works"] P0:=by
 refine⟨f,C,g,?_⟩;refine fn3 g.fn sc_links_of (fun ts H Q h=>?_) (fun J A r s H E ts H3 Q I h=>?_)
 ·obtain⟨W,rfl,_⟩:=h;rfl
 have l:=Room.u30 I;obtain⟨⟨tk,c,prs,j⟩,rfl,x,k⟩:=h;refine⟨_,(ao (aG (i:=1) sc_links_of.nd (bG pG rfl B.list_ jf (aa (aJ ix3 (v3 0) aq) ak)))
   (ao (bA K_ rfl (dO (aJ ix3 (v3 0) aq)) (dN (n:=3) rfl (aO (aF (i:=2) sc_links_of.nd) (aO (aF (i:=3) sc_links_of.nd) (aO (aF (i:=4) sc_links_of.nd) cW)))) (au (bV (aW (dj l) (v3 2) gh) (ao (bY (dm Q_ S_ T_ bC (v3 1) (aa (cA (aa (v3 3) (aa (v3 4) ak))) ak)))
     (au (bY (dm Q_ S_ T_ bC (v3 1) (aa (cA (aa (v3 4) (aa (v3 3) ak))) ak))))) bu)))
   (au (aM (v3 1))))),?_⟩
 rw[show aR my [Wk.enc ⟨tk,c,prs,j⟩]=[some (T.tup [T.tup (tk.map tkT),T.tup (c.map orT),T.tup (prs.map prT),T.tup (j.map T.str)]),none,none,none,none] from rfl];have hsz:sizeLine=16777216:=rfl;have y:c.length<=28:=x.os;have z:prs.length<=12:=x.ps;walk_at "";intro p G;refine bf prT prs (fun A m H=>∃(v v3 q:Option T),m=[some (T.tup [T.tup (tk.map tkT),T.tup (c.map orT),T.tup (prs.map prT),T.tup (j.map T.str)]),some (.ref p),v,v3,q]/\H=up3 H3 p (.lst ((c++A.flatMap (lkP ["with"])).map orT))) ⟨none,none,none,rfl,by simp⟩ ?_ ?_
 ·rintro m H ⟨v,v3,q,rfl,rfl⟩;refine⟨trivial,?_⟩;walk_at "";exact Fin3.of Sub3.refl (k p G)
 rintro A ⟨w,a,b⟩ B m H N e ⟨v,v3,q,rfl,rfl⟩ D;have M:=qb ["with"] A;have O:A.length<=12:=by have:=U_ List.length e;simp only[a_,i_] at this;omega
 have u:(c++A.flatMap (lkP ["with"])).length<=52:=by rw[a_];omega
 have d:N [some (T.tup [T.tup (tk.map tkT),T.tup (c.map orT),T.tup (prs.map prT),T.tup (j.map T.str)]),some (.ref p),some (.str w),some (.str a),some (.str b)] (up3 H3 p (.lst ((c++A.flatMap (lkP ["with"])).map orT++(lkP ["with"] (w,a,b)).map orT))):=D _ _ ⟨_,_,_,rfl,by rw[List.flatMap_append,<- t_,y_];simp⟩;generalize c++A.flatMap (lkP ["with"])=L at d u;replace d:=Box.mk d;refine⟨trivial,?_⟩;clear D e k x M;simp only[prT];walk_at "";refine⟨trivial,?_⟩;by_cases t:w="with"
 ·subst t;have o:lkP ["with"] ("with",a,b)=[(a,b),(b,a)]:=by unfold lkP;simp
  rw[o] at d;try simp only[XS,if_true]
  refine⟨⟨trivial,trivial⟩,by omega,by omega,⟨trivial,trivial⟩,by omega,by simp;omega,?_⟩;have F:=d.out;simp only[B_,WW,orT] at F;rw[t_];exact F
 have o:lkP ["with"] (w,a,b)=[]:=by unfold lkP;simp [t]
 rw[o,WW,N_] at d;simp only[t,Xx,H_,Wl];exact d.out
abbrev oR:List Str:=["links","start","found","grown","one","other"]
theorem sc_reached:FnScope oR ["links","start"] (aA (top 3)):=bB
theorem vA {f:Addr}{fd:FuncData}(g:G3 K mg "reached" (top 3) ["links","start"] f fd) (B:Bl mg):Cal P w K mg base 1 "reached" (top 3) ["links","start"] Qa:=by
 refine⟨f,fd,g,?_⟩;refine fn3 g.fn sc_reached (fun ts H Q h=>?_) (fun cdv A outer s H E ts H3 Q hr h=>?_)
 ·obtain⟨x,L,s,rfl,_⟩:=h;rfl
 have J:=Room.u1 hr;obtain⟨x,L,t,rfl,hx,hL,k⟩:=h;refine⟨_,(ao (aG (i:=2) sc_reached.nd (Bj (v3 1) fH))
   (ao (aG (i:=3) sc_reached.nd fH)
   (ao (jc K_ (cP (v3 3)) (ao (aG (i:=3) sc_reached.nd fH)
    (au (bA K_ rfl (Gz 0) (dN (n:=2) rfl (aO (aF (i:=4) sc_reached.nd) (aO (aF (i:=5) sc_reached.nd) cW))) (au (bV (PW3.pt (cG (pJ J (v3 4) (v3 2)) (cJ (n8 J (v3 5) (v3 2))))) (ao (Gk J (v3 2) (v3 5) fH)
      (au (aG (i:=3) sc_reached.nd fH))) bu))))))
   (au (aM (v3 2)))))),?_⟩
 rw[show aR oR [x,T.str t]=[some (x),some (T.str t),none,none,none,none] from rfl];have hsz:sizeLine=16777216:=rfl;walk_at "";intro p hp;refine⟨trivial,?_⟩;rw[Ph];refine⟨fun m O H=>∃(F:List Str) (g:Bool) (C D:Option T),O=[some x,some (.str t),some (.ref p),some (.bl g),C,D]/\H=up3 H3 p (.dct (dF F))/\t∈F/\F.Nodup/\(∀z∈F,RT (fun a b=>(a,b)∈L) t z)/\(g=false->∀a b,(a,b)∈L->a∈F->b∈F)/\m=2*(L.length+1 - F.length)+(if g then 1 else 0),
  ⟨_,[t],true,none,none,rfl,rfl,q_,by simp,(fun z hz=>by rw[h_.mp hz];exact .refl),(fun z=>nomatch z),rfl⟩,?_⟩
 have d:∀F:List Str,F.Nodup->(∀z∈F,RT (fun a b=>(a,b)∈L) t z)->F.length<=L.length+1:=fun F S hF=>by
  have:=Dg (l:=F) (m:=t::L.map (·.2)) S fun z hz=>by
   cases hF z hz with
   |refl=>exact q_
   |step _ r=>exact z_ _ (x_.mpr ⟨_,r,rfl⟩)
  simpa using this
 rintro m O H ⟨F,g,C,D,rfl,rfl,hs,S,hR,hg,rfl⟩;walk_at "";cases g with
 |false=>simp only[H_,Wl];refine Fin3.of Sub3.refl (k p _ hp fun z=>?_);rw[kj,p_];exact⟨hR z,fun h=>TV hs (hg rfl) h⟩
 |true =>
  try simp only[if_true]
  have X:(∃a,x=.ref a/\up3 H3 p (.dct (dF F)) a=some (.lst (L.map orT)))\/x=.tup (L.map orT):=by
   rcases hx with ⟨a,rfl,e⟩ | e
   ·
    exact .inl ⟨a,rfl,by rw[aD (bh e hp)];exact e⟩
   ·
    exact .inr e
  refine Dj X fun still V=>?_
  have v:∀c,still (up3 H3 p (.dct (dF c))):=by
   rcases V with rfl | ⟨a,rfl,e⟩
   ·
    exact fun _=>trivial
   ·
    have R:a≠p:=fun z=>by subst z;rw[aB] at e;cases e
    rw[aD R] at e
    exact fun c=>.inl (by rw[aD R];exact e)
  refine bf orT L (fun A O H=>∃(c:List Str) (g':Bool) (C D:Option T),O=[some x,some (.str t),some (.ref p),some (.bl g'),C,D]/\H=up3 H3 p (.dct (dF c))/\t∈c/\c.Nodup/\(∀z∈c,RT (fun a b=>(a,b)∈L) t z)/\(g'=false->c=F/\∀o∈A,o.1∈F->o.2∈F)/\(g'=true->F.length<c.length)) ⟨F,false,C,D,rfl,rfl,hs,S,hR,fun _=>⟨rfl,(fun _ h=>nomatch h)⟩,(fun z=>nomatch z)⟩ ?_ ?_
  ·
   rintro O H ⟨c,g',C,D,rfl,rfl,u,q,j,W,U⟩
   refine⟨v c,?_⟩
   have b1:=d F S hR
   have b2:=d c q j
   cases g' with
   |true =>
    have:=U rfl
    exact⟨_,by simp only[if_true];omega,c,true,C,D,rfl,rfl,u,q,j,(fun z=>nomatch z),rfl⟩
   |false =>
    obtain⟨e,hc⟩:=W rfl
    subst e
    exact⟨_,by simp,c,false,C,D,rfl,rfl,u,q,j,fun _ a b G y=>hc (a,b) G y,rfl⟩
  ·
   rintro A ⟨a,b⟩ B O H N e ⟨c,g',C,D,rfl,rfl,u,q,j,W,U⟩ hN
   refine⟨v c,?_⟩
   have G:(a,b)∈L:=by rw[e];simp
   have b2:=d c q j
   have l1:=kj a c
   have l2:=kj b c
   have l3:=Pg c
   have Z:¬(a∈c/\b∉c)->N [some x,some (.str t),some (.ref p),some (.bl g'),some (.str a),some (.str b)] (up3 H3 p (.dct (dF c))):=fun hno=>hN _ _ ⟨c,g',_,_,rfl,rfl,u,q,j,fun hg'=>by
    obtain⟨e1,hc⟩:=W hg'
    subst e1
    refine⟨rfl,fun o Y=>?_⟩
    rcases u_.mp Y with Y | Y
    ·
     exact hc o Y
    ·
     rw[h_.mp Y]
     intro y
     exact Classical.byContradiction fun I=>hno ⟨y,I⟩,U⟩
   have M:a∈c->b∉c->N [some x,some (.str t),some (.ref p),some (.bl true),some (.str a),some (.str b)] (up3 H3 p (.dct (put3 b (T.bl true) (dF c)))):=fun y I=>by
    rw[Pb I]
    refine hN _ _ ⟨c++[b],true,_,_,rfl,rfl,Wn _ u,j6 q I,fun z hz=>?_,(fun z=>nomatch z),fun _=>?_⟩
    ·
     rcases u_.mp hz with hz | hz
     ·
      exact j z hz
     ·
      rw[h_.mp hz]
      exact .step (j a y) G
    ·
     rw[a_,L_]
     cases g' with
     |true=>have:=U rfl;omega
     |false=>obtain⟨e1,_⟩:=W rfl;subst e1;omega
   replace Z:=Box.mk Z
   replace M:=Box.mk M
   clear hN W U v V d k hx X hg hR j S q hs u e G
   simp only[orT]
   walk_at ""
   refine⟨trivial,?_⟩
   by_cases y:a∈c
   ·
    simp only[y,XS,if_true]
    by_cases I:b∈c
    ·
     simp only[I,XS,WX,H_,Wl]
     exact Z.out fun z=>z.2 I
    ·
     simp only[I,Xx,Xm,if_true]
     exact⟨by omega,M.out y I⟩
   ·
    simp only[y,Xx,H_,Wl]
    exact Z.out fun z=>y z.1
abbrev gW:List Str:=["works","task"]
theorem zq:FnScope gW gW (aA (top 4)):=bB
theorem zr {f:Addr}{l:FuncData}(g:G3 K mg "led_to" (top 4) gW f l) (B:Bl mg) (c:Cal P w K mg base 1 "reached" (top 3) ["links","start"] Qa) (b:Cal P w K mg base 1 "links_of" (top 2) ["works"] P0):Cal P w K mg base 2 "led_to" (top 4) gW Qc:=by
 refine⟨f,l,g,?_⟩;refine fn3 g.fn zq (fun ts H Q h=>?_) (fun r A i s H E ts H3 Q m h=>?_)
 ·obtain⟨W,t,rfl,_⟩:=h;rfl
 obtain⟨W,t,rfl,j,k⟩:=h;refine⟨_,(au (aM (aK c m rfl (aa (aK b m rfl (aa (v3 0) ak)) (aa (v3 1) ak))))),?_⟩;rw[show aR gW [W.enc,T.str t]=[some (W.enc),some (T.str t)] from rfl];walk_at "";refine⟨W,rfl,j,fun q u=>?_⟩;try dsimp only
 refine⟨_,lkW ["with"] W,t,rfl,.inl ⟨q,rfl,aB⟩,Wc (xK j) (by decide),fun p kvs d n=>?_⟩;obtain⟨v,d⟩:=b8 d;refine Fin3.of (fun a o e=>?_) (k p kvs d n);by_cases h:a=p
 ·subst h;rw[aB] at e ⊢;exact e
 rw[aD h] at e ⊢;rw[aD (bh e u)];exact e
abbrev dD:List Str:=["works","task"]
theorem sZ:FnScope dD dD (aA (top 5)):=bB
theorem tu {f:Addr}{F:FuncData}(g:G3 K mg "led_from" (top 5) dD f F) (B:Bl mg) (d:Cal P w K mg base 1 "reached" (top 3) ["links","start"] Qa) (c:Cal P w K mg base 1 "links_of" (top 2) ["works"] P0):Cal P w K mg base 2 "led_from" (top 5) dD Qd:=by
 refine⟨f,F,g,?_⟩;refine fn3 g.fn sZ (fun ts H Q h=>?_) (fun O A x s H E ts H3 Q m h=>?_)
 ·obtain⟨W,t,rfl,_⟩:=h;rfl
 obtain⟨W,t,rfl,J,k⟩:=h;refine⟨_,(au (aM (aK d m rfl (aa (bL rfl (bW (n0:=(aA (top 5)).names) (N:=dD) (N':=["one","other"]) (nt:=2) (cap:=[]) rfl rfl (by decide +kernel)) (cL (aK c m rfl (aa (v3 0) ak))) (fun U I s H X S=>⟨(dN (n:=2) rfl (aO (aF (i:=0) (show List.Nodup [("one":Str),("other":Str)] by decide +kernel)) (aO (aF (i:=1) (show List.Nodup [("one":Str),("other":Str)] by decide +kernel)) cW))),b7,(cA (aa (v3 1) (aa (v3 0) ak)))⟩)) (aa (v3 1) ak))))),?_⟩;rw[show aR dD [W.enc,T.str t]=[some (W.enc),some (T.str t)] from rfl];have hsz:sizeLine=16777216:=rfl;have Y:=xK (ws:=["with"]) J;walk_at "";refine⟨W,rfl,J,fun q L=>?_⟩;try dsimp only
 rw[JL,aB,wD];walk_at "c";refine c7 orT (lkW ["with"] W) (fun A D u H=>H=up3 H3 q (.lst ((lkW ["with"] W).map orT))/\D=(A.map swp).map orT/\∃y C:Option T,u=[y,C]) ⟨rfl,rfl,none,none,rfl⟩ ?_ ?_
 ·rintro D u H ⟨rfl,rfl,y,C,rfl⟩;refine⟨.inl aB,by rw[g_,g_];omega,fun r m=>?_⟩;obtain⟨n0,v⟩:=b8 m;refine⟨_,(lkW ["with"] W).map swp,t,rfl,.inl ⟨r,rfl,aB⟩,by rw[g_];omega,fun p kvs l M=>?_⟩;obtain⟨R,l⟩:=b8 l;obtain⟨Z,l⟩:=b8 l;refine Fin3.of (fun a o e=>?_) (k p kvs l fun z=>(M z).trans Pj);by_cases h:a=p
  ·subst h;rw[aB] at e ⊢;exact e
  rw[aD h] at e ⊢;rw[aD (bh e v),aD (bh e L)];exact e
 rintro A ⟨a,b⟩ B D u H N e ⟨rfl,rfl,y,C,rfl⟩ G;have V:A.length<=52:=by have:=U_ List.length e;simp only[a_,i_] at this;omega
 refine⟨.inl aB,?_⟩;have j:=G (((A.map swp).map orT)++[orT (b,a)]) [some (.str a),some (.str b)] _ ⟨rfl,by rw[y_,y_];rfl,_,_,rfl⟩;replace j:=Box.mk j;clear G k e;simp only[orT] at j ⊢;walk_at "";exact⟨trivial,by omega,by omega,j.out⟩
abbrev dY:List Str:=["works","found","other"]
theorem vB:FnScope dY dY (aA (top 6)):=bB
theorem vC {f:Addr}{q:FuncData}(g:G3 K mg "in_both" (top 6) dY f q) (B:Bl mg):Cal P w K mg base 1 "in_both" (top 6) dY UL:=by
 refine⟨f,q,g,?_⟩;refine fn3 g.fn vB (fun ts H Q h=>?_) (fun F A o s H E ts H3 Q D h=>?_)
 ·obtain⟨W,a,b,j,l,rfl,_⟩:=h;rfl
 have m:=Room.u1 D;obtain⟨⟨tk,c,prs,d⟩,a,b,j,l,rfl,J,L,V,k⟩:=h;refine⟨_,(au (aM (bG cT rfl B.tuple_ cH (aa (bL rfl (bW (n0:=(aA (top 6)).names) (N:=dY) (N':=["task","found","other"]) (nt:=1) (cap:=[1,2]) rfl rfl (by decide +kernel)) (dO (aJ ix3 (v3 0) aq)) (fun S r s H U M=>⟨(aF (i:=0) (show List.Nodup [("task":Str),("found":Str),("other":Str)] by decide +kernel)),(ie (PW3.pt (cG (pJ m (aJ ix3 (v3 0) aq) (v3 1)) (cJ (pJ m (aJ ix3 (v3 0) aq) (v3 2)))))),(aJ ix3 (v3 0) aq)⟩)) ak)))),?_⟩;rw[show aR dY [Wk.enc ⟨tk,c,prs,d⟩,T.ref a,T.ref b]=[some (T.tup [T.tup (tk.map tkT),T.tup (c.map orT),T.tup (prs.map prT),T.tup (d.map T.str)]),some (T.ref a),some (T.ref b)] from rfl];have hsz:sizeLine=16777216:=rfl;have R:tk.length<=8:=J.t8;walk_at "";walk_at "c";refine gD tkT (fun t=>T.str t.1) (fun t=>(aP t.1 j).isSome&&(aP t.1 l).isSome) tk [some (.ref a),some (.ref b)] trivial (by omega) (fun t I v n=>?_) (fun t I G v n=>?_) (fun p z=>?_)
 ·obtain⟨nm,y,O⟩:=t;simp only[tkT];dsimp only at n;cases u:(aP nm j).isSome <;> cases C:(aP nm l).isSome <;> simp only[u,C,YG,Bool.and_false,WX,Xm,Zz,Bool.false_and] at n <;> walk_at ""
 ·simp only[tkT];walk_at "";try exact n
 walk_at "";refine Fin3.of (Sub3.new z) ?_;have e:(tk.filter fun t=>(aP t.1 j).isSome&&(aP t.1 l).isSome).map (fun t=>T.str t.1)=((tk.map (·.1)).filter fun x=>(aP x j).isSome&&(aP x l).isSome).map T.str:=by rw[List.filter_map,WQ];rfl
 rw[e];exact k
abbrev cX:List Str:=["works","task"]
theorem tD:FnScope cX cX (aA (top 8)):=bB
theorem tE {f:Addr}{v:FuncData}(g:G3 K mg "group_of" (top 8) cX f v) (B:Bl mg) (c:Cal P w K mg base 1 "in_both" (top 6) ["works","found","other"] UL) (d:Cal P w K mg base 2 "led_to" (top 4) cX Qc) (b:Cal P w K mg base 2 "led_from" (top 5) cX Qd):Cal P w K mg base 3 "group_of" (top 8) cX UV:=by
 refine⟨f,v,g,?_⟩;refine fn3 g.fn tD (fun ts H Q h=>?_) (fun C A r s H E ts H3 Q n h=>?_)
 ·obtain⟨W,t,rfl,_⟩:=h;rfl
 obtain⟨W,t,rfl,i,k⟩:=h;refine⟨_,(au (aM (aK c n rfl (aa (v3 0) (aa (aK d n rfl (aa (v3 0) (aa (v3 1) ak))) (aa (aK b n rfl (aa (v3 0) (aa (v3 1) ak))) ak)))))),?_⟩;rw[show aR cX [W.enc,T.str t]=[some (W.enc),some (T.str t)] from rfl];walk_at "";refine⟨W,t,rfl,i,fun p y D m=>?_⟩;try dsimp only
 refine⟨W,t,rfl,i,fun q u F j=>?_⟩;obtain⟨z,l⟩:=b8 F;try dsimp only
 refine⟨W,p,q,y,u,rfl,i,by rw[aD (Ne.symm z)];exact aB,aB,?_⟩;refine Fin3.of (fun a o e=>by rw[aD (bh e l),aD (bh e D)];exact e) ?_;rw[show (W.tasks.map (·.1)).filter (fun x=>(aP x y).isSome&&(aP x u).isSome)=fM W t from ?_]
 ·exact k
 unfold fM;refine Xz fun x G=>?_;rw[Wv,Wr,@p_ _ (Classical.propDecidable _),m x,j x]
abbrev bT:List Str:=["works","found","other"]
theorem jw:FnScope bT bT (aA (top 7)):=bB
theorem jx {f:Addr}{q:FuncData}(g:G3 K mg "in_first_alone" (top 7) bT f q) (B:Bl mg):Cal P w K mg base 1 "in_first_alone" (top 7) bT UT:=by
 refine⟨f,q,g,?_⟩;refine fn3 g.fn jw (fun ts H Q h=>?_) (fun F A o s H E ts H3 Q D h=>?_)
 ·obtain⟨W,a,b,j,l,rfl,_⟩:=h;rfl
 have m:=Room.u1 D;obtain⟨⟨tk,c,prs,d⟩,a,b,j,l,rfl,J,L,V,k⟩:=h;refine⟨_,(au (aM (bG cT rfl B.tuple_ cH (aa (bL rfl (bW (n0:=(aA (top 7)).names) (N:=bT) (N':=["task","found","other"]) (nt:=1) (cap:=[1,2]) rfl rfl (by decide +kernel)) (dO (aJ ix3 (v3 0) aq)) (fun S r s H U M=>⟨(aF (i:=0) (show List.Nodup [("task":Str),("found":Str),("other":Str)] by decide +kernel)),(ie (PW3.pt (cG (pJ m (aJ ix3 (v3 0) aq) (v3 1)) (cJ (n8 m (aJ ix3 (v3 0) aq) (v3 2)))))),(aJ ix3 (v3 0) aq)⟩)) ak)))),?_⟩;rw[show aR bT [Wk.enc ⟨tk,c,prs,d⟩,T.ref a,T.ref b]=[some (T.tup [T.tup (tk.map tkT),T.tup (c.map orT),T.tup (prs.map prT),T.tup (d.map T.str)]),some (T.ref a),some (T.ref b)] from rfl];have hsz:sizeLine=16777216:=rfl;have R:tk.length<=8:=J.t8;walk_at "";walk_at "c";refine gD tkT (fun t=>T.str t.1) (fun t=>(aP t.1 j).isSome&&!(aP t.1 l).isSome) tk [some (.ref a),some (.ref b)] trivial (by omega) (fun t I v n=>?_) (fun t I G v n=>?_) (fun p z=>?_)
 ·obtain⟨nm,y,O⟩:=t;simp only[tkT];dsimp only at n;cases u:(aP nm j).isSome <;> cases C:(aP nm l).isSome <;> simp only[u,C,YG,Bool.and_false,WX,Xm,Zz,Bool.false_and] at n <;> walk_at ""
 ·simp only[tkT];walk_at "";try exact n
 walk_at "";refine Fin3.of (Sub3.new z) ?_;have e:(tk.filter fun t=>(aP t.1 j).isSome&&!(aP t.1 l).isSome).map (fun t=>T.str t.1)=((tk.map (·.1)).filter fun x=>(aP x j).isSome&&!(aP x l).isSome).map T.str:=by rw[List.filter_map,WQ];rfl
 rw[e];exact k
abbrev cY:List Str:=["works","task"]
theorem tG:FnScope cY cY (aA (top 9)):=bB
theorem tH {f:Addr}{v:FuncData}(g:G3 K mg "ahead_of" (top 9) cY f v) (B:Bl mg) (b:Cal P w K mg base 1 "in_first_alone" (top 7) ["works","found","other"] UT) (c:Cal P w K mg base 2 "led_from" (top 5) cY Qd) (d:Cal P w K mg base 2 "led_to" (top 4) cY Qc):Cal P w K mg base 3 "ahead_of" (top 9) cY UW:=by
 refine⟨f,v,g,?_⟩;refine fn3 g.fn tG (fun ts H Q h=>?_) (fun C A r s H E ts H3 Q n h=>?_)
 ·obtain⟨W,t,rfl,_⟩:=h;rfl
 obtain⟨W,t,rfl,i,k⟩:=h;refine⟨_,(au (aM (aK b n rfl (aa (v3 0) (aa (aK c n rfl (aa (v3 0) (aa (v3 1) ak))) (aa (aK d n rfl (aa (v3 0) (aa (v3 1) ak))) ak)))))),?_⟩;rw[show aR cY [W.enc,T.str t]=[some (W.enc),some (T.str t)] from rfl];walk_at "";refine⟨W,t,rfl,i,fun p y D m=>?_⟩;try dsimp only
 refine⟨W,t,rfl,i,fun q u F j=>?_⟩;obtain⟨z,l⟩:=b8 F;try dsimp only
 refine⟨W,p,q,y,u,rfl,i,by rw[aD (Ne.symm z)];exact aB,aB,?_⟩;refine Fin3.of (fun a o e=>by rw[aD (bh e l),aD (bh e D)];exact e) ?_;rw[show (W.tasks.map (·.1)).filter (fun x=>(aP x y).isSome&&!(aP x u).isSome)=iW W t from ?_]
 ·exact k
 unfold iW;refine Xz fun x G=>?_;rw[Wv,Wr,@p_ _ (Classical.propDecidable _),m x,YW,<- Bool.not_eq_true,j x]
def Ek:Sp3:=fun ts H Q=>∃(W:Wk) (x:T) (a:List Str),ts=[W.enc,x]/\WkOk W/\TY H x a/\Q (.int (numOf (W.tasks.map (·.1)) a)) H
def Ks:Sp3:=fun ts H Q=>∃(W:Wk) (n:Int),ts=[W.enc,.int n]/\WkOk W/\0<=n/\n<2^W.tasks.length/\Q (sT (pick (W.tasks.map (·.1)) n)) H
def Ku:Sp3:=fun ts H Q=>∃(a:List Str) (k:Str),ts=[sT a,.str k]/\Q (.bl (rY a k)) H
def xZ:Sp3:=fun ts H Q=>∃a b:Int,ts=[.int a,.int b]/\Q (.bl (decide (Builtin.bitAnd a b=b))) H
def Kv:Sp3:=fun ts H Q=>∃(W:Wk) (t:Str),ts=[W.enc,.str t]/\WkOk W/\∀p,H p=none->Q (.ref p) (up3 H p (.lst ((jl W t).map T.str)))
def Kw:Sp3:=fun ts H Q=>∃W:Wk,ts=[W.enc]/\WkOk W/\∀p,H p=none->Q (.ref p) (up3 H p (.lst (W.tasks.map (ruT W (W.tasks.map (·.1))))))
def Kz:Sp3:=fun ts H Q=>∃(W:Wk) (a:Addr) (beat:Int) (b:Str) (D S:List Str),ts=[.ref a,.int beat,.str b,.int (numOf (W.tasks.map (·.1)) D),.int (numOf (W.tasks.map (·.1)) S)]/\WkOk W/\H a=some (.lst (W.tasks.map (ruT W (W.tasks.map (·.1)))))/\Q (.bl (uZ W beat b D S)) H
abbrev jW:List Str:=["works","tasks","number","worth","task"]
theorem sc_number_of:FnScope jW ["works","tasks"] (aA (top 15)):=bB
theorem qw {f:Addr}{o:FuncData}(g:G3 K mg "number_of" (top 15) ["works","tasks"] f o) (B:Bl mg):Cal P w K mg base 1 "number_of" (top 15) ["works","tasks"] Ek:=by
 refine⟨f,o,g,?_⟩;refine fn3 g.fn sc_number_of (fun ts H Q h=>?_) (fun y A m s H E ts H3 Q u h=>?_)
 ·obtain⟨W,x,d,rfl,_⟩:=h;rfl
 have j:=Room.u31 u;obtain⟨⟨tk,b,prs,c⟩,x,d,rfl,D,C,k⟩:=h;refine⟨_,(ao (aG (i:=2) sc_number_of.nd aq)
   (ao (aG (i:=3) sc_number_of.nd aq)
   (ao (bA K_ rfl (dO (aJ ix3 (v3 0) aq)) (aF (i:=4) sc_number_of.nd) (ao (bV (aW (Am j) (aJ ix3 (v3 4) aq) (v3 1) rfl) (au (aG (i:=2) sc_number_of.nd (aH aZ (v3 2) (v3 3)))) bu)
    (au (aG (i:=3) sc_number_of.nd (aH gB (v3 3) aq)))))
   (au (aM (v3 2)))))),?_⟩
 rw[show aR jW [Wk.enc ⟨tk,b,prs,c⟩,x]=[some (T.tup [T.tup (tk.map tkT),T.tup (b.map orT),T.tup (prs.map prT),T.tup (c.map T.str)]),some (x),none,none,none] from rfl];have hsz:sizeLine=16777216:=rfl;have I:tk.length<=8:=D.t8;walk_at "";refine bf tkT tk (fun A l H=>∃v:Option T,H=H3/\l=[some (T.tup [T.tup (tk.map tkT),T.tup (b.map orT),T.tup (prs.map prT),T.tup (c.map T.str)]),some x,some (.int (numOf (A.map (·.1)) d)),some (.int (2^A.length)),v]) ⟨none,rfl,rfl⟩ ?_ ?_
 ·rintro l H ⟨v,rfl,rfl⟩;refine⟨trivial,?_⟩;walk_at "";exact Fin3.of Sub3.refl k
 rintro A t B l H N e ⟨v,rfl,rfl⟩ p;have z:A.length+1<=8:=by have:=U_ List.length e;simp only[a_,i_] at this;omega
 have F:0<(2:Int)^A.length/\(2:Int)^A.length<=256:=by
  have:A.length=0\/A.length=1\/A.length=2\/A.length=3\/A.length=4\/A.length=5\/A.length=6\/A.length=7:=by omega
  rcases this with e | e | e | e | e | e | e | e <;> rw[e] <;> decide
 have n:CMul (2^A.length) 2:=.inl ⟨by omega,by omega⟩;have a:∀v,N [some (T.tup [T.tup (tk.map tkT),T.tup (b.map orT),T.tup (prs.map prT),T.tup (c.map T.str)]),some x,some (.int (numOf (A.map (·.1)) d+2^A.length*(if t.1∈d then 1 else 0))),some (.int (2^A.length*2)),v] H:=fun v=>by have:=p [some (T.tup [T.tup (tk.map tkT),T.tup (b.map orT),T.tup (prs.map prT),T.tup (c.map T.str)]),some x,some (.int (numOf ((A++[t]).map (·.1)) d)),some (.int (2^(A++[t]).length)),v] H ⟨v,rfl,rfl⟩;rw[show (2:Int)^(A++[t]).length=2^A.length*2 by rw[a_,L_,Zu],y_,B_,WW,lN,g_] at this;exact this
 replace a:=Box.mk a;obtain⟨nm,r,G⟩:=t;refine⟨trivial,?_⟩;clear p e k;simp only[tkT,sT];walk_at "";refine Ib C ?_;by_cases q:nm∈d
 ·simp only[q,XS,if_true,H_,Wl,iT,Int.mul_one] at a ⊢;exact⟨by first | trivial | exact n,a.out _⟩
 simp only[q,Xx,if_true,H_,Wl,iT,Int.mul_zero,Int.add_zero] at a ⊢;exact⟨by first | trivial | exact n,a.out _⟩
abbrev cV:List Str:=["kinds","kind"]
theorem mz:FnScope cV cV (aA (top 11)):=bB
theorem mC {f:Addr}{i:FuncData}(g:G3 K mg "may_be_done" (top 11) cV f i) (B:Bl mg):Cal P w K mg base 1 "may_be_done" (top 11) cV Ku:=by
 refine⟨f,i,g,?_⟩;refine fn3 g.fn mz (fun ts H Q h=>?_) (fun l A e s H E ts H3 Q j h=>?_)
 ·obtain⟨a,k,rfl,_⟩:=h;rfl
 have c:=Room.u30 j;have d:=Room.u31 j;obtain⟨a,b,rfl,k⟩:=h;refine⟨_,(au (aM (Jo (gm (dj c) (aV cj rfl B.len_ cu (aa (v3 0) ak)) aq) (o7 (gm (Am d) (v3 1) (v3 0) rfl))))),?_⟩;rw[show aR cV [sT a,T.str b]=[some (T.tup (a.map T.str)),some (T.str b)] from rfl];have m:pl 20 (T.str b)=true:=rfl;have n:=jh a;have o:d7 false (T.str b) (a.map T.str)=decide (b∈a):=by unfold d7;have:(T.str b∈a.map T.str)↔b∈a:=gO j9;simp only[this];simp
 walk_at "";unfold rY at k;cases a with
 |nil=>simp only[XS,Bool.true_or,Xn,if_true] at k ⊢;exact Fin3.of Sub3.refl k
 |cons y r =>
  have:¬(((r.length+1:Nat)):Int)=0:=by omega
  simp only[i_,this,Xx,H_,Wl] at k ⊢
  exact⟨trivial,trivial,Fin3.of Sub3.refl (by simpa using k)⟩
abbrev fW:List Str:=["number","part"]
theorem vD:FnScope fW fW (aA (top 20)):=bB
theorem vG {f:Addr}{e:FuncData}(g:G3 K mg "has_all" (top 20) fW f e) (B:Bl mg):Cal P w K mg base 1 "has_all" (top 20) fW xZ:=by
 refine⟨f,e,g,?_⟩;refine fn3 g.fn vD (fun ts H Q h=>?_) (fun i A d s H E ts H3 Q j h=>?_)
 ·obtain⟨a,b,rfl,_⟩:=h;rfl
 have c:=Room.u30 j;obtain⟨a,b,rfl,k⟩:=h;refine⟨_,(au (aM (gm (dj c) (aH Bp (v3 0) (v3 1)) (v3 1)))),?_⟩;rw[show aR fW [T.int a,T.int b]=[some (T.int a),some (T.int b)] from rfl];walk_at "";exact Fin3.of Sub3.refl k
abbrev cM:List Str:=["works","task"]
theorem m5:FnScope cM cM (aA (top 18)):=bB
theorem m6 {f:Addr}{C:FuncData}(g:G3 K mg "apart_from" (top 18) cM f C) (B:Bl mg):Cal P w K mg base 1 "apart_from" (top 18) cM Kv:=by
 refine⟨f,C,g,?_⟩;refine fn3 g.fn m5 (fun ts H Q h=>?_) (fun M A r s H E ts H3 Q L h=>?_)
 ·obtain⟨W,t,rfl,_⟩:=h;rfl
 have c:=Room.u30 L;obtain⟨⟨tk,j,prs,m⟩,t,rfl,S,k⟩:=h;refine⟨_,(au (aM (bL rfl (bW (n0:=(aA (top 18)).names) (N:=cM) (N':=["word","one","other","task"]) (nt:=3) (cap:=[1]) rfl rfl (by decide +kernel)) (dO (aJ ix3 (v3 0) aq)) (fun V F s H X U=>⟨(dN (n:=3) rfl (aO (aF (i:=0) (show List.Nodup [("word":Str),("one":Str),("other":Str),("task":Str)] by decide +kernel)) (aO (aF (i:=1) (show List.Nodup [("word":Str),("one":Str),("other":Str),("task":Str)] by decide +kernel)) (aO (aF (i:=2) (show List.Nodup [("word":Str),("one":Str),("other":Str),("task":Str)] by decide +kernel)) cW)))),(ie (PW3.pt (cG (aW (dj c) (v3 0) gh) (cJ (aW (dj c) (v3 1) (v3 3)))))),(v3 2)⟩)))),?_⟩;rw[show aR cM [Wk.enc ⟨tk,j,prs,m⟩,T.str t]=[some (T.tup [T.tup (tk.map tkT),T.tup (j.map orT),T.tup (prs.map prT),T.tup (m.map T.str)]),some (T.str t)] from rfl];have hsz:sizeLine=16777216:=rfl;have G:prs.length<=12:=S.ps;walk_at "";walk_at "c";refine c7 prT prs (fun A y o H=>H=H3/\y=((A.filter fun p=>decide (p.1=("apart":Str))&&decide (p.2.1=t)).map (·.2.2)).map T.str/\∃q x v:Option T,o=[q,x,v,some (.str t)]) ⟨rfl,rfl,none,none,none,rfl⟩ ?_ ?_
 ·rintro y o H ⟨rfl,rfl,q,x,v,rfl⟩;refine⟨trivial,?_,fun p J=>Fin3.of Sub3.refl (k p J)⟩;rw[g_,g_];exact Wc (Ww _ _) (by omega)
 rintro A ⟨w,a,b⟩ B y o H N e ⟨rfl,rfl,q,x,v,rfl⟩ u;have O:A.length<=12:=by have:=U_ List.length e;simp only[a_,i_] at this;omega
 have Y:((A.filter fun p=>decide (p.1=("apart":Str))&&decide (p.2.1=t)).map (·.2.2)).length<=12:=by rw[g_];exact Wc (Ww _ _) O
 refine⟨trivial,?_⟩;have I:Box (w="apart"/\a=t->N (((A.filter fun p=>decide (p.1=("apart":Str))&&decide (p.2.1=t)).map (·.2.2)).map T.str++[T.str b]) [some (.str w),some (.str a),some (.str b),some (.str t)] H):=⟨fun h=>u _ _ _ ⟨rfl,by rw[X7];simp [h],_,_,_,rfl⟩⟩;have D:Box (¬(w="apart"/\a=t)->N (((A.filter fun p=>decide (p.1=("apart":Str))&&decide (p.2.1=t)).map (·.2.2)).map T.str) [some (.str w),some (.str a),some (.str b),some (.str t)] H):=⟨fun h=>u _ _ _ ⟨rfl,by rw[X7];simp [h],_,_,_,rfl⟩⟩;generalize ((A.filter fun p=>decide (p.1=("apart":Str))&&decide (p.2.1=t)).map (·.2.2))=R at *;clear u k e;simp only[prT];walk_at "";refine⟨trivial,?_⟩;by_cases d:w="apart"
 ·simp only[d,XS,if_true];by_cases l:a=t
  ·simp only[l,XS,if_true];have:=I.out ⟨d,l⟩;rw[d,l] at this;exact⟨by omega,this⟩
  simp only[l,Xx,H_,Wl];have:=D.out fun z=>l z.2;rw[d] at this;exact this
 simp only[d,Xx,H_,Wl];exact D.out fun z=>d z.1
abbrev cZ:List Str:=["numbers","greatest","number"]
theorem sc_greatest_numbers:FnScope cZ ["numbers"] (aA (top 22)):=bB
theorem iz {f:Addr}{Y:FuncData}(g:G3 K mg "greatest_numbers" (top 22) ["numbers"] f Y) (B:Bl mg) (c:Cal P w K mg base 1 "has_all" (top 20) ["number","part"] xZ):Cal P w K mg base 2 "greatest_numbers" (top 22) ["numbers"] Uv:=by
 refine⟨f,Y,g,?_⟩;refine fn3 g.fn sc_greatest_numbers (fun ts H Q h=>?_) (fun cdv A O s H E ts H3 Q hr h=>?_)
 ·obtain⟨a,W,rfl,_⟩:=h;rfl
 obtain⟨a,W,rfl,L,hl,k⟩:=h;refine⟨_,(ao (aG (i:=1) sc_greatest_numbers.nd (bI ak))
   (ao (bA K_ rfl (NP rfl B.reversed_ (v3 0)) (aF (i:=2) sc_greatest_numbers.nd) (au (bV (iJ (cP (aV (Nv rfl) rfl B.any_ Mz (aa (bL rfl (bW (n0:=(aA (top 22)).names) (N:=cZ) (N':=["other","number"]) (nt:=1) (cap:=[2]) rfl rfl (by decide +kernel)) (cL (v3 1)) (fun cl pins s H C0 fp=>⟨(aF (i:=0) (show List.Nodup [("other":Str),("number":Str)] by decide +kernel)),b7,(aK c hr rfl (aa (v3 0) (aa (v3 1) ak)))⟩)) ak)))) (au (bY (dm Q_ S_ T_ bC (v3 1) (aa (v3 2) ak)))) bu)))
   (au (aM (Bw rfl rfl B.list_ rfl B.reversed_ (v3 1)))))),?_⟩
 rw[show aR cZ [T.ref a]=[some (T.ref a),none,none] from rfl];have hsz:sizeLine=16777216:=rfl;refine aC fun R0 hR0=>?_;walk_at "";refine⟨by omega,fun F z=>?_⟩;walk_at "n";have r:Sub3 H3 (up3 H3 F (.lst [])):=Sub3.new z;have I:up3 H3 F (.lst []) F=some (.lst ((gre bJ []).map bF)):=aB;generalize up3 H3 F (.lst [])=H1 at r I;try dsimp only
 refine aC fun R1 U=>?_;have ga:=r _ _ L;walk_at "";rw[<- List.map_reverse];refine bf bF W.reverse (fun A M H=>∃(q:Addr) (v:Option T),M=[some (.ref a),some (.ref q),v]/\Sub3 H3 H/\H3 q=none/\H q=some (.lst ((gre bJ A.reverse).map bF))) ⟨F,none,rfl,r,z,I⟩ ?_ ?_
 ·rintro M H ⟨q,v,rfl,y,d,C⟩;refine⟨.inl (y _ _ L),?_⟩;walk_at "n";rw[List.reverse_reverse] at C;clear I ga;walk_at "";intro p Z;have R:H3 p=none:=by
   cases e:H3 p with
   |none=>rfl
   |some o=>rw[y _ _ e] at Z;cases Z
  rw[<- List.map_reverse];refine Fin3.of ?_ (k p R);intro b o u;by_cases e:b=p
  ·subst e;rw[aB] at u ⊢;exact u
  rw[aD e] at u ⊢;exact y b o u
 rintro A n B M H N e ⟨q,v,rfl,y,d,C⟩ hN;refine⟨.inl (y _ _ L),?_⟩;have hA:A.length+1<=256:=by have:=U_ List.length e;simp only[a_,i_,Xg] at this;omega
 have l:=Box.mk hN;have x:gre bJ (A++[n]).reverse=if (gre bJ A.reverse).any (fun g=>bJ g n) then gre bJ A.reverse else gre bJ A.reverse++[n]:=by rw[Ym];rfl
 have gl:=qj bJ A.reverse;rw[Xg] at gl;clear hN e k U I ga;generalize gre bJ A.reverse=G at *;walk_at "";walk_at "c";refine cI bF (fun g=>T.bl (bJ g n)) G [some (bF n)] (.inl C) (by omega) (fun g hg Q' S=>?_) (fun J t=>?_)
 ·clear l;walk_at "";exact⟨(g:Int),(n:Int),rfl,S⟩
 have D:q≠J:=bh C t;have V:(G.map fun g=>T.bl (bJ g n))=(G.map fun g=>bJ g n).map T.bl:=by rw[WQ];rfl
 have g2:up3 H J (.lst ((G.map fun g=>bJ g n).map T.bl)) q=some (.lst (G.map bF)):=by rw[aD D];exact C
 have m:Sub3 H3 (up3 H J (.lst ((G.map fun g=>bJ g n).map T.bl))):=y.trans (Sub3.new t);rw[V,lC,jE];generalize up3 H J (.lst ((G.map fun g=>bJ g n).map T.bl))=H5 at g2 m;have X:(G.map fun g=>bJ g n).any id=G.any fun g=>bJ g n:=by rw[List.any_map];rfl
 rw[X];cases u:G.any fun g=>bJ g n
 ·rw[u] at x;simp only[H_,Wl] at x;clear X V t D;simp only[Xm,if_true];walk_at "";refine⟨⟨trivial,trivial⟩,by omega,l.out _ _ ⟨q,_,rfl,?_,d,?_⟩⟩
  ·intro b o j;by_cases e:b=q
   ·subst e;rw[d] at j;cases j
   rw[aD e];exact m b o j
  rw[aB,x,y_];rfl
 rw[u] at x;simp only[if_true] at x;simp only[WX,H_,Wl];exact l.out _ _ ⟨q,_,rfl,m,d,by rw[x];exact g2⟩
abbrev mD:List Str:=["self","works","beat"]
theorem Jg:FnScope mD mD (aA (topm 25 0)):=bB
theorem Jh {f:Addr}{fd:FuncData}{c:Addr}(g:GI K mg c "Walk" "Walk.__init__" (topm 25 0) mD f fd) (B:Bl mg) (d:InsC K c ["works","beat","rules","whole"]) (j:Cal P w K mg base 4 "rules_of" (top 19) ["works"] Kw) (i:Cal P w K mg base 1 "number_of" (top 15) ["works","tasks"] Ek) (l:Cal P w K mg base 1 "names_of" (top 13) ["tasks"] Ul):MkC P w K mg base c 5 "Walk" mD (Ur c):=by
 refine⟨g.at_,f,fd,g.mk_,g.b,?_⟩;refine fn3 g.fn Jg (fun ts H Q h=>?_) (fun cdv A N s H E ts H3 Q U h=>?_)
 ·obtain⟨a,W,beat,rfl,_⟩:=h;rfl
 obtain⟨a,W,beat,rfl,X,ha,k⟩:=h;refine⟨_,(ao (pP d (v3 0) (v3 1))
   (ao (pP d (v3 0) (v3 2))
   (ao (pP d (v3 0) (aK j U rfl (aa (v3 1) ak)))
   (au (pP d (v3 0) (aK i U rfl (aa (v3 1) (aa (aK l U rfl (aa (aJ ix3 (v3 1) aq) ak)) ak)))))))),?_⟩
 rw[show aR mD [T.ref a,W.enc,T.int beat]=[some (T.ref a),some (W.enc),some (T.int beat)] from rfl];have hsz:sizeLine=16777216:=rfl;have k':=Box.mk k;clear k;refine aC fun R0 hR0=>?_;walk_at "";have Z:up3 H3 a (.ins c (dw "works" W.enc [])) a=some (.ins c [("works",W.enc)]):=aB;refine⟨by decide,?_⟩;have u:∀b o,b≠a->H3 b=some o->up3 H3 a (.ins c (dw "works" W.enc [])) b=some o:=fun b o m e=>by rw[aD m];exact e
 generalize up3 H3 a (.ins c (dw "works" W.enc []))=V at Z u ⊢;walk_at "n";refine aC fun R1 hR1=>?_;walk_at "";refine⟨by decide,?_⟩;have t:dw "beat" (T.int beat) [("works",W.enc)]=[(("works":Str),W.enc),(("beat":Str),.int beat)]:=by unfold dw;rw[if_neg (by decide +kernel)];rfl
 rw[t];have J:up3 V a (.ins c [("works",W.enc),("beat",.int beat)]) a=some (.ins c [("works",W.enc),("beat",.int beat)]):=aB;have r:∀b o,b≠a->H3 b=some o->up3 V a (.ins c [("works",W.enc),("beat",.int beat)]) b=some o:=fun b o m e=>by rw[aD m];exact u b o m e
 generalize up3 V a (.ins c [("works",W.enc),("beat",.int beat)])=F at J r ⊢;clear Z u t;walk_at "n";refine aC fun R2 hR2=>?_;walk_at "";refine⟨W,rfl,X,fun p O=>?_⟩;have y:a≠p:=bh J O;have R:up3 F p (.lst (W.tasks.map (ruT W (W.tasks.map (·.1))))) p=some (.lst (W.tasks.map (ruT W (W.tasks.map (·.1))))):=aB;have Y:up3 F p (.lst (W.tasks.map (ruT W (W.tasks.map (·.1))))) a=some (.ins c [("works",W.enc),("beat",.int beat)]):=by rw[aD y];exact J
 have v:∀b o,b≠a->H3 b=some o->up3 F p (.lst (W.tasks.map (ruT W (W.tasks.map (·.1))))) b=some o:=fun b o m e=>by rw[aD (bh (r b o m e) O)];exact r b o m e
 generalize up3 F p (.lst (W.tasks.map (ruT W (W.tasks.map (·.1)))))=L at R Y v ⊢;clear J r O;walk_at "";refine⟨by decide,?_⟩;have t:dw "rules" (T.ref p) [("works",W.enc),("beat",.int beat)]=[(("works":Str),W.enc),(("beat":Str),.int beat),(("rules":Str),.ref p)]:=by unfold dw;rw[if_neg (by decide +kernel)];unfold dw;rw[if_neg (by decide +kernel)];rfl
 rw[t];have I:up3 L a (.ins c [("works",W.enc),("beat",.int beat),("rules",.ref p)]) a=some (.ins c [("works",W.enc),("beat",.int beat),("rules",.ref p)]):=aB;have C:up3 L a (.ins c [("works",W.enc),("beat",.int beat),("rules",.ref p)]) p=some (.lst (W.tasks.map (ruT W (W.tasks.map (·.1))))):=by rw[aD (Ne.symm y)];exact R
 have n:∀b o,b≠a->H3 b=some o->up3 L a (.ins c [("works",W.enc),("beat",.int beat),("rules",.ref p)]) b=some o:=fun b o m e=>by rw[aD m];exact v b o m e
 generalize up3 L a (.ins c [("works",W.enc),("beat",.int beat),("rules",.ref p)])=G at I C n ⊢;clear R Y v t;walk_at "n";walk_at "";refine⟨W.tasks,rfl,X.t8,fun q D=>?_⟩;have M:a≠q:=bh I D;have S:p≠q:=bh C D;try dsimp only
 refine⟨W,_,W.tasks.map (·.1),rfl,X,.inr ⟨q,rfl,aB⟩,?_⟩;have ew:numOf (W.tasks.map (·.1)) (W.tasks.map (·.1))=(top2 W:Int) - 1:=by have h1:=jK (W:=W) (A:=nm W) fun x hx=>hx;have h2:=lV W;rw[cz];show ((bR (nm W) (nm W):Nat):Int)=_;rw[h1];omega
 rw[ew];have g7:up3 G q (.lst ((W.tasks.map (·.1)).map T.str)) a=some (.ins c [("works",W.enc),("beat",.int beat),("rules",.ref p)]):=by rw[aD M];exact I
 have g8:up3 G q (.lst ((W.tasks.map (·.1)).map T.str)) p=some (.lst (W.tasks.map (ruT W (W.tasks.map (·.1))))):=by rw[aD S];exact C
 have z:∀b o,b≠a->H3 b=some o->up3 G q (.lst ((W.tasks.map (·.1)).map T.str)) b=some o:=fun b o m e=>by rw[aD (bh (n b o m e) D)];exact n b o m e
 generalize up3 G q (.lst ((W.tasks.map (·.1)).map T.str))=H8 at g7 g8 z ⊢;clear I C n D;walk_at "";refine⟨by decide,?_⟩;have t:dw "whole" (T.int ((top2 W:Int) - 1)) [("works",W.enc),("beat",.int beat),("rules",.ref p)]=wkF W beat p:=by unfold dw;rw[if_neg (by decide +kernel)];unfold dw;rw[if_neg (by decide +kernel)];unfold dw;rw[if_neg (by decide +kernel)];rfl
 rw[t];exact Fin3.of Sub3.refl (k'.out _ (fun b o m e=>by rw[aD m];exact z b o m e) ⟨p,aB,by rw[aD (Ne.symm y)];exact g8⟩)
abbrev fB:List Str:=["self","stand","done","kind","left"]
theorem sc_fillings_at:FnScope fB ["self","stand","done"] (aA (topm 25 1)):=bB
theorem mF {f:Addr}{U:FuncData}{l:Addr}(g:GM K l "fillings_at" "Walk.fillings_at" (topm 25 1) ["self","stand","done"] f U) (B:Bl mg) (j:InsC K l ["works","beat","rules","whole"]) (m:Cal P w K mg base 2 "parts_of" (top 24) ["number"] Kr) (c:Cal P w K mg base 2 "is_filling_number" (top 21) ["rules","beat","kind","done","number"] Kz):MtC P w K mg base l 3 "fillings_at" ["self","stand","done"] (Us l):=by
 refine⟨g.cls,f,U,g.mt,g.b,?_⟩;refine fn3 g.fn sc_fillings_at (fun ts H Q h=>?_) (fun cdv A I s H E ts H3 Q V h=>?_)
 ·obtain⟨a,W,beat,k,d,rfl,_⟩:=h;rfl
 obtain⟨a,W,beat,k,d,rfl,z,hw,hk,X,R⟩:=h;refine⟨_,(ao (bV (aW Rc (v3 1) (aV cj rfl B.len_ cu (aa (aJ ix3 (gM j (v3 0)) aq) ak))) (au (aM (bI ak))) bu)
   (ao (aG (i:=3) sc_fillings_at.nd (aJ ix3 (aJ ix3 (gM j (v3 0)) aq) (v3 1)))
   (ao (aG (i:=4) sc_fillings_at.nd (aK m V rfl (aa (aH iM (gM j (v3 0)) (v3 2)) ak)))
   (au (aM (bL rfl (bW (n0:=(aA (topm 25 1)).names) (N:=fB) (N':=["number","kind","done","self"]) (nt:=1) (cap:=[3,2,0]) rfl rfl (by decide +kernel)) (cL (v3 4)) (fun cl pins s H C0 fp=>⟨(aF (i:=0) (show List.Nodup [("number":Str),("kind":Str),("done":Str),("self":Str)] by decide +kernel)),(ie (cP (aK c V rfl (aa (gM j (v3 3)) (aa (gM j (v3 3)) (aa (v3 1) (aa (v3 2) (aa (v3 0) ak)))))))),(v3 0)⟩))))))),?_⟩
 rw[show aR fB [T.ref a,T.int (k:Int),T.int (d:Int)]=[some (T.ref a),some (T.int (k:Int)),some (T.int (d:Int)),none,none] from rfl];have hsz:sizeLine=16777216:=rfl;have Z:=Box.mk R;clear R;have t2:=qe z;have t1:=lV W;obtain⟨p,J,O⟩:=hw.ex;have f1:=sJ (W:=W) (beat:=beat) (p:=p);have f2:=Iw (W:=W) (beat:=beat) (p:=p);have f3:=Dv (W:=W) (beat:=beat) (p:=p);have f4:=sO (W:=W) (beat:=beat) (p:=p);have x1:=PK hk;have F:=Box.mk J;have L:=Box.mk O;generalize wkF W beat p=fs at *;refine aC fun R0 hR0=>?_;walk_at "";rw[A_ (by omega),if_neg m_];walk_at "n";refine aC fun R1 hR1=>?_;walk_at "";walk_at "n";refine aC fun R2 hR2=>?_;walk_at "";refine⟨top2 W - 1 - d,by rw[show ((top2 W - 1 - d:Nat):Int)=(top2 W:Int) - 1 - (d:Int) by omega],by omega,fun pl r=>?_⟩;have n1:a≠pl:=bh J r;have n2:p≠pl:=bh O r;have x:=zg (W:=W) (beat:=beat) (k:=k) z X;have hlen:(sH (top2 W - 1 - d)).length<=256:=by unfold sH;exact Wc (Ww _ _) (by rw[o_];omega)
 have v:∀i∈sH (top2 W - 1 - d),i<top2 W:=fun i C=>by have:=O_.mp (G_.mp C).1;omega
 generalize sH (top2 W - 1 - d)=ps at *;have n:Sub3 H3 (up3 H3 pl (.lst (ps.map bF))):=Sub3.new r;have h1:=n _ _ F.out;have Y:=n _ _ L.out;have S:up3 H3 pl (.lst (ps.map bF)) pl=some (.lst (ps.map bF)):=aB;generalize up3 H3 pl (.lst (ps.map bF))=H4 at n h1 Y S ⊢;clear J O x1 f1 f4 n1 n2 r;walk_at "n";have y:=Box.mk v;have u:=Box.mk x;clear v x;walk_at "";walk_at "c";refine gD (still:=cB pl (ps.map bF)) (H:=H4) bF bF (fil W beat k d) ps [some (.str (W.row.getD k "")),some (.int (d:Int)),some (.ref a)] (.inl S) (by omega) ?c1 ?c2 ?c3
 case c2=>exact fun i C _ Q' t=>t
 case c1 =>
  intro i C Q' t
  have G:=y.out i C
  have M:=Box.mk t
  clear Z t
  simp only[bF]
  walk_at ""
  refine⟨W,p,beat,W.row.getD k "",pk W d,pk W i,?_,z,Y,?_⟩
  ·
   rw[Uq z X,Uq z G]
  ·
   exact M.out
 case c3 =>
  intro q t
  rw[u.out]
  refine Fin3.of ?_ (Z.out q (du n t))
  intro b o D
  by_cases e:b=q
  ·
   subst e;rw[aB] at D ⊢;exact D
  ·
   rw[aD e] at D ⊢;exact n b o D
abbrev cN:List Str:=["self","fillings"]
theorem m7:FnScope cN cN (aA (topm 25 4)):=bB
theorem m9 {f:Addr}{t:FuncData}{c:Addr}(g:GM K c "dealing_of" "Walk.dealing_of" (topm 25 4) cN f t) (B:Bl mg) (e:InsC K c ["works","beat","rules","whole"]) (d:Cal P w K mg base 1 "tasks_of" (top 16) ["works","number"] Ks):MtC P w K mg base c 2 "dealing_of" cN (Ut c):=by
 refine⟨g.cls,f,t,g.mt,g.b,?_⟩;refine fn3 g.fn m7 (fun ts H Q h=>?_) (fun C A o s H E ts H3 Q z h=>?_)
 ·obtain⟨a,W,beat,m,rfl,_⟩:=h;rfl
 obtain⟨a,W,beat,m,rfl,F,y,U,x,k⟩:=h;refine⟨_,(au (aM (bG cT rfl B.tuple_ cH (aa (bL rfl (bW (n0:=(aA (topm 25 4)).names) (N:=cN) (N':=["filling","self"]) (nt:=1) (cap:=[0]) rfl rfl (by decide +kernel)) (dO (v3 1)) (fun M v s H O L=>⟨(aF (i:=0) (show List.Nodup [("filling":Str),("self":Str)] by decide +kernel)),b7,(aK d z rfl (aa (gM e (v3 1)) (aa (v3 0) ak)))⟩)) ak)))),?_⟩;rw[show aR cN [T.ref a,T.tup (m.map bF)]=[some (T.ref a),some (T.tup (m.map bF))] from rfl];have hsz:sizeLine=16777216:=rfl;have u:=Box.mk k;clear k;obtain⟨p,I,S⟩:=y.ex;have R:=sJ (W:=W) (beat:=beat) (p:=p);generalize wkF W beat p=G at *;walk_at "";walk_at "c";refine cI (still:=cR) (H:=H3) bF (fun i=>sT (pk W i)) m [some (.ref a)] trivial (by omega) ?c1 ?c2
 case c1 =>
  intro i D J l
  have n:=x i D
  have j:((2^W.tasks.length:Nat):Int)=(2:Int)^W.tasks.length:=by push_cast;rfl
  have r:=Box.mk l
  clear u l
  simp only[bF]
  walk_at ""
  exact⟨W,(i:Int),rfl,F,X5 _,by rw[<- j];exact Int.ofNat_lt.mpr n,r.out⟩
 case c2 =>
  intro q l
  have k:=u.out
  rw[WQ] at k
  walk_at ""
  exact Fin3.of (Sub3.new l) k
abbrev iY:List Str:=["number","parts","worth"]
theorem sc_parts_of:FnScope iY ["number"] (aA (top 24)):=bB
theorem tK {f:Addr}{fd:FuncData}(g:G3 K mg "parts_of" (top 24) ["number"] f fd) (B:Bl mg) (c:Cal P w K mg base 1 "has_all" (top 20) ["number","part"] xZ):Cal P w K mg base 2 "parts_of" (top 24) ["number"] Kr:=by
 refine⟨f,fd,g,?_⟩;refine fn3 g.fn sc_parts_of (fun ts H Q h=>?_) (fun cdv A V s H E ts H3 Q hr h=>?_)
 ·obtain⟨N,rfl,_⟩:=h;rfl
 obtain⟨N,rfl,hN,k⟩:=h;refine⟨_,(ao (aG (i:=1) sc_parts_of.nd (bI (aa aq ak)))
   (ao (aG (i:=2) sc_parts_of.nd aq)
   (ao (jc K_ (aW Jy (v3 2) (v3 0)) (ao (bV (cP (aK c hr rfl (aa (v3 0) (aa (v3 2) ak)))) (au (aG (i:=1) sc_parts_of.nd (aH aZ (v3 1) (bL rfl (bW (n0:=(aA (top 24)).names) (N:=iY) (N':=["part","worth"]) (nt:=1) (cap:=[2]) rfl rfl (by decide +kernel)) (cL (v3 1)) (fun cl pins s H C0 fp=>⟨(aF (i:=0) (show List.Nodup [("part":Str),("worth":Str)] by decide +kernel)),b7,(aH aZ (v3 0) (v3 1))⟩))))) bu)
    (au (aG (i:=2) sc_parts_of.nd (aH gB (v3 2) aq)))))
   (au (aM (v3 1)))))),?_⟩
 rw[show aR iY [T.int (N:Int)]=[some (T.int (N:Int)),none,none] from rfl];have hsz:sizeLine=16777216:=rfl;have k':=Box.mk k;clear k;refine aC fun R0 hR0=>?_;walk_at "";refine⟨by decide,fun M F=>?_⟩;have v:Sub3 H3 (up3 H3 M (.lst [T.int 0])):=Sub3.new F;have W:up3 H3 M (.lst [T.int 0]) M=some (.lst (((List.range (2^0)).filter (bJ N)).map bF)):=by
  have h0:bJ N 0=true:=by rw[fV];exact Nat.and_zero N
  rw[aB,show (List.range (2^0))=[0] from rfl,X4,h0];rfl
 generalize up3 H3 M (.lst [T.int 0])=H4 at v W ⊢;walk_at "n";refine aC fun R1 hR1=>?_;walk_at "";walk_at "n";refine aC fun R2 X=>?_;refine⟨fun m σ H=>∃(j:Nat) (q:Addr),σ=[some (.int (N:Int)),some (.ref q),some (.int ((2^j:Nat):Int))]/\Sub3 H3 H/\H3 q=none/\H q=some (.lst (((List.range (2^j)).filter (bJ N)).map bF))/\m=512 - 2^j/\(∀i,i+1=j->2^i<=N),⟨_,0,M,rfl,v,F,W,rfl,(fun i h=>by omega)⟩,?_⟩;rintro m σ H ⟨j,q,rfl,S,G,t,rfl,hj⟩;have Z:2^j<=256:=by
  cases j with
  |zero=>decide
  |succ i =>
   have h1:=hj i rfl
   have h2:i<8:=by
    rcases Zq i 8 with z | z
    ·
     exact z
    ·
     have:=Yi (n:=2) (by decide) z
     omega
   exact Wc (Yi (by decide) (show i+1<=8 by omega)) (by decide)
 have hp:=Nat.pow_pos (n:=j) (show 0<2 by decide);walk_at "";by_cases u:2^j<=N
 ·have d:decide (((2^j:Nat):Int)<=(N:Int))=true:=F_ (Int.ofNat_le.mpr u);rw[d,if_pos rfl];have hlen:(((List.range (2^j)).filter (bJ N))).length<=256:=Wc (Ww _ _) (by rw[o_];exact Z);have l:=Du (N:=N) (k:=j);have e2:((2^j:Nat):Int)*2=((2^(j+1):Nat):Int):=by rw[Nat.pow_succ];push_cast;rfl
  have cm:CMul ((2^j:Nat):Int) 2:=.inl ⟨by omega,by omega⟩;have L:2^(j+1)=2^j*2:=by rw[Nat.pow_succ]
  have y:Box (∀(J:Addr) (H':Hp3),Sub3 H3 H'->H3 J=none->H' J=some (.lst (((List.range (2^(j+1))).filter (bJ N)).map bF))->∃m',m'<512 - 2^j/\∃(R:Nat) (q:Addr),([some (.int (N:Int)),some (.ref J),some (.int (((2^j:Nat):Int)*2))]:St3)=[some (.int (N:Int)),some (.ref q),some (.int ((2^R:Nat):Int))]/\Sub3 H3 H'/\H3 q=none/\H' q=some (.lst (((List.range (2^R)).filter (bJ N)).map bF))/\m'=512 - 2^R/\(∀i,i+1=R->2^i<=N)):=⟨fun J H' s1 s2 s3=>⟨_,by omega,j+1,J,by rw[e2],s1,s2,s3,rfl,fun i hi=>by rw[show i=j by omega];exact u⟩⟩;clear hj X k' W v e2 d L;generalize (List.range (2^(j+1))).filter (bJ N)=nx at *;generalize hcur:(List.range (2^j)).filter (bJ N)=a at *;refine⟨(N:Int),((2^j:Nat):Int),rfl,?_⟩;rw[show decide (Builtin.bitAnd (N:Int) ((2^j:Nat):Int)=((2^j:Nat):Int))=bJ N (2^j) from rfl];generalize 2^j=p at *;cases C:bJ N p with
  |false=>rw[C] at l;simp only[H_,Wl,N_] at l;simp only[iT,H_,Wl];rw[<- l] at t;exact⟨by first | trivial | exact cm,y.out q _ S G t⟩
  |true =>
  rw[C] at l;simp only[if_true] at l;try simp only[iT,if_true]
  walk_at "c";rw[t,wD];refine cI bF (fun i=>bF (i+p)) a [some (.int (p:Int))] (.inl t) (by omega) (fun i hi Q' r=>?_) (fun O x=>?_)
  ·simp only[bF] at r ⊢;rw[show ((i+p:Nat):Int)=(i:Int)+(p:Int) by push_cast;rfl] at r;have U:=Box.mk r;clear r y;walk_at "";exact U.out
  have nqc:q≠O:=bh t x;rw[aD nqc,t,jF];refine⟨by rw[g_,g_];omega,fun pq D=>?_⟩;have I:Sub3 H3 (up3 (up3 H O (.lst (a.map fun i=>bF (i+p)))) pq (.lst (a.map bF++a.map fun i=>bF (i+p)))):=(S.trans (Sub3.new x)).trans (Sub3.new D);have Y:H3 pq=none:=du (S.trans (Sub3.new x)) D;have gq:up3 (up3 H O (.lst (a.map fun i=>bF (i+p)))) pq (.lst (a.map bF++a.map fun i=>bF (i+p))) pq=some (.lst (nx.map bF)):=by rw[aB,l,y_,WQ];rfl
  generalize up3 (up3 H O (.lst (a.map fun i=>bF (i+p)))) pq (.lst (a.map bF++a.map fun i=>bF (i+p)))=H5 at I gq ⊢;exact⟨by first | trivial | exact cm,y.out pq _ I Y gq⟩
 have d:decide (((2^j:Nat):Int)<=(N:Int))=false:=A_ (fun z=>u (Int.ofNat_le.mp z));rw[d,if_neg m_];rw[xR (by omega)] at t;walk_at "n";walk_at "";refine Fin3.of ?_ (k'.out q G);intro b o C;by_cases e:b=q
 ·subst e;rw[aB] at C;rw[t,C]
 rw[aD e] at C;exact S b o C
theorem tL:FnScope ["tasks"] ["tasks"] (aA (top 13)):=bB
theorem tM {f:Addr}{d:FuncData}(g:G3 K mg "names_of" (top 13) ["tasks"] f d) (B:Bl mg):Cal P w K mg base 1 "names_of" (top 13) ["tasks"] Ul:=by
 refine⟨f,d,g,?_⟩;refine fn3 g.fn tL (fun ts H Q h=>?_) (fun j A b s H E ts H3 Q u h=>?_)
 ·obtain⟨tk,rfl,_⟩:=h;rfl
 obtain⟨tk,rfl,p,k⟩:=h;refine⟨_,(au (aM (bL rfl (bW (n0:=(aA (top 13)).names) (N:=["tasks"]) (N':=["task"]) (nt:=1) (cap:=[]) rfl rfl (by decide +kernel)) (dO (v3 0)) (fun n e s H o q=>⟨(aF (i:=0) (show List.Nodup [("task":Str)] by decide +kernel)),b7,(aJ ix3 (v3 0) aq)⟩)))),?_⟩;rw[show aR ["tasks"] [T.tup (tk.map tkT)]=[some (T.tup (tk.map tkT))] from rfl];have hsz:sizeLine=16777216:=rfl;have c:=Box.mk k;clear k;walk_at "";walk_at "c";refine cI tkT (fun t=>T.str t.1) tk [] trivial (by omega) (fun t r v m=>?_) (fun l a=>?_)
 ·clear c;simp only[tkT];walk_at "";try exact m
 have:=c.out l a;rw[WQ] at this;exact Fin3.of Sub3.refl this
abbrev mG:List Str:=["works","rules","name","length","kinds","own","group","ahead","apart"]
theorem sc_rules_of:FnScope mG ["works"] (aA (top 19)):=bB
theorem tO {f:Addr}{V:FuncData}(g:G3 K mg "rules_of" (top 19) ["works"] f V) (B:Bl mg) (d:Cal P w K mg base 1 "number_of" (top 15) ["works","tasks"] Ek) (j:Cal P w K mg base 1 "apart_from" (top 18) ["works","task"] Kv) (m:Cal P w K mg base 3 "ahead_of" (top 9) ["works","task"] UW) (l:Cal P w K mg base 3 "group_of" (top 8) ["works","task"] UV):Cal P w K mg base 4 "rules_of" (top 19) ["works"] Kw:=by
 refine⟨f,V,g,?_⟩;refine fn3 g.fn sc_rules_of (fun ts H Q h=>?_) (fun cdv A G s H E ts H3 Q u h=>?_)
 ·obtain⟨W,rfl,_⟩:=h;rfl
 obtain⟨⟨tk,b,prs,c⟩,rfl,r,k⟩:=h;refine⟨_,(ao (aG (i:=1) sc_rules_of.nd (bI ak))
   (ao (bA K_ rfl (dO (aJ ix3 (v3 0) aq)) (dN (n:=3) rfl (aO (aF (i:=2) sc_rules_of.nd) (aO (aF (i:=3) sc_rules_of.nd) (aO (aF (i:=4) sc_rules_of.nd) cW)))) (ao (aG (i:=5) sc_rules_of.nd (aK d u rfl (aa (v3 0) (aa (cA (aa (v3 2) ak)) ak))))
    (ao (aG (i:=6) sc_rules_of.nd (aK d u rfl (aa (v3 0) (aa (aK l u rfl (aa (v3 0) (aa (v3 2) ak))) ak))))
    (ao (aG (i:=7) sc_rules_of.nd (aK d u rfl (aa (v3 0) (aa (aK m u rfl (aa (v3 0) (aa (v3 2) ak))) ak))))
    (ao (aG (i:=8) sc_rules_of.nd (aK d u rfl (aa (v3 0) (aa (aK j u rfl (aa (v3 0) (aa (v3 2) ak))) ak))))
    (au (bY (dm Q_ S_ T_ bC (v3 1) (aa (cA (aa (v3 5) (aa (v3 3) (aa (v3 4) (aa (v3 6) (aa (v3 7) (aa (v3 8) ak))))))) ak)))))))))
   (au (aM (v3 1))))),?_⟩
 rw[show aR mG [Wk.enc ⟨tk,b,prs,c⟩]=[some (T.tup [T.tup (tk.map tkT),T.tup (b.map orT),T.tup (prs.map prT),T.tup (c.map T.str)]),none,none,none,none,none,none,none,none] from rfl];have hsz:sizeLine=16777216:=rfl;have t8:tk.length<=8:=r.t8;walk_at "";refine⟨by omega,fun p I=>?_⟩;refine bf tkT tk (fun A D H=>∃(M v3 F L O J U:Option T) (t:Hp3),D=[some (T.tup [T.tup (tk.map tkT),T.tup (b.map orT),T.tup (prs.map prT),T.tup (c.map T.str)]),some (.ref p),M,v3,F,L,O,J,U]/\H=up3 t p (.lst (A.map (ruT ⟨tk,b,prs,c⟩ (tk.map (·.1)))))/\Sub3 H3 t/\H3 p=none) ⟨none,none,none,none,none,none,none,H3,rfl,rfl,Sub3.refl,I⟩ ?_ ?_
 ·rintro D H ⟨M,v3,F,L,O,J,U,t,rfl,rfl,S,_⟩;refine⟨trivial,?_⟩;walk_at "";refine Fin3.of (fun a o e=>?_) (k p I);by_cases h:a=p
  ·subst h;rw[aB] at e ⊢;exact e
  rw[aD h] at e ⊢;exact S _ _ e
 rintro A ⟨nm,x,X⟩ B D H N e ⟨M,v3,F,L,O,J,U,t,rfl,rfl,S,_⟩ Y;have Z:A.length<=8:=by have:=U_ List.length e;simp only[a_,i_] at this;omega
 refine⟨trivial,?_⟩;have y:Box (∀q,up3 t p (.lst (A.map (ruT ⟨tk,b,prs,c⟩ (tk.map (·.1))))) q=none->N [some (T.tup [T.tup (tk.map tkT),T.tup (b.map orT),T.tup (prs.map prT),T.tup (c.map T.str)]),some (.ref p),some (.str nm),some (.int x),some (sT X),some (.int (numOf (tk.map (·.1)) [nm])),some (.int (numOf (tk.map (·.1)) (fM ⟨tk,b,prs,c⟩ nm))),some (.int (numOf (tk.map (·.1)) (iW ⟨tk,b,prs,c⟩ nm))),some (.int (numOf (tk.map (·.1)) (jl ⟨tk,b,prs,c⟩ nm)))] (up3 (up3 (up3 t p (.lst (A.map (ruT ⟨tk,b,prs,c⟩ (tk.map (·.1)))))) q (.lst ((jl ⟨tk,b,prs,c⟩ nm).map T.str))) p (.lst (A.map (ruT ⟨tk,b,prs,c⟩ (tk.map (·.1)))++[ruT ⟨tk,b,prs,c⟩ (tk.map (·.1)) (nm,x,X)])))):=⟨fun q z=>by
  obtain⟨C,v⟩:=b8 z
  refine Y _ _ ⟨_,_,_,_,_,_,_,up3 t q (.lst ((jl ⟨tk,b,prs,c⟩ nm).map T.str)),rfl,?_,S.trans (Sub3.new v),I⟩
  rw[y_,Bf (Ne.symm C),vU]
  rfl⟩
 have R:(A.map (ruT ⟨tk,b,prs,c⟩ (tk.map (·.1)))).length<=8:=by rw[g_];exact Z
 generalize A.map (ruT ⟨tk,b,prs,c⟩ (tk.map (·.1)))=cur at y R;clear Y e k Z;simp only[tkT];walk_at "";refine⟨trivial,by omega,⟨tk,b,prs,c⟩,_,[nm],rfl,r,.inl rfl,?_⟩;walk_at "";refine⟨⟨tk,b,prs,c⟩,nm,rfl,r,?_⟩;try dsimp only
 refine⟨⟨tk,b,prs,c⟩,_,fM ⟨tk,b,prs,c⟩ nm,rfl,r,.inl rfl,?_⟩;walk_at "";refine⟨⟨tk,b,prs,c⟩,nm,rfl,r,?_⟩;try dsimp only
 refine⟨⟨tk,b,prs,c⟩,_,iW ⟨tk,b,prs,c⟩ nm,rfl,r,.inl rfl,?_⟩;walk_at "";refine⟨⟨tk,b,prs,c⟩,nm,rfl,r,fun q z=>?_⟩;obtain⟨C,v⟩:=b8 z;have n1':=Ne.symm C;try dsimp only
 refine⟨⟨tk,b,prs,c⟩,_,jl ⟨tk,b,prs,c⟩ nm,rfl,r,.inr ⟨q,rfl,aB⟩,?_⟩;walk_at "";exact⟨⟨trivial,trivial⟩,by omega,by omega,y.out q z⟩
abbrev dR:List Str:=["rules","beat","kind","done","number","load","own","length","kinds","group","ahead","apart"]
theorem sc_is_filling_number:FnScope dR ["rules","beat","kind","done","number"] (aA (top 21)):=bB
theorem gY {f:Addr}{fd:FuncData}(g:G3 K mg "is_filling_number" (top 21) ["rules","beat","kind","done","number"] f fd) (B:Bl mg) (b:Cal P w K mg base 1 "has_all" (top 20) ["number","part"] xZ) (d:Cal P w K mg base 1 "may_be_done" (top 11) ["kinds","kind"] Ku):Cal P w K mg base 2 "is_filling_number" (top 21) ["rules","beat","kind","done","number"] Kz:=by
 refine⟨f,fd,g,?_⟩;refine fn3 g.fn sc_is_filling_number (fun ts H Q h=>?_) (fun cdv A V s H E ts H3 Q M h=>?_)
 ·obtain⟨W,a,beat,c,D,S,rfl,_⟩:=h;rfl
 have O:=Room.u30 M;obtain⟨W,a,beat,c,D,S,rfl,hW,ha,k⟩:=h;refine⟨_,(ao (aG (i:=5) sc_is_filling_number.nd aq)
   (ao (bA K_ rfl (cL (v3 0)) (dN (n:=6) rfl (aO (aF (i:=6) sc_is_filling_number.nd) (aO (aF (i:=7) sc_is_filling_number.nd) (aO (aF (i:=8) sc_is_filling_number.nd) (aO (aF (i:=9) sc_is_filling_number.nd) (aO (aF (i:=10) sc_is_filling_number.nd) (aO (aF (i:=11) sc_is_filling_number.nd) cW))))))) (au (bV (cP (aK b M rfl (aa (v3 4) (aa (v3 6) ak)))) (ao (bV (PW3.pt (lg (cP (aK b M rfl (aa (v3 3) (aa (v3 6) ak)))) (jC (iJ (cP (aK d M rfl (aa (v3 8) (aa (v3 2) ak)))))))) (au (aM fH)) bu)
     (ao (bV (PW3.pt (lg (iJ (cP (aK b M rfl (aa (v3 4) (aa (v3 9) ak))))) (jC (iJ (cP (aK b M rfl (aa (aH SX (v3 4) (v3 3)) (aa (v3 10) ak)))))))) (au (aM fH)) bu)
     (ao (bV (aW (lA O) (aH Bp (v3 4) (v3 11)) aq) (au (aM fH)) bu)
     (au (aG (i:=5) sc_is_filling_number.nd (aH aZ (v3 5) (v3 7))))))) bu)))
   (au (aM (gm Jy (v3 5) (v3 1)))))),?_⟩
 rw[show aR dR [T.ref a,T.int beat,T.str c,T.int (numOf (W.tasks.map (·.1)) D),T.int (numOf (W.tasks.map (·.1)) S)]=[some (T.ref a),some (T.int beat),some (T.str c),some (T.int (numOf (W.tasks.map (·.1)) D)),some (T.int (numOf (W.tasks.map (·.1)) S)),none,none,none,none,none,none,none] from rfl];have hsz:sizeLine=16777216:=rfl;walk_at "";refine bf (ruT W (W.tasks.map (·.1))) W.tasks (fun A U H=>∃(I y J C m l:Option T),U=[some (.ref a),some (.int beat),some (.str c),some (.int (numOf (W.tasks.map (·.1)) D)),some (.int (numOf (W.tasks.map (·.1)) S)),some (.int (dq A S)),I,y,J,C,m,l]/\H=H3/\(A.all fun t=>!decide (t.1∈S)||okT W c D S t)=true) ⟨none,none,none,none,none,none,rfl,rfl,rfl⟩ ?_ ?_
 ·rintro U H ⟨I,y,J,C,m,l,rfl,rfl,o⟩;refine⟨.inl ha,?_⟩;walk_at "";refine Fin3.of Sub3.refl ?_;unfold uZ at k;rw[o,Zz] at k;exact k
 rintro A t B U H N e ⟨I,y,J,C,m,l,rfl,rfl,o⟩ hN;refine⟨.inl ha,?_⟩;have F:t∈W.tasks:=by rw[e];simp
 have G:t.1∈W.tasks.map (·.1):=x_.mpr ⟨t,F,rfl⟩;have r:∀x∈fM W t.1,x∈W.tasks.map (·.1):=fun x j=>(G_.mp j).1;have u:∀x∈iW W t.1,x∈W.tasks.map (·.1):=fun x j=>(G_.mp j).1;have v:∀x∈jl W t.1,x∈W.tasks.map (·.1):=fun x j=>by obtain⟨p,hp,rfl⟩:=x_.mp j;exact (hW.pp p (G_.mp hp).1).2.2.2
 have b1:decide (Builtin.bitAnd (numOf (W.tasks.map (·.1)) S) (numOf (W.tasks.map (·.1)) [t.1])=numOf (W.tasks.map (·.1)) [t.1])=decide (t.1∈S):=by rw[Wv,p_,p_];exact xM G
 have b2:decide (Builtin.bitAnd (numOf (W.tasks.map (·.1)) D) (numOf (W.tasks.map (·.1)) [t.1])=numOf (W.tasks.map (·.1)) [t.1])=decide (t.1∈D):=by rw[Wv,p_,p_];exact xM G
 have b3:decide (Builtin.bitAnd (numOf (W.tasks.map (·.1)) S) (numOf (W.tasks.map (·.1)) (fM W t.1))=numOf (W.tasks.map (·.1)) (fM W t.1))=@decide (∀x∈fM W t.1,x∈S) (Classical.propDecidable _):=by rw[Wv,p_,@p_ _ (Classical.propDecidable _),eU];exact⟨fun h x j=>h x (r x j) j,fun h x _ j=>h x j⟩
 have b4:decide (Builtin.bitAnd (Builtin.bitOr (numOf (W.tasks.map (·.1)) S) (numOf (W.tasks.map (·.1)) D)) (numOf (W.tasks.map (·.1)) (iW W t.1))=numOf (W.tasks.map (·.1)) (iW W t.1))=@decide (∀x∈iW W t.1,x∈S++D) (Classical.propDecidable _):=by rw[Wv,p_,@p_ _ (Classical.propDecidable _),O7,eU];exact⟨fun h x j=>h x (u x j) j,fun h x _ j=>h x j⟩
 have b5:decide (Builtin.bitAnd (numOf (W.tasks.map (·.1)) S) (numOf (W.tasks.map (·.1)) (jl W t.1))=0)=@decide (∀x∈jl W t.1,x∉S) (Classical.propDecidable _):=by rw[Wv,p_,@p_ _ (Classical.propDecidable _),p7];exact⟨fun h x j hs=>h x (v x j) ⟨hs,j⟩,fun h x _ z=>h x z.2 z.1⟩
 have q:Box (t.1∈S->okT W c D S t=false->Fin3 Q (.bl false) H):=⟨fun h1 h2=>by
  refine Fin3.of Sub3.refl ?_
  have e0:uZ W beat c D S=false:=by
   unfold uZ
   rw[Bool.and_eq_false_iff]
   refine .inl ?_
   rw[List.all_eq_false]
   exact⟨t,F,by simp [h1,h2]⟩
  rw[e0] at k
  exact k⟩
 have L:Box (∀(I y J C m l:Option T),(t.1∈S->okT W c D S t=true)->N [some (.ref a),some (.int beat),some (.str c),some (.int (numOf (W.tasks.map (·.1)) D)),some (.int (numOf (W.tasks.map (·.1)) S)),some (.int (dq A S+if t.1∈S then t.2.1 else 0)),I,y,J,C,m,l] H):=⟨fun I y J C m l h=>hN _ _ ⟨I,y,J,C,m,l,by rw[u5],rfl,by
  rw[List.all_append,o]
  by_cases z:t.1∈S
  ·
   simp [h z]
  ·
   simp [z]⟩⟩
 clear hN o k e r u v G F;obtain⟨nm,len,ks⟩:=t;dsimp only at *;generalize numOf (W.tasks.map (·.1)) D=nD at *;generalize numOf (W.tasks.map (·.1)) S=nS at *;simp only[ruT];generalize numOf (W.tasks.map (·.1)) [nm]=n1 at *;generalize numOf (W.tasks.map (·.1)) (fM W nm)=n2 at *;generalize numOf (W.tasks.map (·.1)) (iW W nm)=n3 at *;generalize numOf (W.tasks.map (·.1)) (jl W nm)=n4 at *;unfold okT at q L;dsimp only at q L;generalize X:decide (nm∈D)=c1 at *;generalize Z:@decide (∀x∈fM W nm,x∈S) (Classical.propDecidable _)=c3 at *;generalize Y:@decide (∀x∈iW W nm,x∈S++D) (Classical.propDecidable _)=c4 at *;generalize R:@decide (∀x∈jl W nm,x∉S) (Classical.propDecidable _)=c5 at *;clear X Z Y R;walk_at "";refine⟨trivial,nS,n1,rfl,?_⟩;rw[b1];by_cases hS:nm∈S
 ·simp only[hS,XS,if_true,iT,true_implies] at q L ⊢;refine⟨nD,n1,rfl,?_⟩;rw[b2];cases c1 with
  |true =>
   try simp only[iT,if_true]
   exact q.out (by simp)
  |false =>
  simp only[iT,H_,Wl];refine⟨ks,c,rfl,?_⟩;generalize rY ks c=c2 at *;cases c2 with
  |false=>simp only[iT,Xm,if_true];exact q.out (by simp)
  |true =>
  simp only[iT,WX,H_,Wl];refine⟨nS,n2,rfl,?_⟩;rw[b3];cases c3 with
  |false=>simp only[iT,Xm,if_true];exact q.out (by simp)
  |true =>
  simp only[iT,WX,H_,Wl];refine⟨Builtin.bitOr nS nD,n3,rfl,?_⟩;rw[b4];cases c4 with
  |false=>simp only[iT,Xm,if_true];exact q.out (by simp)
  |true =>
  simp only[iT,WX,H_,Wl];try rw[b5]
  cases c5 with
  |false=>simp only[Xm,if_true];exact q.out (by simp)
  |true =>
  simp only[WX,H_,Wl];exact L.out _ _ _ _ _ _ (by simp)
 simp only[hS,Xx,H_,Wl,iT,Int.add_zero,false_implies] at q L ⊢;exact L.out _ _ _ _ _ _ (by first | trivial | simp)
abbrev mH:List Str:=["works","number","tasks","left","task"]
theorem sc_tasks_of:FnScope mH ["works","number"] (aA (top 16)):=bB
theorem tQ {f:Addr}{z:FuncData}(g:G3 K mg "tasks_of" (top 16) ["works","number"] f z) (B:Bl mg):Cal P w K mg base 1 "tasks_of" (top 16) ["works","number"] Ks:=by
 refine⟨f,z,g,?_⟩;refine fn3 g.fn sc_tasks_of (fun ts H Q h=>?_) (fun M A q s H E ts H3 Q L h=>?_)
 ·obtain⟨W,n,rfl,_⟩:=h;rfl
 have l:=Room.u30 L;obtain⟨⟨tk,b,prs,c⟩,n,rfl,R,n0,S,k⟩:=h;refine⟨_,(ao (aG (i:=2) sc_tasks_of.nd (bI ak))
   (ao (aG (i:=3) sc_tasks_of.nd (v3 1))
   (ao (bA K_ rfl (dO (aJ ix3 (v3 0) aq)) (aF (i:=4) sc_tasks_of.nd) (ao (bV (aW (dj l) (aH dC (v3 3) aq) aq) (au (bY (dm Q_ S_ T_ bC (v3 2) (aa (aJ ix3 (v3 4) aq) ak)))) bu)
    (au (aG (i:=3) sc_tasks_of.nd (aH dU (v3 3) aq)))))
   (au (aM (bG cT rfl B.tuple_ cH (aa (v3 2) ak))))))),?_⟩
 rw[show aR mH [Wk.enc ⟨tk,b,prs,c⟩,T.int n]=[some (T.tup [T.tup (tk.map tkT),T.tup (b.map orT),T.tup (prs.map prT),T.tup (c.map T.str)]),some (T.int n),none,none,none] from rfl];have hsz:sizeLine=16777216:=rfl;have U:tk.length<=8:=R.t8;walk_at "";refine⟨by omega,fun p I=>?_⟩;refine j7 (fun r o H=>∃(A B:List (Str × Int × List Str)) (v:Option T),tk=A++B/\r=B.map tkT/\H=up3 H3 p (.lst ((pick (A.map (·.1)) n).map T.str))/\o=[some (T.tup [T.tup (tk.map tkT),T.tup (b.map orT),T.tup (prs.map prT),T.tup (c.map T.str)]),some (.int n),some (.ref p),some (.int (n / 2^A.length)),v]) ⟨[],tk,none,rfl,rfl,rfl,by simp⟩ ?_ ?_
 ·rintro o H ⟨A,B,v,e,j,rfl,rfl⟩;have G:B=[]:=XQ.mp j.symm;subst G;rw[N_] at e;subst e;clear j;refine⟨trivial,?_⟩;walk_at "";exact Fin3.of (Sub3.new I) k
 rintro x r o H N ⟨A,B,v,e,j,rfl,rfl⟩ C;cases B with
 |nil=>cases j
 |cons t B =>
 rw[B_,Yc] at j;obtain⟨rfl,rfl⟩:=j;have O:A.length+1<=8:=by have:=U_ List.length e;simp only[a_,i_] at this;omega
 have d:=rR (A.map (·.1)) [t.1] n;simp only[pick,g_] at d;have y:=xQ (A.map (·.1)) n;rw[g_] at y;have m:n / 2^A.length / 2=n / 2^(A++[t]).length:=by rw[a_,L_,Zu,Int.ediv_ediv_of_nonneg (WP (Int.pow_pos (by decide)))]
 have a:∀v,N [some (T.tup [T.tup (tk.map tkT),T.tup (b.map orT),T.tup (prs.map prT),T.tup (c.map T.str)]),some (.int n),some (.ref p),some (.int (n / 2^A.length / 2)),v] (up3 H3 p (.lst ((pick (A.map (·.1)++[t.1]) n).map T.str))):=fun v=>by rw[m];exact C _ _ ⟨A++[t],B,v,by rw[e];simp,rfl,by simp,rfl⟩
 rw[d] at a;replace a:=Box.mk a;obtain⟨nm,u,J⟩:=t;refine⟨trivial,?_⟩;clear C e k d m;simp only[tkT,sT];walk_at "";try simp only[true_and]
 refine⟨by decide,?_⟩;by_cases F:n / 2^A.length%2=1
 ·simp only[F,if_true,XS] at a ⊢;refine⟨by omega,?_⟩;have D:=a.out (some (T.tup [T.str nm,T.int u,T.tup (J.map T.str)]));rw[y_] at D;exact⟨⟨by decide,by decide +kernel⟩,D⟩
 simp only[F,Wl,Xx,H_,N_] at a ⊢;exact⟨⟨by decide,by decide +kernel⟩,a.out _⟩
end
def El (K:Frag):Bool:=K.all fun p=>!(p.2.cls==.type "list")
theorem Em {K:Frag}{a:Addr}{o:Obj}(e:K.lookup a=some o):(a,o)∈K:=by
 induction K with
 |nil=>cases e
 |cons p r c =>
 obtain⟨b,u⟩:=p;rw[Xd] at e;split at e
 ·rename_i h;rw[eq_of_beq h,We e];exact q_
 exact z_ _ (c e)
theorem zu {K:Frag}(h:El K=true) {a:Addr}{o:Obj}(e:K.lookup a=some o):o.cls≠.type "list":=fun z=>by
 have b:(a,o)∈K:=Em e;have q:=WD.mp h (a,o) b;rw[z] at q;simp at q
theorem uc {n:Nat}{us:List Value}(h:us.length=n+1):∃(a:Value) (r:List Value),us=a::r/\r.length=n:=by
 cases us with
 |nil=>exact nomatch h
 |cons a r=>exact⟨a,r,rfl,Nat.succ.inj h⟩
theorem uz {us:List Value}(h:us.length=0):us=[]:=Xl h
theorem ub1 {b:FuncData}{c:Str}(h:∀a:Value,bindArgs b ⟨[a],[]⟩=pure ([c].zip [a])) (us:List Value) (e:us.length=1):bindArgs b ⟨us,[]⟩=pure ([c].zip us):=by
 obtain⟨a,g,d,f⟩:=uc e;rw[d,uz f];exact h a
theorem ub2 {c:FuncData}{d f:Str}(h:∀b a:Value,bindArgs c ⟨[b,a],[]⟩=pure ([d,f].zip [b,a])) (us:List Value) (e:us.length=2):bindArgs c ⟨us,[]⟩=pure ([d,f].zip us):=by
 obtain⟨b,m,g,j⟩:=uc e;obtain⟨a,l,k,i⟩:=uc j;rw[g,k,uz i];exact h b a
theorem ub3 {g:FuncData}{f i d:Str}(h:∀c b a:Value,bindArgs g ⟨[c,b,a],[]⟩=pure ([f,i,d].zip [c,b,a])) (us:List Value) (e:us.length=3):bindArgs g ⟨us,[]⟩=pure ([f,i,d].zip us):=by
 obtain⟨c,q,j,m⟩:=uc e;obtain⟨b,p,k,l⟩:=uc m;obtain⟨a,r,o,n⟩:=uc l;rw[j,k,o,uz n];exact h c b a
theorem ub4 {i:FuncData}{k j g f:Str}(h:∀a d c b:Value,bindArgs i ⟨[a,d,c,b],[]⟩=pure ([k,j,g,f].zip [a,d,c,b])) (us:List Value) (e:us.length=4):bindArgs i ⟨us,[]⟩=pure ([k,j,g,f].zip us):=by
 obtain⟨a,v,m,q⟩:=uc e;obtain⟨d,u,p,l⟩:=uc q;obtain⟨c,w,o,n⟩:=uc l;obtain⟨b,t,s,r⟩:=uc n;rw[m,p,o,s,uz r];exact h a d c b
theorem ub5 {j:FuncData}{l k i g m:Str}(h:∀a d c b f:Value,bindArgs j ⟨[a,d,c,b,f],[]⟩=pure ([l,k,i,g,m].zip [a,d,c,b,f])) (us:List Value) (e:us.length=5):bindArgs j ⟨us,[]⟩=pure ([l,k,i,g,m].zip us):=by
 obtain⟨a,A,o,s⟩:=uc e;obtain⟨d,z,r,n⟩:=uc s;obtain⟨c,B,q,p⟩:=uc n;obtain⟨b,x,v,u⟩:=uc p;obtain⟨f,y,w,t⟩:=uc u;rw[o,r,q,v,w,uz t];exact h a d c b f
theorem Wa {K:Frag}{h:Heap}{j:Str->Option Value}{x:Str}{st:Stmt}{ps:List Str}{f:Addr}{oc:Value}{od g:Option Addr}{osl:Array (Option Value)}{kV d i b e:Value}(X:K.In h) (G:h.Ns mainGlobals j)
  (a:nsIn K mainGlobals x=some (some (.ref f))) (l:K.lookup f=some ⟨oc,od,.func (fnOf x x (bZ st) (bN st) (aA st) .none kV d i g b e),osl⟩) (c:codeIn K b x=true) (k:keepIn K (.ref f)=true)
  (m:∀(kV d i:Value) (g:Option Addr) (b e:Value) (us:List Value),us.length=ps.length->bindArgs (fnOf x x (bZ st) (bN st) (aA st) .none kV d i g b e) ⟨us,[]⟩=pure (ps.zip us)) :
  G3 K j x st ps f (fnOf x x (bZ st) (bN st) (aA st) .none kV d i g b e) :=
 have F:=kY (st:=st) l c k
 ⟨F,F.binds m,mg_of X G a⟩
theorem cF (i:Nat) (ps:List Str) (x:Str) (f:Addr) (m:Str) (t c:Nat) {K:Frag}{h:Heap}{b:Str->Option Value}(X:K.In h) (G:h.Ns mainGlobals b)
  (d:∀(kV doc pm:Value) (an:Option Addr) (cdv ct:Value) (us:List Value),us.length=ps.length->bindArgs (fnOf x x (bZ (top i)) (bN (top i)) (aA (top i)) .none kV doc pm an cdv ct) ⟨us,[]⟩=pure (ps.zip us))
  (a:nsIn K mainGlobals x=some (some (.ref f)):=by kernel_rfl) (l:K.lookup f=some (fO i x m t c):=by kernel_rfl) (e:codeIn K (.ref c) x=true:=by kernel_rfl) (k:keepIn K (.ref f)=true:=by kernel_rfl) :
  G3 K b x (top i) ps f (fnOf x x (bZ (top i)) (bN (top i)) (aA (top i)) .none .none .none (.str m t) none (.ref c) .none) :=
 Wa X G a l e k d
def U0:Stmt->Pos->Pos
 |.FunctionDef _ _ _ _ _ _ _ _ _ p,_=>p
 |_,p=>p
def dv:DefRec:=⟨"law",bZ (top 46),bN (top 46),aA (top 46),U0 (top 46) default⟩
theorem all_ok {l:PySem.W.OpenLaw}{w:World}{h:Heap}{mg:Str->Option Value}{fa:Addr}(X:(KK w.params).In h) (G:h.Ns mainGlobals mg) (hfa:mg "law"=some (.ref fa)) :
  ∃fd:FuncData,(∀(s:Shared) (v:Value),BindsTo s fd ⟨[v],[]⟩ [("_law_script",v)])/\∀base:Heap,(KK w.params).In base->base.Ns mainGlobals mg->jQ l.prog w (KK w.params) mg base 10 fa fd ["_law_script"] xY:=by
 have at_:∀{n:Str} {v:Value},nsIn (KK w.params) mainGlobals n=some (some v)->mg n=some v:=fun e=>mg_of X G e;have b:∀{n:Str},nsIn (KK w.params) mainGlobals n=some none->mg n=none:=fun e=>PySem.W.mg_none_of X G e;have e:=hfa.symm.trans (at_ (v:=.ref 284) (by kernel_rfl));cases e;have B:Bl mg:=⟨b (by kernel_rfl),b (by kernel_rfl),b (by kernel_rfl),b (by kernel_rfl),b (by kernel_rfl),b (by kernel_rfl),b (by kernel_rfl),b (by kernel_rfl),b (by kernel_rfl),b (by kernel_rfl),b (by kernel_rfl),b (by kernel_rfl),b (by kernel_rfl),b (by kernel_rfl),b (by kernel_rfl),b (by kernel_rfl),b (by kernel_rfl),b (by kernel_rfl),b (by kernel_rfl),b (by kernel_rfl)⟩;have g__wall:=cF 0 ["k"] "_wall" 21 "__main__" 164 20 X G fun _ _ _ _ _ _=>ub1 fun _=>rfl;have g_links_of:=cF 2 ["works"] "links_of" 28 "stationrow.chains" 194 27 X G fun _ _ _ _ _ _=>ub1 fun _=>rfl;have g_reached:=cF 3 ["links","start"] "reached" 35 "stationrow.chains" 194 34 X G fun _ _ _ _ _ _=>ub2 fun _ _=>rfl;have g_led_to:=cF 4 ["works","task"] "led_to" 42 "stationrow.chains" 194 41 X G fun _ _ _ _ _ _=>ub2 fun _ _=>rfl;have g_led_from:=cF 5 ["works","task"] "led_from" 47 "stationrow.chains" 194 46 X G fun _ _ _ _ _ _=>ub2 fun _ _=>rfl;have g_in_both:=cF 6 ["works","found","other"] "in_both" 52 "stationrow.chains" 194 51 X G fun _ _ _ _ _ _=>ub3 fun _ _ _=>rfl;have u:=cF 7 ["works","found","other"] "in_first_alone" 57 "stationrow.chains" 194 56 X G fun _ _ _ _ _ _=>ub3 fun _ _ _=>rfl;have g_group_of:=cF 8 ["works","task"] "group_of" 64 "stationrow.chains" 194 63 X G fun _ _ _ _ _ _=>ub2 fun _ _=>rfl;have g_ahead_of:=cF 9 ["works","task"] "ahead_of" 71 "stationrow.chains" 194 70 X G fun _ _ _ _ _ _=>ub2 fun _ _=>rfl;have H:=cF 11 ["kinds","kind"] "may_be_done" 78 "stationrow.checks" 261 77 X G fun _ _ _ _ _ _=>ub2 fun _ _=>rfl;have g_names_of:=cF 13 ["tasks"] "names_of" 83 "stationrow.texts" 271 82 X G fun _ _ _ _ _ _=>ub1 fun _=>rfl;have g_number_of:=cF 15 ["works","tasks"] "number_of" 90 "stationrow.sets" 279 89 X G fun _ _ _ _ _ _=>ub2 fun _ _=>rfl;have g_tasks_of:=cF 16 ["works","number"] "tasks_of" 97 "stationrow.sets" 279 96 X G fun _ _ _ _ _ _=>ub2 fun _ _=>rfl;have Q:=cF 18 ["works","task"] "apart_from" 102 "stationrow.fillings" 303 101 X G fun _ _ _ _ _ _=>ub2 fun _ _=>rfl;have g_rules_of:=cF 19 ["works"] "rules_of" 109 "stationrow.fillings" 303 108 X G fun _ _ _ _ _ _=>ub1 fun _=>rfl;have g_has_all:=cF 20 ["number","part"] "has_all" 116 "stationrow.fillings" 303 115 X G fun _ _ _ _ _ _=>ub2 fun _ _=>rfl;have g:=cF 21 ["rules","beat","kind","done","number"] "is_filling_number" 123 "stationrow.fillings" 303 122 X G fun _ _ _ _ _ _=>ub5 fun _ _ _ _ _=>rfl;have m:=cF 22 ["numbers"] "greatest_numbers" 128 "stationrow.fillings" 303 127 X G fun _ _ _ _ _ _=>ub1 fun _=>rfl;have g_parts_of:=cF 24 ["number"] "parts_of" 133 "stationrow.walks" 358 132 X G fun _ _ _ _ _ _=>ub1 fun _=>rfl;have M:=cF 27 ["walk","stand","ways"] "ways_behind" 185 "stationrow.dealt" 428 184 X G fun _ _ _ _ _ _=>ub3 fun _ _ _=>rfl;have U:=cF 28 ["works","beat","many"] "dealing_to" 192 "stationrow.dealt" 428 191 X G fun _ _ _ _ _ _=>ub3 fun _ _ _=>rfl;have C:=cF 30 ["works"] "loads_rising" 197 "stationrow.beats" 455 196 X G fun _ _ _ _ _ _=>ub1 fun _=>rfl;have N:=cF 31 ["works","many"] "least_beat" 204 "stationrow.beats" 455 203 X G fun _ _ _ _ _ _=>ub2 fun _ _=>rfl;have g_beats_of:=cF 32 ["works"] "beats_of" 209 "stationrow.beats" 455 208 X G fun _ _ _ _ _ _=>ub1 fun _=>rfl;have g_numbers:=cF 34 ["_law_script"] "_law_numbers" 216 mlw 481 215 X G fun _ _ _ _ _ _=>ub1 fun _=>rfl;have g_draw:=cF 35 ["_law_deck","_law_most"] "_law_draw" 223 mlw 481 222 X G fun _ _ _ _ _ _=>ub2 fun _ _=>rfl;have g_great:=cF 36 ["_law_deck","_law_most"] "_law_great" 230 mlw 481 229 X G fun _ _ _ _ _ _=>ub2 fun _ _=>rfl;have g_free_name:=cF 37 ["_law_size","_law_number","_law_names_here"] "_law_free_name" 237 mlw 481 236 X G fun _ _ _ _ _ _=>ub3 fun _ _ _=>rfl;have g_names:=cF 38 ["_law_deck","_law_many"] "_law_names" 242 mlw 481 241 X G fun _ _ _ _ _ _=>ub2 fun _ _=>rfl;have g_turn:=cF 39 ["_law_deck","_law_things"] "_law_turn" 249 mlw 481 248 X G fun _ _ _ _ _ _=>ub2 fun _ _=>rfl;have g_lengths:=cF 40 ["_law_deck","_law_many"] "_law_lengths" 254 mlw 481 253 X G fun _ _ _ _ _ _=>ub2 fun _ _=>rfl;have g_chained:=cF 41 ["_law_many","_law_edges"] "_law_chained" 259 mlw 481 258 X G fun _ _ _ _ _ _=>ub2 fun _ _=>rfl;have g_pairs:=cF 42 ["_law_deck","_law_names_here","_law_orders","_law_lots"] "_law_pairs" 264 mlw 481 263 X G fun _ _ _ _ _ _=>ub4 fun _ _ _ _=>rfl;have T:=cF 43 ["_law_deck","_law_common","_law_names_here"] "_law_some_kinds" 269 mlw 481 268 X G fun _ _ _ _ _ _=>ub3 fun _ _ _=>rfl;have g_kinds:=cF 44 ["_law_deck","_law_row","_law_names_here","_law_table"] "_law_kinds" 274 mlw 481 273 X G fun _ _ _ _ _ _=>ub4 fun _ _ _ _=>rfl;have g_works:=cF 45 ["_law_deck","_law_least","_law_most","_law_stands"] "_law_works" 279 mlw 481 278 X G fun _ _ _ _ _ _=>ub4 fun _ _ _ _=>rfl;have g_law:=cF 46 ["_law_script"] "law" 284 mlw 481 283 X G fun _ _ _ _ _ _=>ub1 fun _=>rfl;refine⟨fnOf "law" "law" (bZ (top 46)) (bN (top 46)) (aA (top 46)) .none .none .none (.str mlw 481) none (.ref 283) .none,fun s v=>.of_eq rfl,fun base _ _=>?_⟩;have j:Cls (KK w.params) 174:=⟨by kernel_rfl,by kernel_rfl,by kernel_rfl,by kernel_rfl⟩;have NF_Walk:∀n∈(["works","beat","rules","whole"]:List Str),findIn (KK w.params) (.ref 174) n=some none:=fun n hn=>by
  rcases n_.mp hn with rfl | hn
  ·kernel_rfl
  rcases n_.mp hn with rfl | hn
  ·kernel_rfl
  rcases n_.mp hn with rfl | hn
  ·kernel_rfl
  rw[h_.mp hn];kernel_rfl
 have k:InsC (KK w.params) 174 ["works","beat","rules","whole"]:=⟨j,NF_Walk⟩;have x:Fun (KK w.params) "__init__" "Walk.__init__" (topm 25 0) 147 (fnOf "__init__" "Walk.__init__" (bZ (topm 25 0)) (bN (topm 25 0)) (aA (topm 25 0)) .none .none .none (.str "stationrow.walks" 358) none (.ref 146) .none):=kY (oc:=.type "function") (od:=none) (osl:=#[]) (by kernel_rfl) (by kernel_rfl) (by kernel_rfl);have g_Walk:GI (KK w.params) mg 174 "Walk" "Walk.__init__" (topm 25 0) ["self","works","beat"] 147 _:=⟨⟨by kernel_rfl,by kernel_rfl,by kernel_rfl,by kernel_rfl⟩,x,x.binds fun _ _ _ _ _ _=>ub3 fun _ _ _=>rfl,at_ (v:=.ref 174) (by kernel_rfl)⟩;have c:Fun (KK w.params) "fillings_at" "Walk.fillings_at" (topm 25 1) 152 (fnOf "fillings_at" "Walk.fillings_at" (bZ (topm 25 1)) (bN (topm 25 1)) (aA (topm 25 1)) .none .none .none (.str "stationrow.walks" 358) none (.ref 151) .none):=kY (oc:=.type "function") (od:=none) (osl:=#[]) (by kernel_rfl) (by kernel_rfl) (by kernel_rfl);have J:GM (KK w.params) 174 "fillings_at" "Walk.fillings_at" (topm 25 1) ["self","stand","done"] 152 _:=⟨j,c,c.binds fun _ _ _ _ _ _=>ub3 fun _ _ _=>rfl,⟨by kernel_rfl,by kernel_rfl,by kernel_rfl⟩⟩;have d:Fun (KK w.params) "greatest_at" "Walk.greatest_at" (topm 25 2) 159 (fnOf "greatest_at" "Walk.greatest_at" (bZ (topm 25 2)) (bN (topm 25 2)) (aA (topm 25 2)) .none .none .none (.str "stationrow.walks" 358) none (.ref 158) .none):=kY (oc:=.type "function") (od:=none) (osl:=#[]) (by kernel_rfl) (by kernel_rfl) (by kernel_rfl);have D:GM (KK w.params) 174 "greatest_at" "Walk.greatest_at" (topm 25 2) ["self","stand","done"] 159 _:=⟨j,d,d.binds fun _ _ _ _ _ _=>ub3 fun _ _ _=>rfl,⟨by kernel_rfl,by kernel_rfl,by kernel_rfl⟩⟩;have i:Fun (KK w.params) "dealing_of" "Walk.dealing_of" (topm 25 4) 171 (fnOf "dealing_of" "Walk.dealing_of" (bZ (topm 25 4)) (bN (topm 25 4)) (aA (topm 25 4)) .none .none .none (.str "stationrow.walks" 358) none (.ref 170) .none):=kY (oc:=.type "function") (od:=none) (osl:=#[]) (by kernel_rfl) (by kernel_rfl) (by kernel_rfl);have R:GM (KK w.params) 174 "dealing_of" "Walk.dealing_of" (topm 25 4) ["self","fillings"] 171 _:=⟨j,i,i.binds fun _ _ _ _ _ _=>ub2 fun _ _=>rfl,⟨by kernel_rfl,by kernel_rfl,by kernel_rfl⟩⟩;have F_numbers:=vo (P:=l.prog) (w:=w) (base:=base) g_numbers B;have a:=Jd (P:=l.prog) (w:=w) (base:=base) g_draw B;have F_free_name:=qt (P:=l.prog) (w:=w) (base:=base) g_free_name B;have F_names:=Eh g_names B a F_free_name;have F_turn:=Je g_turn B a;have F_chained:=vp (P:=l.prog) (w:=w) (base:=base) g_chained B;have F_pairs:=Eg g_pairs B F_turn a F_chained;have S:=mV T B F_turn a;have F_kinds:=Ef g_kinds B a S;have F_great:=Ec g_great B a;have F_lengths:=vz g_lengths B a F_great
 have F_works:=Ei g_works B F_names a F_turn F_pairs F_kinds F_lengths;have A:=j0 (P:=l.prog) (w:=w) (base:=base) C B;have t:=qw (P:=l.prog) (w:=w) (base:=base) g_number_of B;have Y:=m6 (P:=l.prog) (w:=w) (base:=base) Q B;have r:=jx (P:=l.prog) (w:=w) (base:=base) u B;have I:=vA (P:=l.prog) (w:=w) (base:=base) g_reached B;have y:=sW (P:=l.prog) (w:=w) (base:=base) g_links_of B;have z:=tu g_led_from B I y;have Z:=zr g_led_to B I y;have F_ahead_of:=tH g_ahead_of B r z Z;have F_in_both:=vC (P:=l.prog) (w:=w) (base:=base) g_in_both B;have F_group_of:=tE g_group_of B F_in_both Z z
 have F_rules_of:=tO g_rules_of B t Y F_ahead_of F_group_of;have F_names_of:=tM (P:=l.prog) (w:=w) (base:=base) g_names_of B;have M_Walk:=Jh g_Walk B k F_rules_of t F_names_of;have q:=vG (P:=l.prog) (w:=w) (base:=base) g_has_all B;have o:=iz m B q;have F_parts_of:=tK g_parts_of B q;have F:=mC (P:=l.prog) (w:=w) (base:=base) H B;have f:=gY g B q F;have K:=mF J B k F_parts_of f;have E:=mq D B k o K
 have L:=lZ M B k E
 have F_tasks_of:=tQ (P:=l.prog) (w:=w) (base:=base) g_tasks_of B;have O:=m9 R B k F_tasks_of;have V:=mZ U B k M_Walk L O;have p:=mW N B A V;have F_beats_of:=sV g_beats_of B p
 exact PX g_law B F_numbers F_works F_beats_of a p
theorem walk {l:PySem.W.OpenLaw}{q:Program}{loose:List Str}{XP:(Str->Option Value)->Heap->Prop}{YP:World->Heap->Prop}{d:DefRec}{K:Params->Frag}(E:l.most=some 63) (g:d.params.defaults=[])
  (C:∀(w:World) (h:Heap),YP w h->(K w.params).In h) (j:∀w:World,El (K w.params)=true)
  (F:∀(w:World) (mg:Str->Option Value) (fa:Addr) (h:Heap),(K w.params).In h->h.Ns mainGlobals mg->mg d.name=some (.ref fa) ->
   ∃fd:FuncData,(∀(s:Shared) (u:Value),BindsTo s fd ⟨[u],[]⟩ [("_law_script",u)])/\∀base:Heap,(K w.params).In base->base.Ns mainGlobals mg->jQ l.prog w (K w.params) mg base 10 fa fd ["_law_script"] xY) :
  PySem.W.WalkO q loose XP YP l.row.toRowW d [] (fun f vs=>PySem.call f vs):=by
 refine L2.walk_of (n:=63) (k:=10) (x:="_law_script") (CX:=fun _=>CX0) (sp:=fun w=>qQ (K w.params) xY) E (by decide) g ⟨rfl,by decide,by decide,rfl⟩ C F (fun w H a ns I J i=>?_) fun _ _ _ _ _ z=>z;refine⟨[.ref a],fun b=>if b=a then some (.rol (ns.map T.int)) else none,fun t _=>t=.bl true,.cons .ofRef .nil,fun b o e=>?_,⟨a,ns,rfl,if_pos rfl,I,fun _=>rfl⟩,fun v H' t B _ _ r q=>?_⟩
 ·dsimp only at e;by_cases p:b=a
  ·rw[if_pos p] at e;cases e;subst p;rcases i with i | ⟨o,D,n,y,G,_⟩
   ·refine⟨_,i,?_⟩;have:∀c:List Int,Reps (K w.params) H (c.map T.int) (c.map V.int):=fun c=>by
     induction c with
     |nil=>exact .nil
     |cons m r A=>exact .cons .ofInt A
    exact this ns
   exact absurd G (zu (j w) y)
  rw[if_neg p] at e;cases e
 subst q;exact r.bl
end M
open PySem PySem.W PyProof.Rows
set_option maxRecDepth 100000 in
set_option maxHeartbeats 0 in
theorem PySem.Challenge.cw_stationrow_k62_beats_of_all_stands_holds : PySem.Challenge.rw_stationrow_k62_beats_of_all_stands.Holds := by
 refine holds_law (by kernel_rfl) fun said=>?_;refine holds_open (d:=M.dv) (kwd:=[]) (q:=M.qv) (loose:=[]) (Xt:=fun s=>xlAt M.qv [] s&&recOk (RowW.records (OpenLaw.row PySem.Challenge.rw_stationrow_k62_beats_of_all_stands).toRowW) s) (XP:=XL M.qv []) (Yf:=Hook.obs M.HK) (Ya:=Hook.val M.HK) (YP:=Hook.says M.HK) (N:=3180) M.left (Hook.of M.HK) (Hook.keeps M.HK) (fun s e=>xl_of s (Bool.and_eq_true_iff.mp e).1) XL.keeps (by kernel_rfl) (by kernel_rfl) (by kernel_rfl) (fun s e=>recFacts_of (Bool.and_eq_true_iff.mp e).2) (by kernel_rfl) (by first | assumption | kernel_rfl) (by kernel_rfl) ⟨rfl,rfl,rfl,rfl,rfl,by decide +kernel⟩ ?hw ?hc
 case hw=>w_witness2
 case hc=>exact M.walk (l:=PySem.Challenge.rw_stationrow_k62_beats_of_all_stands) rfl rfl (fun w h Y=>kIn_of Y) (fun w=>by kernel_rfl) fun w mg fa h KX G hmg=>M.all_ok KX G hmg
#print axioms PySem.Challenge.cw_stationrow_k62_beats_of_all_stands_holds
