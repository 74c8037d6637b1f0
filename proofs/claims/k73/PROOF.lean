import PyProof.Rows.All
import PyProof.EqAt
import PyProof.EqKinds
import PyProof.TupleCall
import PyProof.NeKinds
import PyProof.StrWalks
import PyProof.Rows.SetFrom
import PyProof.WalksMore
import KE.KIntText
import PyProof.EnumMake
import PyProof.WalkInts
import PyProof.ReprRoads
import PyProof.ReprLen
import KE.KRevSl
import PyProof.StrCalls
import PyProof.Rows.StrFit
import KE.KDictOf
import PyProof.AttrMissHeap
import PyProof.DictItems
import KE.KDictLaws
import KE.KSortTup
import KE.KDictList
import PyProof.Rows.SortRuns
import PyProof.Rows.SortShell
import PyProof.StrLawsTight
import Wide.Line
import OpenK.KOwn
import KE.KFromBytes
import KE.KItem
import KE.KIsAll
import PySem.Challenge.RW_stationrow_k73_whole_table_and_dealing
abbrev a_:=@List.length_append
abbrev b_:=@List.length_map
abbrev d_:=@List.length_cons
abbrev e_:=@List.getElem?_eq_getElem
abbrev g_:=@List.mem_singleton
abbrev h_:=@PySem.wpAny_bind
abbrev i_:=@List.mem_map
abbrev j_:=@Nat.le_refl
abbrev k_:=@List.length_range
abbrev l_:=@PySem.Heap.get?_push_of_some
abbrev m_:=@List.mem_cons_self
abbrev n_:=@List.size_toArray
abbrev o_:=@List.mem_cons
abbrev p_:=@decide_eq_false
abbrev q_:=@decide_eq_true
abbrev t_:=@Bool.false_ne_true
abbrev u_:=@List.map_append
abbrev v_:=@decide_eq_true_iff
abbrev x_:=@List.append_assoc
abbrev y_:=@List.map_cons
abbrev z_:=@List.length_singleton
abbrev A_:=@List.mem_append
abbrev B_:=@PyProof.Rows.wpS_bind
abbrev C_:=@PySem.wpAny_pure
abbrev D_:=@List.mem_filter
abbrev E_:=@List.getElem?_append_right
abbrev F_:=@List.mem_cons_of_mem
abbrev G_:=@PySem.PassesOwn.never
abbrev H_:=@List.getElem?_map
abbrev I_:=@List.mem_range
abbrev J_:=@List.append_nil
abbrev K_:=@Bool.false_eq_true
abbrev L_:=@PyProof.Rows.wpS_pure
abbrev M_:=@PySem.F.plainAttrs_list
abbrev N_:=@List.map_map
abbrev O_:=@congrArg
abbrev P_:=@Array.length_toList
abbrev Q_:=@Option.some.inj
abbrev R_:=@PySem.Heap.lt_size
abbrev S_:=@PySem.F.slot_list_append
abbrev T_:=@PySem.F.type_list_append
abbrev U_:=@List.getElem?_append_left
abbrev V_:=@PySem.Heap.get?_push_size
abbrev W6:=@Nat.le_trans
abbrev W7:=@Nat.lt_of_lt_of_le
abbrev W8:=@List.getD_eq_getElem?_getD
abbrev W9:=@List.mem_append_right
abbrev W_:=@List.take_append_drop
abbrev Xa:=@of_decide_eq_true
abbrev Xb:=@List.getElem?_eq_none
abbrev Xc:=@List.length_take
abbrev Xd:=@if_false
abbrev Xe:=@List.length_drop
abbrev Xf:=@Bool.eq_iff_iff
abbrev Xg:=@Array.size_push
abbrev Xh:=@List.all_eq_true
abbrev Xi:=@List.length_filter_le
abbrev Xj:=@Nat.ne_of_lt
abbrev Xk:=@List.take_of_length_le
abbrev Xl:=@Array.toList_append
abbrev Xm:=@Bool.and_eq_true
abbrev Xn:=@List.nodup_cons
abbrev Xo:=@Int.le_refl
abbrev Xp:=@List.getElem?_range
abbrev Xq:=@List.map_congr_left
abbrev Xr:=@List.mem_append_left
abbrev Xu:=@List.not_mem_nil
abbrev Xv:=@Array.getElem?_toList
abbrev Xw:=@Bool.not_true
abbrev Xx:=@List.getElem_mem
abbrev Xy:=@List.map_nil
abbrev Xz:=@Int.le_of_lt
abbrev XC:=@List.getElem?_cons_zero
abbrev XD:=@List.sum_cons
abbrev XF:=@List.mem_of_getElem?
abbrev XH:=@List.pairwise_iff_getElem
abbrev XJ:=@List.drop_of_length_le
abbrev XM:=@PyProof.Rows.wpS_forRange
abbrev XN:=@Int.emod_lt_of_pos
abbrev XQ:=@Int.emod_nonneg
abbrev XR:=@beq_eq_false_iff_ne
abbrev XS:=@List.getElem_of_mem
abbrev XX:=@PyProof.Rows.callWith_type1
abbrev X3:=@Int.le_trans
abbrev X4:=@Int.pow_succ
abbrev X5:=@List.filter_congr
abbrev X6:=@List.length_eq_zero_iff
abbrev X7:=@Nat.lt_irrefl
abbrev X8:=@List.find?_cons
abbrev X_:=@List.lookup_cons
abbrev Yb:=@decide_false
abbrev Yc:=@List.getElem?_eq_some_iff
abbrev Yd:=@List.drop_eq_getElem_cons
abbrev Ye:=@List.filter_eq_self
abbrev Yg:=@PySem.wpAny_mono
abbrev Yh:=@Int.natCast_nonneg
abbrev Yi:=@List.filter_append
abbrev Yj:=@List.getElem?_cons_succ
abbrev Yk:=@List.pairwise_append
abbrev Yl:=@Array.getElem_toList
abbrev Ym:=@List.filter_cons
abbrev Yn:=@Nat.le_of_lt
abbrev Yo:=@List.flatten_cons
abbrev Yp:=@Array.size_append
abbrev Yq:=@List.nodup_append
abbrev Yr:=@List.filter_eq_nil_iff
abbrev Ys:=@Bool.not_false
abbrev Yt:=@List.replicate_succ
abbrev Yu:=@decide_true
abbrev Yv:=@PySem.wpAny_Call_Name_kw
abbrev Yw:=@List.mem_flatten
abbrev Yx:=@PySem.Paired.length
abbrev Yy:=@Nat.zero_le
abbrev Yz:=@List.eq_nil_of_length_eq_zero
abbrev YB:=@List.take_append_of_le_length
abbrev YC:=@List.nil_append
abbrev YD:=@List.length_nil
abbrev YF:=@List.forIn_cons
abbrev YG:=@List.map_eq_nil_iff
abbrev YH:=@List.getElem?_set_self
abbrev YJ:=@PySem.Calls.spliced_cons
abbrev YK:=@Array.getElem?_eq_getElem
abbrev YL:=@List.extract_eq_take_drop
abbrev YM:=@PySem.wpAny_passesOwn
abbrev YQ:=@List.cons.injEq
abbrev YS:=@List.getElem?_set_ne
abbrev YT:=@PySem.wpAny_truthy_bool
abbrev YW:=@Nat.lt_succ_of_lt
abbrev YX:=@List.mem_of_mem_take
abbrev YZ:=@List.Pairwise.imp_of_mem
abbrev Y0:=@PyProof.Rows.slot_tuple_getitem
abbrev Y4:=@Int.toNat_of_nonneg
abbrev Y5:=@List.flatten_append
abbrev Y6:=@List.getElem?_replicate
abbrev Y7:=@List.nodup_nil
abbrev Y8:=@List.cons_append
abbrev Y9:=@List.any_eq_true
abbrev Y_:=@PySem.wpAny_getItem_str_slice
abbrev Za:=@or_false
abbrev Zb:=@PyProof.Rows.wpS_mono
abbrev Zc:=@decide_eq_decide
abbrev Zd:=@Nat.le_of_eq
abbrev Ze:=@PySem.Calls.callWith_builtin
abbrev Zf:=@List.sum_append
abbrev Zg:=@List.dropLast_concat_getLast
abbrev Zh:=@Option.map_some
abbrev Zi:=@PySem.wpAny_holding
abbrev Zj:=@Bool.and_true
abbrev Zk:=@List.length_replicate
abbrev Zm:=@List.perm_append_comm
abbrev Zn:=@List.singleton_append
abbrev Zo:=@PySem.Calls.spliced_nil
abbrev Zq:=@Int.toNat_natCast
abbrev Zr:=@PySem.wpAny_newObj_type
abbrev Zt:=@Option.isSome_map
abbrev Zu:=@Array.toList_push
abbrev Zv:=@Bool.not_eq_true'
abbrev Zw:=@List.getElem_drop
abbrev Zx:=@List.getElem_take
abbrev Zy:=@List.flatMap_cons
abbrev Zz:=@beq_iff_eq
abbrev ZC:=@PySem.Heap.size_push
abbrev ZD:=@Array.toList_reverse
abbrev ZF:=@List.Perm.refl
abbrev ZG:=@Nat.pow_le_pow_right
abbrev ZJ:=@Nat.ne_of_gt
abbrev ZK:=@Nat.lt_succ_self
abbrev ZL:=@PySem.wpAny_call_entry
abbrev ZM:=@Nat.lt_trans
abbrev ZP:=@beq_self_eq_true
abbrev ZQ:=@Option.getD_some
abbrev ZR:=@List.mem_flatMap
abbrev ZS:=@List.reverse_append
abbrev ZV:=@PySem.F.args_tuple_add_2
abbrev ZW:=@List.any_cons
abbrev ZX:=@Nat.lt_succ_iff_lt_or_eq
abbrev ZZ:=@PySem.wpAny_specialOf
abbrev Z0:=@List.range_succ
abbrev Z1:=@PySem.call_meets
abbrev Z2:=@PySem.tupleKind_room_in1
abbrev Z3:=@PySem.wpAny_rule
abbrev Z4:=@Nat.not_lt
abbrev Z5:=@List.pairwise_cons
abbrev Z6:=@Nat.lt_or_eq_of_le
abbrev Z7:=@of_decide_eq_false
abbrev Z8:=@Array.size_extract
abbrev Z9:=@Nat.add_sub_cancel
abbrev Z_:=@Int.one_mul
abbrev aaa:=@PySem.F.slot_tuple_hash
abbrev aab:=@List.ext_getElem?
abbrev aac:=@List.drop_zero
abbrev aad:=@Nat.lt_of_succ_lt
abbrev aae:=@List.take_zero
abbrev aaf:=@List.Sublist.refl
abbrev aag:=@Option.some.injEq
abbrev aah:=@Nat.add_assoc
abbrev aai:=@Bool.true_and
abbrev aaj:=@PySem.Paired.snoc
open PySem.W (Frag InstAt LeftO callWith_K cellsFrom_some codeIn emptyDict findIn fnOf handedIn hasDictIn instObj isFn kHook keepIn lookIn makesIn methodObj mg_of nsIn plainGet plainGet_of plainOver recOk takerIn typeIn xlAt)
noncomputable section
open PySem PySem.Spec PyProof.Rows
set_option Elab.async false
set_option linter.all false
set_option maxRecDepth 100000
namespace L2
def cu (s:Stmt):Arguments:=match s with
 |.FunctionDef _ a _ _ _ _ _ _ _ _=>a
 |_=>{ posonlyargs:=[],args:=[],vararg:=none,kwonlyargs:=[],kw_defaults:=[],kwarg:=none,defaults:=[]}
def bW (s:Stmt):List Stmt:=match s with
 |.FunctionDef _ _ b _ _ _ _ _ _ _=>b
 |_=>[]
def aA (s:Stmt):Scope:=match s with
 |.FunctionDef _ _ _ _ _ _ a _ _ _=>a
 |_=>{ kind:=.function,names:=[],isGenerator:=false,isCoroutine:=false}
end L2
namespace M
open L2
def top (i:Nat):Stmt:=PySem.Challenge.pw_stationrow_k73_whole_table_and_dealing.main.body.getD i (.Pass ⟨0,0,0,0⟩)
def Jy:Stmt->List Stmt
 |.ClassDef _ _ _ a _ _ _ _ _ _ _=>a
 |_=>[]
def topm (i j:Nat):Stmt:=(Jy (top i)).getD j (.Pass ⟨0,0,0,0⟩)
def qv:Program:={ PySem.Challenge.pw_stationrow_k73_whole_table_and_dealing with main:={ PySem.Challenge.pw_stationrow_k73_whole_table_and_dealing.main with body:=([0,2,3,5,6,7,8,9,10,11,12,14,16,17,18,19,21,23,24,26,27,28,29,31,32,33,34,35,36,37,38,39,40,41,42,43,44,45,46,47,48]:List Nat).map top}}
def en (P:Params) (n:Str) (t:Nat) (v:Value):DictEntry:=⟨PyData.keyHash P n,.str n t,v⟩
def cO (n:Str) (c:Nat) (b:Bool) (a j l k:Nat):Obj:=⟨.type "code",none,.fields #[.str n a,.str n (a+1),.str "/claim/cut.py" (a+2),.int l 0,.int k 0,.int 0 0,.int 0 0,.int 3 0,.ref (c - (bif b then 5 else 3)),.bool true,.int 181 0,.ref (c - (bif b then 4 else 2)),.none,bif b then .ref (c - 3) else .none,bif b then .ref (c - 2) else .none,.ref (c - 1),.int j 0,.int l 0,.str "/claim/cut.py" (j+1)],#[]⟩
def fO (i:Nat) (n m:Str) (t c:Nat):Obj:=⟨.type "function",none,.func (fnOf n n (cu (top i)) (bW (top i)) (aA (top i)) .none .none .none (.str m t) none (.ref c) .none),#[]⟩
abbrev mlw:Str := "law_stationrow_k73_whole_table_and_dealing"
def fx (i:Nat) (n m:Str) (t c:Nat) (b:Bool) (a j l k:Nat):(Params->DictEntry) × Frag:=(fun P=>en P n (j+2) (.ref (c+1)),[(c,cO n c b a j l k),(c+1,fO i n m t c)])
def TB:List ((Params->DictEntry) × Frag):=[fx 0 "_wall" "__main__" 164 20 true 187 191 1 1,
 fx 2 "number_of" "stationrow.sets" 194 27 true 196 204 5 2,
 fx 3 "tasks_of" "stationrow.sets" 194 34 true 207 215 13 2,
 fx 5 "links_of" "stationrow.chains" 218 41 true 220 228 22 1,
 fx 6 "reached" "stationrow.chains" 218 48 true 231 240 29 2,
 fx 7 "led_to" "stationrow.chains" 218 55 true 243 248 39 2,
 fx 8 "led_from" "stationrow.chains" 218 60 false 251 254 41 2,
 fx 9 "in_both" "stationrow.chains" 218 65 false 257 260 43 3,
 fx 10 "in_first_alone" "stationrow.chains" 218 70 false 263 266 45 3,
 fx 11 "group_of" "stationrow.chains" 218 77 true 269 274 47 2,
 fx 12 "ahead_of" "stationrow.chains" 218 84 true 277 282 49 2,
 fx 14 "may_be_done" "stationrow.checks" 285 91 true 287 292 52 2,
 fx 16 "apart_from" "stationrow.fillings" 295 96 false 297 300 55 2,
 fx 17 "rules_of" "stationrow.fillings" 295 103 true 303 315 57 1,
 fx 18 "has_all" "stationrow.fillings" 295 110 true 318 323 66 2,
 fx 19 "is_filling_number" "stationrow.fillings" 295 117 true 326 341 68 5,
 fx 21 "names_of" "stationrow.texts" 344 122 false 346 349 81 1,
 fx 23 "parts_of" "stationrow.walks" 352 127 false 354 357 84 1,
 (fun P=>en P "Walk" 419 (.ref 167),[]),
 fx 26 "evens_behind" "stationrow.even" 420 177 true 422 434 116 3,
 fx 27 "evens_by_stands" "stationrow.even" 420 184 true 437 444 125 2,
 fx 28 "even_table" "stationrow.even" 420 189 false 447 450 130 3,
 fx 29 "most_even" "stationrow.even" 420 196 true 453 462 135 3,
 fx 31 "_law_numbers" mlw 465 203 true 467 476 143 1,
 fx 32 "_law_draw" mlw 465 210 true 479 484 158 2,
 fx 33 "_law_great" mlw 465 217 true 487 494 162 2,
 fx 34 "_law_free_name" mlw 465 224 true 497 509 167 3,
 fx 35 "_law_names" mlw 465 229 false 512 515 179 2,
 fx 36 "_law_turn" mlw 465 236 true 518 525 190 2,
 fx 37 "_law_lengths" mlw 465 241 false 528 531 196 2,
 fx 38 "_law_chained" mlw 465 246 false 534 537 202 2,
 fx 39 "_law_pairs" mlw 465 251 false 540 543 209 4,
 fx 40 "_law_some_kinds" mlw 465 256 false 546 549 225 3,
 fx 41 "_law_kinds" mlw 465 261 false 552 555 231 4,
 fx 42 "_law_works" mlw 465 266 false 558 561 246 4,
 fx 43 "_law_beat" mlw 465 271 false 564 567 264 2,
 fx 44 "_law_loads" mlw 465 276 false 570 573 270 2,
 fx 45 "_law_goes" mlw 465 281 false 576 579 275 3,
 fx 46 "_law_right" mlw 465 288 true 582 593 286 2,
 fx 47 "_law_least_told" mlw 465 293 false 596 599 297 4,
 fx 48 "law" mlw 465 298 false 602 605 315 1]
def wcO (C N t u:Nat):Obj:=⟨.type "type",none,.cls { name:="Walk",bases:=[.type "object"],mro:=[.ref C,.type "object"],ns:=N,qualname:="Walk"},#[none,none,some (.str "Walk" t),some (.str "Walk" u),some (.builtin "object.__new__"),some (.bool true)]⟩
def nsO (P:Params) (a:List (Str × Nat × Value)) (k:Nat):Obj:=⟨.type "dict",none,.dict (a.map fun e=>en P e.1 e.2.1 e.2.2).toArray k,#[]⟩
def cQ (n q:Str) (c:Nat) (b:Bool) (a j l k:Nat):Obj:=⟨.type "code",none,.fields #[.str n a,.str q (a+1),.str "/claim/cut.py" (a+2),.int l 0,.int k 0,.int 0 0,.int 0 0,.int 3 0,.ref (c - (bif b then 5 else 3)),.bool true,.int 181 0,.ref (c - (bif b then 4 else 2)),.none,bif b then .ref (c - 3) else .none,bif b then .ref (c - 2) else .none,.ref (c - 1),.int j 0,.int l 0,.str "/claim/cut.py" (j+1)],#[]⟩
def fQ (st:Stmt) (n q m:Str) (t c:Nat):Obj:=⟨.type "function",none,.func (fnOf n q (cu st) (bW st) (aA st) .none .none .none (.str m t) none (.ref c) .none),#[]⟩
def KC (P:Params):Frag:=[(141,cQ "__init__" "Walk.__init__" 141 true 372 378 94 3),
 (142,fQ (topm 24 0) "__init__" "Walk.__init__" "stationrow.walks" 352 141),
 (146,cQ "fillings_at" "Walk.fillings_at" 146 false 381 384 100 3),
 (147,fQ (topm 24 1) "fillings_at" "Walk.fillings_at" "stationrow.walks" 352 146),
 (158,cQ "load_at" "Walk.load_at" 158 false 396 399 110 2),
 (159,fQ (topm 24 3) "load_at" "Walk.load_at" "stationrow.walks" 352 158),
 (163,cQ "dealing_of" "Walk.dealing_of" 163 false 402 405 113 2),
 (164,fQ (topm 24 4) "dealing_of" "Walk.dealing_of" "stationrow.walks" 352 163),
 (166,nsO P [("__module__",367,.str "stationrow.walks" 352),("__firstlineno__",371,.int 92 370),("__init__",380,.ref 142),("fillings_at",386,.ref 147),("greatest_at",395,.ref 154),("load_at",401,.ref 159),("dealing_of",407,.ref 164),("__static_attributes__",412,.ref 165),("__dict__",414,.ref 168),("__weakref__",416,.ref 169),("__doc__",417,.none)] 4),
 (167,wcO 167 166 360 368)]
def KK (P:Params):Frag:=(3,⟨.type "dict",none,.dict ([en P "__name__" 165 (.str mlw 465),
 en P "__doc__" 166 .none,
 en P "__package__" 167 .none,
 en P "__loader__" 168 (.builtin "__main__.__loader__#opaque"),
 en P "__spec__" 169 .none,
 en P "__annotations__" 170 (.ref 6),
 en P "__builtins__" 171 (.ref 4),
 en P "__file__" 173 (.str "/claim/cut.py" 172),
 en P "__cached__" 174 .none]++TB.map fun r=>r.1 P).toArray 50,#[]⟩)::(TB.map fun r=>r.2).flatten++KC P
def HK:PySem.W.Hook:=kHook KK [3,20,21,27,28,34,35,41,42,48,49,55,56,60,61,65,66,70,71,77,78,84,85,91,92,96,97,103,104,110,111,117,118,122,123,127,128,177,178,184,185,189,190,196,197,203,204,210,211,217,218,224,225,229,230,236,237,241,242,246,247,251,252,256,257,261,262,266,267,271,272,276,277,281,282,288,289,293,294,298,299,141,142,146,147,158,159,163,164,166,167] (fun _=>by kernel_rfl)
theorem left:LeftO (PySem.W.OpenLaw.row PySem.Challenge.rw_stationrow_k73_whole_table_and_dealing).prog qv [] (fun s=>xlAt qv [] s&&recOk (PySem.W.RowW.records (PySem.W.OpenLaw.row PySem.Challenge.rw_stationrow_k73_whole_table_and_dealing).toRowW) s) (PySem.W.Hook.obs HK) (PySem.W.Hook.val HK) 3330:=by
 intro w;kernel_rfl
end M
namespace L2
abbrev Key:=Sum Int Str
def oF:Key->Value->Bool
 |.inl k,v=>Value.isInt k v
 |.inr x,v=>Value.isStrOf x v
def Lj (w:World):Key->Int
 |.inl k=>hashInt k
 |.inr x=>hashStr w x
theorem bR:∀{k:Key}{v:Value},oF k v=true->(∃i t,k=Sum.inl i/\v=Value.int i t)\/(∃x t,k=Sum.inr x/\v=Value.str x t)
 |.inl i,v,h=>by
  obtain⟨t,e⟩:=Value.isInt_shape (k:=i) (v:=v) h
  exact .inl ⟨i,t,rfl,e⟩
 |.inr x,v,h=>by
  obtain⟨t,e⟩:=Value.isStrOf_shape (x:=x) (v:=v) h
  exact .inr ⟨x,t,rfl,e⟩
theorem oG (i:Int) (t:Tok):oF (.inl i) (.int i t)=true:=by simp [oF,Value.isInt]
theorem oH (x:Str) (t:Tok):oF (.inr x) (.str x t)=true:=by simp [oF,Value.isStrOf]
theorem Lk (a b:Int):decide ((Sum.inl a:Key)=Sum.inl b)=(a==b):=by
 by_cases e:a=b
 ·subst e;simp
 have h:¬(Sum.inl a:Key)=Sum.inl b:=fun q=>e (Sum.inl.inj q);rw[p_ h];exact (XR.mpr e).symm
theorem Ln (a b:Str):decide ((Sum.inr a:Key)=Sum.inr b)=decide (a=b):=by
 by_cases e:a=b
 ·subst e;simp
 have h:¬(Sum.inr a:Key)=Sum.inr b:=fun q=>e (Sum.inr.inj q);rw[p_ h,p_ e]
theorem Lp (a:Int) (b:Str):decide ((Sum.inl a:Key)=Sum.inr b)=false:=p_ (fun q=>nomatch q)
theorem Lq (a:Str) (b:Int):decide ((Sum.inr a:Key)=Sum.inl b)=false:=p_ (fun q=>nomatch q)
def bC (prog:Program) (w:World):PySem.KeyKind prog w Key where
 is:=oF
 hash:=Lj w
 inj:=fun v a b f d=>by
  rcases bR f with ⟨i,t,rfl,rfl⟩ | ⟨x,t,rfl,rfl⟩
  ·
   rcases bR d with ⟨j,u,rfl,e⟩ | ⟨y,u,rfl,e⟩
   ·
    injection e with e1 _;rw[e1]
   ·
    exact nomatch e
  ·
   rcases bR d with ⟨j,u,rfl,e⟩ | ⟨y,u,rfl,e⟩
   ·
    exact nomatch e
   ·
    injection e with e1 _;rw[e1]
 byValue:=fun k v h=>by
  rcases bR h with ⟨i,t,rfl,rfl⟩ | ⟨x,t,rfl,rfl⟩ <;> rfl
 pyHash:=fun c h=>by
  rcases bR c with ⟨i,t,rfl,rfl⟩ | ⟨x,t,rfl,rfl⟩
  ·
   exact wpAny_pyHash_int h
  ·
   exact wpAny_pyHash_str h
 eqBool:=fun g c h=>by
  rcases bR g with ⟨i,t,rfl,rfl⟩ | ⟨x,t,rfl,rfl⟩
  ·
   rcases bR c with ⟨j,u,rfl,rfl⟩ | ⟨y,u,rfl,rfl⟩
   ·
    rw[Lk] at h;exact wpAny_eqBool_int h
   ·
    rw[Lp] at h;exact SeqAt.EqAt.int_str i t y u _ _ _ _ h
  ·
   rcases bR c with ⟨j,u,rfl,rfl⟩ | ⟨y,u,rfl,rfl⟩
   ·
    rw[Lq] at h;exact SeqAt.EqAt.str_int x t j u _ _ _ _ h
   ·
    rw[Ln] at h;exact wpAny_eqBool_str h
 «strs»:=fun k x t v h=>by
  rcases bR h with ⟨i,u,rfl,e⟩ | ⟨y,u,rfl,e⟩
  ·
   exact nomatch e
  ·
   injection e with e1 _
   subst e1
   cases v <;> rfl
theorem rG (prog:Program) (w:World) (i:Int) (t:Tok):(bC prog w).is (.inl i) (.int i t)=true:=oG i t
theorem rH (prog:Program) (w:World) (x:Str) (t:Tok):(bC prog w).is (.inr x) (.str x t)=true:=oH x t
inductive V where
 |non | bl (b:Bool) | int (i:Int) | str (x:Str) | byt (b:Array UInt8) | flt (b:UInt64) | ref (a:Addr) | ty (n:String)
 deriving DecidableEq
def RelV:V->Value->Prop
 |.non,u=>u=Value.none
 |.bl b,u=>u=Value.bool b
 |.int i,u=>∃t,u=Value.int i t
 |.str x,u=>∃t,u=Value.str x t
 |.byt b,u=>∃t,u=Value.bytes b t
 |.flt b,u=>∃t,u=Value.float b t
 |.ref a,u=>u=Value.ref a
 |.ty n,u=>u=Value.type n
abbrev Vals:List V->List Value->Prop:=Paired RelV
theorem Vals.length {xs:List V}{us:List Value}(r:Vals xs us):xs.length=us.length:=Yx r
theorem Vals.get:∀{xs:List V}{us:List Value}{i:Nat}{x:V},Vals xs us->xs[i]?=some x->∃u,us[i]?=some u/\RelV x u
 |_,_,_,_,.nil,e=>by simp at e
 |_,_,0,_,.cons r _,e=>by simp at e;subst e;exact⟨_,rfl,r⟩
 |_,_,i+1,x,.cons _ t,e=>by
  obtain⟨u,b,a⟩:=Vals.get (i:=i) (x:=x) t (by simpa using e)
  exact⟨u,by simpa using b,a⟩
theorem Vals.set {x:V}{u:Value}(r:RelV x u):∀{xs:List V}{us:List Value}(i:Nat),Vals xs us->Vals (xs.set i x) (us.set i u)
 |_,_,_,.nil=>.nil
 |_,_,0,.cons _ t=>.cons r t
 |_,_,i+1,.cons q t=>.cons q (Vals.set r i t)
theorem Vals.append:∀{xs a:List V}{us ws:List Value},Vals xs us->Vals a ws->Vals (xs++a) (us++ws)
 |_,_,_,_,.nil,s=>s
 |_,_,_,_,.cons r t,s=>.cons r (Vals.append t s)
theorem Vals.take:∀{xs:List V}{us:List Value}(n:Nat),Vals xs us->Vals (xs.take n) (us.take n)
 |_,_,0,_=>.nil
 |_,_,_+1,.nil=>.nil
 |_,_,n+1,.cons r t=>.cons r (Vals.take n t)
theorem Vals.drop:∀{xs:List V}{us:List Value}(n:Nat),Vals xs us->Vals (xs.drop n) (us.drop n)
 |_,_,0,r=>r
 |_,_,_+1,.nil=>.nil
 |_,_,n+1,.cons _ t=>Vals.drop n t
def RelO:Option V->Option Value->Prop
 |some v,some u=>RelV v u
 |none,none=>True
 |_,_=>False
def KV {a:Type}:List (a × V)->List (a × Value)->Prop:=Paired fun (p:a × V) (q:a × Value)=>p.1=q.1/\RelV p.2 q.2
def kV:Key->V
 |.inl i=>.int i
 |.inr x=>.str x
inductive HO where
 |lst (xs:List V)
 |tup (xs:List V)
 |dK (kvs:List (Key × V)) | dT (kvs:List (List Key × V))
 |set (S:Int->Bool) (n:Nat)
 |ins (C dx:Addr) (fs:List (Str × V))
 |own (x:Addr)
 |xd (fs:List (Str × V))
 |met (f x:Addr)
 |rng (lo hi:Int)
 |frz (o:Obj) (u:HO)
 |tbl (ps:Array Value)
 |ext (φ:Heap->Prop)
abbrev Hp:=Addr->Option HO
def upd (H:Hp) (a:Addr) (o:HO):Hp:=fun b=>if b=a then some o else H b
theorem bT {H:Hp}{a:Addr}{o:HO}:upd H a o a=some o:=by unfold upd;rw[if_pos rfl]
theorem aU {H:Hp}{a b:Addr}{o:HO}(h:b≠a):upd H a o b=H b:=by unfold upd;rw[if_neg h]
theorem QZ {H:Hp}{a b:Addr}{o u:HO}(h:H a=some o) (h':H b=some u) (d:o≠u):a≠b:=by
 intro e;subst e;rw[h] at h';exact d (Q_ h')
theorem cC {H:Hp}{a b:Addr}{o:HO}(h:H a=some o) (h':H b=none):a≠b:=by
 intro e;subst e;rw[h] at h';cases h'
def Tup0 (h:Heap) (a:Addr) (b:Array Value):Prop:=∃o,h.get? a=some o/\o.cls=.type "tuple"/\∃n,o.data=.seq b n/\o.dict=none
theorem Tup0.is {h:Heap}{a:Addr}{b:Array Value}(x:Tup0 h a b):IsTup h a b:=by
 obtain⟨o,c,d,n,e,_⟩:=x;exact⟨o,c,d,n,e⟩
theorem Tup0.new (h:Heap) (a:Array Value):Tup0 (h.push { cls:=.type "tuple",data:=.seq a}) h.objs.size a:=⟨_,V_ _ rfl,rfl,_,rfl,rfl⟩
section
variable (P:Program) (w:World)
def ObjOk (H:Hp) (h:Heap) (a:Addr):HO->Prop
 |.lst xs=>xs.length<=sizeLine/\∃(b:List Value) (n:Nat),Vals xs b/\h.get? a=some { cls:=.type "list",data:=.seq b.toArray n}
 |.tup xs=>xs.length<=sizeLine/\∃b:List Value,Vals xs b/\Tup0 h a b.toArray
 |.dK kvs=>kvs.length<=sizeLine/\(a==sysModules)=false/\∃vs,KV kvs vs/\h.DictOf (bC P w) a vs
 |.dT kvs=>kvs.length<=sizeLine/\(a==sysModules)=false/\∃xs:List (List Key × Addr × Value),
   Paired (fun (p:List Key × V) (q:List Key × Addr × Value)=>p.1=q.1/\H q.2.1=some (.tup (p.1.map kV))/\RelV p.2 q.2.2) kvs xs /\
   ∃o j ep,h.get? a=some o/\o.ExactDict/\o.data=.dict j ep/\j.toList=xs.map (entryOfKey (tupleKind (bC P w)))/\(xs.map (·.1)).Nodup
 |.set S n=>h.SetOf (intKind P w) a S n
 |.ins C e d=>H e=some (.own a)/\d.length<=1000/\e≠a/\h.get? a=some (instObj C e) /\
   ∃c,h.Ns1 e c/\(∀f,RelO (d.lookup f) (c f))/\PySem.Within c (d.map (·.1))
 |.own _=>∃o,h.get? a=some o
 |.xd d=>∃c,h.Ns1 a c/\∀f,RelO (d.lookup f) (c f)
 |.rng m l=>∃t u v,h.get? a=some { cls:=.type "range",data:=.fields #[.int m t,.int l u,.int 1 v]}
 |.frz o u=>h.get? a=some o/\ObjOk H h a u
 |.tbl ps=>h.get? a=some { cls:=.none,data:=.fields ps}
 |.met f x=>h.get? a=some (methodObj (.ref f) (.ref x))
 |.ext g=>g h/\(∃o,h.get? a=some o)/\∀k i:Heap,g k->(∀o,k.get? a=some o->i.get? a=some o)->g i
def HOk (H:Hp) (h:Heap):Prop:=∀a o,H a=some o->ObjOk P w H h a o
end
section
variable {P:Program}{w:World}{H H':Hp}{h h':Heap}{a:Addr}{o:HO}
theorem ObjOk.lt (x:ObjOk P w H h a o):a<h.objs.size:=by
 cases o with
 |lst xs=>obtain⟨_,_,_,_,e⟩:=x;exact R_ e
 |tup xs=>obtain⟨_,_,_,p⟩:=x;exact p.is.lt
 |dK kvs=>obtain⟨_,_,_,_,o,_,_,e,_⟩:=x;exact R_ e
 |dT kvs=>obtain⟨_,_,_,_,o,_,_,e,_⟩:=x;exact R_ e
 |set S n=>obtain⟨o,_,_,_,e,_⟩:=x;exact R_ e
 |ins C j b=>obtain⟨_,_,_,e,_⟩:=x;exact R_ e
 |own y=>obtain⟨_,e⟩:=x;exact R_ e
 |xd b=>obtain⟨_,⟨_,_,_,e,_⟩,_⟩:=x;exact R_ e
 |rng i c=>obtain⟨_,_,_,e⟩:=x;exact R_ e
 |frz d u=>obtain⟨e,_⟩:=x;exact R_ e
 |tbl ps=>exact R_ (show h.get? a=some _ from x)
 |met f y=>exact R_ (show h.get? a=some _ from x)
 |ext g=>obtain⟨_,⟨_,e⟩,_⟩:=x;exact R_ e
theorem Paired.mapP {g e:Type}{F G:g->e->Prop}:∀{c:List g}{d:List e},Paired F c d->(∀a b,F a b->G a b)->Paired G c d
 |_,_,.nil,_=>.nil
 |_,_,.cons r t,f=>.cons (f _ _ r) (Paired.mapP t f)
theorem ObjOk.stay (x:ObjOk P w H h a o) (k:∀b u,(b=a\/H b=some (.own a))->h.get? b=some u->h'.get? b=some u)
  (A:∀b,H b=some (.own a)->H' b=some (.own a)) (m:∀b xs,H b=some (.tup xs)->H' b=some (.tup xs)):ObjOk P w H' h' a o:=by
 induction o with
 |lst xs=>obtain⟨z,j,n,r,e⟩:=x;exact⟨z,j,n,r,k _ _ (.inl rfl) e⟩
 |tup xs=>obtain⟨z,j,r,g,e,c⟩:=x;exact⟨z,j,r,g,k _ _ (.inl rfl) e,c⟩
 |dK kvs=>obtain⟨z,y,vs,r,g,i,ep,e,c⟩:=x;exact⟨z,y,vs,r,g,i,ep,k _ _ (.inl rfl) e,c⟩
 |dT kvs=>obtain⟨z,y,xs,r,g,i,ep,e,c⟩:=x;exact⟨z,y,xs,Paired.mapP r fun p q z=>⟨z.1,m _ _ z.2.1,z.2.2⟩,g,i,ep,k _ _ (.inl rfl) e,c⟩
 |set S n=>obtain⟨g,i,ep,t,e,c⟩:=x;exact⟨g,i,ep,t,k _ _ (.inl rfl) e,c⟩
 |ins C J s=>obtain⟨d,z,E,e,l,⟨od,i,ep,B,c⟩,r⟩:=x;exact⟨A _ d,z,E,k _ _ (.inl rfl) e,l,⟨od,i,ep,k _ _ (.inr d) B,c⟩,r⟩
 |own y=>obtain⟨g,e⟩:=x;exact⟨g,k _ _ (.inl rfl) e⟩
 |xd s=>obtain⟨l,⟨od,i,ep,e,c⟩,r⟩:=x;exact⟨l,⟨od,i,ep,k _ _ (.inl rfl) e,c⟩,r⟩
 |rng I F=>obtain⟨t,u,v,e⟩:=x;exact⟨t,u,v,k _ _ (.inl rfl) e⟩
 |frz g u D=>obtain⟨e,q⟩:=x;exact⟨k _ _ (.inl rfl) e,D q⟩
 |tbl ps =>
  have e:h.get? a=some { cls:=.none,data:=.fields ps}:=x
  show h'.get? a=some { cls:=.none,data:=.fields ps}
  exact k a _ (.inl rfl) e
 |met f y =>
  have e:h.get? a=some (methodObj (.ref f) (.ref y)):=x
  show h'.get? a=some (methodObj (.ref f) (.ref y))
  exact k a _ (.inl rfl) e
 |ext G=>obtain⟨p,⟨o,e⟩,st⟩:=x;exact⟨st _ _ p fun o q=>k _ _ (.inl rfl) q,⟨o,k _ _ (.inl rfl) e⟩,st⟩
theorem HOk.lt (x:HOk P w H h) (e:H a=some o):a<h.objs.size:=(x a o e).lt
theorem HOk.fresh (x:HOk P w H h) (e:h.objs.size<=a):H a=none:=by
 cases q:H a with
 |none=>rfl
 |some u=>exact absurd (W7 (x.lt q) e) (X7 _)
theorem HOk.kept (x:HOk P w H h) (k:∀b u,h.get? b=some u->h'.get? b=some u):HOk P w H h':=fun a o e =>
 (x a o e).stay (fun b u _ q=>k b u q) (fun _ q=>q) fun _ _ q=>q
theorem HOk.laid (x:HOk P w H h) (k:∀b u,h.get? b=some u->h'.get? b=some u) (i:h.objs.size<=a) (d:ObjOk P w (upd H a o) h' a o):HOk P w (upd H a o) h':=fun b u e=>by
 have g:=x.fresh i;by_cases f:b=a
 ·subst f;rw[bT] at e;cases e;exact d
 rw[aU f] at e;exact (x b u e).stay (fun c v _ q=>k c v q) (fun c q=>by rw[aU (cC q g)];exact q) fun c xs q=>by rw[aU (cC q g)];exact q
end
def Rd (H:Hp) (a:Addr) (u:HO):Prop:=H a=some u\/∃o,H a=some (.frz o u)
theorem Rd.ok {P:Program}{w:World}{H:Hp}{h:Heap}{a:Addr}{u:HO}(r:Rd H a u) (x:HOk P w H h):ObjOk P w H h a u:=by
 rcases r with r | ⟨o,r⟩
 ·exact x a u r
 obtain⟨_,q⟩:=x a _ r;exact q
def Mut:Option HO->Prop
 |some (.lst _)=>True
 |some (.dK _)=>True
 |some (.dT _)=>True
 |some (.set _ _)=>True
 |some (.ins _ _ _)=>True
 |some (.ext _)=>True
 |_=>False
section
variable {P:Program}{w:World}{H:Hp}{h h':Heap}{x e:Addr}{o':HO}
theorem HOk.write (p:HOk P w H h) (mu:Mut (H x)) (m:e=x\/H e=some (.own x)) (k:∀b u,b≠e->h.get? b=some u->h'.get? b=some u) (j:∃u,h'.get? e=some u)
  (l:ObjOk P w (upd H x o') h' x o'):HOk P w (upd H x o') h':=fun b u q=>by
 have d:∀c y,H c=some (.own y)->c≠x:=fun c y r z=>by subst z;rw[r] at mu;exact mu
 have f:∀c xs,H c=some (.tup xs)->c≠x:=fun c xs r z=>by subst z;rw[r] at mu;exact mu
 by_cases g:b=x
 ·subst g;rw[bT] at q;cases q;exact l
 rw[aU g] at q;by_cases a:b=e
 ·have n:H b=some (.own x):=by
   rcases m with z | z
   ·exact absurd (a.trans z) g
   rw[a];exact z
  rw[q] at n;cases n;obtain⟨v,o⟩:=j;exact⟨v,by rw[a];exact o⟩
 refine (p b u q).stay (fun c v i r=>k c v ?_ r) (fun c r=>by rw[aU (d c b r)];exact r) fun c xs r=>by rw[aU (f c xs r)];exact r
 rcases i with rfl | i
 ·exact a
 rintro rfl;rcases m with z | z
 ·exact d c b i z
 rw[i] at z;cases z;exact g rfl
end
structure Un (fs ex:List Addr) (H H':Hp) (h h':Heap):Prop where
 keep:∀b o,h.get? b=some o->H b=none->b∉fs->b∉ex->h'.get? b=some o
 slot:∀b o,h.get? b=some o->H b=none->b∈fs->b∉ex->∃sl,h'.get? b=some { o with slots:=sl}
 free:∀b o,h.get? b=some o->H b=none->b∉ex->H' b=none
 there:∀b o,h.get? b=some o->b∉ex->∃o',h'.get? b=some o'
 tups:∀b xs,H b=some (.tup xs)->H' b=some (.tup xs)
 frzs:∀b o u,H b=some (.frz o u)->H' b=some (.frz o u)
 tbls:∀b ps,H b=some (.tbl ps)->∃more,H' b=some (.tbl (ps++more))
section
variable {fs fs' ex ex':List Addr}{H H1 H2:Hp}{h h1 h2 h':Heap}{a x e:Addr}{o:HO}
theorem Un.any (u:Un fs ex H H1 h h1) {b:Addr}{ob:Obj}(q:h.get? b=some ob) (n:H b=none) (a:b∉ex):∃d,h1.get? b=some { ob with slots:=d}:=by
 by_cases c:b∈fs
 ·exact u.slot b ob q n c a
 exact⟨ob.slots,u.keep b ob q n c a⟩
theorem Un.kept (k:∀b u,h.get? b=some u->h'.get? b=some u):Un fs ex H H h h' :=
 ⟨fun b a q _ _ _=>k b a q,fun b a q _ _ _=>⟨a.slots,k b a q⟩,fun _ _ _ n _=>n,fun b a q _=>⟨a,k b a q⟩,fun _ _ q=>q,fun _ _ _ q=>q,fun _ ps q=>⟨#[],by rw[q];simp⟩⟩
theorem Un.refl:Un fs ex H H h h:=Un.kept fun _ _ q=>q
theorem Un.laid (k:∀b u,h.get? b=some u->h'.get? b=some u) (d:h.objs.size<=a) (c:H a=none):Un fs ex H (upd H a o) h h' where
 keep:=fun b u q _ _ _=>k b u q
 slot:=fun b u q _ _ _=>⟨u.slots,k b u q⟩
 free:=fun b u q n _=>by rw[aU (Xj (W7 (R_ q) d))];exact n
 there:=fun b u q _=>⟨u,k b u q⟩
 tups:=fun b xs q=>by rw[aU (cC q c)];exact q
 frzs:=fun b u xs q=>by rw[aU (cC q c)];exact q
 tbls:=fun b ps q=>⟨#[],by rw[aU (cC q c),q];simp⟩
theorem Un.write (mu:Mut (H x)) (i:e=x\/H e=some (.own x)) (k:∀b u,b≠e->h.get? b=some u->h'.get? b=some u) (c:∃u,h'.get? e=some u):Un fs ex H (upd H x o) h h':=by
 have g:∀b,H b=none->b≠x:=fun b n z=>by subst z;rw[n] at mu;exact mu
 have f:∀b,H b=none->b≠e:=fun b n z=>by
  subst z;rcases i with r | r
  ·exact g b n r
  rw[n] at r;cases r
 have d:∀b u,H b=some u->¬Mut (some u)->b≠x:=fun b u q nm z=>by subst z;rw[q] at mu;exact nm mu
 refine⟨fun b u q n _ _=>k b u (f b n) q,fun b u q n _ _=>⟨u.slots,k b u (f b n) q⟩,fun b u q n _=>by rw[aU (g b n)];exact n,fun b u q _=>?_,
  fun b xs q=>by rw[aU (d b _ q fun z=>z)];exact q,fun b u xs q=>by rw[aU (d b _ q fun z=>z)];exact q,fun b ps q=>⟨#[],by rw[aU (d b _ q fun z=>z),q];simp⟩⟩
 by_cases a:b=e
 ·subst a;exact c
 exact⟨u,k b u a q⟩
end
def trk (h:Heap) (H:Hp):List Addr:=(List.range h.objs.size).filter fun a=>(H a).isSome
def pX (h:Heap) (H:Hp):Heap:=PySem.W.hideAll h (trk h H)
theorem yQ (h:Heap) (H:Hp):(pX h H).objs.size=h.objs.size:=PySem.W.hideAll_size _ _
theorem z7 {h:Heap}{H:Hp}{b:Addr}{o:Obj}(e:h.get? b=some o) (n:H b=none):(pX h H).get? b=some o :=
 PySem.W.hideAll_get _ e fun a=>by
  have q:(H b).isSome=true:=(D_.mp a).2;rw[n] at q;simp at q
theorem Fv {h:Heap}{H:Hp}{b:Addr}{o:Obj}(e:(pX h H).get? b=some o):h.get? b=some o/\H b=none:=by
 have a:h.get? b=some o:=PySem.W.of_hideAll (trk h H) e;refine⟨a,?_⟩;cases q:H b with
 |none=>rfl
 |some x =>
  have c:b∈trk h H:=D_.mpr ⟨I_.mpr (R_ a),by simp [q]⟩
  have z:(pX h H).get? b=none:=PySem.W.hideAll_none (trk h H) c
  rw[z] at e;cases e
def Fw (g h : Heap) (L : Addr) : List (Addr × Obj):=(List.range h.objs.size).filterMap fun a => if a = L \/ (g.get? a).isSome = true then none else (h.get? a).map fun o => (a,o)
def rest (g h:Heap) (L d:Addr):List (Addr × Obj):=(Fw g h L).filter fun p=>decide (p.1≠d)
structure Mod (K:Frag) (mg:Str->Option Value) (base:Heap):Prop where
 kin:K.In base
 glob:base.Ns mainGlobals mg
 blt:∃mb,base.Ns builtinsNs mb/\∀x:Str,x≠"__name__"->mb x=bootBuiltins x
 nolimit:base.NoLimit
structure Cx where
 prog:Program
 w:World
 K:Frag
 mg:Str->Option Value
 base:Heap
 A:Around
 N:List Str
 s₀:Shared
 H₀:Hp
 env:Env
 outer:List Env
 stack:List Env
 ex:List Addr
 fn:Str->Bool
 calm:Bool
 pn:List (Addr × Obj)
 xe:Value->Shared->Prop
def frs (l : List Env) : List Addr:=l.filterMap (·.frame)
abbrev Cx.fs (X:Cx):List Addr:=frs X.outer
def Vis (a:Scope) (x:Str):Prop:=a.names.lookup x=some .local\/a.names.lookup x=some .cell\/a.names.lookup x=some .free
def Loc (a:Scope) (x:Str):Prop:=a.names.lookup x=some .local\/a.names.lookup x=some .cell
def Look (env:Env) (h:Heap) (m:Str->Option Value) (x:Str) (u:Value):Prop :=
 (env.kindOf x=some .local/\m x=some u)\/((env.kindOf x=some .cell\/env.kindOf x=some .free)/\∃c,env.cells.lookup x=some c/\h.IsCell c (some u))
structure Cx.Ok (X:Cx):Prop where
 mod:Mod X.K X.mg X.base
 kind:X.env.scope.kind=.function
 glob:X.env.globals=mainGlobals
 blt:X.env.builtins=builtinsNs
 above:X.s₀.heap.objs.size<=X.env.locals
 inj:∀x y c,X.env.cells.lookup x=some c->X.env.cells.lookup y=some c->x=y
 has:∀x,(X.env.kindOf x=some .cell\/X.env.kindOf x=some .free)->∃c,X.env.cells.lookup x=some c
 cab:∀x c,X.fn x=true->X.env.cells.lookup x=some c->X.s₀.heap.objs.size<=c
 hd:X.calm=true->X.A.handled=none
 frames:X.A.frames=some X.stack
 stk:X.stack=X.outer\/(X.stack=X.env::X.outer/\X.env.frame=some X.env.locals)
 exf:∀b∈X.ex,b≠X.env.locals/\∀x c,X.env.cells.lookup x=some c->c≠b
 bs:∀b o,X.base.get? b=some o->X.s₀.heap.get? b=some o/\X.H₀ b=none
 bsz:X.base.objs.size<=X.s₀.heap.objs.size
 noex:∀b o,X.base.get? b=some o->b∉X.ex
 exfs:∀b∈X.ex,b∉X.fs
 funs:X.s₀.heap.FunFrames X.base X.outer
 frf:∀b∈X.fs,X.H₀ b=none
structure Inv (X:Cx) (pins:List (Addr × Obj)) (σ:List (Option V)) (H:Hp) (s:Shared):Prop where
 ok:X.Ok
 os:s.os=X.s₀.os
 bare:AllBare s.gens
 base:Un X.fs X.ex X.H₀ H X.s₀.heap s.heap
 loc:∃m,s.heap.Ns X.env.locals m/\∀(i:Nat) (x:Str) (v:V),X.N[i]?=some x->σ[i]?=some (some v)->Vis X.env.scope x->∃u,RelV v u/\Look X.env s.heap m x u
 cell:∀x c,X.env.cells.lookup x=some c->∃v,s.heap.IsCell c v
 free:H X.env.locals=none
 freeC:∀x c,X.env.cells.lookup x=some c->H c=none
 pin:∀p∈X.pn++pins,s.heap.get? p.1=some p.2/\H p.1=none/\p.1≠X.env.locals/\p.1∉X.fs/\∀v,p.2.data≠.cell v
 hok:HOk X.prog X.w H s.heap
 len:σ.length=X.N.length
section
variable {X:Cx}{pins:List (Addr × Obj)}{σ:List (Option V)}{H H':Hp}{s:Shared}{h':Heap}
theorem Cx.Ok.nofr (a:X.Ok) {b:Addr}{o:Obj}(e:X.base.get? b=some o):b∉X.fs:=fun c=>by
 have:=(a.funs.mem c).1;rw[e] at this;cases this
theorem Inv.bs (I:Inv X pins σ H s):∀b o,X.base.get? b=some o->s.heap.get? b=some o/\H b=none:=fun b o e =>
 ⟨I.base.keep b o (I.ok.bs b o e).1 (I.ok.bs b o e).2 (I.ok.nofr e) (I.ok.noex b o e),I.base.free b o (I.ok.bs b o e).1 (I.ok.bs b o e).2 (I.ok.noex b o e)⟩
theorem Inv.bk (I:Inv X pins σ H s):∀b o,X.base.get? b=some o->s.heap.get? b=some o:=fun b o e=>(I.bs b o e).1
theorem Inv.mod (I:Inv X pins σ H s):Mod X.K X.mg X.base:=I.ok.mod
theorem Inv.kIn (I:Inv X pins σ H s):X.K.In s.heap:=I.ok.mod.kin.keeps I.bk
theorem Inv.lt (I:Inv X pins σ H s):X.env.locals<s.heap.objs.size:=let ⟨_,hn,_⟩:=I.loc;hn.lt
theorem Inv.sz (I:Inv X pins σ H s):X.s₀.heap.objs.size<=s.heap.objs.size:=W6 I.ok.above (Yn I.lt)
theorem Inv.nofs (I:Inv X pins σ H s) {a:Addr}(h:s.heap.objs.size<=a):a∉X.fs:=fun b=>by
 obtain⟨_,o,c,_⟩:=I.ok.funs.mem b;exact absurd (W7 (R_ c) (W6 I.sz h)) (X7 _)
theorem Inv.cne (I:Inv X pins σ H s):∀x c,X.env.cells.lookup x=some c->c≠X.env.locals:=fun x c e z=>by
 obtain⟨v,o,d,f⟩:=I.cell x c e;obtain⟨m,⟨h,g,ep,a,b,_⟩,_⟩:=I.loc;rw[z,a] at d;cases d;rw[b] at f;cases f
theorem Inv.funs (I:Inv X pins σ H s):s.heap.FunFrames X.base X.outer:=by
 have a:∀(l:List Env),(∀b∈frs l,b∈X.fs)->X.s₀.heap.FunFrames X.base l->s.heap.FunFrames X.base l:=by
  intro l;induction l with
  |nil=>intro _ _;trivial
  |cons env r n =>
  intro g h;obtain ⟨j,⟨L,o,d,i,k,p⟩,m⟩:=h;have f : L ∈ X.fs:=g L (by unfold frs; rw [List.filterMap_cons,d]; exact m_);obtain ⟨q,e⟩:=I.base.slot L o k (I.ok.frf L f) f fun z => I.ok.exfs L z f;exact ⟨j,⟨L,_,d,i,e,p⟩,n (fun b c => g b (by unfold frs; rw [List.filterMap_cons,d]; exact F_ _ c)) m⟩
 exact a X.outer (fun _ c=>c) I.ok.funs
theorem Inv.stack (I:Inv X pins σ H s):s.heap.FunFrames X.base X.stack:=by
 rcases I.ok.stk with e | ⟨e,b⟩
 ·rw[e];exact I.funs
 rw[e];obtain⟨m,a,_⟩:=I.loc;refine .cons (by rw[I.ok.kind];decide) b a ?_ I.funs;exact Heap.get?_none_of_le (W6 I.ok.bsz I.ok.above)
theorem Inv.stkSub (I:Inv X pins σ H s):∀b∈frs X.stack,b∈X.env.locals::X.fs:=fun b a=>by
 rcases I.ok.stk with e | ⟨e,c⟩
 ·rw[e] at a;exact F_ _ a
 rw [e] at a;unfold frs at a;rw [List.filterMap_cons,c] at a;exact a
theorem Inv.stkFree (I:Inv X pins σ H s):∀b∈frs X.stack,H b=none:=fun b a=>by
 rcases o_.mp (I.stkSub b a) with e | a
 ·rw[e];exact I.free
 obtain⟨_,o,c,_⟩:=I.ok.funs.mem a;exact I.base.free b o c (I.ok.frf b a) fun z=>I.ok.exfs b z a
theorem Inv.step {g':Array GenState}{t':Nat}{d':Drawn}{ch:List Addr}(I:Inv X pins σ H s)
  (t:∀b∈ch,(b∈X.ex\/X.s₀.heap.objs.size<=b)/\b≠X.env.locals/\(∀x c,X.env.cells.lookup x=some c->c≠b)/\∀p∈X.pn++pins,p.1≠b)
  (h:∀b o,b≠X.env.locals->b∉X.fs->b∉ch->s.heap.get? b=some o->H b=none->h'.get? b=some o)
  (B:∀b o,b≠X.env.locals->b∈X.fs->b∉ch->s.heap.get? b=some o->H b=none->∃P,h'.get? b=some { o with slots:=P}) (f:∀b o,b∉ch->s.heap.get? b=some o->H b=none->H' b=none)
  (C:∀b o,b∉ch->s.heap.get? b=some o->∃F,h'.get? b=some F)
  (K:∀b xs,H b=some (.tup xs)->H' b=some (.tup xs)) (M:∀b o u,H b=some (.frz o u)->H' b=some (.frz o u)) (L:∀b ps,H b=some (.tbl ps)->∃more,H' b=some (.tbl (ps++more)))
  (ns:∀m,s.heap.Ns X.env.locals m->h'.Ns X.env.locals m) (N:HOk X.prog X.w H' h') (W:AllBare g') :
  Inv X pins σ H' { s with heap:=h',gens:=g',drawn:=d',toks:=t'}:=by
 have G:∀b o,X.s₀.heap.get? b=some o->b≠X.env.locals:=fun b o e=>Xj (W7 (R_ e) I.ok.above);have A:∀b o,X.s₀.heap.get? b=some o->b∉X.ex->b∉ch:=fun b o e a D=>by
  rcases (t b D).1 with z | z
  ·exact a z
  exact absurd (W7 (R_ e) z) (X7 _)
 have j:∀x c,X.env.cells.lookup x=some c->∀v,s.heap.IsCell c v->h'.IsCell c v:=fun x c e v ⟨o,E,Q⟩=>by
  have g:c∉ch:=fun z=>(t c z).2.2.1 x c e rfl;by_cases S:c∈X.fs
  ·obtain⟨P,q⟩:=B c o (I.cne x c e) S g E (I.freeC x c e);exact⟨_,q,Q⟩
  exact⟨o,h c o (I.cne x c e) S g E (I.freeC x c e),Q⟩
 refine⟨I.ok,I.os,W,⟨fun b o e n D a=>?_,fun b o e n D a=>?_,fun b o e n a=>?_,fun b o e a=>?_,fun b xs e=>K b xs (I.base.tups b xs e),fun b o xs e=>M b o xs (I.base.frzs b o xs e),fun b ps e=>?_⟩,?_,fun x c e=>?_,?_,fun x c e=>?_,fun p U=>?_,N,I.len⟩
 ·exact h b o (G b o e) D (A b o e a) (I.base.keep b o e n D a) (I.base.free b o e n a)
 ·obtain⟨P,y⟩:=I.base.slot b o e n D a;obtain⟨O,J⟩:=B b _ (G b o e) D (A b o e a) y (I.base.free b o e n a);exact⟨O,J⟩
 ·obtain⟨F,y⟩:=I.base.there b o e a;exact f b F (A b o e a) y (I.base.free b o e n a)
 ·obtain⟨F,y⟩:=I.base.there b o e a;exact C b F (A b o e a) y
 ·obtain⟨V,y⟩:=I.base.tbls b ps e;obtain⟨Z,J⟩:=L b _ y;exact⟨V++Z,by rw[J,Array.append_assoc]⟩
 ·obtain⟨m,hn,Y⟩:=I.loc;refine⟨m,ns m hn,fun i x v y J e3=>?_⟩;obtain⟨u,r,l⟩:=Y i x v y J e3;refine⟨u,r,?_⟩;rcases l with l | ⟨k,c,e,z⟩
  ·exact .inl l
  exact .inr ⟨k,c,e,j x c e _ z⟩
 ·obtain⟨v,z⟩:=I.cell x c e;exact⟨v,j x c e v z⟩
 ·obtain⟨m,⟨o,_,_,E,_⟩,_⟩:=I.loc;exact f _ o (fun z=>(t _ z).2.1 rfl) E I.free
 ·obtain⟨v,o,E,Q⟩:=I.cell x c e;exact f c o (fun z=>(t c z).2.2.1 x c e rfl) E (I.freeC x c e)
 obtain⟨e,n,R,T,d⟩:=I.pin p U;have g:p.1∉ch:=fun z=>(t p.1 z).2.2.2 p U rfl;exact⟨h p.1 p.2 R T g e n,f p.1 p.2 g e n,R,T,d⟩
theorem Inv.un {t':Nat}(I:Inv X pins σ H s) (u:Un X.fs [] H H' s.heap h') (f:HOk X.prog X.w H' h'):Inv X pins σ H' { s with heap:=h',toks:=t'}:=by
 obtain⟨m,⟨o,p,ep,h,r⟩,_⟩:=id I.loc;obtain⟨l,k⟩:=u.any h I.free (by simp);exact I.step (g':=s.gens) (d':=s.drawn) (ch:=[]) (fun _ z=>nomatch z) (fun b o _ d _ e n=>u.keep b o e n d (by simp)) (fun b o _ d _ e n=>u.slot b o e n d (by simp)) (fun b o _ e n=>u.free b o e n (by simp)) (fun b o _ e=>u.there b o e (by simp)) u.tups u.frzs u.tbls (fun q i=>by
  obtain⟨t,c,g,a,j⟩:=i
  rw[h] at a;cases a
  exact⟨_,c,g,k,j⟩) f I.bare
theorem Inv.call {g':Array GenState}{t':Nat}{d':Drawn}{ch:List Addr}(I:Inv X pins σ H s) (u:Un (frs X.stack) ch H H' s.heap h') (h:HOk X.prog X.w H' h') (q:AllBare g')
  (d:∀b∈ch,(b∈X.ex\/X.s₀.heap.objs.size<=b)/\b≠X.env.locals/\(∀x c,X.env.cells.lookup x=some c->c≠b)/\∀p∈X.pn++pins,p.1≠b) :
  Inv X pins σ H' { s with heap:=h',gens:=g',drawn:=d',toks:=t'}:=by
 obtain⟨m,⟨o,A,ep,k,r⟩,_⟩:=id I.loc;obtain⟨y,i⟩:=u.any k I.free fun z=>(d _ z).2.1 rfl;exact I.step (ch:=ch) d (fun b o i t a e n=>u.keep b o e n (fun z=>(o_.mp (I.stkSub b z)).elim i t) a) (fun b o _ _ a e n=>u.any e n a) (fun b o a e n=>u.free b o e n a) (fun b o a e=>u.there b o e a) u.tups u.frzs u.tbls (fun B l=>by
  obtain⟨C,g,j,f,v⟩:=l
  rw[k] at f;cases f
  exact⟨_,g,j,i,v⟩) h q
theorem Inv.turned {t':Nat}{it:Addr}(I:Inv X pins σ H s) (k:∀b o,b≠it->s.heap.get? b=some o->h'.get? b=some o) (i:H it=none) (f:it≠X.env.locals)
  (t:it∈X.ex\/X.s₀.heap.objs.size<=it) (h:∀x c,X.env.cells.lookup x=some c->c≠it) (g:∀p∈X.pn++pins,p.1≠it):Inv X pins σ H { s with heap:=h',toks:=t'}:=by
 have d:∀b u,H b=some u->b≠it:=fun b u e z=>by rw[z,i] at e;cases e
 refine I.step (g':=s.gens) (d':=s.drawn) (ch:=[it]) (fun b w=>?_) (fun b o _ _ a e _=>k b o (fun z=>a (by simp [z])) e) (fun b o _ _ a e _=>⟨o.slots,k b o (fun z=>a (by simp [z])) e⟩) (fun _ _ _ _ n=>n)
  (fun b o a e=>⟨o,k b o (fun z=>a (by simp [z])) e⟩) (fun _ _ e=>e) (fun _ _ _ e=>e) (fun b ps e=>⟨#[],by rw[e];simp⟩) (fun m j=>?_) (fun b u e=>?_) I.bare
 ·have e:b=it:=by simpa using w
  subst e;exact⟨t,f,h,g⟩
 ·obtain⟨o,l,ep,y,r⟩:=j;exact⟨o,l,ep,k _ o (Ne.symm f) y,r⟩
 refine (I.hok b u e).stay (fun c v a q=>k c v ?_ q) (fun _ q=>q) fun _ _ q=>q;rcases a with z | z
 ·rw[z];exact d b u e
 exact d c _ z
theorem Inv.tok (I:Inv X pins σ H s) (t:Nat):Inv X pins σ H { s with toks:=t}:=I.un (h':=s.heap) (t':=t) Un.refl I.hok
theorem Inv.kept {t':Nat}(I:Inv X pins σ H s) (k:∀b u,s.heap.get? b=some u->h'.get? b=some u):Inv X pins σ H { s with heap:=h',toks:=t'}:=I.un (Un.kept k) (I.hok.kept k)
theorem Inv.laid {a:Addr}{o:HO}{t':Nat}(I:Inv X pins σ H s) (k:∀b u,s.heap.get? b=some u->h'.get? b=some u) (d:s.heap.objs.size<=a) (c:ObjOk X.prog X.w (upd H a o) h' a o) :
  Inv X pins σ (upd H a o) { s with heap:=h',toks:=t'}:=I.un (Un.laid k d (I.hok.fresh d)) (I.hok.laid k d c)
theorem Inv.write {x e:Addr}{o:HO}{t':Nat}(I:Inv X pins σ H s) (mu:Mut (H x)) (d:e=x\/H e=some (.own x)) (k:∀b u,b≠e->s.heap.get? b=some u->h'.get? b=some u) (a:∃u,h'.get? e=some u)
  (c:ObjOk X.prog X.w (upd H x o) h' x o):Inv X pins σ (upd H x o) { s with heap:=h',toks:=t'}:=I.un (Un.write mu d k a) (I.hok.write mu d k a c)
theorem Inv.pins_of {pins':List (Addr × Obj)}(I:Inv X pins σ H s) (h:∀p∈pins',s.heap.get? p.1=some p.2/\H p.1=none/\p.1≠X.env.locals/\p.1∉X.fs/\∀v,p.2.data≠.cell v):Inv X pins' σ H s :=
 ⟨I.ok,I.os,I.bare,I.base,I.loc,I.cell,I.free,I.freeC,fun p a=>(A_.mp a).elim (fun z=>I.pin p (Xr _ z)) (h p),I.hok,I.len⟩
theorem rJ {N:List Str}(e:N.Nodup) {i j:Nat}{x:Str}(a:N[i]?=some x) (b:N[j]?=some x):i=j:=by
 obtain⟨g,d⟩:=Yc.mp a;obtain⟨f,c⟩:=Yc.mp b;exact (List.getElem_inj e).mp (d.trans c.symm)
theorem oJ {M:Model}{A:Around}{E:Value->Shared->Prop}{i:Nat}{x:Str}{v:V}{u:Value}{Q:Unit->Shared->Prop}(I:Inv X pins σ H s) (hN:X.N.Nodup) (T:X.N[i]?=some x) (B:Loc X.env.scope x) (r:RelV v u)
  (h:∀s',Inv X pins (σ.set i (some v)) H s'->(∃a,Heap.SameBut a s.heap s'.heap/\(a=X.env.locals\/X.env.cells.lookup x=some a))->Q () s') (hf:X.fn x=true\/X.env.scope.names.lookup x=some .local:=by first | exact .inl rfl | exact .inr rfl | assumption):wpAny M A (storeName X.env x u) Q E s:=by
 obtain⟨m,hn,hl⟩:=id I.loc;have W:(X.env.scope.kind==.class||(X.env.scope.kind==.module&&X.env.locals != X.env.globals))=false:=by rw[I.ok.kind];rfl
 have F:i<σ.length:=by rw[I.len];exact (Yc.mp T).1
 have K:=I.cne;have l:∀{a:Addr} {h':Heap},(∃o,s.heap.get? a=some o/\H a=none)->Heap.SameBut a s.heap h'->HOk X.prog X.w H h':=fun {a h'} ha f b ob e=>by
  obtain⟨_,_,C⟩:=ha;refine (I.hok b ob e).stay (fun c Z t q=>(f.2 c ?_).trans q) (fun _ q=>q) fun _ _ q=>q;rintro rfl;rcases t with rfl | t
  ·rw[C] at e;cases e
  rw[C] at t;cases t
 rcases B with G | G
 ·refine wpAny_storeName_local G hn (fun h' hn' f=>?_) W;obtain⟨oL,_,_,hoL,_⟩:=id hn;refine h _ ⟨I.ok,I.os,I.bare,⟨fun b o e n O B=>?_,fun b o e n O B=>?_,I.base.free,fun b o e B=>?_,I.base.tups,I.base.frzs,I.base.tbls⟩,⟨_,hn',fun j y v' g D e3=>?_⟩,fun y c e=>?_,I.free,I.freeC,fun p hp=>?_,l ⟨oL,hoL,I.free⟩ f,by simpa using I.len⟩ ⟨_,f,.inl rfl⟩
  ·exact (f.2 b (Xj (W7 (R_ e) I.ok.above))).trans (I.base.keep b o e n O B)
  ·obtain⟨sl,g⟩:=I.base.slot b o e n O B;exact⟨sl,(f.2 b (Xj (W7 (R_ e) I.ok.above))).trans g⟩
  ·obtain⟨o',g⟩:=I.base.there b o e B;exact⟨o',(f.2 b (Xj (W7 (R_ e) I.ok.above))).trans g⟩
  ·by_cases J:j=i
   ·subst J;rw[T] at g;cases g;rw[YH F] at D;cases D;exact⟨u,r,.inl ⟨G,by simp⟩⟩
   rw[YS (Ne.symm J)] at D;obtain⟨u',r',q⟩:=hl j y v' g D e3;refine⟨u',r',?_⟩;rcases q with ⟨k,e⟩ | ⟨k,c,e,z⟩
   ·refine .inl ⟨k,?_⟩;have:y≠x:=fun e=>J (rJ hN g (e▸T));simp [this,e]
   exact .inr ⟨k,c,e,z.sameBut f (K y c e)⟩
  ·obtain⟨Z,z⟩:=I.cell y c e;exact⟨Z,z.sameBut f (K y c e)⟩
  obtain⟨e,n,ne,nf,d⟩:=I.pin p hp;exact⟨(f.2 p.1 ne).trans e,n,ne,nf,d⟩
 have L:X.fn x=true:=by
  rcases hf with z | z
  ·exact z
  rw[z] at G;cases G
 obtain⟨c,t⟩:=I.ok.has x (.inl G);obtain⟨Z,z⟩:=I.cell x c t;refine wpAny_storeName_cell I.ok.kind G t z (fun h' P f=>?_);obtain⟨oc,R,U⟩:=id z;refine h { s with heap:=h'} ⟨I.ok,I.os,I.bare,⟨fun b o e n O B=>?_,fun b o e n O B=>?_,I.base.free,fun b o e B=>?_,I.base.tups,I.base.frzs,I.base.tbls⟩,⟨m,hn.sameBut f (Ne.symm (K x c t)),fun j y v' g D e3=>?_⟩,fun y Y e=>?_,I.free,I.freeC,fun p hp=>?_,l ⟨oc,R,I.freeC x c t⟩ f,by simpa using I.len⟩ ⟨c,f,.inr t⟩
 ·exact (f.2 b (Xj (W7 (R_ e) (I.ok.cab x c L t)))).trans (I.base.keep b o e n O B)
 ·obtain⟨sl,g⟩:=I.base.slot b o e n O B;exact⟨sl,(f.2 b (Xj (W7 (R_ e) (I.ok.cab x c L t)))).trans g⟩
 ·obtain⟨o',g⟩:=I.base.there b o e B;exact⟨o',(f.2 b (Xj (W7 (R_ e) (I.ok.cab x c L t)))).trans g⟩
 ·by_cases J:j=i
  ·subst J;rw[T] at g;cases g;rw[YH F] at D;cases D;exact⟨u,r,.inr ⟨.inl G,c,t,P⟩⟩
  rw[YS (Ne.symm J)] at D;obtain⟨u',r',q⟩:=hl j y v' g D e3;refine⟨u',r',?_⟩;rcases q with q | ⟨k,Y,e,z'⟩
  ·exact .inl q
  refine .inr ⟨k,Y,e,z'.sameBut f ?_⟩;rintro rfl;exact J (rJ hN g (I.ok.inj _ _ _ e t▸T))
 ·by_cases S:Y=c
  ·subst S;exact⟨_,P⟩
  obtain⟨w2,z2⟩:=I.cell y Y e;exact⟨w2,z2.sameBut f S⟩
 obtain⟨e,n,ne,nf,d⟩:=I.pin p hp;refine⟨(f.2 p.1 ?_).trans e,n,ne,nf,d⟩;intro q;rw[q,R] at e;have q':oc=p.2:=Q_ e;exact d Z (by rw[<- q'];exact U)
theorem rK {M:Model}{A:Around}{E:Value->Shared->Prop}{i:Nat}{x:Str}{v:V}{u:Value}{Q:Unit->Shared->Prop}(I:Inv X pins σ H s) (e:X.N.Nodup) (a:X.N[i]?=some x) (d:Loc X.env.scope x) (r:RelV v u)
  (h:∀s',Inv X pins (σ.set i (some v)) H s'->Q () s') (c:X.fn x=true\/X.env.scope.names.lookup x=some .local:=by first | exact .inl rfl | exact .inr rfl | assumption):wpAny M A (storeName X.env x u) Q E s :=
 oJ I e a d r (fun s' b _=>h s' b) c
theorem Inv.call' {s':Shared}{ch:List Addr}(I:Inv X pins σ H s) (h:s'.os=s.os) (u:Un (frs X.stack) ch H H' s.heap s'.heap) (d:HOk X.prog X.w H' s'.heap) (f:AllBare s'.gens)
  (a:∀b∈ch,(b∈X.ex\/X.s₀.heap.objs.size<=b)/\b≠X.env.locals/\(∀x c,X.env.cells.lookup x=some c->c≠b)/\∀p∈X.pn++pins,p.1≠b):Inv X pins σ H' s':=by
 obtain⟨h',g',d',t',g⟩:=s';have e:g=s.os:=h;subst e;exact I.call (g':=g') (t':=t') (d':=d') u d f a
end
abbrev XK:=Value->Option Addr->Hp->Prop
abbrev St:=List (Option V)
abbrev VK:=V->Hp->Prop
abbrev TE:=St->Hp->VK->Prop
abbrev TT:=St->Hp->(Bool->Hp->Prop)->Prop
abbrev TA:=St->Hp->(List V->Hp->Prop)->Prop
structure Ends where
 nx:St->Hp->Prop
 rt:VK
 bk:St->Hp->Prop:=fun _ _=>False
 ct:St->Hp->Prop:=fun _ _=>False
abbrev TS:=Ends->St->Hp->Prop
def EP (X:Cx) (a:List (Addr × Obj)) (b:St) (Q:VK) (u:Value) (s':Shared):Prop:=∃v H',Inv X a b H' s'/\RelV v u/\Q v H'
def TP (X:Cx) (a:List (Addr × Obj)) (c:St) (Q:Bool->Hp->Prop) (b:Bool) (s':Shared):Prop:=∃H',Inv X a c H' s'/\Q b H'
def AP (X:Cx) (a:List (Addr × Obj)) (b:St) (Q:List V->Hp->Prop) (us:List Value) (s':Shared):Prop:=∃vs H',Inv X a b H' s'/\Vals vs us/\Q vs H'
def SP (X:Cx) (b:List (Addr × Obj)) (D:Ends) (f:Flow) (s':Shared):Prop :=
 match f with
 |.next=>∃a H',Inv X b a H' s'/\D.nx a H'
 |.brk=>∃a H',Inv X b a H' s'/\D.bk a H'
 |.cont=>∃a H',Inv X b a H' s'/\D.ct a H'
 |.ret u=>∃v a H',Inv X b a H' s'/\RelV v u/\D.rt v H'
def PE (X:Cx) (e:Expr) (t:TE):Prop :=
 ∀(a:List (Addr × Obj)) (s:Shared) (b:St) (H:Hp) (Q:VK),Inv X a b H s->t b H Q->wpAny (model X.prog X.w) X.A (eval e X.env) (EP X a b Q) X.xe s
def PT (X:Cx) (e:Expr) (t:TT):Prop :=
 ∀(a:List (Addr × Obj)) (s:Shared) (b:St) (H:Hp) (Q:Bool->Hp->Prop),Inv X a b H s->t b H Q->wpAny (model X.prog X.w) X.A (isTrue e X.env (eval e X.env)) (TP X a b Q) X.xe s
def PW (X:Cx) (e:Expr) (t:TT):Prop :=
 ∀(b:Sem Value) (a:List (Addr × Obj)) (s:Shared) (c:St) (H:Hp) (Q:Bool->Hp->Prop),Inv X a c H s->t c H Q->wpAny (model X.prog X.w) X.A (isTrue e X.env b) (TP X a c Q) X.xe s
theorem PW.pt {X:Cx}{e:Expr}{t:TT}(h:PW X e t):PT X e t:=h _
def PA (X:Cx) (d:List Expr) (t:TA):Prop :=
 ∀(b:Pos) (a:List (Addr × Obj)) (s:Shared) (c:St) (H:Hp) (Q:List V->Hp->Prop),Inv X a c H s->t c H Q->wpAny (model X.prog X.w) X.A (spliced (backTo b (starEach d X.env))) (AP X a c Q) X.xe s
def PS (X:Cx) (st:Stmt) (t:TS):Prop :=
 ∀(a:List (Addr × Obj)) (s:Shared) (b:St) (H:Hp) (D:Ends),Inv X a b H s->t D b H->wpAny (model X.prog X.w) X.A (exec st X.env) (SP X a D) X.xe s
def PSs (X:Cx) (st:List Stmt) (t:TS):Prop :=
 ∀(a:List (Addr × Obj)) (s:Shared) (b:St) (H:Hp) (D:Ends),Inv X a b H s->t D b H->wpAny (model X.prog X.w) X.A (execs st X.env) (SP X a D) X.xe s
theorem thn {c:Type}{t:Sem c}{Q b:c->Shared->Prop}{M:Model}{A:Around}{E:Value->Shared->Prop}{s:Shared}(h:wpAny M A t Q E s) (d:∀a s,Q a s->b a s):wpAny M A t b E s:=Yg h d fun _ _ x=>x
section
variable {X:Cx}
def Q0 (i:Nat):TE:=fun a H Q=>∃v,a[i]?=some (some v)/\Q v H
def tC (v:V):TE:=fun _ H Q=>Q v H
theorem Lr {i:Nat}{x:Str}{k:Pos}(y:X.N[i]?=some x) (w:Vis X.env.scope x) (j:(x==("__debug__":Str))=false:=by decide) (g:(x==("__classdict__":Str))=false:=by decide):PE X (.Name x k) (Q0 i):=by
 intro f s t H Q I h;obtain⟨v,e,h⟩:=h;obtain⟨m,p,o⟩:=I.loc;obtain⟨u,r,l⟩:=o i x v y e w;have b:EP X f t Q u s:=⟨v,H,I,r,h⟩;rcases l with ⟨d,q⟩ | ⟨d,c,n,a⟩
 ·exact wpAny_Name (wpAny_loadName_local I.ok.kind d p q b) j
 rcases d with d | d
 ·exact wpAny_Name (wpAny_loadName_cell I.ok.kind d n a b) j
 exact wpAny_Name (wpAny_loadName_free I.ok.kind d n a b g) j
theorem Ls {i j pos}:PE X (.Constant (.int i) j pos) (tC (.int i)):=fun _ _ _ H _ I h=>wpAny_Constant_int ⟨.int i,H,I.tok _,⟨_,rfl⟩,h⟩
theorem Q4 {b j pos}:PE X (.Constant (.bool b) j pos) (tC (.bl b)):=fun _ _ _ H _ I h=>Constant_bool ⟨.bl b,H,I,rfl,h⟩
theorem Lw {j pos}:PE X (.Constant .none j pos) (tC .non):=fun _ _ _ H _ I h=>Constant_none ⟨.non,H,I,rfl,h⟩
theorem Lx {x j pos}:PE X (.Constant (.str x) j pos) (tC (.str x)):=fun _ _ _ H _ I h=>Calls.Constant_str ⟨.str x,H,I.tok _,⟨_,rfl⟩,h⟩
def Gl (X:Cx) (x:Str):Prop:=X.env.kindOf x=some .globalImplicit
theorem wz {E:Value->Shared->Prop}{a:List (Addr × Obj)}{s:Shared}{e:St}{H:Hp}{x:Str}{u:Value}{b:Pos}{Q:Value->Shared->Prop}(I:Inv X a e H s) (d:Gl X x) (c:X.mg x=some u) (h:Q u s)
  (f:(x==("__debug__":Str))=false:=by decide):wpAny (model X.prog X.w) X.A (eval (.Name x b) X.env) Q E s :=
 Calls.Name_function_global I.ok.kind d (Calls.loadGlobal_global (by rw[I.ok.glob];exact I.mod.glob.keeps I.bk) c h) f
theorem je {E:Value->Shared->Prop}{a:List (Addr × Obj)}{s:Shared}{g:St}{H:Hp}{x:Str}{u:Value}{b:Pos}{Q:Value->Shared->Prop}(I:Inv X a g H s) (e:Gl X x) (d:X.mg x=none) (j:bootBuiltins x=some u) (h:Q u s)
  (f:x≠"__name__":=by decide) (k:(x==("__debug__":Str))=false:=by decide):wpAny (model X.prog X.w) X.A (eval (.Name x b) X.env) Q E s:=by
 obtain⟨l,i,c⟩:=I.mod.blt;exact Calls.Name_function_global I.ok.kind e (Calls.loadGlobal_builtin (by rw[I.ok.glob];exact I.mod.glob.keeps I.bk) d (by rw[I.ok.blt];exact i.keeps I.bk) ((c x f).trans j) h) k
variable {a b:Expr}{ta tb:TE}{pos:Pos}
def PC (X:Cx) (op:CmpOp) (a b:Expr) (t:TE):Prop :=
 ∀(c:List (Addr × Obj)) (s:Shared) (f:St) (H:Hp) (Q:VK),Inv X c f H s->t f H Q ->
  wpAny (model X.prog X.w) X.A (eval a X.env) (fun v d=>wpAny (model X.prog X.w) X.A (eval b X.env) (fun u e=>wpAny (model X.prog X.w) X.A (compareOp op v u) (EP X c f Q) X.xe e) X.xe d) X.xe s
theorem z8 (b:Expr) {op:CmpOp}(h:op≠.In) (c:op≠.NotIn):behindInMarks op b=false:=by
 have a:(op==CmpOp.In)=false:=by cases op <;> first | rfl | exact absurd rfl h
 have d:(op==CmpOp.NotIn)=false:=by cases op <;> first | rfl | exact absurd rfl c
 cases b <;> simp [behindInMarks,a,d]
def tB (t:TE):TT:=fun b H Q=>t b H fun x a=>∃c,x=.bl c/\Q c a
theorem pY {op:CmpOp}{t:TE}(h:PC X op a b t) (f:behindInMarks op b=false:=by first | exact z8 _ (by decide) (by decide) | rfl):PT X (.Compare a [op] [b] pos) (tB t):=by
 intro e s j H Q I l;refine wpAny_isTrue_Compare1 (thn (h e s j H _ I l) fun v p f=>thn f fun u o g=>thn g fun c r ⟨x,n,k,i,m⟩=>?_) f;obtain⟨d,rfl,q⟩:=m;cases i;exact YT ⟨n,k,q⟩
theorem Ly {e:Expr}{t:TE}(h:PE X e t) (b:∀whole,isTrue e X.env whole=(do let v <- whole;standAt e.pos;holding [v] (truthy v)):=by intro _;rfl):PT X e (tB t):=by
 intro a s f H Q I i;refine isTrue_plain (thn (h a s f H _ I i) fun v l ⟨x,k,g,c,j⟩=>?_) (b _);obtain⟨d,rfl,q⟩:=j;cases c;exact YT ⟨k,g,q⟩
variable {tA tB':TT}{rest:List Expr}
def VD (t u:TT):TT:=fun b H Q=>t b H fun c a=>if c=true then u b a Q else Q false a
def tOr (t u:TT):TT:=fun b H Q=>t b H fun c a=>if c=true then Q true a else u b a Q
def VF (t:TT):TT:=fun b H Q=>t b H fun c a=>Q (!c) a
theorem Fx (d:PT X a tA):PW X (.BoolOp .And [a] pos) tA:=by
 intro i b s f H Q I h;refine isTrue_and (thn (d b s f H Q I h) fun c g e=>?_);cases c with
 |true=>exact isTrue_and_nil e
 |false=>exact e
theorem Lz (d:PT X a tA):PW X (.BoolOp .Or [a] pos) tA:=by
 intro i b s f H Q I h;refine isTrue_or (thn (d b s f H Q I h) fun c g e=>?_);cases c with
 |false=>exact isTrue_or_nil e
 |true=>exact e
theorem LC (k:PT X a tA) (m:PW X (.BoolOp .And (b::rest) pos) tB'):PW X (.BoolOp .And (a::b::rest) pos) (VD tA tB'):=by
 intro l d s e H Q I h;refine isTrue_and (thn (k d s e H _ I h) fun c j ⟨i,f,g⟩=>?_);cases c with
 |true=>exact m l d j e i Q f g
 |false=>exact⟨i,f,g⟩
theorem Q5 (k:PT X a tA) (m:PW X (.BoolOp .Or (b::rest) pos) tB'):PW X (.BoolOp .Or (a::b::rest) pos) (tOr tA tB'):=by
 intro l d s e H Q I h;refine isTrue_or (thn (k d s e H _ I h) fun c j ⟨i,f,g⟩=>?_);cases c with
 |true=>exact⟨i,f,g⟩
 |false=>exact m l d j e i Q f g
theorem LK (e:PT X a tA):PT X (.UnaryOp .Not a pos) (VF tA):=by
 intro b s f H Q I h;exact isTrue_not (e b s f H (fun c d=>Q (!c) d) I h)
def Q6 (e d:TE):TE:=fun b H Q=>e b H fun x a=>∃c,x=.bl c/\if c=true then d b a Q else Q (.bl false) a
def VG (e d:TE):TE:=fun b H Q=>e b H fun x a=>∃c,x=.bl c/\if c=true then Q (.bl true) a else d b a Q
theorem LQ {op}{t:TE}(h:PE X a t):PE X (.BoolOp op [a] pos) t:=fun b s d H Q I c=>BoolOp_one (h b s d H Q I c)
theorem LR (k:PE X a ta) (m:PE X (.BoolOp .And (b::rest) pos) tb):PE X (.BoolOp .And (a::b::rest) pos) (Q6 ta tb):=by
 intro d s f H Q I h;refine BoolOp_and (thn (k d s f H _ I h) fun v j ⟨x,i,g,l,e⟩=>?_);obtain⟨c,rfl,e⟩:=e;cases l;refine YT ?_;cases c with
 |true=>exact m d j f i Q g e
 |false=>exact⟨.bl false,i,g,rfl,e⟩
theorem Q7 (k:PE X a ta) (m:PE X (.BoolOp .Or (b::rest) pos) tb):PE X (.BoolOp .Or (a::b::rest) pos) (VG ta tb):=by
 intro d s f H Q I h;refine BoolOp_or (thn (k d s f H _ I h) fun v j ⟨x,i,g,l,e⟩=>?_);obtain⟨c,rfl,e⟩:=e;cases l;refine YT ?_;cases c with
 |false=>exact m d j f i Q g e
 |true=>exact⟨.bl true,i,g,rfl,e⟩
end
def SqL (K:Frag) (H:Hp) (a:Addr) (xs:List V):Prop :=
 Rd H a (.lst xs) \/
  ∃(o:Obj) (b:Array Value) (n:Nat),K.lookup a=some o/\o.cls=.type "list"/\o.dict=none/\o.data=.seq b n/\b.size<=sizeLine/\Vals xs b.toList
def SqT (K:Frag) (H:Hp) (a:Addr) (xs:List V):Prop :=
 Rd H a (.tup xs) \/
  ∃(o:Obj) (b:Array Value) (n:Nat),K.lookup a=some o/\o.cls=.type "tuple"/\o.dict=none/\o.data=.seq b n/\b.size<=sizeLine/\Vals xs b.toList
def VH:Value->Option V
 |.none=>some .non
 |.bool b=>some (.bl b)
 |.int i _=>some (.int i)
 |.str x _=>some (.str x)
 |.bytes b _=>some (.byt b)
 |.float b _=>some (.flt b)
 |.ref a=>some (.ref a)
 |.type n=>some (.ty n)
 |_=>none
theorem RelV.abs {x:V}{u:Value}(r:RelV x u):VH u=some x:=by
 cases x with
 |non=>cases r;rfl
 |bl _=>cases r;rfl
 |int _=>obtain⟨t,rfl⟩:=r;rfl
 |str _=>obtain⟨t,rfl⟩:=r;rfl
 |byt _=>obtain⟨t,rfl⟩:=r;rfl
 |flt _=>obtain⟨t,rfl⟩:=r;rfl
 |ref _=>cases r;rfl
 |ty _=>cases r;rfl
theorem RelV.inj {x y:V}{u:Value}(r:RelV x u) (q:RelV y u):x=y:=Q_ (r.abs.symm.trans q.abs)
theorem Vals.inj {xs a:List V}{us:List Value}(h:Vals xs us) (h':Vals a us):xs=a:=by
 induction h generalizing a with
 |nil=>cases h';rfl
 |cons r t c =>
 cases h' with
 |cons b t'=>rw[r.inj b,c t']
section
variable {X:Cx}{pins:List (Addr × Obj)}{σ:St}{H:Hp}{s:Shared}{a:Addr}{xs ys:List V}
theorem SqL.of {K:Frag}(h:H a=some (.lst xs)):SqL K H a xs:=.inl (.inl h)
theorem SqT.of {K:Frag}(h:H a=some (.tup xs)):SqT K H a xs:=.inl (.inl h)
theorem Inv.list (I:Inv X pins σ H s) (h:SqL X.K H a xs):∃b:List Value,Vals xs b/\PlainL s.heap a b.toArray/\xs.length<=sizeLine:=by
 rcases h with h | ⟨o,b,n,c,d,g,f,i,r⟩
 ·obtain⟨z,b,n,r,e⟩:=h.ok I.hok;exact⟨b,r,⟨_,n,e,rfl,rfl,rfl⟩,z⟩
 refine⟨b.toList,r,⟨o,n,I.kIn a o c,d,g,by simpa using f⟩,?_⟩;have e:=r.length;simp only[P_] at e;omega
theorem Inv.tuple (I:Inv X pins σ H s) (h:SqT X.K H a xs):∃b:List Value,Vals xs b/\IsTup s.heap a b.toArray/\xs.length<=sizeLine:=by
 rcases h with h | ⟨o,b,n,c,d,_,f,g,r⟩
 ·obtain⟨z,b,r,p⟩:=h.ok I.hok;exact⟨b,r,p.is,z⟩
 refine⟨b.toList,r,⟨o,I.kIn a o c,d,n,by simpa using f⟩,?_⟩;have e:=r.length;simp only[P_] at e;omega
theorem Inv.list_inj (I:Inv X pins σ H s) (h:SqL X.K H a xs) (h':SqL X.K H a ys):xs=ys:=by
 obtain⟨b,r,⟨o,n,e,_,_,d⟩,_⟩:=I.list h;obtain⟨its',f,⟨i,g,c,_,_,d'⟩,_⟩:=I.list h';rw[e] at c;cases c;rw[d] at d';injection d' with d1 _;have:b=its':=by simpa using O_ Array.toList d1
 subst this;exact r.inj f
theorem Inv.tuple_inj (I:Inv X pins σ H s) (h:SqT X.K H a xs) (h':SqT X.K H a ys):xs=ys:=by
 obtain⟨b,r,⟨o,e,_,n,d⟩,_⟩:=I.tuple h;obtain⟨its',f,⟨i,c,_,g,d'⟩,_⟩:=I.tuple h';rw[e] at c;cases c;rw[d] at d';injection d' with d1 _;have:b=its':=by simpa using O_ Array.toList d1
 subst this;exact r.inj f
end
abbrev Cx.wish (X:Cx) (E:Value->Shared->Prop):Cx:={ X with xe:=E}
abbrev Cx.nox (X:Cx):Cx:=X.wish fun _ _=>False
theorem Cx.Ok.wish {X:Cx}(a:X.Ok) (E:Value->Shared->Prop):(X.wish E).Ok :=
 ⟨a.mod,a.kind,a.glob,a.blt,a.above,a.inj,a.has,a.cab,a.hd,a.frames,a.stk,a.exf,a.bs,a.bsz,a.noex,a.exfs,a.funs,a.frf⟩
theorem Cx.Ok.unwish {X:Cx}{E:Value->Shared->Prop}(a:(X.wish E).Ok):X.Ok :=
 ⟨a.mod,a.kind,a.glob,a.blt,a.above,a.inj,a.has,a.cab,a.hd,a.frames,a.stk,a.exf,a.bs,a.bsz,a.noex,a.exfs,a.funs,a.frf⟩
section
variable {X:Cx}{pins:List (Addr × Obj)}{σ:St}{H:Hp}{s:Shared}{E:Value->Shared->Prop}
theorem Inv.wish (I:Inv X pins σ H s) (E:Value->Shared->Prop):Inv (X.wish E) pins σ H s:=⟨I.ok.wish E,I.os,I.bare,I.base,I.loc,I.cell,I.free,I.freeC,I.pin,I.hok,I.len⟩
theorem Inv.unwish (I:Inv (X.wish E) pins σ H s):Inv X pins σ H s:=⟨I.ok.unwish,I.os,I.bare,I.base,I.loc,I.cell,I.free,I.freeC,I.pin,I.hok,I.len⟩
theorem SP.unwish {D:Ends}{f:Flow}{s':Shared}(h:SP (X.wish E) pins D f s'):SP X pins D f s':=by
 cases f with
 |next=>obtain⟨a,H',I,q⟩:=h;exact⟨a,H',I.unwish,q⟩
 |brk=>obtain⟨a,H',I,q⟩:=h;exact⟨a,H',I.unwish,q⟩
 |cont=>obtain⟨a,H',I,q⟩:=h;exact⟨a,H',I.unwish,q⟩
 |ret u=>obtain⟨v,a,H',I,r,q⟩:=h;exact⟨v,a,H',I.unwish,r,q⟩
theorem PSs.nox {st:List Stmt}{t:TS}(h:PSs X.nox st t):PSs X st t:=fun a s c H D I b =>
 Yg (h a s c H D (I.wish _) b) (fun _ _ q=>q.unwish) fun _ _ z=>False.elim z
variable {st:Stmt}{rest:List Stmt}{t u:TS}{e:Expr}{te:TE}{pos:Pos}
def Q8:TS:=fun D a H=>D.nx a H
def VJ (t u:TS):TS:=fun D a H=>t { D with nx:=u D} a H
theorem Fy:PSs X [] Q8:=fun _ _ a H _ I h=>wpAny_execs_nil ⟨a,H,I,h⟩
theorem z9 (h1:PS X st t) (d:PSs X rest u):PSs X (st::rest) (VJ t u):=by
 intro a s g H D I h;refine wpAny_execs_cons (thn (h1 a s g H { D with nx:=u D} I h) fun f c q=>?_);cases f with
 |next=>obtain⟨b,H',e,q⟩:=q;exact d a c b H' D e q
 |ret v=>exact q
 |brk=>exact q
 |cont=>exact q
theorem Fz (c:PS X st t):PSs X [st] t:=by
 intro a s b H D I h;refine wpAny_execs_cons (thn (c a s b H D I h) fun f d q=>?_);cases f with
 |next=>exact wpAny_execs_nil q
 |ret v=>exact q
 |brk=>exact q
 |cont=>exact q
def Q9:TS:=fun D a H=>D.ct a H
theorem rM:PS X (.Continue pos) Q9:=fun _ _ a H _ I h=>wpAny_Continue ⟨a,H,I,h⟩
theorem Inv.quiet {a:List (Addr × Obj)}{b:St}{H:Hp}{s:Shared}(I:Inv X a b H s):interactive X.env=false:=by simp [interactive,I.ok.kind]
def Ra (te:TE):TS:=fun D a H=>te a H fun _ b=>D.nx a b
theorem FJ (c:PE X e te) (i:swapsWith e none pos.line X.env=pure false:=by rfl):PS X (.Expr e pos) (Ra te):=by
 intro a s b H D I h;exact wpAny_Expr_any (thn (c a s b H _ I h) fun v j ⟨x,g,d,k,f⟩=>⟨b,g,d,f⟩) I.quiet i
def VL (te:TE):TS:=fun D a H=>te a H D.rt
theorem Ma (c:PE X e te):PS X (.Return (some e) pos) (VL te):=by
 intro a s b H D I h;exact wpAny_Return_some (thn (c a s b H _ I h) fun v j ⟨x,i,f,d,g⟩=>⟨x,b,i,f,d,g⟩)
def VM (c:TT) (t u:TS):TS:=fun D a H=>c a H fun b d=>if b=true then t D a d else u D a d
theorem Rb {c:Expr}{a b:List Stmt}{j:TT}(o:PT X c j) (m:PSs X a t) (n:PSs X b u):PS X (.If c a b pos) (VM j t u):=by
 intro e s f H D I h;refine wpAny_If (thn (o e s f H _ I h) fun d g ⟨l,i,k⟩=>?_);cases d with
 |true=>exact m e g f l D i k
 |false=>exact n e g f l D i k
end
abbrev TG:=V->St->Hp->(St->Hp->Prop)->Prop
abbrev TGs:=List V->St->Hp->(St->Hp->Prop)->Prop
def PG (X:Cx) (a:Expr) (t:TG):Prop :=
 ∀(b:List (Addr × Obj)) (s:Shared) (d:St) (H:Hp) (v:V) (u:Value) (Q:St->Hp->Prop),Inv X b d H s->RelV v u->t v d H Q ->
  wpAny (model X.prog X.w) X.A (assign a X.env u) (fun _ s'=>∃c H',Inv X b c H' s'/\Q c H') X.xe s
def PGs (X:Cx) (ts:List Expr) (t:TGs):Prop :=
 ∀(a:List (Addr × Obj)) (s:Shared) (c:St) (H:Hp) (vs:List V) (us:List Value) (Q:St->Hp->Prop),Inv X a c H s->Vals vs us->t vs c H Q ->
  wpAny (model X.prog X.w) X.A (assignInOrder ((assignEach ts X.env).map (·.2)) us) (fun _ s'=>∃b H',Inv X a b H' s'/\Q b H') X.xe s
abbrev Aa:=V->V->V->Hp->(Hp->Prop)->Prop
def PSet (X:Cx) (t:Aa):Prop :=
 ∀(a:List (Addr × Obj)) (s:Shared) (c:St) (H:Hp) (o i v:V) (d b u:Value) (Q:Hp->Prop),Inv X a c H s->RelV o d->RelV i b->RelV v u->t o i v H Q ->
  wpAny (model X.prog X.w) X.A (setItem d b u) (fun _ s'=>∃H',Inv X a c H' s'/\Q H') X.xe s
section
variable {X:Cx}{pos:Pos}
def JD (i:Nat):TG:=fun v a H Q=>Q (a.set i (some v)) H
theorem FN {i:Nat}{x:Str}(f:X.N.Nodup) (b:X.N[i]?=some x) (e:Loc X.env.scope x) (d:X.fn x=true\/X.env.scope.names.lookup x=some .local:=by first | exact .inl rfl | exact .inr rfl | assumption):PG X (.Name x pos) (JD i):=by
 intro a s g H v u Q I r h;exact wpAny_assign_Name (rK I f b e r (fun s' c=>⟨_,H,c,h⟩) d)
def VN:TGs:=fun vs a H Q=>vs=[]/\Q a H
def Rc (t:TG) (u:TGs):TGs:=fun vs b H Q=>∃v r,vs=v::r/\t v b H fun a H'=>u r a H' Q
theorem FP:PGs X [] VN:=by
 intro a s b H vs us Q I r h;obtain⟨e,h⟩:=h;subst e;cases r;exact assignInOrder_nil ⟨b,H,I,h⟩
theorem Ab {e:Expr}{b:List Expr}{t:TG}{u:TGs}(j:PG X e t) (f:PGs X b u)
  (o:(assignEach (e::b) X.env).map (·.2)=assign e X.env::(assignEach b X.env).map (·.2):=by rfl):PGs X (e::b) (Rc t u):=by
 intro a s i H vs us Q I r h;obtain⟨v,p,m,h⟩:=h;subst m;cases r with
 |cons r g =>
 rw[o];refine assignInOrder_cons (thn (j a s i H _ _ _ I r h) fun _ d ⟨c,n,k,l⟩=>?_);exact f a d c n _ _ Q k g l
def VP (K:Frag) (n:Nat) (t:TGs):TG:=fun v b H Q=>∃a xs,v=.ref a/\SqT K H a xs/\xs.length=n/\t xs b H Q
theorem Mf {d:List Expr}{k:Nat}{t:TGs}{n:Nat}(A:X.calm=true) (h:PGs X d t)
  (q:(assignEach d X.env).length=n:=by rfl) (g:(assignEach d X.env).findIdx? (·.1)=none:=by rfl):PG X (.Tuple d k pos) (VP X.K n t):=by
 intro c s i H v u Q I r f;obtain⟨a,xs,z,p,m,f⟩:=f;subst z;cases r;obtain⟨w,j,l,B⟩:=I.tuple p;refine assign_Tuple_tuple (I.ok.hd A) l (by simp [q,<- m,j.length]) g fun h' y=>?_;have x:Inv X c i H { s with heap:=h'}:=I.kept (t':=s.toks) fun b o e=>y b o (Xj (R_ e)) e;exact h c _ i H xs _ Q x (by simpa using j) f
def VR (e c:TE) (t:Aa):TG:=fun v a H Q=>e a H fun o d=>c a d fun i b=>t o i v b fun H3=>Q a H3
theorem Mg {o i:Expr}{e f:TE}{t:Aa}(F:PE X o e) (n:PE X i f) (l:PSet X t)
  (g:∀v,assign (.Subscript o i pos) X.env v=(do
   let b <- holding [v] (eval o X.env)
   let c <- holding [v,b] (eval i X.env)
   standAt pos
   holding [v,b,c] (setItem b c v)
   release [v,b,c] []):=by intro _;rfl):PG X (.Subscript o i pos) (VR e f t):=by
 intro a s d H v u Q I r h;rw[g];refine h_ (Zi (thn (F a s d H _ I h) fun b A ⟨x,k,E,j,q⟩=>?_));refine h_ (Zi (thn (n a A d k _ E q) fun c m ⟨y,D,B,w,p⟩=>?_));refine h_ (wpAny_standAt (h_ (Zi (thn (l a m d D x y v b c u _ B j w r p) fun _ G ⟨H3,z,C⟩=>?_))));exact wpAny_release ⟨d,H3,z,C⟩
def Rf (te:TE) (g:TG):TS:=fun D a H=>te a H fun x b=>g x a b D.nx
theorem Mh {b e:Expr}{te:TE}{g:TG}(d:PE X e te) (i:PG X b g) (p:swapsWithSole [b] e pos.line X.env=pure false:=by rfl) (m:swappedStores [b] e X.env=pure none:=by rfl)
  (k:(assignEach [b] X.env).map (·.2)=[assign b X.env]:=by rfl):PS X (.Assign [b] e pos) (Rf te g):=by
 intro a s c H D I h;refine wpAny_Assign_stores (thn (d a s c H _ I h) fun v f ⟨x,o,l,j,n⟩=>?_) p m;rw[k];exact thn (i a f c o x v _ l j n) fun _ r q=>q
theorem Mi {i:Nat}{x:Str}{e:Expr}{te:TE}{a:Pos}(q:X.N.Nodup) (f:X.N[i]?=some x) (n:Loc X.env.scope x) (c:PE X e te) (p:swapsWith e (some (.Name x a)) pos.line X.env=pure false:=by rfl) (m:X.fn x=true\/X.env.scope.names.lookup x=some .local:=by first | exact .inl rfl | exact .inr rfl | assumption) :
  PS X (.Assign [.Name x a] e pos) (Rf te (JD i)):=by
 intro b s j H D I h;refine wpAny_Assign_Name (thn (c b s j H _ I h) fun v t ⟨y,o,k,g,l⟩=>?_) p;exact rK k q f n g (fun r d=>⟨_,o,d,l⟩) m
def Mj (c:TT) (g:TS):TS:=fun D a H=>∃W:Nat->St->Hp->Prop,(∃m,W m a H)/\∀m a H,W m a H ->
 c a H fun b f=>if b=true then ∃N:St->Hp->Prop,(∀d H',N d H'->∃e,e<m/\W e d H')/\g { D with nx:=N,ct:=N,bk:=D.nx} a f else D.nx a f
theorem Ac {c:Expr}{g:List Stmt}{z:TT}{y:TS}(t:PassesOwn (model X.prog X.w) X.A X.env X.xe) (F:PT X c z) (P:PSs X g y):PS X (.While c g [] pos) (Mj z y):=by
 intro a s K H D I h;obtain⟨W,⟨E,L⟩,j⟩:=h;refine wpAny_While (codeAny_whileLoop (fun n s'=>∃i H',Inv X a i H' s'/\W n i H') ?_ E ⟨K,H,I,L⟩);rintro n M ⟨e,u,O,G⟩;refine YM t (thn (F a M e u _ O (j n e u G)) fun b J ⟨C,B,k⟩=>?_);cases b with
 |true =>
  obtain⟨N,x,k⟩:=k;rw[if_pos rfl];refine YM t (thn (P a J e C _ B k) fun f Q l=>?_);cases f with
  |next=>obtain⟨d,H3,p,q⟩:=l;obtain⟨r,o,m⟩:=x d H3 q;exact⟨r,o,d,H3,p,m⟩
  |cont=>obtain⟨d,H3,p,q⟩:=l;obtain⟨r,o,m⟩:=x d H3 q;exact⟨r,o,d,H3,p,m⟩
  |brk=>exact l
  |ret v=>exact l
 |false =>
 rw[if_neg t_];exact wpAny_execs_nil ⟨e,C,B,k⟩
end
structure It where
 go:Nat->Hp->Prop
 yld:Nat->Hp->V->Hp->Prop
 stop:Nat->Hp->Prop
def nQ (X:Cx) (a:List (Addr × Obj)) (H:Hp) (b:Addr):Prop :=
 H b=none/\b≠X.env.locals/\b∉X.fs/\(b∈X.ex\/X.s₀.heap.objs.size<=b)/\(∀x c,X.env.cells.lookup x=some c->c≠b)/\∀p∈X.pn++a,p.1≠b
theorem Inv.fpOk {X:Cx}{a:List (Addr × Obj)}{h:St}{H H':Hp}{s:Shared}{b:Addr}(I:Inv X a h H s) (d:s.heap.objs.size<=b) (f:H' b=none):nQ X a H' b:=by
 refine⟨f,ZJ (W7 I.lt d),I.nofs d,.inr (W6 I.sz d),fun x c e z=>?_,fun p g z=>?_⟩
 ·obtain⟨v,q⟩:=I.cell x c e;exact absurd (W7 q.lt (by rw[z];exact d)) (X7 _)
 exact absurd (W7 (R_ (I.pin p g).1) (by rw[z];exact d)) (X7 _)
structure Turn (P:Program) (w:World) (K:Frag) (tg:Expr) (J:It) (fp:List Addr) (it:Addr) (tn:Nat->Heap->Prop):Prop where
 mem:it∈fp
 obj:∀i h,tn i h->∀b∈fp,∃o,h.get? b=some o/\∀v,o.data≠.cell v
 keep:∀i h h',tn i h->(∀b∈fp,∀o,h.get? b=some o->h'.get? b=some o)->tn i h'
 item:∀(X:Cx),X.prog=P->X.w=w->X.K=K->X.calm=true->∀(i:Nat) (pins:List (Addr × Obj)) (s:Shared) (σ:St) (H:Hp) (E:Value->Shared->Prop),Inv X pins σ H s->(∀b∈fp,nQ X pins H b)->tn i s.heap->J.go i H ->
  wpAny (model P w) X.A (pyNext (.ref it)) (fun r s1=>∃u,r=some u /\
   wpAny (model P w) X.A (letOwnedTupleGo tg (.ref it) u) (fun _ s2=>∃x H',Inv X pins σ H' s2/\RelV x u/\J.yld i H x H'/\tn (i+1) s2.heap/\∀b∈fp,H' b=none) E s1) E s
 done:∀(X:Cx),X.prog=P->X.w=w->X.K=K->X.calm=true->∀(i:Nat) (pins:List (Addr × Obj)) (s:Shared) (σ:St) (H:Hp) (E:Value->Shared->Prop),Inv X pins σ H s->(∀b∈fp,nQ X pins H b)->tn i s.heap->J.stop i H ->
  wpAny (model P w) X.A (pyNext (.ref it)) (fun r s1=>r=none/\Inv X pins σ H s1) E s
 self:∀(A:Around) (i:Nat) (s:Shared) (Q:Value->Shared->Prop) (E:Value->Shared->Prop),tn i s.heap->Q (.ref it) s->wpAny (model P w) A (pyIter (.ref it)) Q E s
abbrev TI:=St->Hp->(It->Hp->Prop)->Prop
def PIE (X:Cx) (a:List (Addr × Obj)) (h:St) (g:Expr) (R:It->Hp->Prop) (c:Value) (e:Shared):Prop :=
 ∃(it:Addr) (d:List Addr) (f:Nat->Heap->Prop) (J:It) (H':Hp),c=.ref it/\Inv X a h H' e/\Turn X.prog X.w X.K g J d it f/\f 0 e.heap/\(∀b∈d,nQ X a H' b)/\R J H'
def PI (X:Cx) (f b:Expr) (e:TI):Prop :=
 ∀(a:List (Addr × Obj)) (s:Shared) (c:St) (H:Hp) (R:It->Hp->Prop),Inv X a c H s->e c H R ->
  wpAny (model X.prog X.w) X.A (eval b X.env) (fun v d=>wpAny (model X.prog X.w) X.A (pyIter v) (PIE X a c f R) X.xe d) X.xe s
theorem Ad {M:Model}{A:Around}{E:Value->Shared->Prop}{s:Shared}{b:Expr}{it:Addr}{u:Value}{o:Obj}{n:String}{vs:Array Value}{Q:Unit->Shared->Prop}(d:s.heap.get? it=some o) (e:o.cls=.type n) (f:o.data=.fields vs)
  (c:["enumerate","zip","dict_itemiterator","dict_reverseitemiterator","odict_iterator","itertools.zip_longest","itertools.pairwise"].contains n=false) (a:Q () s):wpAny M A (letOwnedTupleGo b (.ref it) u) Q E s:=by
 unfold letOwnedTupleGo;cases b <;> first
  |exact C_ a
  | (cases u <;> first
    |exact C_ a
    | (refine h_ (wpAny_load d ?_)
       rw[e,f]
       show wpAny M A (if (["enumerate","zip","dict_itemiterator","dict_reverseitemiterator","odict_iterator","itertools.zip_longest","itertools.pairwise"].contains n&&vs[0]?==some (rawInt _))=true then _ else _) Q E s
       rw[if_neg (by intro h;rw[c,Bool.false_and] at h;cases h)]
       exact C_ a))
def Itl (K:Frag) (a:Addr):It :=
 ⟨fun i H=>∃xs x,SqL K H a xs/\xs[i]?=some x,fun i H x H'=>H'=H/\∀xs,SqL K H a xs->xs[i]?=some x,fun i H=>∃xs,SqL K H a xs/\xs.length<=i⟩
def Itt (K:Frag) (a:Addr):It :=
 ⟨fun i H=>∃xs x,SqT K H a xs/\xs[i]?=some x,fun i H x H'=>H'=H/\∀xs,SqT K H a xs->xs[i]?=some x,fun i H=>∃xs,SqT K H a xs/\xs.length<=i⟩
def Itr (a:Int) (n:Nat):It:=⟨fun i _=>i<n,fun i H x H'=>H'=H/\x=.int (a+i),fun i _=>n<=i⟩
theorem yR {P:Program}{w:World}{K:Frag}{T:Expr}(a it:Addr):Turn P w K T (Itl K a) [it] it (fun i h=>h.IsListIter it a i) where
 mem:=by simp
 obj:=fun i h st b g=>by
  have e:b=it:=by simpa using g
  subst e
  obtain⟨o,e,c,d⟩:=st
  exact⟨o,e,fun v z=>by rw[d] at z;cases z⟩
 keep:=fun i h h' st k=>st.at fun o e=>k it (by simp) o e
 item:=by
  intro X t D n L i f s M H E I m st r
  subst t D n
  obtain⟨xs,x,l,G⟩:=r
  obtain⟨C,F,p,Q⟩:=I.list l
  obtain⟨u,N,V⟩:=F.get G
  obtain⟨y,B,R,A,q,J⟩:=m it (by simp)
  refine wpAny_pyNext_list_item st p.isList (x:=u) (by simpa using N) fun h' j sb=>?_
  have U:Inv X f M H { s with heap:=h'}:=I.turned (t':=s.toks) (fun b o g e=>(sb.2 b g).trans e) y B A q J
  obtain⟨o,e,c,d⟩:=id j
  exact⟨u,rfl,Ad (s:={ s with heap:=h'}) e c d (by decide) ⟨x,H,U,V,⟨rfl,fun W S=>by rw[I.list_inj S l];exact G⟩,j,fun b g=>(m b g).1⟩⟩
 done:=by
  intro X t D n L i f s M H E I m st r
  subst t D n
  obtain⟨xs,l,G⟩:=r
  obtain⟨C,F,p,Q⟩:=I.list l
  obtain⟨y,B,R,A,q,J⟩:=m it (by simp)
  have Y:=F.length
  exact wpAny_pyNext_list_end (I.ok.hd L) st p.isList (by simp;omega) fun h' O=>⟨rfl,I.turned (t':=s.toks) (fun b o g e=>O b o g e) y B A q J⟩
 self:=fun _ _ _ _ _ st h=>wpAny_pyIter_listiter st h
theorem uK {P:Program}{w:World}{K:Frag}{T:Expr}(a it:Addr):Turn P w K T (Itt K a) [it] it (fun i h=>h.IsTupleIter it a i) where
 mem:=by simp
 obj:=fun i h st b j=>by
  have e:b=it:=by simpa using j
  subst e
  obtain⟨o,e,c,d⟩:=st
  exact⟨o,e,fun v z=>by rw[d] at z;cases z⟩
 keep:=fun i h h' st k=>st.at fun o e=>k it (by simp) o e
 item:=by
  intro X y D q L i f s M H E I n st t
  subst y D q
  obtain⟨xs,x,m,G⟩:=t
  obtain⟨g,F,p,Q⟩:=I.tuple m
  obtain⟨u,N,V⟩:=F.get G
  obtain⟨A,C,R,B,r,J⟩:=n it (by simp)
  refine wpAny_pyNext_tuple_item st (show s.heap.IsTuple a g.toArray from p) (x:=u) (by simpa using N) fun h' l sb=>?_
  have U:Inv X f M H { s with heap:=h'}:=I.turned (t':=s.toks) (fun b o j e=>(sb.2 b j).trans e) A C B r J
  obtain⟨o,e,c,d⟩:=id l
  exact⟨u,rfl,Ad (s:={ s with heap:=h'}) e c d (by decide) ⟨x,H,U,V,⟨rfl,fun W S=>by rw[I.tuple_inj S m];exact G⟩,l,fun b j=>(n b j).1⟩⟩
 done:=by
  intro X y D q L i f s M H E I n st t
  subst y D q
  obtain⟨xs,m,G⟩:=t
  obtain⟨g,F,p,Q⟩:=I.tuple m
  obtain⟨A,C,R,B,r,J⟩:=n it (by simp)
  have Y:=F.length
  exact wpAny_pyNext_tuple_end (I.ok.hd L) st (show s.heap.IsTuple a g.toArray from p) (by simp;omega) fun h' O=>⟨rfl,I.turned (t':=s.toks) (fun b o j e=>O b o j e) A C B r J⟩
 self:=fun _ _ _ _ _ st h=>wpAny_pyIter_tupleiter st h
theorem uL {P:Program}{w:World}{K:Frag}{J:Expr}(it:Addr) (g:Int) (n:Nat):Turn P w K J (Itr g n) [it] it (fun i h=>IsRangeIter h it (g+(i:Nat)*1) ((n:Int) - (i:Nat)) 1) where
 mem:=by simp
 obj:=fun i h st b c=>by
  have e:b=it:=by simpa using c
  subst e
  exact⟨_,st,fun v z=>by
   have C:Data.fields _=Data.cell v:=z
   cases C⟩
 keep:=fun i h h' st k=>k it (by simp) _ st
 item:=by
  intro X q y j l i a s B H E I f st p
  subst q y j
  obtain⟨r,x,G,u,m,A⟩:=f it (by simp)
  have W:=Walks.range (prog:=X.prog) (w:=X.w) (I.ok.hd l) it g 1 n
  refine W.item i s _ _ p st fun v h' tk L d F=>?_
  obtain⟨t,rfl⟩:=L
  have M:Inv X a B H { s with heap:=h',toks:=tk}:=I.turned (fun b o c e=>F b o (by simpa using c) e) r x u m A
  refine⟨_,rfl,Ad (s:={ s with heap:=h',toks:=tk}) (n:="range_iterator") d rfl rfl (by decide) ⟨.int (g+i),H,M,⟨t,?_⟩,⟨rfl,rfl⟩,d,fun b c=>(f b c).1⟩⟩
  rw[Int.mul_one]
 done:=by
  intro X q y j l i a s B H E I f st p
  subst q y j
  obtain⟨r,x,G,u,m,A⟩:=f it (by simp)
  exact wpAny_pyNext_range_end (I.ok.hd l) st (by have:n<=i:=p;omega) fun h' D=>⟨rfl,I.turned (t':=s.toks) (fun b o c e=>D b o c e) r x u m A⟩
 self:=fun _ _ _ _ _ st h=>wpAny_pyIter_rangeiter st h
section
variable {X:Cx}{tg:Expr}
def Rg (K:Frag) (c:TE):TI:=fun d H R=>c d H fun x b=>∃a,x=.ref a/\(∃xs,SqL K b a xs)/\R (Itl K a) b
def V0 (K:Frag) (c:TE):TI:=fun d H R=>c d H fun x b=>∃a,x=.ref a/\(∃xs,SqT K b a xs)/\R (Itt K a) b
theorem FQ {l:Expr}{g:TE}(i:PE X l g):PI X tg l (Rg X.K g):=by
 intro c s n H R I h;refine thn (i c s n H _ I h) fun v d ⟨x,u,f,m,t⟩=>?_;obtain⟨a,e,⟨xs,j⟩,q⟩:=t;subst e;cases m;obtain⟨k,w,p,y⟩:=f.list j;refine wpAny_pyIter_list p.isList ?_;refine⟨d.heap.objs.size,[d.heap.objs.size],_,_,u,rfl,f.kept (t':=d.toks) fun b o e=>l_ _ e,yR a _,⟨_,V_ _ rfl,rfl,rfl⟩,fun b r=>?_,q⟩;have e:b=d.heap.objs.size:=by simpa using r
 subst e;exact f.fpOk (j_ _) (f.hok.fresh (j_ _))
theorem Ml {l:Expr}{i:TE}(j:PE X l i):PI X tg l (V0 X.K i):=by
 intro c s n H R I h;refine thn (j c s n H _ I h) fun v d ⟨x,u,f,m,t⟩=>?_;obtain⟨a,e,⟨xs,k⟩,q⟩:=t;subst e;cases m;obtain⟨g,w,p,y⟩:=f.tuple k;refine wpAny_pyIter_tuple (show d.heap.IsTuple a g.toArray from p) ?_;refine⟨d.heap.objs.size,[d.heap.objs.size],_,_,u,rfl,f.kept (t':=d.toks) fun b o e=>l_ _ e,uK a _,⟨_,V_ _ rfl,rfl,rfl⟩,fun b r=>?_,q⟩;have e:b=d.heap.objs.size:=by simpa using r
 subst e;exact f.fpOk (j_ _) (f.hok.fresh (j_ _))
theorem rN {d:List (Addr × Obj)}{f:St}{H:Hp}{s:Shared}{R:It->Hp->Prop}{E:Value->Shared->Prop}{a c:Int}{t u v:Tok}{tk:Nat}(I:Inv X d f H s) (k : -(2^62)<=a) (i:a<2^62) (h : -(2^62)<=c) (j:c<2^62)
  (q:R (Itr a (c - a).toNat) H):wpAny (model X.prog X.w) X.A (pyIter (.ref s.heap.objs.size)) (PIE X d f tg R) E { s with heap:=s.heap.push { cls:=.type "range",data:=.fields #[.int a t,.int c u,.int 1 v]},toks:=tk}:=by
 refine wpAny_pyIter_range (IsRange.new ..) (small_one k i h j) ?_;have g:Inv X d f H { s with heap:=s.heap.push { cls:=.type "range",data:=.fields #[.int a t,.int c u,.int 1 v]},toks:=tk}:=I.kept fun b o e=>l_ _ e;refine⟨(s.heap.push { cls:=.type "range",data:=.fields #[.int a t,.int c u,.int 1 v]}).objs.size,[(s.heap.push { cls:=.type "range",data:=.fields #[.int a t,.int c u,.int 1 v]}).objs.size],_,_,H,rfl,
  g.kept (t':=tk) fun b o e=>l_ _ e,uL _ a (c - a).toNat,?_,fun b l=>?_,q⟩
 ·have n:a+((0:Nat):Int)*1=a:=by simp
  have m:(((c - a).toNat:Nat):Int) - ((0:Nat):Int)=Builtin.Range.rangeSize a c 1:=by rw[rangeSize_one];split <;> omega
  show IsRangeIter _ _ (a+((0:Nat):Int)*1) ((((c - a).toNat:Nat):Int) - ((0:Nat):Int)) 1;rw[n,m];exact V_ _ rfl
 have e:b=(s.heap.push { cls:=.type "range",data:=.fields #[.int a t,.int c u,.int 1 v]}).objs.size:=by simpa using l
 subst e;exact g.fpOk (j_ _) (g.hok.fresh (j_ _))
def Rh (b:TA):TI:=fun c H R=>b c H fun vs a=>∃j:Int,vs=[.int j] /\ -(2^62)<=j/\j<2^62/\R (Itr 0 j.toNat) a
def Ri (b:TA):TI:=fun c H R=>b c H fun vs a=>∃i j:Int,vs=[.int i,.int j]/\(-(2^62)<=i/\i<2^62 /\ -(2^62)<=j/\j<2^62)/\R (Itr i (j - i).toNat) a
theorem yS {a:Expr}{f:TA}{p c:Pos}(l:Gl X "range") (k:X.mg "range"=none) (g:PA X [a] f) (v:starEach [a] X.env=[(false,eval a X.env)]:=by rfl):PI X tg (.Call (.Name "range" p) [a] [] c) (Rh f):=by
 intro b s o H R I h;refine Call_ (je I l k boot_range (XX (thn (g c b s o H _ I h) fun us w ⟨vs,x,u,n,d⟩=>?_) v rfl));obtain⟨j,e,d,i,q⟩:=d;subst e;cases n with
 |cons r m =>
 cases m;obtain⟨t,rfl⟩:=r;exact call_range_1 (rN u (by omega) (by omega) d i (by simpa using q))
theorem yU {a b:Expr}{l:TA}{p d:Pos}(o:Gl X "range") (n:X.mg "range"=none) (m:PA X [a,b] l) (v:starEach [a,b] X.env=[(false,eval a X.env),(false,eval b X.env)]:=by rfl) (f:starEach [b] X.env=[(false,eval b X.env)]:=by rfl) :
  PI X tg (.Call (.Name "range" p) [a,b] [] d) (Ri l):=by
 intro c s x H R I h;refine Call_ (je I o n boot_range (XX (thn (m d c s x H _ I h) fun us D ⟨vs,C,A,u,g⟩=>?_) (by rw[v,f]) (by rw[f];rfl)));obtain⟨i,j,e,⟨g,w,z,B⟩,q⟩:=g;subst e;cases u with
 |cons r k =>
 cases k with
 |cons y k =>
 cases k;obtain⟨t,rfl⟩:=r;obtain⟨t',rfl⟩:=y;exact call_range_2 (rN A g w z B q)
def V1 (e:TI) (g:TG) (h:TS):TS:=fun D a H=>e a H fun J j=>∃W:Nat->Nat->St->Hp->Prop,(∃m,W 0 m a j)/\∀i m a H,W i m a H ->
 (J.stop i H/\D.nx a H)\/(J.go i H/\∃N:St->Hp->Prop,(∀b H',N b H'->∃d,d<m/\W (i+1) d b H')/\∀x H',J.yld i H x H'->g x a H' fun c f=>h { D with nx:=N,ct:=N,bk:=D.nx} c f)
def lK (a : List Addr) (h : Heap) : List (Addr × Obj):=a.filterMap fun b => (h.get? b).map fun o => (b,o)
theorem gK {a : List Addr} {h : Heap} {b : Addr} {o : Obj} (c : b ∈ a) (e : h.get? b = some o) : (b,o) ∈ lK a h:=List.mem_filterMap.mpr ⟨b,c,by rw [e]; rfl⟩
theorem yV {a:List Addr}{h:Heap}{p:Addr × Obj}(c:p∈lK a h):p.1∈a/\h.get? p.1=some p.2:=by
 obtain ⟨b,d,e⟩:=List.mem_filterMap.mp c;cases q : h.get? b with
 |none=>rw[q] at e;cases e
 |some o =>
 rw[q] at e;have f:(b,o)=p:=Q_ e;subst f;exact⟨d,q⟩
theorem Inv.pinned {a:List (Addr × Obj)}{g:St}{H:Hp}{s:Shared}{c:List Addr}(I:Inv X a g H s) (n:∀b∈c,nQ X a H b) (l:∀b∈c,∃o,s.heap.get? b=some o/\∀v,o.data≠.cell v):Inv X (a++lK c s.heap) g H s :=
 I.pins_of fun p j=>(A_.mp j).elim (fun z=>I.pin p (W9 _ z)) fun z=>by
  obtain⟨h,e⟩:=yV z;obtain⟨k,i,m,_⟩:=n p.1 h;obtain⟨o,f,d⟩:=l p.1 h;rw[e] at f;cases f;exact⟨e,k,i,m,d⟩
theorem Inv.unpinned {a pl:List (Addr × Obj)}{b:St}{H:Hp}{s:Shared}(I:Inv X (a++pl) b H s):Inv X a b H s:=I.pins_of fun p c=>I.pin p (W9 _ (Xr _ c))
theorem Mm {l:Expr}{B:List Stmt}{wi:TI}{g:TG}{tb:TS}{Z:Pos}(K:PassesOwn (model X.prog X.w) X.A X.env X.xe) (hc:X.calm=true) (hi:PI X tg l wi) (hg:PG X tg g) (y:PSs X B tb)
  (hs:∀x,foldedSetIterable l X.env x=pure x:=by intro _;rfl):PS X (.For tg l B [] Z) (V1 wi g tb):=by
 intro a s σ H D I h;refine wpAny_For (thn (hi a s σ H _ I h) fun v s1 h1=>thn h1 fun itv s2 h2=>?_) hs;obtain⟨it,P,tn,J,H2,e,I2,T,st2,f2,W,⟨m0,w0⟩,O⟩:=h2;subst e
 have p:∀{H':Hp},(∀b∈P,H' b=none)->∀b∈P,nQ X a H' b:=fun hn b y=>⟨hn b y,(f2 b y).2⟩;refine codeAny_forLoop_any (fun n s'=>∃i j H',Inv X a j H' s'/\tn i s'.heap/\(∀b∈P,H' b=none)/\W i n j H') ?_ m0 ⟨0,σ,H2,I2,st2,fun b y=>(f2 b y).1,w0⟩;rintro n s3 ⟨i,k,H3,I3,G,L,w3⟩;rcases O i n k H3 w3 with ⟨M,qn⟩ | ⟨go,N,hN,F⟩
 ·refine YM K (thn (T.done X rfl rfl rfl hc i a s3 k H3 X.xe I3 (p L) G M) fun r s4 ⟨R,I4⟩=>?_);subst R;exact wpAny_execs_nil ⟨k,H3,I4,qn⟩
 refine YM K (thn (T.item X rfl rfl rfl hc i a s3 k H3 X.xe I3 (p L) G go) fun r s4 ⟨u,R,h4⟩=>?_);subst R;refine YM K (thn h4 fun _ s5 ⟨x,H5,I5,r5,y5,E,V⟩=>?_);have U:=I5.pinned (p V) (T.obj _ _ E);refine YM K (thn (hg _ s5 k H5 x u _ U r5 (F x H5 y5)) fun _ s6 ⟨Y,H6,I6,q6⟩=>?_);refine YM K (thn (y _ s6 Y H6 _ I6 q6) fun f S C=>?_);have t:∀{c:St} {z:Hp},Inv X (a++lK P s5.heap) c z S->N c z->∃m,m<n/\∃i j H',Inv X a j H' S/\tn i S.heap/\(∀b∈P,H' b=none)/\W i m j H':=fun {c z} q Q=>by obtain⟨m',hm,w7⟩:=hN c z Q;refine⟨m',hm,i+1,c,z,q.unpinned,T.keep _ _ _ E fun b y o e=>(q.pin (b,o) (W9 _ (W9 _ (gK y e)))).1,fun b y=>?_,w7⟩;obtain⟨o,e,d⟩:=T.obj _ _ E b y;exact (q.pin (b,o) (W9 _ (W9 _ (gK y e)))).2.1
 cases f with
 |next=>obtain⟨c,z,q,Q⟩:=C;exact t q Q
 |cont=>obtain⟨c,z,q,Q⟩:=C;exact t q Q
 |brk=>obtain⟨c,z,q,C⟩:=C;exact⟨c,z,q.unpinned,C⟩
 |ret v=>obtain⟨x7,c,z,q,r7,C⟩:=C;exact⟨x7,c,z,q.unpinned,r7,C⟩
end
abbrev R2:=V->V->Hp->VK->Prop
def OpR (X:Cx) (f:Value->Value->Sem Value) (r:R2):Prop :=
 ∀(a:List (Addr × Obj)) (s:Shared) (b:St) (H:Hp) (x y:V) (v u:Value) (Q:VK),Inv X a b H s->RelV x v->RelV y u->r x y H Q ->
  wpAny (model X.prog X.w) X.A (f v u) (EP X a b Q) X.xe s
def UnR (X:Cx) (f:Value->Sem Value) (r:V->Hp->VK->Prop):Prop :=
 ∀(a:List (Addr × Obj)) (s:Shared) (b:St) (H:Hp) (x:V) (v:Value) (Q:VK),Inv X a b H s->RelV x v->r x H Q ->
  wpAny (model X.prog X.w) X.A (f v) (EP X a b Q) X.xe s
def CallR (X:Cx) (f:Value) (r:List V->Hp->VK->Prop):Prop :=
 ∀(a:List (Addr × Obj)) (s:Shared) (b:St) (H:Hp) (xs:List V) (us:List Value) (Q:VK),Inv X a b H s->Vals xs us->r xs H Q ->
  wpAny (model X.prog X.w) X.A (call f us) (EP X a b Q) X.xe s
def tOp (r:R2) (e c:TE):TE:=fun a H Q=>e a H fun x d=>c a d fun y b=>r x y b Q
def tUn (r:V->Hp->VK->Prop) (b:TE):TE:=fun c H Q=>b c H fun x a=>r x a Q
def rI (C:Int->Int->Prop) (g:Int->Int->V):R2:=fun x y H Q=>∃i j,x=.int i/\y=.int j/\C i j/\Q (g i j) H
def rI0 (g:Int->Int->V):R2:=fun x y H Q=>∃i j,x=.int i/\y=.int j/\Q (g i j) H
def rU (g:Int->V):V->Hp->VK->Prop:=fun x H Q=>∃i,x=.int i/\Q (g i) H
section
variable {X:Cx}{a b c:Expr}{ta tb tc:TE}{pos:Pos}
theorem Mp (n:PE X a ta) (r:PE X b tb) {c:List (Addr × Obj)}{s:Shared}{e:St}{H:Hp}{R:V->V->Hp->Prop}(I:Inv X c e H s)
  (h:ta e H fun x k=>tb e k fun y d=>R x y d) {Q:Value->Shared->Prop} {f:Value->Value->Sem Value}
  (z:∀v u j x y d,Inv X c e d j->RelV x v->RelV y u->R x y d->wpAny (model X.prog X.w) X.A (f v u) Q X.xe j) :
  wpAny (model X.prog X.w) X.A (eval a X.env) (fun v g=>wpAny (model X.prog X.w) X.A (eval b X.env) (fun u i=>wpAny (model X.prog X.w) X.A (f v u) Q X.xe i) X.xe g) X.xe s:=by
 refine thn (n c s e H _ I h) fun v l ⟨x,k,q,p,t⟩=>?_;refine thn (r c l e k _ q t) fun u j ⟨y,d,m,B,o⟩=>?_;exact z v u j x y d m p B o
theorem Rj {op:Operator}{r:R2}(l:OpR X (binaryOp op) r) (f:PE X a ta) (k:PE X b tb):PE X (.BinOp a op b pos) (tOp r ta tb):=by
 intro c s j H Q I h;exact wpAny_BinOp (Mp f k I h fun v u d x y i e g m q=>l c d j i x y v u Q e g m q)
theorem Rk {op:UnaryOp}{r:V->Hp->VK->Prop}(i:UnR X (unaryOp op) r) (e:PE X a ta):PE X (.UnaryOp op a pos) (tUn r ta):=by
 intro b s c H Q I h;exact UnaryOp_ (thn (e b s c H _ I h) fun v d ⟨x,k,g,f,j⟩=>i b d c k x v Q g f j)
theorem opI {f:Value->Value->Sem Value}{C:Int->Int->Prop}{g:Int->Int->Int}
  (a:∀(i j:Int) (t u:Tok) (s:Shared) (Q:Value->Shared->Prop) (E:Value->Shared->Prop),C i j->Q (.int (g i j) s.toks) { s with toks:=s.toks+1}->wpAny (model X.prog X.w) X.A (f (.int i t) (.int j u)) Q E s) :
  OpR X f (rI C fun i j=>.int (g i j)):=by
 intro b s k H x y v u Q I c d h;obtain⟨i,j,rfl,rfl,e,q⟩:=h;obtain⟨t,rfl⟩:=c;obtain⟨t',rfl⟩:=d;exact a i j t t' s _ _ e ⟨.int (g i j),H,I.tok _,⟨_,rfl⟩,q⟩
theorem FT {f:Value->Value->Sem Value}{g:Int->Int->Int}
  (a:∀(i j:Int) (t u:Tok) (s:Shared) (Q:Value->Shared->Prop) (E:Value->Shared->Prop),Q (.int (g i j) s.toks) { s with toks:=s.toks+1}->wpAny (model X.prog X.w) X.A (f (.int i t) (.int j u)) Q E s) :
  OpR X f (rI0 fun i j=>.int (g i j)):=by
 intro b s e H x y v u Q I c d h;obtain⟨i,j,rfl,rfl,q⟩:=h;obtain⟨t,rfl⟩:=c;obtain⟨t',rfl⟩:=d;exact a i j t t' s _ _ ⟨.int (g i j),H,I.tok _,⟨_,rfl⟩,q⟩
theorem FW {f:Value->Value->Sem Value}{g:Int->Int->Bool}
  (a:∀(i j:Int) (t u:Tok) (s:Shared) (Q:Value->Shared->Prop) (E:Value->Shared->Prop),Q (.bool (g i j)) s->wpAny (model X.prog X.w) X.A (f (.int i t) (.int j u)) Q E s) :
  OpR X f (rI0 fun i j=>.bl (g i j)):=by
 intro b s e H x y v u Q I c d h;obtain⟨i,j,rfl,rfl,q⟩:=h;obtain⟨t,rfl⟩:=c;obtain⟨t',rfl⟩:=d;exact a i j t t' s _ _ ⟨.bl (g i j),H,I,rfl,q⟩
def FZ (i j:Int):Prop:=0<=j/\j<=1000000/\i.natAbs<2^64
def CMul (i j:Int):Prop:=(-(2^64)<i/\i<2^64)\/(-(2^64)<j/\j<2^64)
theorem CMul.ok {i j:Int}(h:CMul i j):IntMulOk i j:=by
 rcases h with ⟨b,a⟩ | ⟨b,a⟩
 ·exact .of_left (intBits_le_64 b a)
 exact .of_right (intBits_le_64 b a)
theorem uM (k:Nat):(0:Int)<=2^k:=by
 rw[two_pow_cast];exact Yh _
theorem op_add:OpR X (binaryOp .Add) (rI0 fun i j=>.int (i+j)):=FT fun _ _ _ _ _ _ _ q=>add_int q
theorem Mq:OpR X (binaryOp .Sub) (rI0 fun i j=>.int (i - j)):=FT fun _ _ _ _ _ _ _ q=>sub_int q
theorem Mr:OpR X (binaryOp .Mult) (rI CMul fun i j=>.int (i*j)):=opI fun _ _ _ _ _ _ _ a q=>mul_int q a.ok
theorem Ms:OpR X (binaryOp .Mod) (rI (fun _ j=>0<j) fun i j=>.int (i%j)):=opI fun i j _ _ _ _ _ a q=>by
 have b:(0:Int)<j:=a;exact mod_int' (by omega) (by rw[Int.fmod_eq_emod_of_nonneg i (by omega)];exact q)
theorem Mt:OpR X (binaryOp .Pow) (rI FZ fun i j=>.int (i^j.toNat)):=opI fun _ _ _ _ _ _ _ a q=>pow_int_small a.1 a.2.1 a.2.2 q
theorem Mu:OpR X (binaryOp .LShift) (rI FZ fun i j=>.int (i*2^j.toNat)):=opI fun _ _ _ _ _ _ _ a q=>lshift_int_small a.1 a.2.1 a.2.2 q
theorem Mv:OpR X (binaryOp .RShift) (rI (fun _ j=>0<=j) fun i j=>.int (i / 2^j.toNat)):=opI fun i j _ _ _ _ _ a q =>
 rshift_int a (by rw[Int.fdiv_eq_ediv_of_nonneg i (uM _)];exact q)
theorem Mw:OpR X (binaryOp .BitAnd) (rI0 fun i j=>.int (Builtin.bitAnd i j)):=FT fun _ _ _ _ _ _ _ q=>and_int q
theorem Rm:OpR X (binaryOp .BitOr) (rI0 fun i j=>.int (Builtin.bitOr i j)):=FT fun _ _ _ _ _ _ _ q=>or_int q
theorem unI {f:Value->Sem Value}{g:Int->Int}
  (a:∀(i:Int) (t:Tok) (s:Shared) (Q:Value->Shared->Prop) (E:Value->Shared->Prop),Q (.int (g i) s.toks) { s with toks:=s.toks+1}->wpAny (model X.prog X.w) X.A (f (.int i t)) Q E s) :
  UnR X f (rU fun i=>.int (g i)):=by
 intro b s d H x v Q I c h;obtain⟨i,rfl,q⟩:=h;obtain⟨t,rfl⟩:=c;exact a i t s _ _ ⟨.int (g i),H,I.tok _,⟨_,rfl⟩,q⟩
theorem Mx:UnR X (unaryOp .USub) (rU fun i=>.int (-i)):=unI fun _ _ _ _ _ q=>neg_int q
end
def jf:V->V->Bool
 |.non,.non=>true | .non,.int _=>true | .int _,.non=>true | .non,.bl _=>true | .bl _,.non=>true | .non,.str _=>true | .str _,.non=>true
 |.int _,.int _=>true | .bl _,.bl _=>true | .str _,.str _=>true | .byt _,.byt _=>true
 |.int _,.str _=>true | .str _,.int _=>true | .bl _,.str _=>true | .str _,.bl _=>true
 |_,_=>false
def rEq:R2:=fun x y H Q=>jf x y=true/\Q (.bl (decide (x=y))) H
def rNe:R2:=fun x y H Q=>jf x y=true/\Q (.bl (!decide (x=y))) H
theorem wA {i j:Int}:decide (V.int i=V.int j)=(i==j):=by
 rw[Xf];simp
theorem Ae {i j:Bool}:decide (V.bl i=V.bl j)=(i==j):=by
 rw[Xf];simp
theorem wB {i j:Str}:decide (V.str i=V.str j)=(i==j):=by
 rw[Xf];simp
theorem wC {i j:Array UInt8}:decide (V.byt i=V.byt j)=(i.toList==j.toList):=by
 rw[Xf];cases i;cases j;simp
section
variable {X:Cx}{a b c:Expr}{ta tb tc:TE}{pos:Pos}
theorem bz {a:List (Addr × Obj)}{b:St}{H:Hp}{s:Shared}{Q:VK}{k c:Bool}(I:Inv X a b H s) (q:Q (.bl k) H) (e:k=c):EP X a b Q (.bool c) s:=by
 subst e;exact⟨.bl k,H,I,rfl,q⟩
theorem Rn:OpR X (compareOp .Eq) rEq:=by
 intro d s e H x y v u Q I c a h;obtain⟨b,q⟩:=h;cases x with
 |non =>
  cases c;cases y with
  |non=>cases a;exact PySem.EqNone.eq_none_none (bz I q (by simp))
  |bl j=>cases a;exact PySem.EqNone.eq_none_bool (bz I q (by simp))
  |int j=>obtain⟨t',rfl⟩:=a;exact PySem.EqNone.eq_none_int (bz I q (by simp))
  |str j=>obtain⟨t',rfl⟩:=a;exact PySem.EqNone.eq_none_str (bz I q (by simp))
  |_=>exact absurd (show false=true from b) t_
 |bl i =>
  cases c;cases y with
  |non=>cases a;exact PySem.EqNone.eq_bool_none (bz I q (by simp))
  |bl j=>cases a;exact eq_bool (bz I q Ae)
  |str j=>obtain⟨t',rfl⟩:=a;exact PySem.EqMixed.eq_bool_str (bz I q (by simp))
  |_=>exact absurd (show false=true from b) t_
 |int i =>
  obtain⟨t,rfl⟩:=c;cases y with
  |non=>cases a;exact PySem.EqNone.eq_int_none (bz I q (by simp))
  |int j=>obtain⟨t',rfl⟩:=a;exact eq_int (bz I q wA)
  |str j=>obtain⟨t',rfl⟩:=a;exact PySem.EqMixed.eq_int_str (bz I q (by simp))
  |_=>exact absurd (show false=true from b) t_
 |str i =>
  obtain⟨t,rfl⟩:=c;cases y with
  |non=>cases a;exact PySem.EqNone.eq_str_none (bz I q (by simp))
  |bl j=>cases a;exact PySem.EqMixed.eq_str_bool (bz I q (by simp))
  |int j=>obtain⟨t',rfl⟩:=a;exact PySem.EqMixed.eq_str_int (bz I q (by simp))
  |str j=>obtain⟨t',rfl⟩:=a;exact eq_str (bz I q wB)
  |_=>exact absurd (show false=true from b) t_
 |byt i =>
  obtain⟨t,rfl⟩:=c;cases y with
  |byt j=>obtain⟨t',rfl⟩:=a;exact PySem.W.eq_bytes (bz I q wC)
  |_=>exact absurd (show false=true from b) t_
 |_=>cases y <;> exact absurd (show false=true from b) t_
theorem Ro:OpR X (compareOp .NotEq) rNe:=by
 intro d s e H x y v u Q I c a h;obtain⟨b,q⟩:=h;cases x with
 |non =>
  cases c;cases y with
  |non=>cases a;exact PySem.EqNone.ne_none_none (bz I q (by simp))
  |bl j=>cases a;exact PySem.EqNone.ne_none_bool (bz I q (by simp))
  |int j=>obtain⟨t',rfl⟩:=a;exact PySem.EqNone.ne_none_int (bz I q (by simp))
  |str j=>obtain⟨t',rfl⟩:=a;exact PySem.EqNone.ne_none_str (bz I q (by simp))
  |_=>exact absurd (show false=true from b) t_
 |bl i =>
  cases c;cases y with
  |non=>cases a;exact PySem.EqNone.ne_bool_none (bz I q (by simp))
  |bl j=>cases a;exact ne_bool (bz I q (O_ not Ae))
  |str j=>obtain⟨t',rfl⟩:=a;exact PySem.EqMixed.ne_bool_str (bz I q (by simp))
  |_=>exact absurd (show false=true from b) t_
 |int i =>
  obtain⟨t,rfl⟩:=c;cases y with
  |non=>cases a;exact PySem.EqNone.ne_int_none (bz I q (by simp))
  |int j=>obtain⟨t',rfl⟩:=a;exact ne_int (bz I q (O_ not wA))
  |str j=>obtain⟨t',rfl⟩:=a;exact PySem.EqMixed.ne_int_str (bz I q (by simp))
  |_=>exact absurd (show false=true from b) t_
 |str i =>
  obtain⟨t,rfl⟩:=c;cases y with
  |non=>cases a;exact PySem.EqNone.ne_str_none (bz I q (by simp))
  |bl j=>cases a;exact PySem.EqMixed.ne_str_bool (bz I q (by simp))
  |int j=>obtain⟨t',rfl⟩:=a;exact PySem.EqMixed.ne_str_int (bz I q (by simp))
  |str j=>obtain⟨t',rfl⟩:=a;exact ne_str (bz I q (O_ not wB))
  |_=>exact absurd (show false=true from b) t_
 |byt i =>
  obtain⟨t,rfl⟩:=c;cases y with
  |byt j=>obtain⟨t',rfl⟩:=a;exact PySem.W.ne_bytes (bz I q (O_ not wC))
  |_=>exact absurd (show false=true from b) t_
 |_=>cases y <;> exact absurd (show false=true from b) t_
theorem Rp:OpR X (compareOp .Lt) (rI0 fun i j=>.bl (decide (i<j))):=FW fun _ _ _ _ _ _ _ q=>lt_int q
theorem Rq:OpR X (compareOp .LtE) (rI0 fun i j=>.bl (decide (i<=j))):=FW fun _ _ _ _ _ _ _ q=>le_int q
theorem Rr:OpR X (compareOp .Gt) (rI0 fun i j=>.bl (decide (j<i))):=FW fun _ _ _ _ _ _ _ q=>gt_int q
theorem Rt:OpR X (compareOp .GtE) (rI0 fun i j=>.bl (decide (j<=i))):=FW fun _ _ _ _ _ _ _ q=>ge_int q
theorem yW:OpR X (compareOp .In) (fun x y H Q=>∃i j,x=.str i/\y=.str j/\Q (.bl (!(Builtin.Str.occurrences j i 0 j.length 1).isEmpty)) H):=by
 intro a s d H x y v u Q I b c h;obtain⟨i,j,rfl,rfl,q⟩:=h;obtain⟨t,rfl⟩:=b;obtain⟨t',rfl⟩:=c;exact in_str (bz I q rfl)
theorem Mz:OpR X (compareOp .Is) (fun x y H Q=>y=.non/\Q (.bl (decide (x=.non))) H):=by
 intro a s d H x y v u Q I b c h;obtain⟨rfl,q⟩:=h;cases c;refine is_none_gen (bz I q ?_);cases x <;> first
  | (cases b;rfl)
  | (obtain⟨t,rfl⟩:=b;rfl)
theorem Ga:OpR X (compareOp .IsNot) (fun x y H Q=>y=.non/\Q (.bl (!decide (x=.non))) H):=by
 intro a s d H x y v u Q I b c h;obtain⟨rfl,q⟩:=h;cases c;refine isnot_none_gen (bz I q ?_);cases x <;> first
  | (cases b;rfl)
  | (obtain⟨t,rfl⟩:=b;rfl)
theorem pZ:OpR X (compareOp .NotIn) (fun x y H Q=>∃i j,x=.str i/\y=.str j/\Q (.bl (!(!(Builtin.Str.occurrences j i 0 j.length 1).isEmpty))) H):=by
 intro a s d H x y v u Q I b c h;obtain⟨i,j,rfl,rfl,q⟩:=h;obtain⟨t,rfl⟩:=b;obtain⟨t',rfl⟩:=c;exact notIn_str (bz I q rfl)
theorem OpR.or {f:Value->Value->Sem Value}{r d:R2}(h:OpR X f r) (h':OpR X f d):OpR X f (fun x y H Q=>r x y H Q\/d x y H Q):=by
 intro a s c H x y v u Q I b e q;rcases q with q | q
 ·exact h a s c H x y v u Q I b e q
 exact h' a s c H x y v u Q I b e q
theorem Af (b:Expr) {op:CmpOp}(h:op≠.In:=by decide) (c:op≠.NotIn:=by decide):behindInMarks op b=false:=by
 have a:(op==CmpOp.In)=false:=by cases op <;> first | rfl | exact absurd rfl h
 have d:(op==CmpOp.NotIn)=false:=by cases op <;> first | rfl | exact absurd rfl c
 cases b <;> simp [behindInMarks,a,d]
theorem Gb {op:CmpOp}{r:R2}(m:OpR X (compareOp op) r) (f:PE X a ta) (l:PE X b tb) (j:behindInMarks op b=false):PE X (.Compare a [op] [b] pos) (tOp r ta tb):=by
 intro c s k H Q I h;exact wpAny_Compare1 (Mp f l I h fun v u d x y i e g n q=>m c d k i x y v u Q e g n q) j
def Ru (t:TE):TT:=fun a H Q=>t a H fun x H'=>∃k,x=.bl k/\Q k H'
theorem Gd {op:CmpOp}{r:R2}(F:OpR X (compareOp op) r) (g:PE X a ta) (E:PE X b tb) (j:behindInMarks op b=false):PT X (.Compare a [op] [b] pos) (Ru (tOp r ta tb)):=by
 intro d s f H Q I h;refine wpAny_isTrue_Compare1 (thn (g d s f H _ I h) fun v w ⟨x,m,D,l,p⟩=>thn (E d w f m _ D p) fun u n ⟨y,C,A,q,o⟩ =>
  thn (F d n f C x y v u _ A l q o) fun c G ⟨z,H3,t,i,k,e,B⟩=>?_) j
 subst e;cases i;exact YT ⟨H3,t,B⟩
theorem jg:(sizeLine:Nat)<2^63:=by rw[sizeLine_eq];decide
theorem op_add_str:OpR X (binaryOp .Add) (fun x y H Q=>∃i j,x=.str i/\y=.str j/\i.length+j.length<=sizeLine/\Q (.str (i++j)) H):=by
 intro a s e H x y v u Q I b d h;obtain⟨i,j,rfl,rfl,c,q⟩:=h;obtain⟨t,rfl⟩:=b;obtain⟨t',rfl⟩:=d;exact add_str (fun t' tk=>⟨.str (i++j),H,I.tok _,⟨_,rfl⟩,q⟩) c
theorem vals1 {x:V}{us:List Value}(r:Vals [x] us):∃u,us=[u]/\RelV x u:=by
 cases r with
 |cons b a=>cases a;exact⟨_,rfl,b⟩
theorem vals2 {x y:V}{us:List Value}(r:Vals [x,y] us):∃u a,us=[u,a]/\RelV x u/\RelV y a:=by
 cases r with
 |cons c d =>
 cases d with
 |cons b e=>cases e;exact⟨_,_,rfl,c,b⟩
theorem yX:CallR X (.type "int") (fun xs H Q=>(∃i,xs=[.int i]/\Q (.int i) H)\/∃k,xs=[.bl k]/\Q (.int (if k then 1 else 0)) H):=by
 intro a s c H xs us Q I r h;rcases h with ⟨i,rfl,q⟩ | ⟨k,rfl,q⟩
 ·obtain⟨u,rfl,t,rfl⟩:=vals1 r;exact call_int_int ⟨.int i,H,I,⟨_,rfl⟩,q⟩
 obtain⟨u,rfl,b⟩:=vals1 r;cases b;exact call_int_bool ⟨.int (if k then 1 else 0),H,I.tok _,⟨_,rfl⟩,q⟩
end
structure ObjM (h:Heap) (x dx C:Addr) (mA:Str->Option Value):Prop where
 obj:h.get? x=some (instObj C dx)
 ns:h.Ns1 dx mA
 ne:dx≠x
theorem yZ {h:Heap}{f:Addr}{c:Str->Option Value}(n:h.Ns1 f c):∃od,h.get? f=some od/\∀name,lookIn name od=some (c name):=by
 obtain⟨o,d,ep,m,k,l,_,j⟩:=n;refine⟨o,m,fun name=>?_⟩;have e:=j name;unfold nsFind findBy at e;rw[<- Array.find?_toList] at e;unfold lookIn;rw[k];dsimp only;split
 ·rename_i y q;rw[q] at e;exact O_ some e
 rename_i q;rw[q] at e;have a:d.toList.any (·.refKey)=false:=by rw[List.any_eq_false];intro y i;obtain⟨z,t,b⟩:=l y (Array.mem_toList_iff.mp i);simp [DictEntry.refKey,b]
 have g:¬d.toList.any (·.refKey)=true:=by rw[a];exact t_
 rw[if_neg g];exact O_ some e
theorem ObjM.look {h:Heap}{x b C:Addr}{a:Str->Option Value}(I:ObjM h x b C a):∃od,InstAt h x (instObj C b) C (some od)/\∀name,lookIn name od=some (a name) :=
 let ⟨od,ho,hl⟩:=yZ I.ns
 ⟨od,⟨I.obj,rfl,rfl,ho⟩,hl⟩
section
variable {prog:Program}{w:World}{A:Around}{E:Value->Shared->Prop}{s:Shared}{K:Frag}{x dx C f:Addr}{mA:Str->Option Value}{name:Str}{v:Value}
theorem Ge {a:Bool}{Q:Value->Shared->Prop}(X:K.In s.heap) (I:ObjM s.heap x dx C mA) (e:plainGet K C name=true) (g:hasDictIn K C=true)
  (d:findIn K (.ref C) name=some none) (f:mA name=some v) (b:handedIn v=true) (h:Q v { s with toks:=s.toks+1}) :
  wpAny (model prog w) A (getAttr (.ref x) name a) Q E s:=by
 obtain⟨od,J,c⟩:=I.look;exact PySem.W.get_value X J (plainGet_of e).1 (PySem.W.findObj_own g d rfl (by rw[c,f])) b h
theorem Ag {pl:Sem Bool}{Q:Value × List Value->Shared->Prop}(X:K.In s.heap) (I:ObjM s.heap x dx C mA) (a:plainGet K C name=true)
  (e:findIn K (.ref C) name=some (some (.ref f))) (b:isFn K (.ref f)=true) (d:mA name=none) (h:Q (.ref f,[.ref x]) s) :
  wpAny (model prog w) A (getMethod (.ref x) name pl) Q E s:=by
 obtain⟨od,J,c⟩:=I.look;exact PySem.W.method_fn X J (plainGet_of a).1 (plainGet_of a).2 e (Zz.mp b) (by show (lookIn name od).map (·.isSome)=some false;rw[c,d];rfl) h
theorem Gf {ns:List Str}{Q:Unit->Shared->Prop}(X:K.In s.heap) (I:ObjM s.heap x dx C mA)
  (l:findIn K (.ref C) "__setattr__"=some (some (.builtin "object.__setattr__"))) (o:plainOver K C=true) (k:takerIn K C name=some none) (t:hasDictIn K C=true)
  (p:PySem.Within mA ns) (hsz:ns.length<=sizeLine)
  (h:∀h',ObjM h' x dx C (fun y=>if y=name then some v else mA y)->Heap.SameBut dx s.heap h'->Q () { s with heap:=h',toks:=s.toks+2}) :
  wpAny (model prog w) A (setAttr (.ref x) name v) Q E s:=by
 obtain⟨od,J,u⟩:=I.look;refine PySem.W.set_plain X J l (PySem.W.osa_open (s:={ s with toks:=s.toks+1}) (r:=none) X J o k fun b=>?_);obtain⟨z,q,g⟩:=PySem.W.any_some t;have j:s.heap.get? x=some ⟨.ref C,some dx,.plain,#[]⟩:=I.obj;refine h_ (C_ (h_ (h_ (wpAny_loadPart j (h_ (PySem.W.Looks.here (s:={ s with toks:=s.toks+1}) (PySem.W.looks_clsIn X q) ?_))))));rw[g];refine C_ (a:=some dx) (h_ (C_ (h_ ?_)));refine wpAny_nsSet1 (s:={ s with toks:=s.toks+1}) I.ns fun h' d c=>?_;obtain⟨oD,m,n,e,i,f⟩:=d.count (PySem.Within.cons name v p);refine h_ (wpAny_lookBehind e (by rw[i];exact pastItsLine_dict (W6 f (by rw[d_];omega))) ?_);exact C_ (h _ ⟨(c.2 _ (Ne.symm I.ne)).trans I.obj,d,I.ne⟩ c)
theorem Ah {R:Result->Shared->Prop}{vs:List Value}{b:List (Str × Value)}(X:K.In s.heap) (e:makesIn K C=true)
  (c:findIn K (.ref C) "__init__"=some (some (.ref f))) (i:typeIn K (.ref f)=some (.type "function"))
  (h:codeAny (model prog w) (A.under (.builtin "type.__call__" ⟨.ref C::vs,b⟩)) (.call (.ref f) ⟨.ref (s.heap.objs.size+1)::vs,b⟩) (PySem.W.InitBack (s.heap.objs.size+1) R)
   { s with heap:=(s.heap.push emptyDict).push (instObj C s.heap.objs.size)}) :
  codeAny (model prog w) A (.call (.ref C) ⟨vs,b⟩) R s:=by
 obtain⟨j,g,d,t,k⟩:=s;exact PySem.W.make_core (PySem.W.makes_of X e) (PySem.W.looks_findIn X c) (fun a=>PySem.W.bind_fn X a i) (.inl rfl) h
end
def gM (f:Str) (v:V):List (Str × V)->List (Str × V)
 |[]=>[(f,v)]
 | (g,x)::r=>if g=f then (g,v)::r else (g,x)::gM f v r
theorem jZ (f g:Str) (v:V):∀c:List (Str × V),(gM f v c).lookup g=if g=f then some v else c.lookup g
 |[]=>by
  show List.lookup g [(f,v)]=_
  by_cases h:g=f
  ·
   have a:(g==f)=true:=Zz.mpr h
   simp only[List.lookup,a,if_pos h]
  ·
   have a:(g==f)=false:=XR.mpr h
   simp only[List.lookup,a,if_neg h]
 | (k,x)::r=>by
  have d:=jZ f g v r
  rw[show gM f v ((k,x)::r)=(if k=f then (k,v)::r else (k,x)::gM f v r) from rfl]
  by_cases b:k=f
  ·
   rw[if_pos b]
   by_cases h:g=k
   ·
    have a:(g==k)=true:=Zz.mpr h
    simp only[List.lookup,a,if_pos (h.trans b)]
   ·
    have a:(g==k)=false:=XR.mpr h
    simp only[List.lookup,a,if_neg (fun e:g=f=>h (e.trans b.symm))]
  ·
   rw[if_neg b]
   by_cases h:g=k
   ·
    have a:(g==k)=true:=Zz.mpr h
    simp only[List.lookup,a,if_neg (fun e:g=f=>b (h.symm.trans e))]
   ·
    have a:(g==k)=false:=XR.mpr h
    simp only[List.lookup,a]
    exact d
theorem jO (f:Str) (v:V):∀b:List (Str × V),f∈(gM f v b).map (·.1)/\∀g,g∈b.map (·.1)->g∈(gM f v b).map (·.1)
 |[]=>⟨by simp [gM],fun g h=>by simp at h⟩
 | (k,x)::r=>by
  obtain⟨c,d⟩:=jO f v r
  rw[show gM f v ((k,x)::r)=(if k=f then (k,v)::r else (k,x)::gM f v r) from rfl]
  by_cases a:k=f
  ·
   rw[if_pos a]
   subst a
   exact⟨by simp,fun g h=>by simpa using h⟩
  ·
   rw[if_neg a]
   refine⟨?_,fun g h=>?_⟩
   ·
    rw[y_]
    exact F_ _ c
   ·
    rw[y_] at h ⊢
    rcases o_.mp h with e | e
    ·
     exact o_.mpr (.inl e)
    ·
     exact F_ _ (d g e)
theorem j0 (f:Str) (v:V):∀b:List (Str × V),(gM f v b).length<=b.length+1
 |[]=>by simp [gM]
 | (k,x)::r=>by
  have c:=j0 f v r
  rw[show gM f v ((k,x)::r)=(if k=f then (k,v)::r else (k,x)::gM f v r) from rfl]
  by_cases a:k=f
  ·
   rw[if_pos a,d_,d_];omega
  ·
   rw[if_neg a,d_,d_];omega
theorem RelO.some_of {v:V}{o:Option Value}(r:RelO (some v) o):∃u,o=some u/\RelV v u:=by
 cases o with
 |none=>exact (show False from r).elim
 |some u=>exact⟨u,rfl,r⟩
theorem RelO.none_of {o:Option Value}(r:RelO none o):o=none:=by
 cases o with
 |none=>rfl
 |some u=>exact (show False from r).elim
theorem za {v:V}{u:Value}(r:RelV v u):handedIn u=true:=by
 cases v with
 |non=>cases (show u=Value.none from r);rfl
 |bl b=>cases (show u=Value.bool b from r);rfl
 |int i=>obtain⟨t,e⟩:=(show ∃t,u=Value.int i t from r);cases e;rfl
 |str x=>obtain⟨t,e⟩:=(show ∃t,u=Value.str x t from r);cases e;rfl
 |byt b=>obtain⟨t,e⟩:=(show ∃t,u=Value.bytes b t from r);cases e;rfl
 |flt b=>obtain⟨t,e⟩:=(show ∃t,u=Value.float b t from r);cases e;rfl
 |ref a=>cases (show u=Value.ref a from r);rfl
 |ty n=>cases (show u=Value.type n from r);rfl
section
variable {P:Program}{w:World}{H H':Hp}{h h':Heap}{a C dx:Addr}{fs fs':List (Str × V)}
theorem p7 (c:HOk P w H h) (e:H a=some (.ins C dx fs)):∃b,ObjM h a dx C b/\(∀f,RelO (fs.lookup f) (b f))/\PySem.Within b (fs.map (·.1))/\fs.length<=1000/\H dx=some (.own a):=by
 obtain⟨d,z,i,g,b,n,r,q⟩:=(show ObjOk P w H h a (.ins C dx fs) from c a _ e);exact⟨b,⟨g,n,i⟩,r,q,z,d⟩
end
structure Cls (K:Frag) (C:Addr):Prop where
 pg:plainGet K C Str.empty=true
 hd:hasDictIn K C=true
 po:plainOver K C=true
 sa:findIn K (.ref C) "__setattr__"=some (some (.builtin "object.__setattr__"))
theorem Cls.get {K:Frag}{C:Addr}(c:Cls K C) (f:Str):plainGet K C f=true:=c.pg
def NoAttr (K:Frag) (C:Addr) (f:Str):Prop:=findIn K (.ref C) f=some none
theorem NoAttr.taker {K:Frag}{C:Addr}{f:Str}(n:NoAttr K C f):takerIn K C f=some none:=by
 unfold takerIn;rw[show findIn K (.ref C) f=some none from n];rfl
structure Meth (K:Frag) (C:Addr) (m:Str) (f:Addr):Prop where
 at_:findIn K (.ref C) m=some (some (.ref f))
 fn:isFn K (.ref f)=true
 kp:keepIn K (.ref f)=true
section
variable {X:Cx}{pins:List (Addr × Obj)}{σ:St}{H:Hp}{s:Shared}{a C dx:Addr}{fs:List (Str × V)}{f:Str}{v:V}{A:Around}{E:Value->Shared->Prop}
theorem uN {b:Bool}{Q:Value->Shared->Prop}(I:Inv X pins σ H s) (e:H a=some (.ins C dx fs)) (c:Cls X.K C) (n:NoAttr X.K C f) (l:fs.lookup f=some v)
  (h:∀u s',Inv X pins σ H s'->RelV v u->Q u s'):wpAny (model X.prog X.w) A (getAttr (.ref a) f b) Q E s:=by
 obtain⟨g,O,r,_,_,_⟩:=p7 I.hok e;obtain⟨u,i,d⟩:=RelO.some_of (v:=v) (o:=g f) (by rw[<- l];exact r f);exact Ge I.kIn O (c.get f) c.hd n i (za d) (h u _ (I.tok _) d)
theorem uO {m:Str}{g:Addr}{pl:Sem Bool}{Q:Value × List Value->Shared->Prop}(I:Inv X pins σ H s) (e:H a=some (.ins C dx fs)) (c:Cls X.K C) (k:Meth X.K C m g) (l:fs.lookup m=none)
  (h:Q (.ref g,[.ref a]) s):wpAny (model X.prog X.w) A (getMethod (.ref a) m pl) Q E s:=by
 obtain⟨b,O,r,_,_,_⟩:=p7 I.hok e;have d:b m=none:=RelO.none_of (by rw[<- l];exact r m);exact Ag I.kIn O (c.get m) k.at_ k.fn d h
theorem uP {y:V}{u:Value}{Q:Unit->Shared->Prop}(I:Inv X pins σ H s) (e:H a=some (.ins C dx fs)) (c:Cls X.K C) (n:NoAttr X.K C f) (B:fs.length<1000) (t:RelV y u)
  (h:∀s',Inv X pins σ (upd H a (.ins C dx (gM f y fs))) s'->Q () s'):wpAny (model X.prog X.w) A (setAttr (.ref a) f u) Q E s:=by
 obtain⟨j,O,r,i,_,k⟩:=p7 I.hok e;have p:(fs.map (·.1)).length<=sizeLine:=by rw[b_,sizeLine_eq];omega
 refine Gf I.kIn O c.sa c.po n.taker c.hd i p fun h' d sb=>h _ ?_;have v:∃o,h'.get? dx=some o:=let ⟨o,_,_,e',_⟩:=d.ns;⟨o,e'⟩;refine I.write (x:=a) (e:=dx) (by rw[e];exact True.intro) (.inr k) (fun b q m z=>(sb.2 b m).trans z) v ?_;refine⟨by rw[aU O.ne];exact k,?_,O.ne,d.obj,_,d.ns,fun g=>?_,fun g l=>?_⟩
 ·have:=j0 f y fs;omega
 ·show RelO ((gM f y fs).lookup g) (if g=f then some u else j g);rw[jZ];by_cases q:g=f
  ·rw[if_pos q,if_pos q];exact t
  rw[if_neg q,if_neg q];exact r g
 by_cases q:g=f
 ·rw[q];exact (jO f y fs).1
 refine (jO f y fs).2 g (i g fun z=>l ?_);show (if g=f then some u else j g)=none;rw[if_neg q];exact z
theorem Inv.made (I:Inv X pins σ H s):Inv X pins σ (upd (upd H s.heap.objs.size (.own (s.heap.objs.size+1))) (s.heap.objs.size+1) (.ins C s.heap.objs.size []))
  { s with heap:=(s.heap.push emptyDict).push (instObj C s.heap.objs.size)}:=by
 have d:(s.heap.push emptyDict).get? s.heap.objs.size=some emptyDict:=V_ s.heap rfl;have j:((s.heap.push emptyDict).push (instObj C s.heap.objs.size)).get? (s.heap.objs.size+1)=some (instObj C s.heap.objs.size):=by
  have:=V_ (s.heap.push emptyDict) (o:=instObj C s.heap.objs.size) rfl
  rwa [ZC] at this
 have i:(s.heap.push emptyDict).Ns s.heap.objs.size (fun _=>none):=⟨emptyDict,#[],_,d,rfl,(fun e f=>absurd f (by simp)),fun _=>rfl⟩;have h:=I.laid (a:=s.heap.objs.size) (o:=.own (s.heap.objs.size+1)) (h':=s.heap.push emptyDict) (t':=s.toks) (fun b u q=>l_ _ q) (j_ _) ⟨_,d⟩;refine h.laid (a:=s.heap.objs.size+1) (o:=.ins C s.heap.objs.size []) (t':=s.toks) (fun b u q=>l_ _ q) (Zd (ZC _ _)) ?_;have c:s.heap.objs.size≠s.heap.objs.size+1:=Xj (ZK _);refine⟨by rw[aU c,bT],Yy _,c,j,fun _=>none,(Heap.Ns1.of_empty i).at fun o q=>l_ _ q,fun _=>True.intro,fun y g=>absurd rfl g⟩
theorem Gg {prog:Program}{w:World}{env:Env}{e:Expr}{f:Str}{a:Pos}{s:Shared}{Q:Value->Shared->Prop}(b:attributeBase e f env (eval e env)=eval e env)
  (h:wpAny (model prog w) A (eval e env) (fun o s₁=>wpAny (model prog w) A (getAttr o f true) Q E s₁) E s):wpAny (model prog w) A (eval (.Attribute e f a) env) Q E s :=
 Attribute_any_ h (by rw[arm_eval_Attribute,b])
end
def V2 (K:Frag) (e:TE) (f:Str):TE:=fun d H Q=>e d H fun x c=>∃a C g b v,x=.ref a/\c a=some (.ins C g b)/\Cls K C/\NoAttr K C f/\b.lookup f=some v/\Q v c
def V3 (K:Frag) (i g:TE) (f:Str):TS:=fun D c H=>g c H fun y h=>i c h fun x d=>∃a C e b,x=.ref a/\d a=some (.ins C e b)/\Cls K C/\NoAttr K C f/\b.length<1000 /\
 D.nx c (upd d a (.ins C e (gM f y b)))
section
variable {X:Cx}{o e value:Expr}{f:Str}{pos pos' tpos:Pos}{ta tv:TE}
theorem MF (d:PE X e ta) (o:attributeBase e f X.env (eval e X.env)=eval e X.env):PE X (.Attribute e f pos) (V2 X.K ta f):=by
 intro b s k H Q I h;refine Gg o (thn (d b s k H _ I h) fun u y ⟨x,r,m,j,a,C,B,z,v,p,g,c,n,l,q⟩=>?_);subst p;obtain rfl:u=Value.ref a:=j;exact uN m g c n l fun A w i t=>⟨v,r,i,t,q⟩
theorem MJ (i:PE X o ta) (A:PE X value tv) (k:swapsWith value (some (.Attribute o f pos')) pos.line X.env=pure false):PS X (.Assign [.Attribute o f pos'] value pos) (V3 X.K ta tv f):=by
 intro b s d H D I h;refine plainObj_wpAny_Assign_Attribute (thn (A b s d H _ I h) fun u v ⟨y,j,B,g,q⟩=>thn (i b v d j _ B q) fun m E ⟨x,J,w,z,a,C,L,F,r,e,c,n,l,p⟩=>?_) k;subst r;obtain rfl:m=Value.ref a:=z;exact uP w e c n l g fun G t=>⟨d,_,t,p⟩
variable {pins:List (Addr × Obj)}{σ:St}{H:Hp}{s:Shared}{A:Around}{E Q:Value->Shared->Prop}{c:Value}{b:Bool}
end
structure Room (k:Nat) (A:Around):Prop where
 hd:A.handled=none
 dp:A.depth+3*k+5<recursionLimit
 un:A.units+16*k+200<cLine
 gd:A.guards=some []
theorem Room.mono {j k:Nat}{A:Around}(r:Room k A) (h:j<=k):Room j A:=⟨r.hd,by have:=r.dp;omega,by have:=r.un;omega,r.gd⟩
theorem Room.deeper {k:Nat}{A:Around}(r:Room (k+1) A) (env:Env):Room k (A.deeper env) :=
 ⟨r.hd,by have:=r.dp;show A.depth+1+3*k+5<_;omega,by have:=r.un;show A.units+3+16*k+200<_;omega,r.gd⟩
theorem uQ {A:Around}{C:Addr}{us:List Value}{a:List (Str × Value)}:(A.under (.builtin "type.__call__" ⟨.ref C::us,a⟩)).depth=A.depth+1:=by
 first | rfl | simp [Around.under,Code.weight,Code.isCreation,Code.isGuard,Code.isCaller,Code.frames,Code.isFrame,guardIds]
theorem uR {A:Around}{C:Addr}{us:List Value}{a:List (Str × Value)}:(A.under (.builtin "type.__call__" ⟨.ref C::us,a⟩)).units=A.units+1:=by
 first | rfl | simp [Around.under,Code.cUnits,Code.frames,Code.isFrame]
theorem Room.make {k:Nat}{A:Around}(r:Room (k+1) A) (C:Addr) (us:List Value) (a:List (Str × Value)):Room k (A.under (.builtin "type.__call__" ⟨.ref C::us,a⟩)) :=
 ⟨r.hd,by have:=r.dp;rw[uQ];omega,by have:=r.un;rw[uR];omega,by first | exact r.gd | (simp [Around.under,Code.guards,Code.isGuard,guardIds,pushGuards,r.gd])⟩
theorem Room.depth {k:Nat}{A:Around}(r:Room k A):A.depth<recursionLimit:=by have:=r.dp;omega
def V4:TA:=fun _ H Q=>Q [] H
def Rv (e:TE) (c:TA):TA:=fun a H Q=>e a H fun x d=>c a d fun xs b=>Q (x::xs) b
section
variable {X:Cx}{e:Expr}{es:List Expr}{te:TE}{t:TA}{pos:Pos}
theorem MK:PA X [] V4:=fun _ _ _ _ H Q I h=>Zo ⟨[],H,I,.nil,h⟩
theorem Gh (g:PE X e te) (m:PA X es t) (q:starEach (e::es) X.env=(false,eval e X.env)::starEach es X.env:=by rfl):PA X (e::es) (Rv te t):=by
 intro b a s c H Q I h;rw[q];show wpAny _ _ (spliced ((false,eval e X.env)::backTo b (starEach es X.env))) _ _ s;refine YJ (thn (g a s c H _ I h) fun u d ⟨x,p,l,k,n⟩=>?_);exact thn (m b a d c p _ l n) fun us r ⟨xs,i,f,o,j⟩=>⟨x::xs,i,f,.cons k o,j⟩
def V5 (t:TA):TE:=fun b H Q=>t b H fun xs a=>xs.length<=sizeLine/\∀p,a p=none->Q (.ref p) (upd a p (.tup xs))
def V6 (t:TA):TE:=fun b H Q=>t b H fun xs a=>xs.length<=sizeLine/\∀p,a p=none->Q (.ref p) (upd a p (.lst xs))
theorem MN {x1}(h:PA X es t):PE X (.Tuple es x1 pos) (V5 t):=by
 intro a s i H Q I g;refine wpAny_Tuple_spliced (thn (h pos a s i H _ I g) fun us c ⟨xs,f,d,r,z,q⟩=>⟨by rw[<- r.length];exact z,?_⟩);have j:f c.heap.objs.size=none:=d.hok.fresh (j_ _);refine⟨.ref c.heap.objs.size,upd f c.heap.objs.size (.tup xs),d.laid (t':=c.toks) (fun b u e=>l_ _ e) (j_ _) ?_,rfl,q _ j⟩;exact⟨z,us,r,⟨_,V_ _ rfl,rfl,_,rfl,rfl⟩⟩
theorem MP (h:PA X es t):PE X (.List es pos) (V6 t):=by
 intro a s i H Q I g;refine wpAny_List_spliced (thn (h pos a s i H _ I g) fun us c ⟨xs,f,d,r,z,q⟩=>⟨by rw[<- r.length];exact z,?_⟩);have j:f c.heap.objs.size=none:=d.hok.fresh (j_ _);refine⟨.ref c.heap.objs.size,upd f c.heap.objs.size (.lst xs),d.laid (t':=c.toks) (fun b u e=>l_ _ e) (j_ _) ?_,rfl,q _ j⟩;exact⟨z,us,0,r,V_ _ rfl⟩
end
abbrev Sp:=List V->Hp->VK->XK->Prop
abbrev CXT:=List Env->Hp->Shared->XK->Value->Shared->Prop
structure Env0 (P:Program) (w:World) (K:Frag) (mg:Str->Option Value) (base:Heap) (A:Around) (outer:List Env) (s:Shared) (H:Hp):Prop where
 frames:A.frames=some outer
 mod:Mod K mg base
 bs:∀b o,base.get? b=some o->s.heap.get? b=some o/\H b=none
 bsz:base.objs.size<=s.heap.objs.size
 funs:s.heap.FunFrames base outer
 frf:∀b∈frs outer,H b=none
 hok:HOk P w H s.heap
 bare:AllBare s.gens
def CE (a:List Env) (P:Program) (w:World) (H:Hp) (s:Shared) (Q:VK) (u:Value) (s':Shared):Prop :=
 ∃v H',s'.os=s.os/\AllBare s'.gens/\Un (frs a) [] H H' s.heap s'.heap/\HOk P w H' s'.heap/\RelV v u/\Q v H'
def CR (CX:CXT) (a:List Env) (P:Program) (w:World) (H:Hp) (s:Shared) (Q:VK) (E:XK) (r:Result) (s':Shared):Prop :=
 match r with
 |.ok (.ret u)=>CE a P w H s Q u s'
 |.ok _=>False
 |.error e=>CX a H s E e s'
structure FnOk (P:Program) (w:World) (K:Frag) (mg:Str->Option Value) (base:Heap) (CX:CXT) (k:Nat) (f:Addr) (fd:FuncData) (ps:List Str) (sp:Sp):Prop where
 len:∀vs H Q E,sp vs H Q E->vs.length=ps.length
 run:∀(A:Around) (outer:List Env) (s:Shared) (H:Hp) (args:Args) (us:List Value) (vs:List V) (Q:VK) (E:XK),Room k A->Env0 P w K mg base A outer s H->BindsTo s fd args (ps.zip us)->Vals vs us->sp vs H Q E ->
  codeAny (model P w) A (.call (.ref f) args) (CR CX outer P w H s Q E) s
theorem Env0.make {P:Program}{w:World}{K:Frag}{b:Str->Option Value}{base:Heap}{A:Around}{a:List Env}{s:Shared}{H:Hp}(e:Env0 P w K b base A a s H) (C:Addr) (us:List Value) (c:List (Str × Value)) :
  Env0 P w K b base (A.under (.builtin "type.__call__" ⟨.ref C::us,c⟩)) a s H:=⟨by first | exact e.frames | (simpa [Around.under,Code.envs,Code.isFrame,pushEnvs] using e.frames),e.mod,e.bs,e.bsz,e.funs,e.frf,e.hok,e.bare⟩
section
variable {X:Cx}{pins:List (Addr × Obj)}{σ:St}{H:Hp}{s s':Shared}
theorem Inv.env0 (I:Inv X pins σ H s):Env0 X.prog X.w X.K X.mg X.base X.A X.stack s H :=
 ⟨I.ok.frames,I.ok.mod,I.bs,W6 I.ok.bsz I.sz,I.stack,I.stkFree,I.hok,I.bare⟩
theorem Inv.after {Q:VK}{u:Value}(I:Inv X pins σ H s) (h:CE X.stack X.prog X.w H s Q u s'):EP X pins σ Q u s':=by
 obtain⟨v,H',j,a,f,e,r,q⟩:=h;obtain⟨i,g,d,t,c⟩:=s';obtain rfl:c=s.os:=j;exact⟨v,H',I.call (h':=i) (g':=g) (d':=d) (t':=t) (ch:=[]) f e a (fun b z=>absurd z (by simp)),r,q⟩
end
def Rx (sp:Sp) (dvs:List V) (E:XK) (t:TA):TE:=fun b H Q=>t b H fun vs a=>sp (vs++dvs) a Q E
def Ry (C:Addr) (m:Str) (sp:Sp) (dvs:List V) (E:XK) (f:TE) (t:TA):TE:=fun c H Q=>f c H fun x d=>∃a g b,x=.ref a/\d a=some (.ins C g b)/\b.lookup m=none /\
 t c d fun vs e=>sp (x::(vs++dvs)) e Q E
def Rz (C:Addr) (sp:Sp) (dvs:List V) (E:XK) (t:TA):TE:=fun c H Q=>t c H fun vs b=>∀x a,b x=none->b a=none->a≠x ->
 sp (.ref x::(vs++dvs)) (upd (upd b a (.own x)) x (.ins C a [])) (fun v d=>v=.non/\Q (.ref x) d) E
def Binds (K:Frag) (b:FuncData) (ps:List Str) (a:List Value):Prop :=
 ∀(s:Shared) (us:List Value),K.In s.heap->(us++a).length=ps.length->BindsTo s b ⟨us,[]⟩ (ps.zip (us++a))
theorem Binds.all {K:Frag}{a:FuncData}{ps:List Str}(h:∀us:List Value,us.length=ps.length->bindArgs a ⟨us,[]⟩=pure (ps.zip us)):Binds K a ps []:=fun s us _ b=>by
 rw[J_] at b ⊢;exact .of_eq (h us b)
def jP (CX:CXT) (X:Cx) (E:XK):Prop:=∀(a:List (Addr × Obj)) (b:St) (H:Hp) (s:Shared) (e:Value) (s':Shared),Inv X a b H s->CX X.stack H s E e s'->X.xe e s'
section
variable {X:Cx}{CX:CXT}{k:Nat}{f C:Addr}{fd:FuncData}{ps:List Str}{sp:Sp}{dvs:List V}{ds:List Value}{E:XK}{x m:Str}{p pos apos:Pos}{e o:Expr}{es:List Expr}{ta:TE}{t:TA}
theorem Ai {a:List (Addr × Obj)}{c:St}{H:Hp}{s:Shared}{Q:VK}{us:List Value}{vs:List V}(F:FnOk X.prog X.w X.K X.mg X.base CX k f fd ps sp) (l:Room k X.A) (j:Binds X.K fd ps ds) (n:Vals dvs ds) (m:jP CX X E)
  (I:Inv X a c H s) (r:Vals vs us) (h:sp (vs++dvs) H Q E):wpAny (model X.prog X.w) X.A (call (.ref f) us) (EP X a c Q) X.xe s:=by
 have d:Vals (vs++dvs) (us++ds):=r.append n;have g:(us++ds).length=ps.length:=by rw[<- d.length];exact F.len _ _ _ _ h
 refine wpAny_call (codeAny_mono (F.run X.A X.stack s H ⟨us,[]⟩ (us++ds) (vs++dvs) Q E l I.env0 (j s us I.kIn g) d h) fun r s' b=>?_);cases r with
 |error e=>exact m a c H s e s' I b
 |ok i =>
 cases i with
 |ret u=>exact I.after b
 |next=>exact False.elim b
 |brk=>exact False.elim b
 |cont=>exact False.elim b
theorem Gi (F:FnOk X.prog X.w X.K X.mg X.base CX k f fd ps sp) (u:Room k X.A) (l:Gl X x) (j:X.mg x=some (.ref f)) (n:keepIn X.K (.ref f)=true) (o:Binds X.K fd ps ds) (y:Vals dvs ds) (v:jP CX X E)
  (i:PA X (e::es) t) (b:(x==("__debug__":Str))=false:=by decide) (g:starEach (e::es) X.env=(false,eval e X.env)::starEach es X.env:=by rfl) (c:(backTo pos (starEach es X.env)).any (·.1)=false:=by rfl) :
  PE X (.Call (.Name x p) (e::es) [] pos) (Rx sp dvs E t):=by
 intro a s m H Q I h;refine Yv (wz I l j ?_ b);refine callWith_K (h₀:=X.base) I.ok.mod.kin n (thn (i pos a s m H _ I h) fun us z ⟨vs,B,d,r,q⟩=>⟨d.kIn,?_⟩) g c;exact Ai F u o y v d r q
theorem Gj {pl:Sem Bool}(D:PE X o ta) (c:Cls X.K C) (i:Meth X.K C m f) (F:FnOk X.prog X.w X.K X.mg X.base CX k f fd ps sp) (y:Room k X.A) (P:Binds X.K fd ps ds) (J:Vals dvs ds) (R:jP CX X E) (z:PA X (e::es) t)
  (d:starEach (e::es) X.env=(false,eval e X.env)::starEach es X.env:=by rfl) (g:(backTo pos (starEach es X.env)).any (·.1)=false:=by rfl)
  (N:eval (.Call (.Attribute o m apos) (e::es) [] pos) X.env=(do
   let ov <- eval o X.env
   standAt apos.atName
   let (f,first) <- holding [ov] (getMethod ov m pl)
   callWith pos f first (backTo pos (starEach (e::es) X.env)) (backToKw pos (keywordEach [] X.env))):=by rfl) :
  PE X (.Call (.Attribute o m apos) (e::es) [] pos) (Ry C m sp dvs E ta t):=by
 intro b s j H Q I h;refine PySem.W.methodCall_KW (pl:=pl) (thn (D b s j H _ I h) fun u M ⟨x,B,p,O,a,V,T,L,v,l,q⟩=>?_) N;subst L;obtain rfl:u=Value.ref a:=O;refine uO p v c i l ?_;refine callWith_K (first:=[.ref a]) (h₀:=X.base) I.ok.mod.kin i.kp (thn (z pos b M j B _ p q) fun us S ⟨vs,U,n,r,G⟩=>⟨n.kIn,?_⟩) d g;exact Ai (us:=.ref a::us) (vs:=.ref a::vs) F y P J R n (.cons rfl r) G
structure Mk (K:Frag) (C f:Addr):Prop where
 makes:makesIn K C=true
 init:findIn K (.ref C) "__init__"=some (some (.ref f))
 fn:isFn K (.ref f)=true
 kp:keepIn K (.ref C)=true
theorem Aj {a:List (Addr × Obj)}{d:St}{H:Hp}{s:Shared}{Q:VK}{us:List Value}{vs:List V}(M:Mk X.K C f) (F:FnOk X.prog X.w X.K X.mg X.base CX k f fd ps sp) (q:Room (k+1) X.A) (o:Binds X.K fd ps ds) (z:Vals dvs ds)
  (j:jP CX X E) (I:Inv X a d H s) (r:Vals vs us)
  (h:∀x dx,H x=none->H dx=none->dx≠x->sp (.ref x::(vs++dvs)) (upd (upd H dx (.own x)) x (.ins C dx [])) (fun v H2=>v=.non/\Q (.ref x) H2) E) :
  wpAny (model X.prog X.w) X.A (call (.ref C) us) (EP X a d Q) X.xe s:=by
 have g:=h (s.heap.objs.size+1) s.heap.objs.size (I.hok.fresh (Nat.le_succ _)) (I.hok.fresh (j_ _)) (Xj (ZK _));have c:=Inv.made (C:=C) I;have i:Vals (V.ref (s.heap.objs.size+1)::(vs++dvs)) (Value.ref (s.heap.objs.size+1)::(us++ds)):=.cons rfl (r.append z);have l:(Value.ref (s.heap.objs.size+1)::us++ds).length=ps.length:=by have e:=i.length;rw[F.len _ _ _ _ g] at e;exact e.symm
 refine wpAny_call (Ah (f:=f) I.kIn M.makes M.init (Zz.mp M.fn) (codeAny_mono (F.run _ X.stack _ _ ⟨Value.ref (s.heap.objs.size+1)::us,[]⟩ (Value.ref (s.heap.objs.size+1)::(us++ds)) _ _ E (q.make C us [])
  (c.env0.make C us []) (o _ (Value.ref (s.heap.objs.size+1)::us) c.kIn l) i g) fun r s' b=>?_))
 cases r with
 |error e=>exact j a d _ _ e s' c b
 |ok n =>
 cases n with
 |ret u=>obtain⟨v,H',y,p,t,m⟩:=c.after b;subst t;exact⟨p,⟨V.ref (s.heap.objs.size+1),H',y,rfl,m⟩⟩
 |next=>exact False.elim b
 |brk=>exact False.elim b
 |cont=>exact False.elim b
theorem Gk (M:Mk X.K C f) (F:FnOk X.prog X.w X.K X.mg X.base CX k f fd ps sp) (u:Room (k+1) X.A) (l:Gl X x) (j:X.mg x=some (.ref C)) (o:Binds X.K fd ps ds) (m:Vals dvs ds) (v:jP CX X E)
  (i:PA X (e::es) t) (c:(x==("__debug__":Str))=false:=by decide) (g:starEach (e::es) X.env=(false,eval e X.env)::starEach es X.env:=by rfl) (b:(backTo pos (starEach es X.env)).any (·.1)=false:=by rfl) :
  PE X (.Call (.Name x p) (e::es) [] pos) (Rz C sp dvs E t):=by
 intro a s n H Q I h;refine Yv (wz I l j ?_ c);refine callWith_K (h₀:=X.base) I.ok.mod.kin M.kp (thn (i pos a s n H _ I h) fun us y ⟨vs,z,d,r,q⟩=>⟨d.kIn,?_⟩) g b;exact Aj M F u o m v d r q
variable {ks:List Str}{kpos:Pos}{kws:List Keyword}{te:TE}{tk:TA}{nm:Option Str}{g:List Value->List Value->List Value}{gV:List V->List V->List V}
end
structure FnScope (N P:List Str) (sc:Scope):Prop where
 kind:sc.kind=.function
 co:sc.isCoroutine=false
 gen:sc.isGenerator=false
 nd:N.Nodup
 pre:N.take P.length=P
 par:∀x∈P,sc.names.lookup x=some .local\/sc.names.lookup x=some .cell
 nofree:∀y∈sc.names,y.2≠.free
theorem oK {b:Str->Option NameKind}{x:Str}:∀{a:List (Str × Value)}{m:Str->Option Value},(∀v,(x,v)∉a)->bindL b a m x=m x
 |[],_,_=>rfl
 | (n,v)::r,m,h=>by
  unfold bindL
  rw[oK fun w c=>h w (F_ _ c)]
  split
  ·
   have:x≠n:=by rintro rfl;exact h v m_
   simp [this]
  ·
   rfl
theorem oM {b:Str->Option NameKind}{x:Str}:∀{a:List (Str × Value)}{m:Str->Option Value},(∀v,(x,v)∉a)->bindC b a m x=m x
 |[],_,_=>rfl
 | (n,v)::r,m,h=>by
  unfold bindC
  rw[oM fun w c=>h w (F_ _ c)]
  split
  ·
   rfl
  ·
   have:x≠n:=by rintro rfl;exact h v m_
   simp [this]
theorem oN {a:Str->Option NameKind}{x:Str}{v:Value}:∀{P:List Str}{vs:List Value}{i:Nat}{m:Str->Option Value},P.Nodup->P[i]?=some x->vs[i]?=some v->a x=some .local ->
  bindL a (P.zip vs) m x=some v
 |[],_,_,_,_,h,_,_=>by simp at h
 |_::_,[],_,_,_,_,h,_=>by simp at h
 |p::P,w::vs,0,m,nd,h1,h2,hk=>by
  simp at h1 h2;subst h1;subst h2
  show bindL a ((p,w)::P.zip vs) m p=_
  unfold bindL
  rw[oK fun v b=>(Xn.mp nd).1 (List.of_mem_zip b).1,if_pos hk]
  simp
 |p::P,w::vs,i+1,m,nd,h1,h2,hk=>by
  show bindL a ((p,w)::P.zip vs) m x=_
  unfold bindL
  exact oN (i:=i) (Xn.mp nd).2 (by simpa using h1) (by simpa using h2) hk
theorem oO {a:Str->Option NameKind}{x:Str}{v:Value}:∀{P:List Str}{vs:List Value}{i:Nat}{m:Str->Option Value},P.Nodup->P[i]?=some x->vs[i]?=some v->a x≠some .local ->
  bindC a (P.zip vs) m x=some v
 |[],_,_,_,_,h,_,_=>by simp at h
 |_::_,[],_,_,_,_,h,_=>by simp at h
 |p::P,w::vs,0,m,nd,h1,h2,hk=>by
  simp at h1 h2;subst h1;subst h2
  show bindC a ((p,w)::P.zip vs) m p=_
  unfold bindC
  rw[oM fun v b=>(Xn.mp nd).1 (List.of_mem_zip b).1,if_neg hk]
  simp
 |p::P,w::vs,i+1,m,nd,h1,h2,hk=>by
  show bindC a ((p,w)::P.zip vs) m x=_
  unfold bindC
  exact oO (i:=i) (Xn.mp nd).2 (by simpa using h1) (by simpa using h2) hk
def start (N:List Str) (vs:List V):St:=vs.map some++List.replicate (N.length - vs.length) none
def uT (CX:CXT) (P:Program) (w:World) (K:Frag) (mg:Str->Option Value) (base:Heap) (N:List Str) (a:Str) (scope:Scope) (f:Addr) (c:Value) (A:Around) (outer:List Env) (s:Shared) (H:Hp) (E:XK):Cx where
 prog:=P
 w:=w
 K:=K
 mg:=mg
 base:=base
 A:=A.deeper (envOfC a scope s.heap.objs.size f c)
 N:=N
 s₀:=s
 H₀:=H
 env:=envOfC a scope s.heap.objs.size f c
 outer:=outer
 stack:=envOfC a scope s.heap.objs.size f c::outer
 ex:=[]
 calm:=true
 fn:=fun _=>true
 pn:=[]
 xe:=fun e s'=>wpAny (model P w) (A.deeper (envOfC a scope s.heap.objs.size f c)) (leaving (envOfC a scope s.heap.objs.size f c) e) (fun _ b=>CX outer H s E e b) (fun d b=>CX outer H s E d b) s'
theorem jB {a:Scope}{n:Nat}{x:Str}(h:a.names.lookup x=some .cell):∃c,(cellsFrom n a.names []).lookup x=some c:=by
 have q:=cellsFrom_some a.names n [] (.inl h);exact Option.isSome_iff_exists.mp q
theorem zb {CX:CXT}{P:Program}{w:World}{K:Frag}{G:Str->Option Value}{base:Heap}{N ps:List Str}{g:Str}{scope:Scope}{f:Addr}{F:Value}{A:Around}{d:List Env}{s L:Shared}{H:Hp}{E:XK}{us:List Value}{vs:List V}
  (S:FnScope N ps scope) (R:A.handled=none) (l:Env0 P w K G base A d s H) (U:vs.length=ps.length) (r:Vals vs us)
  (x:InCallC s s.heap.objs.size (bindL (envOfC g scope s.heap.objs.size f F).kindOf (ps.zip us) fun _=>none) (cellsFrom (s.heap.objs.size+1) scope.names []) (bindC (envOfC g scope s.heap.objs.size f F).kindOf (ps.zip us) fun _=>none) L) :
  Inv (uT CX P w K G base N g scope f F A d s H E) [] (start N vs) H L:=by
 have O:ps.length<=N.length:=by have:=O_ List.length S.pre;rw[Xc] at this;omega
 obtain⟨C,tk,rfl,J⟩:=x.done;have m:∀b:Addr,b∉(uT CX P w K G base N g scope f F A d s H E).ex:=fun b z=>absurd (show b∈([]:List Addr) from z) (by simp);refine⟨⟨l.mod,S.kind,rfl,rfl,j_ _,fun y z c C j=>?_,fun y o=>?_,fun y c _ h=>?_,fun _=>R,Around.frames_deeper l.frames,.inr ⟨rfl,rfl⟩,fun b z=>absurd z (m b),l.bs,l.bsz,fun b _ _=>m b,fun b z=>absurd z (m b),l.funs,l.frf⟩,
  rfl,l.bare,Un.kept J,⟨_,x.toInCall.ns,fun i y v C j T=>?_⟩,fun y c h=>⟨_,x.cell y c h⟩,l.hok.fresh (j_ _),fun y c h=>?_,fun p t=>absurd (show p∈([]:List (Addr × Obj)) from t) (by simp),l.hok.kept J,?_⟩
 ·exact name_of_addr x.apart (mem_of_lookup C) (mem_of_lookup j)
 ·have o:scope.names.lookup y=some .cell\/scope.names.lookup y=some .free:=o;rcases o with o | o
  ·exact jB o
  exact absurd rfl (S.nofree _ (mem_of_lookup o))
 ·exact Yn (x.above y c (mem_of_lookup h))
 ·have D:i<vs.length:=by
   unfold start at j;by_cases D:i<vs.length
   ·exact D
   rw[E_ (by simpa using D)] at j;rw[Y6] at j;split at j <;> cases j
  have M:vs[i]?=some v:=by
   unfold start at j;rw[U_ (by simpa using D),H_] at j;cases e:vs[i]? with
   |none=>rw[e] at j;cases j
   |some a=>rw[e] at j;cases j;rfl
  obtain⟨u,I,Q⟩:=r.get M;have t:ps[i]?=some y:=by rw[<- S.pre,List.getElem?_take_of_lt (by omega)];exact C
  have B:ps.Nodup:=by rw[<- S.pre];exact S.nd.sublist (List.take_sublist _ _)
  refine⟨u,Q,?_⟩;rcases S.par y (XF t) with k | k
  ·exact .inl ⟨k,oN B t I k⟩
  obtain⟨c,e⟩:=jB (n:=s.heap.objs.size+1) k;refine .inr ⟨.inl k,c,e,?_⟩;have q:=x.cell y c e;rw[oO B t I (by show scope.names.lookup y≠_;rw[k];decide)] at q;exact q
 ·exact l.hok.fresh (Yn (x.above y c (mem_of_lookup h)))
 unfold start;show _=N.length;rw[a_,b_,Zk];omega
theorem RC {CX:CXT}{P:Program}{w:World}{K:Frag}{F:Str->Option Value}{base:Heap}{k:Nat}{f:Addr}{name c:Str}{g:Arguments}{h:List Stmt}{scope:Scope}{dV kV z X d T oc:Value}{Y od:Option Addr}
  {osl:Array (Option Value)} {N ps:List Str} {sp:Sp} (lk:K.lookup f=some ⟨oc,od,.func (fnOf name c g h scope dV kV z X Y d T),osl⟩) (M:codeIn K d c=true) (S:FnScope N ps scope)
  (C:∀vs H Q E,sp vs H Q E->vs.length=ps.length)
  (l:∀(A:Around) (a:List Env) (s:Shared) (H:Hp) (vs:List V) (Q:VK) (E:XK),Room k (A.deeper (envOfC c scope s.heap.objs.size f d))->sp vs H Q E ->
   ∃t,PSs (uT CX P w K F base N c scope f d A a s H E) h t/\t { nx:=fun _ H'=>Q .non H',rt:=Q} (start N vs) H) :
  FnOk P w K F base CX (k+1) f (fnOf name c g h scope dV kV z X Y d T) ps sp:=by
 refine⟨C,fun A a s H U us vs Q E G p hb r B=>?_⟩;have hl:=C _ _ _ _ B;have R:K.In s.heap:=p.mod.kin.keeps fun b o e=>(p.bs b o e).1;have L:s.heap.NoLimit:=p.mod.nolimit.keeps fun b o e=>(p.bs b o e).1;have j:∀y∈ps.zip us,scope.names.lookup y.1=some .local\/(scope.names.lookup y.1=some .cell/\((cellsFrom (s.heap.objs.size+1) scope.names []).lookup y.1).isSome=true):=fun ⟨n,v⟩ hy=>by
  rcases S.par n (List.of_mem_zip hy).1 with q | q
  ·exact .inl q
  exact .inr ⟨q,cellsFrom_some _ _ _ (.inl q)⟩
 refine codeAny_call_function G.depth (R _ _ lk) rfl S.co S.gen rfl (PySem.W.codeRec_of R M) (hb _ _ _ _ ?_);refine wpAny_newFunctionEnv_cells S.kind j fun env he Z x=>?_;subst he;refine⟨L.keeps x.toInCall.keep,codeAny_func ?_⟩;obtain⟨t,ht,hq⟩:=l A a s H vs Q E (G.deeper _) B;have I:Inv (uT CX P w K F base N c scope f d A a s H E) [] (start N vs) H Z:=zb S G.hd p hl r x;refine Yg (ht [] Z (start N vs) H _ I hq) (fun fl s' m=>?_) fun e s' m=>m;have D:∀{i:St} {H':Hp} {v:V} {u:Value},Inv (uT CX P w K F base N c scope f d A a s H E) [] i H' s'->RelV v u->Q v H'->CE a P w H s Q u s' :=
  fun {i H' v u} J O q=>⟨v,H',J.os,J.bare,J.base,J.hok,O,q⟩
 cases fl with
 |ret u=>obtain⟨v,i,H',J,O,q⟩:=m;exact D J O q
 |next=>obtain⟨i,H',J,q⟩:=m;exact D (v:=V.non) (u:=Value.none) J rfl q
 |brk=>obtain⟨_,_,_,q⟩:=m;exact False.elim q
 |cont =>
 obtain⟨_,_,_,q⟩:=m;exact False.elim q
section
variable {X:Cx}{x:Str}{p pos:Pos}{e:Expr}{es:List Expr}{t:TA}{id T:String}{r:List V->Hp->VK->Prop}
def tCB (r:List V->Hp->VK->Prop) (t:TA):TE:=fun b H Q=>t b H fun vs a=>r vs a Q
theorem Ak (v:CallR X (.builtin id) r) (l:Gl X x) (k:X.mg x=none) (n:bootBuiltins x=some (.builtin id)) (i:PA X (e::es) t) (j:x≠"__name__":=by decide) (c:(x==("__debug__":Str))=false:=by decide)
  (f:starEach (e::es) X.env=(false,eval e X.env)::starEach es X.env:=by rfl) (b:(backTo pos (starEach es X.env)).any (·.1)=false:=by rfl):PE X (.Call (.Name x p) (e::es) [] pos) (tCB r t):=by
 intro a s d H Q I h;refine Yv (je I l k n ?_ j c);exact PyProof.Rows.callWith_builtin1 (thn (i pos a s d H _ I h) fun us g ⟨vs,u,o,m,q⟩=>v a g d u vs us Q o m q) f b
theorem zc (v:CallR X (.type T) r) (l:Gl X x) (k:X.mg x=none) (n:bootBuiltins x=some (.type T)) (i:PA X (e::es) t) (j:x≠"__name__":=by decide) (c:(x==("__debug__":Str))=false:=by decide)
  (f:starEach (e::es) X.env=(false,eval e X.env)::starEach es X.env:=by rfl) (b:(backTo pos (starEach es X.env)).any (·.1)=false:=by rfl):PE X (.Call (.Name x p) (e::es) [] pos) (tCB r t):=by
 intro a s d H Q I h;refine Yv (je I l k n ?_ j c);exact XX (thn (i pos a s d H _ I h) fun us g ⟨vs,u,o,m,q⟩=>v a g d u vs us Q o m q) f b
end
end L2
namespace HT
open PySem PyProof.Rows
section
open PySem.SeqAt
open PySem.AutoSeq1 (wpAny_loadPart')
open PySem.MeetsSeq PySem.MeetsSeq2 PySem.MeetsSeq3
variable {prog:Program}{w:World}{A:Around}{E:Value->Shared->Prop}{s:Shared}
theorem cat_tup {t b:Addr}{vs ws:List Value}{Q:Value->Shared->Prop}(x:IsTup s.heap t vs.toArray) (y:IsTup s.heap b ws.toArray) (q:vs≠[])
  (u:ws=[]->Q (.ref t) s) (v:ws≠[]->Q (.ref s.heap.objs.size) { s with heap:=s.heap.push { cls:=.type "tuple",data:=.seq (vs++ws).toArray}})
  (hsz:vs.length+ws.length<=sizeLine):wpAny (model prog w) A (binaryOp .Add (.ref t) (.ref b)) Q E s:=by
 obtain⟨⟨cls,m,data,p⟩,h,k,n,r⟩:=id x;obtain⟨⟨l,d,j,c⟩,a,f,o,g⟩:=id y;simp only at k r f g;subst k r f g;have e:vs.toArray++ws.toArray=(vs++ws).toArray:=by simp
 by_cases i:ws=[]
 ·exact concat_meets ⟨_,h,rfl⟩ ⟨_,a,rfl⟩ noFill_tuple_add seq_tuple_add PySem.F.slot_tuple_add PySem.F.entry_tuple_add (ZV _ _)
   (tuple_addW1 t b vs.toArray ws.toArray n o m d p c (by simpa using q) (by simp [i])) ⟨h,a,u i⟩
 refine concat_meets ⟨_,h,rfl⟩ ⟨_,a,rfl⟩ noFill_tuple_add seq_tuple_add PySem.F.slot_tuple_add PySem.F.entry_tuple_add (ZV _ _)
  (tuple_addW2 t b vs.toArray ws.toArray n o m d p c (by simpa using q) (by simpa using i) (by rw[n_,n_];exact hsz)) ⟨h,a,?_⟩
 rw[e];exact v i
def sIx (n d:Nat):Option Int->Nat
 |none=>d
 |some v=>if v<0 then (v+(n:Int)).toNat else min v.toNat n
theorem sIx_none (n d:Nat):sIx n d none=d:=rfl
theorem sIx_nat (n d k:Nat):sIx n d (some (k:Int))=min k n:=by
 show (if (k:Int)<0 then ((k:Int)+(n:Int)).toNat else min (k:Int).toNat n)=min k n;rw[if_neg (by omega),Zq]
theorem MT (n d:Nat) (b:d<=n) (o:Option Int):sIx n d o<=n:=by
 cases o with
 |none=>exact b
 |some v =>
  show (if v<0 then (v+(n:Int)).toNat else min v.toNat n)<=n
  by_cases a:v<0
  ·
   rw[if_pos a];omega
  ·
   rw[if_neg a];exact Nat.min_le_right _ _
theorem wD (v:Int) (n d:Nat):(if v<0 then max (v+(n:Int)) 0 else min v (n:Int))=((sIx n d (some v):Nat):Int):=by
 show (if v<0 then max (v+(n:Int)) 0 else min v (n:Int))=(((if v<0 then (v+(n:Int)).toNat else min v.toNat n):Nat):Int);by_cases a:v<0
 ·simp only[if_pos a];omega
 simp only[if_neg a];omega
theorem uU (a b:Option Int) (n:Nat):Builtin.Slice.sliceAdjust a b 1 (n:Int)=(((sIx n 0 a:Nat):Int),((sIx n n b:Nat):Int)):=by
 have c:¬((1:Int)<0):=by omega
 unfold Builtin.Slice.sliceAdjust;simp only[c,Xd];refine Prod.ext ?_ ?_
 ·cases a with
  |none=>rfl
  |some v=>exact wD v n 0
 cases b with
 |none=>rfl
 |some v=>exact wD v n n
theorem uV (i j:Nat):Builtin.Slice.slicePlaces (i:Int) (j:Int) 1=j - i:=by
 unfold Builtin.Slice.slicePlaces;have a:(1:Int)>0:=by omega
 simp only[a,if_true,Int.ediv_one];split <;> omega
theorem lL {v:Value}{o:Option Int}{Q:Option Int->Shared->Prop}(p:IsPart v o) (h:Q o s):wpAny (model prog w) A (Builtin.Slice.slicePartIndex v) Q E s:=by
 cases p with
 |none=>exact slicePart_none h
 |int i t=>exact slicePart_int h
theorem jQ {g:Addr}{f e:Value}{a c:Option Int}{n:Nat}{Q:Int × Int × Nat->Shared->Prop}(k:s.heap.IsSliceOf g f e .none) (pl:IsPart f a) (j:IsPart e c)
  (h:Q (((sIx n 0 a:Nat):Int),1,sIx n n c - sIx n 0 a) s):wpAny (model prog w) A (Builtin.Slice.sliceApplied (.ref g) (pure (n:Int))) Q E s:=by
 obtain⟨l,b,i,d⟩:=id k;unfold Builtin.Slice.sliceApplied Builtin.Slice.sliceFields;refine h_ (h_ (wpAny_field b d (x:=f) rfl (h_ (wpAny_field b d (x:=e) rfl (h_ (wpAny_field b d (x:=.none) rfl (C_ ?_)))))));refine h_ (slicePart_none ?_);show wpAny _ _ (if ((1:Int)==0)=true then _ else _) _ _ s;rw[if_neg (by decide)];refine h_ (lL pl (h_ (lL j (h_ (C_ ?_)))));show wpAny _ _ (match Builtin.Slice.sliceAdjust a c 1 (n:Int) with | (a,c)=>pure (a,(1:Int),Builtin.Slice.slicePlaces a c 1)) _ _ s;rw[uU a c n];show wpAny _ _ (pure (((sIx n 0 a:Nat):Int),(1:Int),Builtin.Slice.slicePlaces ((sIx n 0 a:Nat):Int) ((sIx n n c:Nat):Int) 1)) _ _ s;rw[uV];exact C_ h
theorem Al (xs : Array Value) (i k : Nat) : ((List.range k).filterMap fun (m : Nat) => xs[((i : Int) + (m : Int) * 1).toNat]?).toArray = ((xs.toList.drop i).take k).toArray:=by
 have e:(fun (m:Nat)=>xs[((i:Int)+(m:Int)*1).toNat]?)=fun m=>xs[i+m]?:=by
  funext m;have:((i:Int)+(m:Int)*1).toNat=i+m:=by omega
  rw[this]
 rw [e];have:=pick_run xs i k;rw [List.filterMap_map] at this;have a : ((fun x => xs[x]?) ∘ fun x => i + x) = fun m => xs[i + m]?:=rfl;rw [a] at this;rw [this]
theorem getItem_tuple_cut {t j:Addr}{a:Array Value}{o l:Value}{c d:Option Int}{Q:Value->Shared->Prop}(e:IsTup s.heap t a) (n:s.heap.IsSliceOf j o l .none) (pl:IsPart o c) (r:IsPart l d)
  (u:¬(sIx a.size 0 c=0/\sIx a.size a.size d=a.size))
  (h:Q (.ref s.heap.objs.size) { s with heap:=s.heap.push { cls:=.type "tuple",data:=.seq ((a.toList.drop (sIx a.size 0 c)).take (sIx a.size a.size d - sIx a.size 0 c)).toArray}})
  (hsz:a.size<=sizeLine):wpAny (model prog w) A (getItem (.ref t) (.ref j)) Q E s:=by
 have b:sizeOk (.seq ((a.toList.drop (sIx a.size 0 c)).take (sIx a.size a.size d - sIx a.size 0 c)).toArray):=by show ((a.toList.drop (sIx a.size 0 c)).take (sIx a.size a.size d - sIx a.size 0 c)).toArray.size<=sizeLine;rw[n_,Xc,Xe,P_];omega
 have x:sIx a.size a.size d<=a.size:=MT _ _ (j_ _) d;obtain⟨p,f,g,v⟩:=id n;have i:s.TypeIs (.ref j) "slice":=⟨p,f,g⟩;unfold getItem;try with_reducible refine Zi ?_
 first | refine h_ (C_ ?_) | skip
 refine h_ (wpAny_sequenceKey e.typeIs (by decide) ?_);refine h_ (wpAny_callSpecial?_slot (name:=Str.ofString "__getitem__") e.typeIs Y0
  (ZL Y0 e.typeIs entry_tuple_getitem ?_ (args_tuple_getitem _ _)))
 show wpAny _ _ (Builtin.Tuple.tupleItemsOf (.ref t) >>= _) _ _ s;refine h_ (tupleItemsOf_ e ?_);refine h_ (wpAny_typeOf i ?_);rw[if_pos (by decide)];refine h_ (jQ n pl r ?_);have k:¬((((sIx a.size 0 c:Nat):Int)==0&&(1:Int)==1&&(sIx a.size a.size d - sIx a.size 0 c)==a.size)=true):=by intro q;rw[Xm,Xm] at q;have z:((sIx a.size 0 c:Nat):Int)=0:=eq_of_beq q.1.1;have y:sIx a.size a.size d - sIx a.size 0 c=a.size:=eq_of_beq q.2;exact u ⟨by omega,by omega⟩
 show wpAny _ _ (if (((sIx a.size 0 c:Nat):Int)==0&&(1:Int)==1&&(sIx a.size a.size d - sIx a.size 0 c)==a.size)=true then _ else _) _ _ s;rw[if_neg k,Al];first
  |exact h_ (m:=Builtin.Tuple.tupleExact _) (Zr (C_ ⟨_,rfl,C_ h⟩) b)
  |exact h_ (m:=Builtin.Tuple.tupleExact _) (Zr (h_ (C_ (C_ ⟨_,rfl,C_ h⟩))) b)
  |exact h_ (h_ (m:=Builtin.Tuple.tupleExact _) (Zr (C_ (C_ ⟨_,rfl,C_ h⟩)) b))
  |exact h_ (h_ (m:=Builtin.Tuple.tupleExact _) (Zr (C_ ⟨_,rfl,C_ h⟩) b))
end
end HT
namespace L2
abbrev TO:=St->Hp->(Option Int->Hp->Prop)->Prop
def PO (X:Cx) (e:Option Expr) (t:TO):Prop :=
 ∀(a:List (Addr × Obj)) (s:Shared) (b:St) (H:Hp) (Q:Option Int->Hp->Prop),Inv X a b H s->t b H Q ->
  wpAny (model X.prog X.w) X.A (evalPart e X.env) (fun u s'=>∃o H',Inv X a b H' s'/\IsPart u o/\Q o H') X.xe s
def Gm:TO:=fun _ H Q=>Q none H
def RD (t:TE):TO:=fun b H Q=>t b H fun x a=>∃i,x=.int i/\Q (some i) a
section
variable {X:Cx}{e:Expr}{te:TE}{lo hi:Option Expr}{tl th:TO}{pos p2:Pos}
theorem Gn:PO X none Gm:=by
 intro a s b H Q I h;rw[evalPart_none];exact C_ ⟨none,H,I,.none,h⟩
theorem Gp (h:PE X e te):PO X (some e) (RD te):=by
 intro a s c H Q I f;rw[evalPart_some];refine thn (h a s c H _ I f) fun u k ⟨x,j,d,b,g⟩=>?_;obtain⟨i,rfl,q⟩:=g;obtain⟨t,rfl⟩:=b;exact⟨some i,j,d,.int i t,q⟩
def SlR (X:Cx) (r:V->Option Int->Option Int->Hp->VK->Prop):Prop :=
 ∀(a:List (Addr × Obj)) (s:Shared) (f:St) (H:Hp) (x:V) (v e c:Value) (g d:Option Int) (b:Addr) (Q:VK),Inv X a f H s->RelV x v->s.heap.IsSliceOf b e c .none->IsPart e g->IsPart c d->r x g d H Q ->
  ∃T h,typeLookup (.type T) "__getitem__"=pure (some (.builtin h))/\s.TypeIs v T/\wpAny (model X.prog X.w) X.A (getItem v (.ref b)) (EP X a f Q) X.xe s
theorem SlR.or {r j:V->Option Int->Option Int->Hp->VK->Prop}(h:SlR X r) (h':SlR X j):SlR X (fun x b c H Q=>r x b c H Q\/j x b c H Q):=by
 intro a s i H x v g e b c d Q I f l pl k q;rcases q with q | q
 ·exact h a s i H x v g e b c d Q I f l pl k q
 exact h' a s i H x v g e b c d Q I f l pl k q
def tSl (r:V->Option Int->Option Int->Hp->VK->Prop) (te:TE) (b d:TO):TE:=fun a H Q=>te a H fun x e=>b a e fun l c=>d a c fun u H3=>r x l u H3 Q
theorem Am {r:V->Option Int->Option Int->Hp->VK->Prop}(j:SlR X r) (p:PE X e te) (y:PO X lo tl) (g:PO X hi th):PE X (.Subscript e (.Slice lo hi none p2) pos) (tSl r te tl th):=by
 intro a s c H Q I h;refine Subscript_ (thn (p a s c H _ I h) fun v E ⟨x,o,L,n,C⟩=>?_);refine wpAny_Slice (thn (y a E c o _ L C) fun f t ⟨l,K,G,pl,z⟩=>thn (g a t c K _ G z) fun d s3 ⟨u,H3,D,k,J⟩=>?_);rw[evalPart_none];refine C_ ?_;have i:Inv X a c H3 { s3 with heap:=s3.heap.push { cls:=.type "slice",data:=.fields #[f,d,.none]}}:=D.kept (t':=s3.toks) fun b M q=>l_ _ q;obtain⟨T,N,B,F,m⟩:=j a { s3 with heap:=s3.heap.push { cls:=.type "slice",data:=.fields #[f,d,.none]}} c H3 x v f d l u s3.heap.objs.size Q i n (Heap.IsSliceOf.new ..) pl k J;show wpAny (model X.prog X.w) X.A (subscriptTail e (.Slice lo hi none p2) v (.ref s3.heap.objs.size)) (EP X a c Q) X.xe { s3 with heap:=s3.heap.push { cls:=.type "slice",data:=.fields #[f,d,.none]}};exact tail_any (ops:=[.ref s3.heap.objs.size,v]) F B m (by with_unfolding_all rfl)
def rO (xs:List V) (a b:Option Int):List V:=(xs.drop (HT.sIx xs.length 0 a)).take (HT.sIx xs.length xs.length b - HT.sIx xs.length 0 a)
theorem j4 (xs:List V) (a b:Option Int):(rO xs a b).length<=xs.length:=by
 unfold rO;rw[Xc,Xe];omega
def V7 (K:Frag):V->Option Int->Option Int->Hp->VK->Prop:=fun x b c H Q=>∃a xs,x=.ref a/\SqT K H a xs /\
 ¬(HT.sIx xs.length 0 b=0/\HT.sIx xs.length xs.length c=xs.length)/\∀p,H p=none->Q (.ref p) (upd H p (.tup (rO xs b c)))
theorem sl_tup:SlR X (V7 X.K):=by
 intro g s z H x v y u d e t Q I k p pl n h;obtain⟨a,xs,rfl,m,l,q⟩:=h;cases k;obtain⟨f,r,i,j⟩:=I.tuple m;have c:f.toArray.size=xs.length:=by rw[n_];exact r.length.symm
 refine⟨"tuple",_,Y0.lookup,i.typeIs,?_⟩;refine HT.getItem_tuple_cut i p pl n (by rw[c];exact l) ?_ (by rw[c];exact j);rw[c];refine⟨.ref s.heap.objs.size,_,I.laid (t':=s.toks) (o:=.tup (rO xs d e)) (fun b w q=>l_ _ q) (j_ _) ?_,rfl,q _ (I.hok.fresh (j_ _))⟩;exact⟨W6 (j4 xs d e) j,_,(r.drop (HT.sIx xs.length 0 d)).take (HT.sIx xs.length xs.length e - HT.sIx xs.length 0 d),Tup0.new _ _⟩
def RJ (K:Frag):R2:=fun x y H Q=>∃a b xs c,x=.ref a/\y=.ref b/\SqT K H a xs/\SqT K H b c/\xs≠[]/\xs.length+c.length<=sizeLine /\
 (c=[]->Q (.ref a) H)/\(c≠[]->∀p,H p=none->Q (.ref p) (upd H p (.tup (xs++c))))
theorem Vals.nil_iff {xs:List V}{us:List Value}(r:Vals xs us):us=[]↔xs=[]:=by
 cases r with
 |nil=>simp
 |cons _ _=>simp
theorem op_catT:OpR X (binaryOp .Add) (RJ X.K):=by
 intro e s D H x y v u Q I j B h;obtain⟨a,b,xs,n,rfl,rfl,i,r,A,g,t,l⟩:=h;cases j;cases B;obtain⟨m,d,k,_⟩:=I.tuple i;obtain⟨f,c,p,_⟩:=I.tuple r;refine HT.cat_tup k p (fun z=>A (d.nil_iff.mp z)) (fun z=>⟨.ref a,H,I,rfl,t (c.nil_iff.mp z)⟩) (fun z=>?_) (by rw[<- d.length,<- c.length];exact g);refine⟨.ref s.heap.objs.size,_,I.laid (t':=s.toks) (o:=.tup (xs++n)) (fun b C q=>l_ _ q) (j_ _) ?_,rfl,l (fun w=>z (c.nil_iff.mpr w)) _ (I.hok.fresh (j_ _))⟩;exact⟨by rw[a_];exact g,_,d.append c,Tup0.new _ _⟩
end
def ixN (n:Nat) (i:Int):Option Nat:=if 0<=i then (if i<n then some i.toNat else none) else if -(n:Int)<=i then some (i+n).toNat else none
def atI {a:Type}(xs:List a) (i:Int):Option a:=(ixN xs.length i).bind fun j=>xs[j]?
theorem qb {n:Nat}{i:Int}{j:Nat}(h:ixN n i=some j):seqIndex? i n=some j/\j<n /\ -(n:Int)<=i/\i<n:=by
 unfold ixN at h;by_cases b:0<=i
 ·rw[if_pos b] at h;by_cases a:i<n
  ·rw[if_pos a] at h;have e:i.toNat=j:=Q_ h;exact⟨by rw[seqIndex_of b a,e],by omega,by omega,a⟩
  rw[if_neg a] at h;cases h
 rw[if_neg b] at h;by_cases a : -(n:Int)<=i
 ·rw[if_pos a] at h;have e:(i+n).toNat=j:=Q_ h;exact⟨by rw[seqIndex_neg (by omega) a,e],by omega,a,by omega⟩
 rw[if_neg a] at h;cases h
theorem qd {a:Type}{xs:List a}{i:Int}{v:a}(h:atI xs i=some v):∃j,seqIndex? i xs.length=some j/\xs[j]?=some v/\j<xs.length /\ -(xs.length:Int)<=i/\i<xs.length:=by
 unfold atI at h;cases e:ixN xs.length i with
 |none=>rw[e] at h;cases h
 |some j =>
 rw[e] at h;obtain⟨f,c,b,d⟩:=qb e;exact⟨j,f,h,c,b,d⟩
theorem bN {a:Type}{xs:List a}{j:Nat}{v:a}(h:xs[j]?=some v):atI xs (j:Int)=some v:=by
 have b:j<xs.length:=(Yc.mp h).1;have e:ixN xs.length (j:Int)=some j:=by unfold ixN;rw[if_pos (by omega),if_pos (by omega)];simp
 unfold atI;rw[e];exact h
theorem An {a:Type}(xs:List a) (v:a):atI (xs++[v]) (-1)=some v:=by
 have b:(xs++[v]).length=xs.length+1:=by simp
 have e:ixN (xs++[v]).length (-1)=some xs.length:=by unfold ixN;rw[b,if_neg (by decide),if_pos (by omega)];congr 1;omega
 unfold atI;rw[e];show (xs++[v])[xs.length]?=some v;simp
def wF (b:Expr):Prop:=∀o i,subscripted b false o i=operate [o,i] (getItem o i)
def IxR (X:Cx) (r:R2):Prop :=
 ∀(c a:Expr) (b:List (Addr × Obj)) (s:Shared) (d:St) (H:Hp) (x y:V) (v u:Value) (Q:VK),Inv X b d H s->RelV x v->RelV y u->r x y H Q ->
  subscripted a false v u=operate [v,u] (getItem v u)->wpAny (model X.prog X.w) X.A (subscriptTail c a v u) (EP X b d Q) X.xe s
def MtR (X:Cx) (c:String) (r:V->List V->Hp->VK->Prop):Prop :=
 ∀(a:List (Addr × Obj)) (s:Shared) (b:St) (H:Hp) (x:V) (xs:List V) (v:Value) (us:List Value) (Q:VK),Inv X a b H s->RelV x v->Vals xs us->r x xs H Q ->
  wpAny (model X.prog X.w) X.A (call (.builtin c) (v::us)) (EP X a b Q) X.xe s
section
variable {X:Cx}{a b:Expr}{ta tb:TE}{pos:Pos}
theorem IxR.or {r f:R2}(h:IxR X r) (h':IxR X f):IxR X (fun x y H Q=>r x y H Q\/f x y H Q):=by
 intro b a c s e H x y v u Q I d g q i;rcases q with q | q
 ·exact h b a c s e H x y v u Q I d g q i
 exact h' b a c s e H x y v u Q I d g q i
theorem RK {r:R2}(l:IxR X r) (f:PE X a ta) (k:PE X b tb) (n:wF b):PE X (.Subscript a b pos) (tOp r ta tb):=by
 intro c s j H Q I h;exact Subscript_ (Mp f k I h fun v u d x y i e g m q=>l a b c d j i x y v u Q e g m q (n _ _))
def RL (K:Frag):R2:=fun x y H Q=>∃p xs i v,x=.ref p/\y=.int i/\SqL K H p xs/\atI xs i=some v/\Q v H
def RM (K:Frag):R2:=fun x y H Q=>∃p xs i v,x=.ref p/\y=.int i/\SqT K H p xs/\atI xs i=some v/\Q v H
def RN:R2:=fun x y H Q=>∃z i c,x=.str z/\y=.int i/\z.length<=sizeLine/\atI z.cps.toList i=some c/\Q (.str ⟨#[c]⟩) H
theorem ix_list:IxR X (RL X.K):=by
 intro f e a s o H x y v u Q I J B h m;obtain⟨p,xs,i,z,rfl,rfl,A,E,q⟩:=h;cases J;obtain⟨t,rfl⟩:=B;obtain⟨g,r,pl,N⟩:=I.list A;obtain⟨j,c,D,L,G,C⟩:=qd E;obtain⟨w,n,k⟩:=r.get D;have F:=r.length;have M:=jg;have b:EP X a o Q w s:=⟨z,H,I,k,q⟩;by_cases l:0<=i
 ·have d:i.toNat=j:=by rw[seqIndex_of l C] at c;exact Q_ c
  exact item_listR pl.isList l (by omega) (by rw[d];simpa using n) b m
 have d:(i+(g.toArray.size:Int)).toNat=j:=by rw[seqIndex_neg (by omega) G] at c;rw[n_,<- F];exact Q_ c
 exact subscriptTail_builtinR (x:=w) pl.isList.typeIs slot_list_getitem.lookup
  (wpAny_getItem_list_neg (Q:=fun r s'=>r=w/\EP X a o Q r s') pl.isList (by omega) (by rw[n_] <;> omega) (by omega) (by rw[d];simpa using n) ⟨rfl,b⟩) m
theorem ix_tup:IxR X (RM X.K):=by
 intro c b a s f H x y v u Q I C l h n;obtain⟨p,xs,i,z,rfl,rfl,g,o,q⟩:=h;cases C;obtain⟨t,rfl⟩:=l;obtain⟨D,r,pl,L⟩:=I.tuple g;obtain⟨j,k,m,F,J,E⟩:=qd o;obtain⟨w,B,e⟩:=r.get m;have A:=r.length;have G:=jg;have d:EP X a f Q w s:=⟨z,H,I,e,q⟩;exact subscriptTail_builtinR (x:=w) pl.typeIs slot_tuple_getitem.lookup
  (getItem_tuple (j:=j) (Q:=fun r s'=>r=w/\EP X a f Q r s') pl (by omega) (by omega) (by rw[n_,<- A];exact k) (by simpa using B) ⟨rfl,d⟩) n
theorem M3:IxR X RN:=by
 intro b a d s C H x y v u Q I l p h r;obtain⟨z,i,c,rfl,rfl,D,f,q⟩:=h;obtain⟨t,rfl⟩:=l;obtain⟨t',rfl⟩:=p;obtain⟨j,e,k,A,m,w⟩:=qd f;have g:z.cps.toList.length=z.length:=by simp [Str.length]
 rw[g] at e m w;have B:=jg;exact tail_any (typeIs_str s z t) slot_str_getitem.lookup (getItem_str (c:=c) (by
  have o:decide (i < -(2^63:Int))=false:=p_ (by omega)
  have n:decide (i ≥ 2^63)=false:=p_ (by omega)
  rw[o,n,Bool.or_false]) (by rw[e];simpa using k) ⟨.str ⟨#[c]⟩,H,I.tok _,⟨_,rfl⟩,q⟩) r
def rIx (K:Frag):R2:=fun x y H Q=>RL K x y H Q\/RM K x y H Q\/RN x y H Q
theorem M4:IxR X (rIx X.K):=ix_list.or (ix_tup.or M3)
theorem uW (a:List Value) (n j:Nat) (u:Value):Obj.mapSeq (·.setIfInBounds j u) { cls:=.type "list",data:=.seq a.toArray n}={ cls:=.type "list",data:=.seq (a.set j u).toArray n}:=by
 simp [Obj.mapSeq]
theorem Inv.lst {b:List (Addr × Obj)}{c:St}{H:Hp}{s:Shared}{p:Addr}{xs:List V}(I:Inv X b c H s) (h:H p=some (.lst xs)) :
  ∃(a:List Value) (n:Nat),Vals xs a/\s.heap.get? p=some { cls:=.type "list",data:=.seq a.toArray n}/\xs.length<=sizeLine:=by
 obtain⟨z,a,n,r,e⟩:=I.hok p _ h;exact⟨a,n,r,e,z⟩
theorem Inv.lstUpd {a:List (Addr × Obj)}{i:St}{H:Hp}{s:Shared}{p:Addr}{xs g:List V}{c its':List Value}{n d:Nat}{f:Obj->Obj}(I:Inv X a i H s) (h:H p=some (.lst xs))
  (l:s.heap.get? p=some { cls:=.type "list",data:=.seq c.toArray n}) (j:f { cls:=.type "list",data:=.seq c.toArray n}={ cls:=.type "list",data:=.seq its'.toArray d}) (r:Vals g its') (m:g.length<=sizeLine) (t:Nat) :
  Inv X a i (upd H p (.lst g)) { s with heap:=s.heap.update p f,toks:=t}:=by
 have e:(s.heap.update p f).get? p=some { cls:=.type "list",data:=.seq its'.toArray d}:=by rw[Heap.get?_update_self f l (by rw[j] <;> rfl),j]
 refine I.write (x:=p) (e:=p) (by rw[h];trivial) (.inl rfl) (fun b u k q=>(Heap.get?_update_other _ _ (Ne.symm k)).trans q) ⟨_,e⟩ ?_;exact⟨m,its',d,r,e⟩
def RP:V->V->V->Hp->(Hp->Prop)->Prop:=fun o i v H Q=>∃p xs k j,o=.ref p/\i=.int k/\H p=some (.lst xs)/\ixN xs.length k=some j/\Q (upd H p (.lst (xs.set j v)))
theorem set_list:PSet X RP:=by
 intro a s A H o i v F J u Q I z B D h;obtain⟨p,xs,k,j,rfl,rfl,w,y,q⟩:=h;cases z;obtain⟨t,rfl⟩:=B;obtain⟨b,n,r,f,C⟩:=I.lst w;obtain⟨c,E,l,x⟩:=qb y;have e:=r.length;have G:=jg;have m:Inv X a A (upd H p (.lst (xs.set j v))) { s with heap:=s.heap.update p (Obj.mapSeq (·.setIfInBounds j u))} :=
  I.lstUpd w f (uW b n j u) (r.set D j) (by rw[List.length_set];exact C) s.toks
 by_cases g:0<=k
 ·have d:k.toNat=j:=by rw[seqIndex_of g x] at c;exact Q_ c
  exact PySem.W.ki_setAt f g (by omega) (by rw[n_,<- e];exact x) (by rw[d];exact⟨_,m,q⟩)
 have d:(k+(b.toArray.size:Int)).toNat=j:=by rw[seqIndex_neg (by omega) l] at c;rw[n_,<- e];exact Q_ c
 exact PySem.W.ki_setBack f (by omega) (by rw[n_,<- e];exact l) (by omega) (by rw[d];exact⟨_,m,q⟩)
theorem qe (a b:Option Int) (n:Nat):(sliceBounds a b none n).1=((HT.sIx n 0 a:Nat):Int)/\(sliceBounds a b none n).2.1=((HT.sIx n n b:Nat):Int)/\(sliceBounds a b none n).2.2=1:=by
 refine⟨?_,?_,rfl⟩
 ·cases a with
  |none=>simp [sliceBounds,HT.sIx]
  |some i =>
  simp only[sliceBounds,HT.sIx,Option.getD_none,show (1:Int)>0 by decide,if_true];by_cases h:i<0
  ·simp only[h,if_true] <;> omega
  simp only[h,Xd] <;> omega
 cases b with
 |none=>simp [sliceBounds,HT.sIx]
 |some i =>
 simp only[sliceBounds,HT.sIx,Option.getD_none,show (1:Int)>0 by decide,if_true];by_cases h:i<0
 ·simp only[h,if_true] <;> omega
 simp only[h,Xd] <;> omega
theorem nR (a:List Value) (b c:Option Int):slicePick a.toArray b c none=((a.drop (HT.sIx a.length 0 b)).take (HT.sIx a.length a.length c - HT.sIx a.length 0 b)).toArray:=by
 obtain⟨f,e,d⟩:=qe b c a.toArray.size;unfold slicePick;rw[f,e,d];simp only[sliceRange_one,pick_run,n_] <;> rfl
def V8 (K:Frag):V->Option Int->Option Int->Hp->VK->Prop:=fun x b c H Q=>∃a xs,x=.ref a/\SqL K H a xs/\∀p,H p=none->Q (.ref p) (upd H p (.lst (rO xs b c)))
theorem sl_list:SlR X (V8 X.K):=by
 intro f s y H x v w t d e p Q I i n pl m h;obtain⟨a,xs,rfl,l,q⟩:=h;cases i;obtain⟨j,r,g,k⟩:=I.list l;have c:=r.length;refine⟨"list",_,slot_list_getitem.lookup,g.isList.typeIs,?_⟩;refine wpAny_getItem_list_slice g.isList n pl m .none (by simp) ?_ (by rw[n_] <;> omega);rw[nR,<- c];refine⟨.ref s.heap.objs.size,_,I.laid (t':=s.toks) (o:=.lst (rO xs d e)) (fun b u q=>l_ _ q) (j_ _) ?_,rfl,q _ (I.hok.fresh (j_ _))⟩;exact⟨W6 (j4 xs d e) k,_,0,(r.drop (HT.sIx xs.length 0 d)).take (HT.sIx xs.length xs.length e - HT.sIx xs.length 0 d),V_ _ rfl⟩
theorem call_len_seq:CallR X (.builtin "len") (fun xs H Q=>∃p b,xs=[.ref p]/\(SqL X.K H p b\/SqT X.K H p b)/\Q (.int b.length) H):=by
 intro f s k H xs us Q I r h;obtain⟨p,b,rfl,c,q⟩:=h;obtain⟨u,rfl,g⟩:=vals1 r;cases g;have j:=jg;rcases c with c | c
 ·obtain⟨d,e,pl,i⟩:=I.list c;have a:=e.length;exact Calls.call_len_list pl.isList (by simp only[n_] <;> omega) ⟨.int b.length,H,I.tok _,⟨s.toks+1,by rw[n_,a]⟩,q⟩
 obtain⟨d,e,pl,i⟩:=I.tuple c;have a:=e.length;exact len_tuple pl (by simp only[n_] <;> omega) ⟨.int b.length,H,I.tok _,⟨s.toks+1,by rw[n_,a]⟩,q⟩
theorem qg:CallR X (.builtin "len") (fun xs H Q=>∃z,xs=[.str z]/\z.length<=sizeLine/\Q (.int z.length) H):=by
 intro a s c H xs us Q I r h;obtain⟨z,rfl,b,q⟩:=h;obtain⟨u,rfl,t,rfl⟩:=vals1 r;have d:=jg;exact len_str (by omega) ⟨.int z.length,H,I.tok _,⟨_,rfl⟩,q⟩
theorem CallR.or {f:Value}{r d:List V->Hp->VK->Prop}(h:CallR X f r) (h':CallR X f d):CallR X f (fun xs H Q=>r xs H Q\/d xs H Q):=by
 intro a s c H xs us Q I b q;rcases q with q | q
 ·exact h a s c H xs us Q I b q
 exact h' a s c H xs us Q I b q
theorem qi:CallR X (.type "list") (fun xs H Q=>∃p f,xs=[.ref p]/\(SqL X.K H p f\/SqT X.K H p f)/\∀l,H l=none->Q (.ref l) (upd H l (.lst f))):=by
 intro g s B H xs us Q I r h;obtain⟨p,f,rfl,i,q⟩:=h;obtain⟨u,rfl,A⟩:=vals1 r;cases A;have j:∀(a:List Value),Vals f a->f.length<=sizeLine->∀(h':Heap) (c:Nat),(∀b z,s.heap.get? b=some z->h'.get? b=some z) ->
   h'.get? s.heap.objs.size=some { cls:=.type "list",dict:=none,data:=.seq a.toArray c,slots:=#[]}->EP X g B Q (.ref s.heap.objs.size) { s with heap:=h'}:=fun a d k h' c m e =>
  ⟨.ref s.heap.objs.size,_,I.laid (t':=s.toks) m (j_ _) (show ObjOk X.prog X.w _ h' _ (.lst f) from ⟨k,a,c,d,e⟩),rfl,q _ (I.hok.fresh (j_ _))⟩
 rcases i with i | i
 ·obtain⟨a,d,pl,k⟩:=I.list i;have t:=d.length;obtain⟨o,x,y,n,v⟩:=pl.isList;exact call_list_seq p (.inl rfl) x y v (fun h' c m e=>j a d k h' c m e) (by simp only[n_] <;> omega)
 obtain⟨a,d,pl,k⟩:=I.tuple i;have t:=d.length;obtain⟨o,x,y,n,v⟩:=pl;exact call_list_seq p (.inr rfl) x y v (fun h' c m e=>j a d k h' c m e) (by simp only[n_] <;> omega)
theorem nT:CallR X (.type "tuple") (fun xs H Q=>∃p d,xs=[.ref p]/\((SqL X.K H p d/\∀l,H l=none->Q (.ref l) (upd H l (.tup d)))\/(SqT X.K H p d/\Q (.ref p) H))):=by
 intro a s i H xs us Q I r h;obtain⟨p,d,rfl,h⟩:=h;obtain⟨u,rfl,t⟩:=vals1 r;cases t;rcases h with ⟨f,q⟩ | ⟨f,q⟩
 ·obtain⟨c,g,pl,k⟩:=I.list f;have m:=g.length;refine call_tuple_list pl.isList (fun h' v=>?_) (by simp only[n_] <;> omega);have j:Inv X a i H { s with heap:=h'}:=I.kept (t':=s.toks) v;have n:Inv X a i (upd H h'.objs.size (.tup d)) { s with heap:=h'.push { cls:=.type "tuple",data:=.seq c.toArray}} :=
   j.laid (t':=s.toks) (fun b o e=>l_ _ e) (j_ _) (show ObjOk X.prog X.w _ _ _ (.tup d) from ⟨k,c,g,Tup0.new _ _⟩)
  exact⟨.ref h'.objs.size,_,n,rfl,q _ (j.hok.fresh (j_ _))⟩
 obtain⟨c,g,pl,k⟩:=I.tuple f;exact call_tuple_same pl ⟨.ref p,H,I,rfl,q⟩
def tyV (K:Frag) (T:String) (x:V) (H:Hp):Prop:=match x with
 |.str _=>T="str"
 |.int _=>T="int"
 |.ref p=>(T="list"/\∃xs,SqL K H p xs)\/(T="tuple"/\∃xs,SqT K H p xs) \/
   (T="dict"/\((∃kvs,H p=some (.dK kvs))\/∃kvs,H p=some (.dT kvs)))\/(T="set"/\∃S n,H p=some (.set S n))
 |_=>False
theorem Ao {f:List (Addr × Obj)}{y:St}{H:Hp}{s:Shared}{T:String}{x:V}{v:Value}(I:Inv X f y H s) (r:RelV x v) (j:tyV X.K T x H) :
  s.TypeIs v T/\∀a,v=.ref a->∃m,s.heap.get? a=some m/\m.dict=none:=by
 cases x with
 |str z=>obtain⟨t,rfl⟩:=r;cases (show T="str" from j);exact⟨typeIs_str s z t,fun _ e=>nomatch e⟩
 |int i=>obtain⟨t,rfl⟩:=r;cases (show T="int" from j);exact⟨typeIs_int s i t,fun _ e=>nomatch e⟩
 |ref p =>
  cases r;rcases j with ⟨rfl,xs,u⟩ | ⟨rfl,xs,b⟩ | ⟨rfl,b⟩ | ⟨rfl,S,n,b⟩
  ·obtain⟨g,_,pl,_⟩:=I.list u;refine⟨pl.isList.typeIs,fun a e=>?_⟩;cases e;obtain⟨o,n,e,c,h,_⟩:=pl;exact⟨o,e,h⟩
  ·rcases b with b | ⟨o,g,n,b,l,h,_⟩
   ·obtain⟨_,g,r,o,q,l,n,h,w⟩:=b.ok I.hok;refine⟨⟨o,q,l⟩,fun a e=>?_⟩;cases e;exact⟨o,q,w⟩
   refine⟨⟨o,I.kIn p o b,l⟩,fun a e=>?_⟩;cases e;exact⟨o,I.kIn _ o b,h⟩
  ·have z:∃o,s.heap.get? p=some o/\o.ExactDict:=by
    rcases b with ⟨kvs,b⟩ | ⟨kvs,b⟩
    ·obtain⟨_,_,_,_,o,_,_,e,d,_⟩:=I.hok p _ b;exact⟨o,e,d⟩
    obtain⟨_,_,_,_,o,_,_,e,d,_⟩:=I.hok p _ b;exact⟨o,e,d⟩
   obtain⟨o,e,d⟩:=z;refine⟨⟨o,e,d.1⟩,fun a k=>?_⟩;cases k;exact⟨o,e,d.2.1⟩
  obtain⟨o,_,_,_,e,d,_⟩:=I.hok p _ b;refine⟨⟨o,e,d.1⟩,fun a k=>?_⟩;cases k;exact⟨o,e,d.2.1⟩
 |_=>exact False.elim j
def V9 (K:Frag) (T:String) (r:V->List V->Hp->VK->Prop) (b:TE):TE:=fun c H Q=>b c H fun x a=>tyV K T x a/\r x [] a Q
def tBM (K:Frag) (T:String) (r:V->List V->Hp->VK->Prop) (c:TE) (t:TA):TE:=fun b H Q=>c b H fun x a=>tyV K T x a/\t b a fun xs d=>r x xs d Q
variable {o e:Expr}{es:List Expr}{to:TE}{t:TA}{name:Str}{apos cpos:Pos}{T id:String}{r:V->List V->Hp->VK->Prop}
theorem M5 (n:PlainAttrs T) (d:Slot T name id) (e:typeOf (.builtin id)=pure (.type "method_descriptor")) (l:MtR X id r) (p:PE X o to)
  (b:attributeBase o name X.env (eval o X.env)=eval o X.env:=by rfl) (c:(apos.endLine==cpos.line)=true:=by rfl):PE X (.Call (.Attribute o name apos) [] [] cpos) (V9 X.K T r to):=by
 intro a s g H Q I h;refine wpAny_Call_method0_late b c (thn (p a s g H _ I h) fun v j ⟨x,u,i,f,q,t⟩=>?_);obtain⟨m,k⟩:=Ao i f q;exact⟨T,id,n,d,e,m,k,Ze rfl (PySem.evalArgs_none (l a j g u x [] v [] Q i f .nil t))⟩
theorem RQ (J:PlainAttrs T) (g:Slot T name id) (j:typeOf (.builtin id)=pure (.type "method_descriptor")) (w:MtR X id r) (L:PE X o to) (u:PA X (e::es) t)
  (d:attributeBase o name X.env (eval o X.env)=eval o X.env:=by rfl)
  (f:((backTo cpos (starEach (e::es) X.env)).all (fun x=>!x.1)&&(backToKw cpos (keywordEach [] X.env)).all (fun x=>x.1.isSome)
   && decide ((e::es).length+([]:List Keyword).length+(if ([]:List Keyword).isEmpty then 0 else 1)<30))=true:=by rfl)
  (c:(apos.endLine==cpos.line)=true:=by rfl) (z:starEach (e::es) X.env=(false,eval e X.env)::starEach es X.env:=by rfl) (b:(backTo cpos (starEach es X.env)).any (·.1)=false:=by rfl) :
  PE X (.Call (.Attribute o name apos) (e::es) [] cpos) (tBM X.K T r to t):=by
 intro a s i H Q I h;refine wpAny_Call_method_late d f c rfl (thn (L a s i H _ I h) fun v E ⟨x,y,m,k,p,C⟩=>?_);obtain⟨n,q⟩:=Ao m k p;refine⟨T,id,J,g,j,n,q,?_⟩;have l:=u cpos a E i y _ m C;rw[z] at l ⊢;refine Ze (by show (false||(backTo cpos (starEach es X.env)).any (·.1))=false;rw[b] <;> rfl) (Calls.evalArgs_plain ?_);exact thn l fun us A ⟨vs,G,F,D,B⟩=>w a A i G x vs v us Q F k D B
/- xs.append(e),list.index on a module's tuple .. are MtR facts of 06m -/
end
def MtM (X:Cx) (c:String) (r:V->List V->Hp->VK->Prop):Prop :=
 ∀(a:List (Addr × Obj)) (s:Shared) (b:St) (H:Hp) (x:V) (xs:List V) (v:Value) (us:List Value) (Q:VK),Inv X a b H s->RelV x v->Vals xs us->r x xs H Q ->
  wpAny (model X.prog X.w) X.A (call (.builtin c) (v::us)) (EP X a b Q) X.xe s
theorem Vals.one {x:V}{us:List Value}(r:Vals [x] us):∃u,us=[u]/\RelV x u:=vals1 r
theorem Vals.zero:∀{us:List Value},Vals [] us->us=[]
 |_,.nil=>rfl
theorem Vals.dropLast {xs:List V}{us:List Value}(h:Vals xs us):Vals xs.dropLast us.dropLast:=by
 induction h with
 |nil=>exact .nil
 |cons r t a =>
 cases t with
 |nil=>exact .nil
 |cons q t'=>exact .cons r a
theorem Vals.eraseIdx:∀{xs:List V}{us:List Value}(i:Nat),Vals xs us->Vals (xs.eraseIdx i) (us.eraseIdx i)
 |_,_,_,.nil=>.nil
 |_,_,0,.cons _ t=>t
 |_,_,i+1,.cons r t=>.cons r (Vals.eraseIdx i t)
theorem Vals.reverse {xs:List V}{us:List Value}(h:Vals xs us):Vals xs.reverse us.reverse:=by
 induction h with
 |nil=>exact .nil
 |cons r t a=>rw[List.reverse_cons,List.reverse_cons];exact Vals.append a (.cons r .nil)
theorem Vals.rep {xs:List V}{us:List Value}(h:Vals xs us):∀k:Nat,Vals (List.replicate k xs).flatten (List.replicate k us).flatten
 |0=>.nil
 |k+1=>by
  rw[Yt,Yt,Yo,Yo]
  exact Vals.append h (Vals.rep h k)
theorem uX {c:Type}(l:List c):l.eraseIdx (l.length - 1)=l.dropLast:=by
 induction l with
 |nil=>rfl
 |cons a r d =>
 cases r with
 |nil=>rfl
 |cons b r =>
  have e:(a::b::r).length - 1=((b::r).length - 1)+1:=by
   have g:(a::b::r).length=r.length+2:=rfl
   have f:(b::r).length=r.length+1:=rfl
   omega
  rw[e,List.eraseIdx_cons_succ,d]
  all_goals rfl
theorem oR {a:Type}:∀(l:List a) (i:Nat),(l.eraseIdx i).length<=l.length
 |[],_=>j_ _
 |_::_,0=>Nat.le_succ _
 |_::r,i+1=>Nat.succ_le_succ (oR r i)
theorem foldl_rep (a:List Value):∀(k:Nat) (b:List Value),
  List.foldl (fun d c=>d++c) b.toArray (List.replicate k a.toArray)=(b++(List.replicate k a).flatten).toArray
 |0,b=>by simp
 |k+1,b=>by
  have e:b.toArray++a.toArray=(b++a).toArray:=by simp
  have f:(b++a)++(List.replicate k a).flatten=b++(List.replicate (k+1) a).flatten:=by
   rw[Yt,Yo,x_]
  rw[<- f,<- foldl_rep a k (b++a),<- e,Yt,List.foldl_cons]
section
variable {X:Cx}{pins:List (Addr × Obj)}{σ:St}{H:Hp}{s:Shared}{l b:Addr}{xs ys zs:List V}
theorem Inv.lset {a its':List Value}{n:Nat}{f:Array Value->Array Value}{t':Nat}(I:Inv X pins σ H s) (b:H l=some (.lst xs))
  (e:s.heap.get? l=some { cls:=.type "list",data:=.seq a.toArray n}) (i:f a.toArray=its'.toArray) (d:Vals ys its') (h:ys.length<=sizeLine) :
  Inv X pins σ (upd H l (.lst ys)) { s with heap:=s.heap.update l (Obj.mapSeq f),toks:=t'}:=by
 have q:=PySem.IsL.update e f;rw[i] at q;refine I.write (x:=l) (e:=l) (by rw[b];exact trivial) (.inl rfl) (fun j u g c=>(Heap.get?_update_other s.heap (Obj.mapSeq f) (Ne.symm g)).trans c) ⟨_,q⟩ ?_;exact⟨h,its',_,d,q⟩
theorem Inv.lnew {a:List Value}{t':Nat}(I:Inv X pins σ H s) (c:Vals ys a) (b:ys.length<=sizeLine) :
  Inv X pins σ (upd H s.heap.objs.size (.lst ys)) { s with heap:=s.heap.push { cls:=.type "list",data:=.seq a.toArray},toks:=t'} :=
 I.laid (fun _ _ q=>l_ _ q) (j_ _) ⟨b,a,0,c,V_ _ rfl⟩
theorem Inv.fresh (I:Inv X pins σ H s):H s.heap.objs.size=none:=I.hok.fresh (j_ _)
theorem Inv.lstM (I:Inv X pins σ H s) (b:H l=some (.lst xs)):xs.length<=sizeLine/\∃(a:List Value) (n:Nat),Vals xs a/\xs.length=a.length/\s.heap.get? l=some { cls:=.type "list",data:=.seq a.toArray n}:=by
 obtain⟨z,a,n,r,e⟩:=I.hok l _ b;exact⟨z,a,n,r,r.length,e⟩
theorem rP {n:Nat}(h:n<=sizeLine):Builtin.List.listTooLong n=false:=by
 unfold Builtin.List.listTooLong;exact p_ (by omega)
def Gq:V->List V->Hp->VK->Prop:=fun x vs H Q=>∃l xs y,x=.ref l/\vs=[y]/\H l=some (.lst xs)/\xs.length<sizeLine/\Q .non (upd H l (.lst (xs++[y])))
theorem zf:MtM X "list.append" Gq:=by
 intro b s j H x vs v us Q I d f h;obtain⟨l,xs,y,rfl,rfl,c,k,q⟩:=h;cases d;obtain⟨u,rfl,g⟩:=f.one;obtain⟨z,a,n,r,i,e⟩:=I.lstM c;refine Z1 F.slot_list_append ⟨_,e,rfl⟩ F.entry_list_append (F.args_list_append_2 _ _) (list_append l a.toArray n u (by rw[n_];omega)) ⟨e,?_⟩;refine⟨.non,_,I.lset (its':=a++[u]) c e (by simp) (r.append (.cons g .nil)) ?_,rfl,q⟩;rw[a_,z_];omega
def Gr:V->List V->Hp->VK->Prop:=fun x vs H Q=>∃l b xs a,x=.ref l/\vs=[.ref b]/\H l=some (.lst xs)/\H b=some (.lst a)/\xs.length+a.length<=sizeLine/\Q .non (upd H l (.lst (xs++a)))
theorem zg:MtM X "list.extend" Gr:=by
 intro f s A H x vs v us Q I j k h;obtain⟨l,b,xs,D,rfl,rfl,g,m,C,q⟩:=h;cases j;obtain⟨u,rfl,w⟩:=k.one;cases w;obtain⟨z,c,n,r,y,e⟩:=I.lstM g;obtain⟨B,a,i,p,t,o⟩:=I.lstM m;have hsz:c.toArray.size+a.toArray.size<=sizeLine:=by rw[n_,n_];omega
 have d:¬(!c.toArray.isEmpty&&Builtin.List.listTooLong (c.toArray.size+a.toArray.size))=true:=by rw[rP hsz,Bool.and_false];exact t_
 refine Z1 F.slot_list_extend ⟨_,e,rfl⟩ F.entry_list_extend (F.args_list_extend_2 _ _)
  (AutoSeq1.list_extend_list_list_0 l c.toArray n b a.toArray i d (by rw[n_];omega) (by omega)) ⟨e,o,?_⟩
 refine⟨.non,_,I.lset (its':=c++a) g e (by simp) (r.append p) ?_,rfl,q⟩;rw[a_];omega
def Wa:V->List V->Hp->VK->Prop:=fun x vs H Q=>∃l xs y,x=.ref l/\vs=[]/\H l=some (.lst xs)/\xs[xs.length - 1]?=some y/\Q y (upd H l (.lst xs.dropLast))
theorem M6:MtM X "list.pop" Wa:=by
 intro d s p H x vs v us Q I j m h;obtain⟨l,xs,y,rfl,rfl,f,i,q⟩:=h;cases j;have c:=m.zero;subst c;obtain⟨z,a,n,r,g,e⟩:=I.lstM f;obtain⟨u,k,o⟩:=r.get i;have b:a.toArray[a.toArray.size - 1]?=some u:=by show a.toArray[a.length - 1]?=some u;rw[<- Xv,<- g];exact k
 refine Z1 F.slot_list_pop ⟨_,e,rfl⟩ F.entry_list_pop (F.args_list_pop_1 _) (MeetsSeq.list_pop_last l a.toArray n u b (by rw[n_];omega)) ⟨e,?_⟩;refine⟨y,_,I.lset (its':=a.dropLast) f e ?_ r.dropLast ?_,o,q⟩
 ·show a.toArray.eraseIdxIfInBounds (a.toArray.size - 1)=a.dropLast.toArray;rw[n_,List.eraseIdxIfInBounds_toArray,uX]
 rw[List.length_dropLast];omega
def M7:V->List V->Hp->VK->Prop:=fun x vs H Q=>∃l xs i k y,x=.ref l/\vs=[.int i]/\H l=some (.lst xs) /\ -(2^63)<=i/\i<2^63/\seqIndex? i xs.length=some k/\xs[k]?=some y/\Q y (upd H l (.lst (xs.eraseIdx k)))
theorem Aq:MtM X "list.pop" M7:=by
 intro c s D H x vs v us Q I m A h;obtain⟨l,xs,i,k,y,rfl,rfl,d,o,j,p,g,q⟩:=h;cases m;obtain⟨u,rfl,C⟩:=A.one;obtain⟨t,rfl⟩:=C;obtain⟨z,a,n,r,f,e⟩:=I.lstM d;obtain⟨w,B,b⟩:=r.get g;refine Z1 F.slot_list_pop ⟨_,e,rfl⟩ F.entry_list_pop (F.args_list_pop_2 _ _)
  (MeetsSeq.list_pop_at l a.toArray n i t k w (fitsIndex_both o j) (by rw[n_,<- f];exact p) (by rw[<- Xv];exact B) (by rw[n_];omega)) ⟨e,?_⟩
 refine⟨y,_,I.lset (its':=a.eraseIdx k) d e ?_ (r.eraseIdx k) ?_,b,q⟩
 ·show a.toArray.eraseIdxIfInBounds k=(a.eraseIdx k).toArray;rw[List.eraseIdxIfInBounds_toArray]
 have:=oR xs k;omega
def Wb:R2:=fun x y H Q=>∃l b xs a,x=.ref l/\y=.ref b/\H l=some (.lst xs)/\H b=some (.lst a)/\xs.length+a.length<=sizeLine/\∀p,H p=none->Q (.ref p) (upd H p (.lst (xs++a)))
theorem op_cat:OpR X (binaryOp .Add) Wb:=by
 intro d s A H x y v u Q I i o h;obtain⟨l,b,xs,C,rfl,rfl,f,j,D,q⟩:=h;cases i;cases o;obtain⟨z,c,n,r,t,e⟩:=I.lstM f;obtain⟨B,a,w,m,p,k⟩:=I.lstM j;refine PySem.P.add_list e k ?_ (by rw[n_,n_];omega);have g:c.toArray++a.toArray=(c++a).toArray:=by simp
 rw[g];exact⟨.ref _,_,I.lnew (t':=s.toks) (r.append m) (by rw[a_];omega),rfl,q _ I.fresh⟩
def Wc:R2:=fun x y H Q=>∃l k xs,x=.ref l/\y=.int k/\H l=some (.lst xs) /\ -(2^63)<=k/\k<2^63/\xs.length*k.toNat<=sizeLine /\
 ∀p,H p=none->Q (.ref p) (upd H p (.lst (List.replicate k.toNat xs).flatten))
theorem len_rep {a:Type}(xs:List a) (k:Nat):(List.replicate k xs).flatten.length=k*xs.length:=by
 induction k with
 |zero=>simp
 |succ k b=>rw[Yt,Yo,a_,b,Nat.succ_mul,Nat.add_comm]
theorem M8:OpR X (binaryOp .Mult) Wc:=by
 intro p s K H x y v u Q I J C h;obtain⟨l,k,xs,rfl,rfl,A,B,D,w,q⟩:=h;cases J;obtain⟨t,rfl⟩:=C;obtain⟨z,b,n,r,G,e⟩:=I.lstM A;have f:b.toArray.size*k.toNat<=sizeLine:=by rw[n_,<- G];exact w
 have i:¬b.toArray.size*k.toNat>(2^63 - 1) / 8:=by
  have:(sizeLine:Nat)<=(2^63 - 1) / 8:=by decide
  omega
 have g:¬(!Builtin.List.listFitsIndex k)=true:=by rw[fitsIndex_both B D];exact t_
 have c:¬Builtin.List.listTooLong (b.toArray.size*k.toNat)=true:=by rw[rP f];exact t_
 have d:List.foldl (fun j o=>j++o) #[] (List.replicate (if b.toArray.isEmpty=true then 0 else k.toNat) b.toArray)=(List.replicate k.toNat b).flatten.toArray:=by
  have E:∀m:Nat,List.foldl (fun j o=>j++o) #[] (List.replicate m b.toArray)=(List.replicate m b).flatten.toArray:=fun m=>by have:=foldl_rep b m [];rw[YC] at this;exact this
  rw[E];cases b with
  |nil=>simp
  |cons a L=>rw[if_neg (by simp)]
 refine wpAny_binaryOp_repeat_ref (T:="list") (U:="int") (by decide) ⟨_,e,rfl⟩ (fun s'=>typeIs_int s' k t) noFill_list_mul F.fills_int_mul F.slot_int_rmul repeat_list F.slot_int_index.lookup
  (Z1 F.slot_int_rmul (typeIs_int s k t) F.entry_int_rmul (F.args_int_rmul_2 _ _) (int___rmul___int_list k t l b.toArray n)
   ⟨e,rfl,⟨_,e,rfl⟩,Z1 F.slot_list_mul ⟨_,e,rfl⟩ F.entry_list_mul (F.args_list_mul_2 _ _) (AutoListH.list___mul___list_int_3 l b.toArray n k t g i c) ⟨e,?_⟩⟩)
 rw[d];exact⟨.ref _,_,I.lnew (t':=s.toks) (r.rep k.toNat) (by rw[len_rep,Nat.mul_comm];exact w),rfl,q _ I.fresh⟩
variable {prog:Program}{w:World}{A:Around}{E:Value->Shared->Prop}
set_option maxRecDepth 100000 in
end
section
variable {κ:Type} [DecidableEq κ]
def iw (kvs:List (κ × V)) (k:κ):Option V:=(kvs.find? fun a=>decide (a.1=k)).map (·.2)
def putK (kvs:List (κ × V)) (k:κ) (v:V):List (κ × V) :=
 if (kvs.any fun a=>decide (a.1=k))=true then kvs.map (fun a=>if a.1=k then (a.1,v) else a) else kvs++[(k,v)]
theorem eZ {p:κ × V}{r:List (κ × V)}{k:κ}(e:p.1=k):iw (p::r) k=some p.2:=by simp [iw,X8,e]
theorem fc {p:κ × V}{r:List (κ × V)}{k:κ}(e:¬p.1=k):iw (p::r) k=iw r k:=by simp [iw,X8,e]
theorem rQ (k:κ):∀kvs:List (κ × V),(kvs.any fun a=>decide (a.1=k))=(iw kvs k).isSome
 |[]=>rfl
 |p::r=>by
  rw[ZW]
  by_cases e:p.1=k
  ·
   simp only[eZ e,q_ e,Bool.true_or,Option.isSome_some]
  ·
   rw[fc e,p_ e,Bool.false_or];exact rQ k r
theorem iy (kvs:List (κ × V)) (k:κ) (v:V):(putK kvs k v).length<=kvs.length+1:=by
 unfold putK;split
 ·rw[b_];omega
 rw[a_,d_,YD];omega
theorem RelO.isSome_eq {o:Option V}{u:Option Value}(r:RelO o u):o.isSome=u.isSome:=by
 cases o with
 |none=>cases u with
  |none=>rfl
  |some _=>exact (show False from r).elim
 |some _=>cases u with
  |none=>exact (show False from r).elim
  |some _=>rfl
theorem RelO.getD {o:Option V}{u:Option Value}{d:V}{d':Value}(r:RelO o u) (a:RelV d d'):RelV (o.getD d) (u.getD d'):=by
 cases o with
 |none=>cases u with
  |none=>exact a
  |some _=>exact (show False from r).elim
 |some _=>cases u with
  |none=>exact (show False from r).elim
  |some _=>exact r
theorem KV.val {kvs:List (κ × V)}{vs:List (κ × Value)}(r:KV kvs vs) (k:κ):RelO (iw kvs k) (valueAt vs k):=by
 unfold KV at r;induction r with
 |nil=>exact True.intro
 |@cons p q ps c h t g =>
 obtain⟨d,f⟩:=h;by_cases e:p.1=k
 ·have a:q.1=k:=d.symm.trans e;have b:valueAt (q::c) k=some q.2:=by simp [valueAt,X8,a]
  rw[eZ e,b];exact f
 have a:¬q.1=k:=fun z=>e (d.trans z);have b:valueAt (q::c) k=valueAt c k:=by simp [valueAt,X8,a]
 rw[fc e,b];exact g
theorem KV.any {kvs:List (κ × V)}{vs:List (κ × Value)}(r:KV kvs vs) (k:κ):(kvs.any fun a=>decide (a.1=k))=vs.any fun a=>decide (a.1=k):=by
 unfold KV at r;induction r with
 |nil=>rfl
 |cons h t b=>rw[ZW,ZW,b,h.1]
theorem KV.repl {kvs:List (κ × V)}{vs:List (κ × Value)}(r:KV kvs vs) (k:κ) {y:V}{u:Value}(f:RelV y u) :
  KV (kvs.map fun a=>if a.1=k then (a.1,y) else a) (vs.map fun a=>if a.1=k then (a.1,u) else a):=by
 unfold KV at r ⊢;induction r with
 |nil=>exact .nil
 |@cons p q ps g h t d =>
 rw[y_,y_];refine .cons ?_ d;obtain⟨b,c⟩:=h;by_cases e:p.1=k
 ·rw[if_pos e,if_pos (b.symm.trans e)];exact⟨b,f⟩
 rw[if_neg e,if_neg (fun z=>e (b.trans z))];exact⟨b,c⟩
theorem KV.put {kvs:List (κ × V)}{vs:List (κ × Value)}(r:KV kvs vs) (k:κ) {y:V}{u:Value}(a:RelV y u):KV (putK kvs k y) (stored vs k u):=by
 unfold putK stored;rw[r.any k];by_cases e:(vs.any fun b=>decide (b.1=k))=true
 ·rw[if_pos e,if_pos e];exact r.repl k a
 rw[if_neg e,if_neg e];exact aaj r ⟨rfl,a⟩
theorem KV.length {kvs:List (κ × V)}{vs:List (κ × Value)}(r:KV kvs vs):kvs.length=vs.length:=Yx r
end
theorem oU {P:Program}{w:World}{k:Key}{u:Value}(r:RelV (kV k) u):(bC P w).is k u=true:=by
 cases k with
 |inl i=>obtain⟨t,e⟩:=(show ∃t,u=Value.int i t from r);subst e;exact rG P w i t
 |inr x=>obtain⟨t,e⟩:=(show ∃t,u=Value.str x t from r);subst e;exact rH P w x t
theorem oV {P:Program}{w:World}:∀{ks:List Key}{us:List Value},Vals (ks.map kV) us->ItemsAre (bC P w) ks us
 |[],_,r=>by rw[Xy] at r;cases r;exact .nil
 |k::ks,_,r=>by
  rw[y_] at r
  cases r with
  |cons h t=>exact .cons (oU h) (oV t)
abbrev KT (H:Hp):List (List Key × V)->List (List Key × Addr × Value)->Prop:=Paired fun p q=>p.1=q.1/\H q.2.1=some (.tup (p.1.map kV))/\RelV p.2 q.2.2
theorem KT.val {H:Hp}{kvs:List (List Key × V)}{xs:List (List Key × Addr × Value)}(r:KT H kvs xs) (k:List Key):RelO (iw kvs k) ((atKey xs k).map (·.2)):=by
 induction r with
 |nil=>exact True.intro
 |@cons p q ps c h t g =>
 obtain⟨d,_,f⟩:=h;by_cases e:p.1=k
 ·have a:q.1=k:=d.symm.trans e;have b:atKey (q::c) k=some q.2:=by simp [atKey,X8,a]
  rw[eZ e,b];exact f
 have a:¬q.1=k:=fun z=>e (d.trans z);have b:atKey (q::c) k=atKey c k:=by simp [atKey,X8,a]
 rw[fc e,b];exact g
theorem KT.repl {H:Hp}{kvs:List (List Key × V)}{xs:List (List Key × Addr × Value)}(r:KT H kvs xs) (k:List Key) {y:V}{u:Value}(g:RelV y u) :
  KT H (kvs.map fun b=>if b.1=k then (b.1,y) else b) (xs.map (putAt k u)):=by
 induction r with
 |nil=>exact .nil
 |@cons p q ps i h t f =>
 rw[y_,y_];refine .cons ?_ f;obtain⟨a,c,d⟩:=h;unfold putAt;by_cases e:p.1=k
 ·rw[if_pos e,if_pos (a.symm.trans e)];exact⟨a,c,g⟩
 rw[if_neg e,if_neg (fun z=>e (a.trans z))];exact⟨a,c,d⟩
theorem KT.put {H:Hp}{kvs:List (List Key × V)}{xs:List (List Key × Addr × Value)}(r:KT H kvs xs) (k:List Key) {b:Addr}{y:V}{u:Value}(c:H b=some (.tup (k.map kV))) (a:RelV y u) :
  KT H (putK kvs k y) (storedH xs k b u):=by
 have e:(kvs.any fun d=>decide (d.1=k))=(atKey xs k).isSome:=by rw[rQ,(r.val k).isSome_eq,Zt]
 unfold putK storedH;rw[e];by_cases q:(atKey xs k).isSome=true
 ·rw[if_pos q,if_pos q];exact r.repl k a
 rw[if_neg q,if_neg q];exact aaj r ⟨rfl,c,a⟩
theorem KT.keeps {H H':Hp}{kvs:List (List Key × V)}{xs:List (List Key × Addr × Value)}(r:KT H kvs xs) (a:∀b ys,H b=some (.tup ys)->H' b=some (.tup ys)):KT H' kvs xs :=
 Paired.mapP r fun _ _ z=>⟨z.1,a _ _ z.2.1,z.2.2⟩
section
variable {P:Program}{w:World}{H:Hp}{h:Heap}{a:Addr}
theorem JF {u:HO}(b:HOk P w H h) (e:Rd H a u):ObjOk P w H h a u:=e.ok b
theorem lM {kvs:List (Key × V)}(b:HOk P w H h) (e:Rd H a (.dK kvs)):kvs.length<=sizeLine/\(a==sysModules)=false/\∃vs,KV kvs vs/\h.DictOf (bC P w) a vs :=
 show ObjOk P w H h a (.dK kvs) from JF b e
theorem Ar {kvs:List (Key × V)}(b:HOk P w H h) (e:H a=some (.dK kvs)):kvs.length<=sizeLine/\(a==sysModules)=false/\∃vs,KV kvs vs/\h.DictOf (bC P w) a vs:=lM b (.inl e)
theorem lN {ks:List Key}(g:HOk P w H h) (e:H a=some (.tup (ks.map kV))):(tupleKind (bC P w)).is h ks a:=by
 obtain⟨_,b,r,o,f,d,n,c,_⟩:=(show ObjOk P w H h a (.tup (ks.map kV)) from g a _ e);exact⟨o,b.toArray,n,f,d,c,by simpa using oV r⟩
theorem oW {kvs:List (List Key × V)}(f:HOk P w H h) (e:Rd H a (.dT kvs)):kvs.length<=sizeLine/\(a==sysModules)=false /\
  ∃xs,KT H kvs xs/\h.DictOfH (tupleKind (bC P w)) a xs:=by
 obtain⟨z,y,xs,r,o,j,ep,n,i,g,k,u⟩:=(show ObjOk P w H h a (.dT kvs) from JF f e);refine⟨z,y,xs,r,o,j,ep,n,i,g,k,fun x b=>?_,u⟩;have c:∀{l:List (List Key × V)} {m:List (List Key × Addr × Value)},KT H l m->∀x∈m,(tupleKind (bC P w)).is h x.1 x.2.1:=by
  intro l m q;induction q with
  |nil=>intro x b;exact nomatch b
  |@cons p q ps v d t s =>
  intro x b;rcases o_.mp b with e | b
  ·subst e;exact lN f (by rw[<- d.1];exact d.2.1)
  exact s x b
 exact c r x b
theorem RV {kvs:List (List Key × V)}(b:HOk P w H h) (e:H a=some (.dT kvs)):kvs.length<=sizeLine/\(a==sysModules)=false /\
  ∃xs,KT H kvs xs/\h.DictOfH (tupleKind (bC P w)) a xs:=oW b (.inl e)
end
def DGet (H:Hp) (a:Addr) (y:V) (r:Option V):Prop :=
 (∃kvs k,Rd H a (.dK kvs)/\y=kV k/\r=iw kvs k)\/∃kvs k b,Rd H a (.dT kvs)/\y=.ref b/\H b=some (.tup (k.map kV))/\r=iw kvs k
def DPut (H:Hp) (a:Addr) (y v:V) (H':Hp):Prop :=
 (∃kvs k,H a=some (.dK kvs)/\y=kV k/\kvs.length<sizeLine/\H'=upd H a (.dK (putK kvs k v))) \/
 ∃kvs k b,H a=some (.dT kvs)/\y=.ref b/\H b=some (.tup (k.map kV))/\kvs.length<sizeLine/\H'=upd H a (.dT (putK kvs k v))
theorem DGet.k {H:Hp}{a:Addr}{kvs:List (Key × V)}{k:Key}(e:H a=some (.dK kvs)):DGet H a (kV k) (iw kvs k):=.inl ⟨kvs,k,.inl e,rfl,rfl⟩
theorem DGet.t {H:Hp}{a b:Addr}{kvs:List (List Key × V)}{k:List Key}(e:H a=some (.dT kvs)) (c:H b=some (.tup (k.map kV))):DGet H a (.ref b) (iw kvs k):=.inr ⟨kvs,k,b,.inl e,rfl,c,rfl⟩
theorem DPut.k {H:Hp}{a:Addr}{kvs:List (Key × V)}{k:Key}{v:V}(e:H a=some (.dK kvs)) (b:kvs.length<sizeLine):DPut H a (kV k) v (upd H a (.dK (putK kvs k v))):=.inl ⟨kvs,k,e,rfl,b,rfl⟩
theorem DPut.t {H:Hp}{a b:Addr}{kvs:List (List Key × V)}{k:List Key}{v:V}(e:H a=some (.dT kvs)) (d:H b=some (.tup (k.map kV))) (c:kvs.length<sizeLine) :
  DPut H a (.ref b) v (upd H a (.dT (putK kvs k v))):=.inr ⟨kvs,k,b,e,rfl,d,c,rfl⟩
section
variable {X:Cx}{pins:List (Addr × Obj)}{σ:St}{H:Hp}{s:Shared}{a:Addr}{y v:V}{u r:Value}{o:Option V}{A:Around}{E:Value->Shared->Prop}
theorem Inv.big (I:Inv X pins σ H s):sysModules<s.heap.objs.size:=by
 have h:mainGlobals<s.heap.objs.size:=(I.mod.glob.keeps I.bk).lt;exact ZM (by decide) h
theorem zj {Q:Value->Shared->Prop}(x:A.units+1<cLine) (I:Inv X pins σ H s) (g:DGet H a y (some v)) (q:RelV y u) (h:∀f s',Inv X pins σ H s'->RelV v f->Q f s') :
  wpAny (model X.prog X.w) A (getItem (.ref a) u) Q E s:=by
 rcases g with ⟨kvs,k,e,n,l⟩ | ⟨kvs,k,b,e,n,B,l⟩
 ·subst n;obtain⟨z,t,vs,d,i⟩:=lM I.hok e;obtain⟨f,j,c⟩:=RelO.some_of (v:=v) (o:=valueAt vs k) (by rw[l];exact d.val k);exact wpAny_getItem_of (oU q) i.mapOf j (h f _ (I.tok _) c)
 subst n;cases (show u=Value.ref b from q);obtain⟨z,t,xs,d,i⟩:=oW I.hok e;obtain⟨f,j,c⟩:=RelO.some_of (v:=v) (o:=(atKey xs k).map (·.2)) (by rw[l];exact d.val k);obtain⟨p,r,m⟩:=Option.map_eq_some_iff.mp j;refine wpAny_getItem_heap (Z2 x) (lN I.hok B) i r ?_;rw[m];exact h f _ (I.tok _) c
theorem Wd {Q:Value->Shared->Prop}(m:A.units+1<cLine) (I:Inv X pins σ H s) (g:DGet H a y o) (j:RelV y u) (h:∀s',Inv X pins σ H s'->Q (.bool o.isSome) s') :
  wpAny (model X.prog X.w) A (compareOp .In u (.ref a)) Q E s:=by
 rcases g with ⟨kvs,k,e,i,l⟩ | ⟨kvs,k,b,e,i,n,l⟩
 ·subst i;obtain⟨z,d,vs,c,f⟩:=lM I.hok e;refine wpAny_in_of (oU j) d f.mapOf ?_;rw[<- (c.val k).isSome_eq,<- l];exact h _ (I.tok _)
 subst i;cases (show u=Value.ref b from j);obtain⟨z,d,xs,c,f⟩:=oW I.hok e;refine wpAny_in_heap (Z2 m) (lN I.hok n) d f ?_;have q:=(c.val k).isSome_eq;rw[Zt] at q;rw[<- q,<- l];exact h _ (I.tok _)
theorem Gs {Q:Value->Shared->Prop}(m:A.units+1<cLine) (I:Inv X pins σ H s) (g:DGet H a y o) (j:RelV y u) (h:∀s',Inv X pins σ H s'->Q (.bool (!o.isSome)) s') :
  wpAny (model X.prog X.w) A (compareOp .NotIn u (.ref a)) Q E s:=by
 rcases g with ⟨kvs,k,e,i,l⟩ | ⟨kvs,k,b,e,i,n,l⟩
 ·subst i;obtain⟨z,d,vs,c,f⟩:=lM I.hok e;refine wpAny_notIn_of (oU j) d f.mapOf ?_;rw[<- (c.val k).isSome_eq,<- l];exact h _ (I.tok _)
 subst i;cases (show u=Value.ref b from j);obtain⟨z,d,xs,c,f⟩:=oW I.hok e;refine wpAny_notIn_heap (Z2 m) (lN I.hok n) d f ?_;have q:=(c.val k).isSome_eq;rw[Zt] at q;rw[<- q,<- l];exact h _ (I.tok _)
theorem kW {h':Heap}{t':Nat}{c:HO}(I:Inv X pins σ H s) (mu:Mut (H a)) (h:Heap.SameBut a s.heap h') (f:∃q,h'.get? a=some q) (d:ObjOk X.prog X.w (upd H a c) h' a c) :
  Inv X pins σ (upd H a c) { s with heap:=h',toks:=t'} :=
 I.write (x:=a) (e:=a) mu (.inl rfl) (fun b q g z=>(h.2 b g).trans z) f d
theorem Av {P:Program}{w:World}{H':Hp}{h':Heap}{kvs:List (Key × V)}{vs:List (Key × Value)}(z:kvs.length<=sizeLine) (c:(a==sysModules)=false) (b:KV kvs vs) (d:h'.DictOf (bC P w) a vs) :
  ObjOk P w H' h' a (.dK kvs):=⟨z,c,vs,b,d⟩
theorem zm {H':Hp}{Q:Unit->Shared->Prop}(G:A.units+1<cLine) (I:Inv X pins σ H s) (g:DPut H a y v H') (B:RelV y u) (F:RelV v r) (h:∀s',Inv X pins σ H' s'->Q () s') :
  wpAny (model X.prog X.w) A (setItem (.ref a) u r) Q E s:=by
 rcases g with ⟨kvs,k,e,t,l,j⟩ | ⟨kvs,k,b,e,t,D,l,j⟩
 ·subst t j;obtain⟨z,x,vs,d,m⟩:=Ar I.hok e;have p:vs.length<=sizeLine:=by rw[<- d.length];exact z
  have o:(putK kvs k v).length<=sizeLine:=by have:=iy kvs k v;omega
  refine wpAny_setItem_pairs (hsz:=p) (oU B) m fun h' f n=>h _ ?_;have N:∃q,h'.get? a=some q:=let ⟨q,_,_,i,_⟩:=f;⟨q,i⟩;exact kW I (by rw[e];exact True.intro) n N (Av o x (d.put k F) f)
 subst t j;cases (show u=Value.ref b from B);obtain⟨z,x,xs,d,m⟩:=RV I.hok e;have p:xs.length<=sizeLine:=by rw[<- Yx d];exact z
 have o:(putK kvs k v).length<=sizeLine:=by have:=iy kvs k v;omega
 refine wpAny_setItem_heap (hsz:=p) (Z2 G) (lN I.hok D) m fun h' f n=>h _ ?_;obtain⟨q,M,ep,i,L,K,O,_,J⟩:=f;refine kW I (by rw[e];exact True.intro) n ⟨q,i⟩ ⟨o,x,_,(d.put k D F).keeps fun c P C=>?_,q,M,ep,i,L,K,O,J⟩;rw[aU (QZ C e (fun z=>nomatch z))];exact C
variable {kvs:List (Key × V)}{k:Key}
end
def Gu (i:Expr):Prop:=∀b a,subscripted i false b a=operate [b,a] (getItem b a)
theorem Gv {prog:Program}{w:World}{A:Around}{E:Value->Shared->Prop}{s:Shared}{env:Env}{b a:Expr}{l:Pos}{T p:String}{Q:Value->Shared->Prop}
  (n:typeLookup (.type T) "__getitem__"=pure (some (.builtin p))) (q:Gu a)
  (h:wpAny (model prog w) A (eval b env) (fun o f=>wpAny (model prog w) A (eval a env) (fun i c=>c.TypeIs o T/\wpAny (model prog w) A (getItem o i) Q E c) E f) E s) :
  wpAny (model prog w) A (eval (.Subscript b a l) env) Q E s:=by
 refine Subscript_ (Yg h (fun o f k=>Yg k (fun i c d=>?_) fun _ _ x=>x) fun _ _ x=>x);obtain⟨m,d⟩:=d;unfold subscriptTail;refine h_ ?_;rw[getitemInPython_of_ne m.not_modules];refine h_ (ZZ m n ?_);have g:wpAny (model prog w) A (subscripted a false o i) (fun r e=>wpAny (model prog w) A (letTemporaryGo b o r >>= fun _=>pure r) Q E e) E c:=by rw[q o i];exact wpAny_operating (Yg d (fun r e j=>h_ (wpAny_letTemporaryGo (C_ j))) fun _ _ x=>x)
 first
  |exact C_ (h_ g)
  |exact h_ (C_ (h_ g))
  |exact h_ g
theorem rR {X:Cx}{c:List (Addr × Obj)}{f:St}{H:Hp}{s:Shared}{a:Addr}{y:V}{o:Option V}(I:Inv X c f H s) (g:DGet H a y o):s.TypeIs (.ref a) "dict":=by
 rcases g with ⟨kvs,k,e,_,_⟩ | ⟨kvs,k,b,e,_,_,_⟩
 ·obtain⟨_,_,vs,_,d⟩:=lM I.hok e;exact d.typeIs
 obtain⟨_,_,xs,_,d⟩:=oW I.hok e;exact d.typeIs
def RW (f d:TE):TE:=fun c H Q=>f c H fun x e=>d c e fun y b=>∃a v,x=.ref a/\DGet b a y (some v)/\Q v b
def We (f d:TE):TE:=fun c H Q=>f c H fun y e=>d c e fun x b=>∃a o,x=.ref a/\DGet b a y o/\Q (.bl o.isSome) b
def Gw (f d:TE):TE:=fun c H Q=>f c H fun y e=>d c e fun x b=>∃a o,x=.ref a/\DGet b a y o/\Q (.bl (!o.isSome)) b
def RX (f h e:TE):TS:=fun D b H=>e b H fun v g=>f b g fun x d=>h b d fun y H3=>∃a c,x=.ref a/\DPut H3 a y v c/\D.nx b c
section
variable {X:Cx}{o i e value:Expr}{pos pos' tpos:Pos}{td ty tv:TE}
theorem wG (f:X.A.units+1<cLine) (C:PE X o td) (m:PE X i ty) (l:Gu i):PE X (.Subscript o i pos) (RW td ty):=by
 intro b s d H Q I h;refine Gv PySem.F.slot_dict_getitem.lookup l (thn (C b s d H _ I h) fun u t ⟨x,k,B,w,q⟩=>thn (m b t d k _ B q) fun G E ⟨y,z,e,j,a,v,p,g,n⟩=>?_);subst p;obtain rfl:u=Value.ref a:=w;exact⟨rR e g,zj f e g j fun D J r c=>⟨v,z,r,c,n⟩⟩
theorem M9 (d:X.A.units+1<cLine) (j:PE X i ty) (z:PE X o td):PC X .In i o (We ty td):=by
 intro b s c H Q I h;refine thn (j b s c H _ I h) fun C q ⟨y,f,w,e,n⟩=>thn (z b q c f _ w n) fun u B ⟨x,v,r,t,a,k,m,g,l⟩=>?_;subst m;obtain rfl:u=Value.ref a:=t;exact Wd d r g e fun D p=>⟨.bl k.isSome,v,p,rfl,l⟩
theorem oX (d:X.A.units+1<cLine) (j:PE X i ty) (z:PE X o td):PC X .NotIn i o (Gw ty td):=by
 intro b s c H Q I h;refine thn (j b s c H _ I h) fun C q ⟨y,f,w,e,n⟩=>thn (z b q c f _ w n) fun u B ⟨x,v,r,t,a,k,m,g,l⟩=>?_;subst m;obtain rfl:u=Value.ref a:=t;exact Gs d r g e fun D p=>⟨.bl (!k.isSome),v,p,rfl,l⟩
theorem wH (d:X.A.units+1<cLine) (K:PE X o td) (m:PE X i ty) (G:PE X value tv) (k:swapsWith value (some (.Subscript o i pos')) pos.line X.env=pure false) :
  PS X (.Assign [.Subscript o i pos'] value pos) (RX td ty tv):=by
 intro b s c H D I h;refine wpAny_Assign_Subscript (thn (G b s c H _ I h) fun r z ⟨v,j,J,L,q⟩=>thn (K b z c j _ J q) fun u l ⟨x,F,B,E,n⟩=>thn (m b l c F _ B n) fun N O ⟨y,H3,w,f,a,t,p,g,C⟩=>?_) k;subst p;obtain rfl:u=Value.ref a:=E;exact zm d w g f L fun M e=>⟨c,t,e,C⟩
end
theorem rT {P:Program}{w:World}{H:Hp}(h:Heap) (a:sysModules<h.objs.size):ObjOk P w H (h.push { cls:=.type "dict",data:=.dict #[]}) h.objs.size (.dK []) :=
 ⟨Yy _,XR.mpr (Ne.symm (Xj a)),[],.nil,Heap.DictOf.new h⟩
def Nf:TE:=fun _ H Q=>∀p,H p=none->Q (.ref p) (upd H p (.dK []))
section
variable {X:Cx}{pos:Pos}
theorem rW:PE X (.Dict [] [] pos) Nf:=fun b s c H Q I h =>
 wpAny_Dict_empty ⟨.ref s.heap.objs.size,_,I.laid (a:=s.heap.objs.size) (o:=.dK []) (t':=s.toks) (fun _ _ q=>l_ _ q) (j_ _) (rT s.heap I.big),rfl,h _ (I.hok.fresh (j_ _))⟩
end
def uY:List (TE × TE)->St->Hp->(List (V × V)->Hp->Prop)->Prop
 |[],_,H,Q=>Q [] H
 | (tk,tv)::r,σ,H,Q=>tk σ H fun x a=>tv σ a fun y b=>uY r σ b fun ps H3=>Q ((x,y)::ps) H3
abbrev VV:List (V × V)->List (Value × Value)->Prop:=Paired fun p q=>RelV p.1 q.1/\RelV p.2 q.2
def PPs (X:Cx) (f:Pos) (c:List (Option Expr)) (a:List Expr) (e:List (TE × TE)):Prop :=
 ∀(b:List (Addr × Obj)) (s:Shared) (d:St) (H:Hp) (Q:List (V × V)->Hp->Prop),Inv X b d H s->uY e d H Q ->
  wpAny (model X.prog X.w) X.A (evalPairs (pairTrees c a X.env f)) (fun vs s'=>∃ps H',Inv X b d H' s'/\VV ps vs/\Q ps H') X.xe s
theorem wI {X:Cx}{a:Pos}:PPs X a [] [] []:=fun b s c H Q I h=>pairTrees_nil_walk ⟨[],H,I,.nil,h⟩
theorem rY {X:Cx}{c:Pos}{k v:Expr}{ks:List (Option Expr)}{vs:List Expr}{tk f:TE}{b:List (TE × TE)}(j:PE X k tk) (A:PE X v f) (g:PPs X c ks vs b) :
  PPs X c (some k::ks) (v::vs) ((tk,f)::b):=fun a s e H Q I h =>
 pairTrees_cons_walk (thn (j a s e H _ I h) fun u q ⟨x,l,B,w,o⟩=>thn (A a q e l _ B o) fun D m ⟨y,z,r,i,n⟩ =>
  thn (g a m e z _ r n) fun ws C ⟨ps,H3,p,d,t⟩=>⟨(x,y)::ps,H3,p,.cons ⟨w,i⟩ d,t⟩)
def jh (kvs a:List (Key × V)):List (Key × V):=a.foldl (fun b c=>putK b c.1 c.2) kvs
theorem KV.merge:∀{a:List (Key × V)}{b:List (Key × Value)}{kvs:List (Key × V)}{vs:List (Key × Value)},KV a b->KV kvs vs->KV (jh kvs a) (merged vs b):=by
 intro a b kvs vs r;unfold KV at r;induction r generalizing kvs vs with
 |nil=>intro q;exact q
 |@cons p q ps f h t d =>
 intro c;have e:KV (putK kvs p.1 p.2) (stored vs q.1 q.2):=by have:=c.put p.1 h.2;rw[<- h.1];exact this
 exact d e
theorem jd:∀(a kvs:List (Key × V)),(jh kvs a).length<=kvs.length+a.length
 |[],kvs=>by show kvs.length<=kvs.length+0;omega
 |p::r,kvs=>by
  have c:=jd r (putK kvs p.1 p.2)
  have b:=iy kvs p.1 p.2
  show (jh (putK kvs p.1 p.2) r).length<=_
  rw[d_];omega
theorem lO {P:Program}{w:World}:∀{kvs:List (Key × V)}{ws:List (Value × Value)},VV (kvs.map fun e=>(kV e.1,e.2)) ws->∃d,Carries (bC P w) ws d/\KV kvs d
 |[],_,r=>by rw[Xy] at r;cases r;exact⟨[],True.intro,.nil⟩
 |p::kvs,_,r=>by
  rw[y_] at r
  cases r with
  |@cons a b g i h t =>
   obtain⟨d,c,q⟩:=lO (P:=P) (w:=w) t
   obtain⟨j,f⟩:=b
   exact⟨(p.1,f)::d,⟨oU h.1,rfl,c⟩,.cons ⟨rfl,h.2⟩ q⟩
def RZ (a:List (TE × TE)):TE:=fun d H Q=>∀p,H p=none->uY a d (upd H p (.dK [])) fun ps c=>c p=some (.dK [])/\∃kvs:List (Key × V),ps=kvs.map (fun b=>(kV b.1,b.2))/\kvs.length<=15/\Q (.ref p) (upd c p (.dK (jh [] kvs)))
theorem wJ {X:Cx}{k:Pos}{b:List (Option Expr)}{d:List Expr}{j:List (TE × TE)}(h:PPs X k b d j) (i:b.all (·.isSome)=true) (B:b.length=d.length) (t:b≠[])
  (m:b.length<=15):PE X (.Dict b d k) (RZ j):=by
 intro f s E H Q I q;have C:=I.hok.fresh (j_ s.heap.objs.size);have J:=I.laid (a:=s.heap.objs.size) (o:=.dK []) (h':=s.heap.push { cls:=.type "dict",data:=.dict #[]}) (t':=s.toks) (fun _ _ q=>l_ _ q) (j_ _) (rT s.heap I.big);refine wpAny_Dict_walk (knd:=bC X.prog X.w) i B t m (thn (h f _ E _ _ J (q _ C)) fun ws L ⟨ps,N,n,l,e,kvs,ep,M,D⟩=>?_);subst ep;obtain⟨r,c,F⟩:=lO (P:=X.prog) (w:=X.w) l;obtain⟨z,K,x,u,v⟩:=Ar n.hok e;cases u;refine⟨r,c,v,fun h' g y=>⟨.ref s.heap.objs.size,_,?_,rfl,D⟩⟩;have G:(jh [] kvs).length<=sizeLine:=by have p:=jd kvs [];rw[YD] at p;rw[sizeLine_eq];omega
 have A:∃q,h'.get? s.heap.objs.size=some q:=let ⟨q,_,_,hq,_⟩:=g;⟨q,hq⟩;exact kW n (by rw[e];exact True.intro) y A (Av G K (F.merge .nil) g)
structure M2 (X:Cx) (o:Expr) (m:Str) (apos:Pos) (e f:Expr) (cpos:Pos):Prop where
 base:attributeBase o m X.env (eval o X.env)=eval o X.env
 few:((backTo cpos (starEach [e,f] X.env)).all (fun x=>!x.1)&&(backToKw cpos (keywordEach [] X.env)).all (fun x=>x.1.isSome)
  && decide (([e,f]:List Expr).length+([]:List Keyword).length+(if ([]:List Keyword).isEmpty then 0 else 1)<30))=true
 line:(apos.endLine==cpos.line)=true
 trees:backTo cpos (starEach [e,f] X.env)=[(false,eval e X.env),(false,eval f X.env)]
def IsD (H:Hp) (a:Addr):Prop:=(∃kvs,Rd H a (.dK kvs))\/∃kvs,Rd H a (.dT kvs)
theorem Ng {X:Cx}{f:List (Addr × Obj)}{k:St}{H:Hp}{s:Shared}{a:Addr}(I:Inv X f k H s) (d:IsD H a) :
  s.TypeIs (.ref a) "dict"/\(∀b,Value.ref a=.ref b->∃c,s.heap.get? b=some c/\c.dict=none)/\(a==sysModules)=false:=by
 rcases d with ⟨kvs,e⟩ | ⟨kvs,e⟩
 ·obtain⟨_,j,vs,_,g⟩:=lM I.hok e;refine⟨g.typeIs,fun b q=>?_,j⟩;cases q;obtain⟨c,_,_,i,h,_⟩:=g;exact⟨c,i,h.2.1⟩
 obtain⟨_,j,xs,_,g⟩:=oW I.hok e;refine⟨g.typeIs,fun b q=>?_,j⟩;cases q;obtain⟨c,_,_,i,h,_⟩:=g;exact⟨c,i,h.2.1⟩
section
variable {X:Cx}{pins:List (Addr × Obj)}{σ:St}{H:Hp}{s:Shared}{a:Addr}{y d:V}{u r:Value}{o:Option V}{A:Around}{E:Value->Shared->Prop}
end
section
variable {X:Cx}{o e f:Expr}{apos cpos:Pos}{td ty tx:TE}
variable {pins:List (Addr × Obj)}{σ:St}{H:Hp}{s:Shared}{a:Addr}{kvs:List (Key × V)}{A:Around}{E:Value->Shared->Prop}
variable {y:V}{u:Value}
end
end L2
namespace Att
open PySem PySem.W PySem.Calls PyProof.Rows
theorem kE {P:Params}{h:Heap}:∀(ns:List Int) (vs:List Value),WellAll P h vs (ns.map WData.int)->IntsAre vs ns:=by
 intro ns;induction ns with
 |nil=>intro vs w;rw[Xy] at w;cases w;exact .nil
 |cons n ns c =>
 intro vs w;rw[y_] at w;cases w with
 |cons a b =>
 cases a;exact .cons _ _ (c _ b)
theorem zp {l:OpenLaw}{n:Nat}(t:l.most=some n) {P:Params}{h:Heap}{args:List WData}{c:List Value}
  (b:l.row.toRowW.claim.pre args=true) (j:WellAll P h c args) :
  ∃a vs ns,c=[Value.ref a]/\args=[WData.list (ns.map WData.int)]/\h.get? a=some { cls:=.type "list",data:=.seq vs.toArray}/\IntsAre vs ns/\ns.length<=n:=by
 have k:WShape.hasAll [] args [.list .int]=true:=(pre_splitW b).1;have m:l.pre.holds [] { args:=args}=true:=(pre_splitW b).2;obtain⟨d,r,rfl,u,s⟩:=hasAllW_cons k;obtain rfl:=hasAllW_nil s;obtain⟨xs,rfl,o⟩:=hasW_list u;obtain⟨ns,rfl⟩:=items_int o;have f:ns.length<=n:=by
  unfold OpenLaw.pre at m;have g:(WTm.not (.lt (.lit (.int (n:Int))) (.len (.arg 0)))).holds [] { args:=[.list (ns.map .int)]}=true:=by have g:=(holds_andW m).1;rw[t] at g;exact g
  have i:=condW_of g (w_not (w_lt w_lit (w_len_list (w_arg rfl))));rw[b_] at i;refine Nat.le_of_not_lt fun q=>?_;have w:(n:Int)<((ns.length:Nat):Int):=by omega
  first
   | (rw[q_ w] at i;exact absurd i (by decide))
   | (simp at i;omega)
 cases j with
 |cons p x =>
 cases x;cases p with
 |list v e=>exact⟨_,_,ns,rfl,rfl,v,kE ns _ e,f⟩
theorem zq (l:OpenLaw) (args:List WData):l.row.toRowW.claim.post args (.bool true) args=true :=
 postW_of (r:=l.row.toRowW) (X:=(true==true))
  (show WShape.has [] (.bool true) .bool=true by first | rfl | decide | simp [WShape.has,WShape.arms,WShape.armsAll])
  (show (WTm.eq .res (.lit (.bool true))).value [] { args:=args,res:=some (.bool true),after:=args}=some (.bool (true==true)) from w_eq_bool (w_res rfl) w_lit) rfl
theorem attach_call {l:OpenLaw}{n:Nat}{q:Program}{loose:List Str}{XP:(Str->Option Value)->Heap->Prop}{YP:World->Heap->Prop}{d:DefRec}
  (K:l.most=some n) (x:d.params.defaults=[])
  (h:∀(w:World) (c b:Shared) (p z:Str->Option Value) (m:Addr) (o:Obj) (u s g:Value) (a:Addr) (vs:List Value) (ns:List Int),
   Ground q loose [] XP w c p z b.heap->YP w b.heap ->
   b.heap.get? m=some o->o.data=.func (docDef d.name d.params d.body d.scope u s g)->b.heap.CodeRec s d.name->p d.name=some (.ref m) ->
   b.heap.get? a=some { cls:=.type "list",data:=.seq vs.toArray}->IntsAre vs ns->ns.length<=n->b.gens=#[] ->
   codeAny (model l.prog w) callerA (.call (.ref m) ⟨[.ref a],[]⟩) (fun r s'=>r=.ok (.ret (.bool true))/\OldK b.heap s'.heap/\s'.os=b.os/\AllBare s'.gens) b) :
  WalkO q loose XP YP l.row.toRowW d [] (fun f vs=>PySem.call f vs):=by
 intro w c b p z G Y m o u s g P kV O Q v D y J B C R j A M t N;obtain rfl:P=.none:=Dflts.none D x;obtain rfl:kV=.none:=Dflts.noKw D;obtain⟨a,vs,ns,rfl,rfl,k,e,i⟩:=zp K j t;refine enter_call (codeAny_mono (h w c b p z m o u s g a vs ns G Y O (fd_plain Q) v y k e i J) fun r s' E=>?_);obtain⟨rfl,H,F,L⟩:=E;exact⟨.inl ⟨.bool true,.bool true,[],rfl,fun _=>rfl,.bool true,zq l _,fun _=>⟨List.Pairwise.nil,fun _ I=>(nomatch I)⟩⟩,H,F,L⟩
section
variable {prog:Program}{w:World}{A:Around}{E:Value->Shared->Prop}{s:Shared}{K:Frag}
def ledger (h : Heap) (L d : Addr) : List (Addr × Obj):=(List.range h.objs.size).filterMap fun a => if a = L \/ a = d then none else (h.get? a).map fun o => (a,o)
end
end Att
namespace L2
theorem oY:∀{vs:List Value}{ns:List Int},IntsAre vs ns->Vals (ns.map V.int) vs
 |_,_,.nil=>.nil
 |_,_,.cons n t h=>.cons ⟨t,rfl⟩ (oY h)
def Only (H:Hp):Prop:=∀b,H b=none\/∃o xs,H b=some (.frz o (.lst xs))
theorem Aw {P:Program}{w:World}{K:Frag}{E T:Str->Option Value}{CX:CXT}{k:Nat}{Q a:Addr}{fd:FuncData}{x:Str}{sp:Sp}{c:Shared}{vs:List Value}{ns:List Int}
  (KX:K.In c.heap) (D:c.heap.Ns mainGlobals E) (g:c.heap.Ns builtinsNs T) (O:∀x:Str,x≠"__name__"->T x=bootBuiltins x) (t:c.heap.NoLimit) (hg:c.gens=#[])
  (J:c.heap.get? a=some { cls:=.type "list",data:=.seq vs.toArray}) (hi:IntsAre vs ns) (Z:ns.length<=sizeLine) (hr:Room k callerA)
  (F:∀base:Heap,K.In base->base.Ns mainGlobals E->FnOk P w K E base CX k Q fd [x] sp) (l:∀(s:Shared) (u:Value),BindsTo s fd ⟨[u],[]⟩ [(x,u)])
  (N:∀H:Hp,Only H->SqL K H a (ns.map V.int)->sp [.ref a] H (fun v _=>v=.bl true) fun _ _ _=>False)
  (S:∀H e s',CX [] H c (fun _ _ _=>False) e s'->False) :
  codeAny (model P w) callerA (.call (.ref Q) ⟨[.ref a],[]⟩) (fun r s'=>r=.ok (.ret (.bool true))/\OldK c.heap s'.heap/\s'.os=c.os/\AllBare s'.gens) c:=by
 have rv:=oY hi;have G:=hi.length
 have j:∀H:Hp,Only H->SqL K H a (ns.map V.int)->HOk P w H c.heap->(∀b,H b≠none->b=a)->(H a≠none->K.lookup a=none) ->
   codeAny (model P w) callerA (.call (.ref Q) ⟨[.ref a],[]⟩) (fun r s'=>r=.ok (.ret (.bool true))/\OldK c.heap s'.heap/\s'.os=c.os/\AllBare s'.gens) c:=by
  intro H U hS y Y hK
  have f:∀{b:Addr} {o:Obj},c.heap.get? b=some o->H b=none->(pX c.heap H).get? b=some o:=fun e n=>z7 e n
  have L:∀{b:Addr} {o:Obj} {A:Array DictEntry} {ep:Nat},c.heap.get? b=some o->o.data=.dict A ep->H b=none:=fun {b o A ep} e d=>by
   cases q:H b with
   |none=>rfl
   |some u =>
    have R:b=a:=Y b (by rw[q];simp)
    subst R
    rw[J] at e;cases e
    have d':Data.seq vs.toArray _=Data.dict A ep:=d
    cases d'
  have i:∀{b:Addr} {m:Str->Option Value},c.heap.Ns b m->(pX c.heap H).Ns b m:=fun {b m} ⟨o,A,ep,e,d,r⟩=>⟨o,A,ep,f e (L e d),d,r⟩
  have I:K.In (pX c.heap H):=fun b o e=>f (KX b o e) (by
   cases q:H b with
   |none=>rfl
   |some u =>
    have R:b=a:=Y b (by rw[q];simp)
    subst R
    rw[hK (by rw[q];simp)] at e;cases e)
  have hM:Mod K E (pX c.heap H):=⟨I,i D,⟨T,i g,O⟩,let ⟨mc,h1,h2⟩:=t;⟨mc,i h1,h2⟩⟩
  have e0:Env0 P w K E (pX c.heap H) callerA [] c H:=⟨rfl,hM,fun b o e=>Fv e,Zd (yQ _ _),trivial,fun b g=>absurd (show b∈([]:List Addr) from g) (by simp),y,.of_eq hg⟩
  refine codeAny_mono ((F _ I (i D)).run callerA [] c H ⟨[.ref a],[]⟩ [.ref a] [.ref a] _ _ hr e0 (l c (.ref a)) (.cons rfl .nil) (N H U hS)) fun r s' h=>?_
  cases r with
  |error e=>exact (S H e s' h).elim
  |ok fl =>
   cases fl with
   |next=>exact False.elim h
   |brk=>exact False.elim h
   |cont=>exact False.elim h
   |ret u =>
    obtain⟨v,H',os,C,X,p,r',q⟩:=h
    have q':v=.bl true:=q
    subst q'
    obtain rfl:u=Value.bool true:=r'
    refine⟨rfl,OldK.of_keep fun b o e=>?_,os,C⟩
    cases q:H b with
    |none=>exact X.keep b o e q (by intro z;exact absurd (show b∈([]:List Addr) from z) (by simp)) (by simp)
    |some u =>
     rcases U b with z | ⟨ob,xs,z⟩
     ·
      rw[q] at z;cases z
     ·
      have z2:=X.frzs b ob _ z
      obtain⟨W,_⟩:=y b _ z
      obtain⟨e2,_⟩:=p b _ z2
      rw[e] at W;cases W
      exact e2
 cases M:K.lookup a with
 |some o =>
  have e:=KX a o M
  rw[J] at e
  cases e
  refine j (fun _=>none) (fun _=>.inl rfl) (.inr ⟨_,vs.toArray,_,M,rfl,rfl,rfl,by rw[n_,G];exact Z,by simpa using rv⟩) (fun b u z=>by have B:(none:Option HO)=some u:=z;cases B) (fun b z=>absurd rfl z) fun z=>absurd rfl z
 |none =>
 refine j (fun b=>if b=a then some (.frz { cls:=.type "list",data:=.seq vs.toArray} (.lst (ns.map V.int))) else none) (fun b=>?_) (.inl (.inr ⟨{ cls:=.type "list",data:=.seq vs.toArray},if_pos rfl⟩)) (fun b u z=>?_) (fun b z=>?_) fun _=>M
 ·by_cases g:b=a
  ·exact .inr ⟨_,_,if_pos g⟩
  exact .inl (if_neg g)
 ·by_cases g:b=a
  ·have B:=(if_pos g).symm.trans z;cases B;subst g;exact⟨J,by rw[b_];exact Z,vs,_,rv,J⟩
  have B:=(if_neg g).symm.trans z;cases B
 by_cases g:b=a
 ·exact g
 exact absurd (if_neg g) z
abbrev KOf {K:Frag}{h:Heap}(_:K.In h):Frag:=K
theorem walk_of {l:PySem.W.OpenLaw}{n k:Nat}{q:Program}{loose:List Str}{XP:(Str->Option Value)->Heap->Prop}{YP:World->Heap->Prop}{d:DefRec}{K:Params->Frag}{CX:World->CXT}{sp:World->Sp}{x:Str}
  (Q:l.most=some n) (t:n<=sizeLine) (A:d.params.defaults=[]) (L:Room k callerA)
  (I:∀(w:World) (h:Heap),YP w h->(K w.params).In h)
  (F:∀(w:World) (j:Str->Option Value) (r:Addr) (h:Heap),(K w.params).In h->h.Ns mainGlobals j->j d.name=some (.ref r) ->
   ∃z:FuncData,(∀(s:Shared) (u:Value),BindsTo s z ⟨[u],[]⟩ [(x,u)]) /\
    ∀base:Heap,(K w.params).In base->base.Ns mainGlobals j->FnOk l.prog w (K w.params) j base (CX w) k r z [x] (sp w))
  (y:∀(w:World) (H:Hp) (a:Addr) (ns:List Int),ns.length<=n->Only H->SqL (K w.params) H a (ns.map V.int)->sp w [.ref a] H (fun v _=>v=.bl true) fun _ _ _=>False)
  (B:∀(w:World) (H:Hp) (s:Shared) (e:Value) (s':Shared),CX w [] H s (fun _ _ _=>False) e s'->False) :
  PySem.W.WalkO q loose XP YP l.row.toRowW d [] (fun f vs=>PySem.call f vs):=by
 refine Att.attach_call Q A fun w D p j X r o U Z N a vs ns G Y ho hd P C m i c M=>?_;have E:=I w _ Y;obtain⟨z,R,O⟩:=F w j r _ E G.T.g C;exact Aw E G.T.g G.T.b G.T.builtins G.T.nolimit M m i (W6 c t) L O R (fun H J S=>y w H a ns c J S) fun H e s'=>B w H p e s'
end L2
/- THE LAST THEOREM (shape;LID,My.* are yours):
  My.Adr: a structure of the addresses that your layer names (classes,functions);My.Txt K t: a structure (Prop) of the equations over K;
  My.txt_mk:{K} {implicit addresses ..} (e1:nsIn K mainGlobals "law"=some (some (.ref f))) (e2:K.lookup f=some ⟨oc,od,.func (fnOf "law" "law" params body scope dV kV doc pm an cdv ct),sl⟩) (e3:codeIn K cdv "law"=true) .. : ∃t,My.Txt K t
set_option maxRecDepth 100000 in
set_option maxHeartbeats 0 in
theorem PySem.Challenge.cw_LID_holds : PySem.Challenge.rw_LID.Holds := by
 w_on;o_law;k_head;(case hw=>w_witness2)
 k_fill
 refine L2.walk_of (l:=PySem.Challenge.rw_LID) (n:=63) (k:=40) (x:="script") (CX:=fun w=>..) (sp:=fun _=>My.sp_law) rfl (by decide) rfl ⟨rfl,by decide,by decide⟩ (fun w h Y=>PySem.W.kIn_of Y) ?F ?S ?C
 case F =>
  intro w m g h e G d
  have T:∃t,My.Txt (L2.KOf e) t:=by
   dsimp only[L2.KOf]                          -- K must stand as «<heap const> w.params» for k_is
   refine' My.txt_mk ?e1 ?e2 ?e3 ..
   (case e1=>PySem.W.k_is)                    -- in the order: a name->its address->its object->its parts
   (case e2=>PySem.W.k_is)
   ..
  obtain⟨t,T⟩:=T
  have f:=d.symm.trans (mg_of e G T.law)
  cases f                                       -- g is the law's own address
  exact⟨_,fun s u=>.of_eq rfl,fun base c nb=>My.law_fn T c nb⟩     -- if «.of_eq rfl» comes too early: refine'⟨_,?b,fun base c nb=>My.law_fn T c nb⟩;exact fun s u=>.of_eq rfl
 case S=>exact fun w H a ns j i o=>..
 case C=>exact ..
(the tactic k_is has no namespace: write k_is) -/
namespace L2
abbrev CX0:CXT:=fun _ _ _ _ _ _=>False
abbrev E0:XK:=fun _ _ _=>False
theorem Ax {X:Cx}:jP CX0 X E0:=fun _ _ _ _ _ _ _ h=>h.elim
structure Fun (K:Frag) (x qual:Str) (st:Stmt) (f:Addr) (fd:FuncData):Prop where
 ex:∃(oc:Value) (od:Option Addr) (kV doc pm:Value) (an:Option Addr) (cdv ct:Value) (osl:Array (Option Value)),
  fd=fnOf x qual (cu st) (bW st) (aA st) .none kV doc pm an cdv ct/\K.lookup f=some ⟨oc,od,.func fd,osl⟩/\codeIn K cdv qual=true
 kp:keepIn K (.ref f)=true
section
variable {P:Program}{w:World}{K:Frag}{mg:Str->Option Value}{base:Heap}
theorem Fun.ok {x b:Str}{st:Stmt}{f:Addr}{j:FuncData}{N ps:List Str}{k:Nat}{sp:Sp}(F:Fun K x b st f j) (S:FnScope N ps (aA st)) (i:∀vs H Q E,sp vs H Q E->vs.length=ps.length)
  (d:∀(c:Value) (A:Around) (a:List Env) (s:Shared) (H:Hp) (vs:List V) (Q:VK) (E:XK),Room k (A.deeper (envOfC b (aA st) s.heap.objs.size f c))->sp vs H Q E ->
   ∃t,PSs (uT CX0 P w K mg base N b (aA st) f c A a s H E).nox (bW st) t/\t { nx:=fun _ H'=>Q .non H',rt:=Q} (start N vs) H):FnOk P w K mg base CX0 (k+1) f j ps sp:=by
 obtain⟨oc,od,kV,m,r,o,c,p,osl,rfl,l,g⟩:=F.ex;refine RC l g S i fun A a s H vs Q E n e=>?_;obtain⟨t,h,q⟩:=d c A a s H vs Q E n e;exact⟨t,h.nox,q⟩
theorem Fun.binds {x a:Str}{st:Stmt}{f:Addr}{i:FuncData}{ps:List Str}(F:Fun K x a st f i)
  (h:∀(kV c g:Value) (d:Option Addr) (b e:Value) (us:List Value),us.length=ps.length->bindArgs (fnOf x a (cu st) (bW st) (aA st) .none kV c g d b e) ⟨us,[]⟩=pure (ps.zip us)):Binds K i ps []:=by
 obtain⟨oc,od,kV,c,g,d,b,e,osl,rfl,k,j⟩:=F.ex;exact .all (h kV c g d b e)
theorem lQ {x a:Str}{st:Stmt}{f:Addr}{oc:Value}{od e:Option Addr}{osl:Array (Option Value)}{kV d h b g:Value}(l:K.lookup f=some ⟨oc,od,.func (fnOf x a (cu st) (bW st) (aA st) .none kV d h e b g),osl⟩)
  (c:codeIn K b a=true) (k:keepIn K (.ref f)=true):Fun K x a st f (fnOf x a (cu st) (bW st) (aA st) .none kV d h e b g):=⟨⟨oc,od,kV,d,h,e,b,g,osl,rfl,l,c⟩,k⟩
variable {X:Cx}
theorem pv (i:Nat) {x:Str}{b:Pos}(c:X.N[i]?=some x:=by rfl) (d:Vis X.env.scope x:=by first | exact Or.inl rfl | exact Or.inr (Or.inl rfl) | exact Or.inr (Or.inr rfl)) (e:(x==("__debug__":Str))=false:=by decide)
  (a:(x==("__classdict__":Str))=false:=by decide):PE X (.Name x b) (Q0 i):=Lr c d e a
end
theorem Wf {A B:Prop}(h:B):if false=true then A else B:=by
 rw[if_neg t_];exact h
theorem Wg {A B:Prop}(h:A):if true=true then A else B:=by
 rw[if_pos rfl];exact h
section
variable {κ:Type} [DecidableEq κ]
theorem kY:∀{l:List κ}{k:κ},l.Nodup->¬k∈l->(l++[k]).Nodup
 |[],k,_,_=>by simp
 |a::r,k,h,hk=>by
  obtain⟨c,b⟩:=Xn.mp h
  show (a::(r++[k])).Nodup
  refine Xn.mpr ⟨fun m=>?_,kY b fun m=>hk (o_.mpr (Or.inr m))⟩
  rcases A_.mp m with q | q
  ·
   exact c q
  ·
   exact hk (o_.mpr (Or.inl (g_.mp q).symm))
end
abbrev NK:=Int × List Str
section
variable {prog:Program}{w:World}{A:Around}{E:Value->Shared->Prop}{s:Shared}
def uZ (ns:List Str):List Key:=ns.map Sum.inr
theorem lR:∀{a b:List Str},uZ a=uZ b->a=b
 |[],[],_=>rfl
 |x::a,y::b,h=>by
  injection h with h1 h2
  rw[Sum.inr.inj h1,lR (a:=a) (b:=b) h2]
def NKis (prog:Program) (w:World) (h:Heap) (k:NK) (a:Addr):Prop:=∃o t b n,h.get? a=some o/\o.cls=.type "tuple"/\o.data=.seq #[.int k.1 t,.ref b] n/\IsTupleKey (bC prog w) h (uZ k.2) b
def u5 (w:World) (k:NK):Int:=reduceHash (Builtin.Tuple.tupleHashOf [Lj w (.inl k.1),reduceHash (Builtin.Tuple.tupleHashOf ((uZ k.2).map (Lj w)))])
theorem NKis.ty {k:NK}{a:Addr}(x:NKis prog w s.heap k a):s.TypeIs (.ref a) "tuple":=let ⟨o,_,_,_,ho,hc,_⟩:=x;⟨o,ho,hc⟩
theorem NKis.inj {h:Heap}{a:Addr}{x y:NK}(g:NKis prog w h x a) (i:NKis prog w h y a):x=y:=by
 obtain⟨o,t,b,n,q,_,m,k⟩:=g;obtain⟨z,t',v,u,d,_,c,f⟩:=i;rw[q] at d;cases d;rw[m] at c;obtain⟨A,l⟩:=x;obtain⟨s,r⟩:=y;simp at c;obtain⟨⟨⟨p,_⟩,j⟩,_⟩:=c;subst p j;have e:l=r:=lR (k.inj f);rw[e]
theorem Ay {z:Int}{Q:Int->Shared->Prop}(h:Q (reduceHash z) s):wpAny (model prog w) A (pyHashByItsType.reduced z) Q E s:=by
 show wpAny _ _ (if (decide (-(2:Int)^63<=z)&&decide (z<2^63))=true then _ else _) Q E s;unfold reduceHash at h;by_cases c:(decide (-(2:Int)^63<=z)&&decide (z<2^63))=true
 ·rw[if_pos c] at h ⊢;exact C_ h
 rw[if_neg c] at h ⊢;exact h_ (Z3 (C_ h))
theorem Gx {k:NK}{a:Addr}{Q:Int->Shared->Prop}(g:A.units+1<cLine) (d:NKis prog w s.heap k a) (h:Q (u5 w k) { s with toks:=s.toks+(k.2.length+3)}):wpAny (model prog w) A (pyHash (.ref a)) Q E s:=by
 have c:=d.ty;obtain⟨o,t,b,n,i,_,j,f⟩:=d;unfold pyHash;first | unfold pyHashByItsType | skip
 first | refine h_ (wpAny_cRoomFor_or (.inr (by omega)) ?_) | skip
 refine h_ (ZZ c aaa.lookup ?_);show wpAny _ _ (if (some (Value.builtin "tuple.__hash__")==some Value.none)=true then _ else _) Q E s;rw[if_neg (by rw[beq_builtin_none];exact t_)];refine h_ (ZZ c aaa.lookup ?_);show wpAny _ _ (callSpecialIfBoundUnlessNone? (.ref a) "__hash__" _ >>= _) Q E s;refine h_ (wpAny_callSpecialIfBoundUnlessNone?_slot c aaa (ZL aaa c F.entry_tuple_hash ?_ (F.args_tuple_hash_1 _)));show wpAny _ _ (Builtin.Tuple.tupleItemsOf (.ref a) >>= _) _ _ s;refine h_ (wpAny_tupleItemsOf i j (h_ ?_));rw[<- Array.forIn_toList];show wpAny _ _ (forIn [Value.int k.1 t,Value.ref b] _ _) _ _ _;rw[YF];refine h_ (h_ ((bC prog w).pyHash (k:=.inl k.1) (oG k.1 t) (C_ ?_)));dsimp only;rw[YF];refine h_ (h_ (wpAny_pyHash_tuple (s:={ s with toks:=s.toks+1}) g f (C_ ?_)));dsimp only;rw[List.forIn_nil];refine C_ (wpAny_ret_mkInt ?_);refine Ay ?_;have e:k.2.length+3=1+((uZ k.2).length+1)+1:=by unfold uZ;rw[b_];omega
 rw[e,<- aah,<- aah] at h;exact h
theorem Nh {x y:NK}{a b:Addr}{R:Fin->Shared->Prop}(v:A.units<cLine) (l:NKis prog w s.heap x a) (j:NKis prog w s.heap y b) (h:R (.done (.ret (.bool (decide (x=y))))) s):wpAny (model prog w) A (Builtin.«tuple.__eq__» ⟨[.ref a,.ref b],[]⟩) R E s:=by
 have u:=j.ty;obtain⟨o,t,c,n,C,_,q,k⟩:=l;obtain⟨G,t',r,F,f,_,i,d⟩:=j;show wpAny _ _ (isInstance (.ref b) (.type "tuple") >>= _) _ _ s;refine h_ (wpAny_isInstance u isSubtype_tuple_tuple ?_);simp only[Xw,K_,Xd];refine h_ (wpAny_tupleItemsOf C q (h_ (wpAny_tupleItemsOf f i (h_ ?_))));show wpAny _ _ (forIn [(Value.int x.1 t,Value.int y.1 t'),(Value.ref c,Value.ref r)] _ _) _ _ _;rw[YF];refine h_ (h_ (wpAny_eqBool_int ?_));obtain⟨B,p⟩:=x;obtain⟨m,D⟩:=y;dsimp only at h k d ⊢;by_cases e:B=m
 ·subst e;rw[if_neg (by simp)];refine C_ ?_;dsimp only;rw[YF];refine h_ (h_ (wpAny_eqBool_tuple v k d ?_));by_cases g:p=D
  ·subst g;rw[q_ rfl] at h;rw[q_ rfl,if_neg (by decide)];refine C_ ?_;dsimp only;rw[List.forIn_nil];exact C_ (C_ h)
  rw[p_ (fun z=>g (lR z)),if_pos (by decide)];rw[p_ (fun z=>g (Prod.mk.inj z).2)] at h;exact h_ (C_ (C_ (C_ (C_ h))))
 rw[if_pos (by simp [e])];rw[p_ (fun z=>e (Prod.mk.inj z).1)] at h;exact h_ (C_ (C_ (C_ (C_ h))))
theorem Sd {x y:NK}{a b:Addr}{Q:Bool->Shared->Prop}(g:A.units+1<cLine) (c:NKis prog w s.heap x a) (d:NKis prog w s.heap y b) (h:Q (decide (x=y)) s):wpAny (model prog w) A (eqBool (.ref a) (.ref b)) Q E s:=by
 unfold eqBool;try with_reducible refine Zi ?_
 show wpAny _ _ (if (Value.ref a==Value.ref b)=true then _ else _) Q E s;by_cases e:(Value.ref a==Value.ref b)=true
 ·rw[if_pos e];have f:a=b:=by have:=eq_of_beq e;injection this
  subst f;obtain rfl:=NKis.inj c d;exact h_ (Z3 (C_ (by simpa using h)))
 rw[if_neg e];exact h_ (wpAny_richCompare_same_room (op:=.Eq) c.ty d.ty F.slot_tuple_eq (ZL F.slot_tuple_eq c.ty F.entry_tuple_eq (Nh g c d ⟨_,rfl,(fun e=>nomatch e),YT h⟩) (F.args_tuple_eq_2 _ _)) (by omega))
theorem Az {h h':Heap}{k:NK}{a d:Addr}{o:Obj}{es ep}(x:NKis prog w h k a) (g:h.get? d=some o) (j:o.data=.dict es ep) (i:Heap.SameBut d h h'):NKis prog w h' k a:=by
 obtain⟨m,t,b,n,e,p,c,l⟩:=x;have f:a≠d:=by rintro rfl;rw[e] at g;cases g;rw[j] at c;cases c
 exact⟨m,t,b,n,(i.2 a f).trans e,p,c,l.keeps g j i⟩
theorem Ni {ks:List Key}{a:Addr}{Q:Bool->Shared->Prop}(f:IsTupleKey (bC prog w) s.heap ks a) (h:Q true s):wpAny (model prog w) A (eqIsQuiet 7 (.ref a)) Q E s:=by
 have e:=f.typeIs;obtain⟨o,c,n,k,_,j,i⟩:=f;unfold eqIsQuiet;refine h_ (ZZ e F.slot_tuple_eq.lookup ?_);show wpAny _ _ (isInstance (.ref a) (.type "tuple") >>= _) _ _ s;refine h_ (wpAny_isInstance e isSubtype_tuple_tuple ?_);simp only[Xw,K_,Xd];refine h_ (wpAny_seqItems k j (h_ ?_));show wpAny _ _ (forIn c _ _) _ _ s;rw[<- Array.forIn_toList];refine wpAny_forIn_list _ (fun rest r s'=>r.1=none/\s'=s/\∀v∈rest,carriedByValue v=true) _ ?_ ?_ _ _ ⟨rfl,rfl,i.byValue⟩
 ·rintro v rest r s' ⟨g,rfl,b⟩;rw[eqIsQuiet_byValue _ (b v m_)];refine h_ (C_ ?_);simp only[Xw,K_,Xd];exact C_ ⟨rfl,rfl,fun u d=>b u (F_ _ d)⟩
 rintro⟨l,m⟩ s' ⟨g,rfl,_⟩;cases g;exact C_ h
theorem Ba {k:NK}{a:Addr}{Q:Bool->Shared->Prop}(d:NKis prog w s.heap k a) (h:Q true s):wpAny (model prog w) A (eqIsQuiet 8 (.ref a)) Q E s:=by
 have c:=d.ty;obtain⟨o,t,b,n,f,_,g,e⟩:=d;unfold eqIsQuiet;refine h_ (ZZ c F.slot_tuple_eq.lookup ?_);show wpAny _ _ (isInstance (.ref a) (.type "tuple") >>= _) _ _ s;refine h_ (wpAny_isInstance c isSubtype_tuple_tuple ?_);simp only[Xw,K_,Xd];refine h_ (wpAny_seqItems f g (h_ ?_));show wpAny _ _ (forIn (#[Value.int k.1 t,Value.ref b]:Array Value) _ _) _ _ s;rw[<- Array.forIn_toList];show wpAny _ _ (forIn [Value.int k.1 t,Value.ref b] _ _) _ _ s;rw[YF,eqIsQuiet_byValue _ rfl];refine h_ (h_ (C_ ?_));rw[if_neg (by decide)];refine C_ ?_;dsimp only;rw[YF];refine h_ (h_ (Ni e ?_));rw[if_neg (by decide)];refine C_ ?_;dsimp only;rw[List.forIn_nil];exact C_ (C_ h)
end
def lU (prog:Program) (w:World):HeapKind prog w NK where
 is:=NKis prog w
 hash:=u5 w
 draws:=fun k=>k.2.length+3
 room:=fun A=>A.units+1<cLine
 inj:=fun d a=>NKis.inj d a
 keeps:=fun x e g f=>Az x e g f
 pyHash:=fun b c h=>Gx b c h
 eqBool:=fun b d a h=>Sd b d a h
 quiet:=fun c h=>Ba c h
def KA (ks:List (NK × Addr × V)) (xs:List (NK × Addr × Value)):Prop:=Paired (fun p q=>p.1=q.1/\p.2.1=q.2.1/\RelV p.2.2 q.2.2) ks xs
def eN (ks:List (NK × Addr × V)) (k:NK):Option V:=(ks.find? fun x=>decide (x.1=k)).map (·.2.2)
def qj (ks:List (NK × Addr × V)) (k:NK) (b:Addr) (v:V):List (NK × Addr × V):=if (eN ks k).isSome then ks.map (fun x=>if x.1=k then (x.1,x.2.1,v) else x) else ks++[(k,b,v)]
theorem KA.look {ks:List (NK × Addr × V)}{xs:List (NK × Addr × Value)}(r:KA ks xs) (k:NK):RelO (eN ks k) ((atKey xs k).map (·.2)):=by
 induction r with
 |nil=>exact trivial
 |@cons p q l m h t a =>
 obtain⟨c,g,i⟩:=p;obtain⟨j,f,d⟩:=q;obtain⟨rfl,rfl,b⟩:=h;unfold eN atKey at a ⊢;rw[X8,X8];by_cases e:c=k
 ·rw[q_ (by exact e)];exact b
 rw[p_ (by exact e)];exact a
theorem KA.put {ks:List (NK × Addr × V)}{xs:List (NK × Addr × Value)}(r:KA ks xs) (k:NK) (b:Addr) {v:V}{u:Value}(a:RelV v u):KA (qj ks k b v) (storedH xs k b u):=by
 have e:=(r.look k).isSome_eq;rw[Zt] at e;unfold qj storedH;rw[e];split
 ·rename_i c;clear e c;induction r with
  |nil=>exact .nil
  |@cons p q l m h t d =>
  obtain⟨j,n,o⟩:=p;obtain⟨s,i,g⟩:=q;obtain⟨rfl,rfl,f⟩:=h;refine .cons ?_ d;unfold putAt;dsimp only;split <;> exact⟨rfl,rfl,by assumption⟩
 exact aaj r ⟨rfl,rfl,a⟩
theorem Bb {ks:List (NK × Addr × V)}{k:NK}{b:Addr}{v:V}:(qj ks k b v).length<=ks.length+1:=by
 unfold qj;split
 ·rw[b_];omega
 rw[a_];exact j_ _
def dnP (w:World) (a:Addr) (ks:List (NK × Addr × V)) (h:Heap):Prop:=ks.length<=sizeLine/\(a==sysModules)=false/\∃xs,KA ks xs/\∃o b ep,h.get? a=some o/\o.ExactDict/\o.data=.dict b ep/\b.toList=xs.map (fun x=>⟨u5 w x.1,.ref x.2.1,x.2.2⟩)/\(xs.map (·.1)).Nodup
def dnO (w:World) (a:Addr) (ks:List (NK × Addr × V)):HO:=.ext (dnP w a ks)
theorem dnO.ok {P:Program}{w c:World}{H:Hp}{h:Heap}{a:Addr}{ks:List (NK × Addr × V)}(x:dnP w a ks h):ObjOk P c H h a (dnO w a ks) :=
 ⟨x,let ⟨_,_,_,_,o,_,_,e,_⟩:=x;⟨o,e⟩,fun _ _ ⟨z,y,xs,r,o,b,ep,e,q⟩ k=>⟨z,y,xs,r,o,b,ep,k o e,q⟩⟩
def NKt (K:Frag) (H:Hp) (k:NK) (a:Addr):Prop:=∃b,SqT K H a [.int k.1,.ref b]/\SqT K H b (k.2.map V.str)
def rZ (K:Frag) (H:Hp) (ks:List (NK × Addr × V)):Prop:=∀x∈ks,NKt K H x.1 x.2.1
section
variable {X:Cx}{pins:List (Addr × Obj)}{σ:St}{H:Hp}{s:Shared}{a b:Addr}{v d:V}{u r:Value}{k:NK}{ks:List (NK × Addr × V)}{A:Around}{E:Value->Shared->Prop}
theorem sr:∀{ns:List Str}{a:List Value},Vals (ns.map V.str) a->ItemsAre (bC X.prog X.w) (uZ ns) a
 |[],_,.nil=>.nil
 |n::ns,_,.cons h t=>by
  obtain⟨t',rfl⟩:=h
  exact .cons (oH n t') (sr t)
theorem NKt.is (I:Inv X pins σ H s) (h:NKt X.K H k a):(lU X.prog X.w).is s.heap k a:=by
 obtain⟨b,i,c⟩:=h;obtain⟨f,r,⟨o,v,p,n,l⟩,_⟩:=I.tuple i;obtain⟨its',q,⟨m,d,u,g,x⟩,_⟩:=I.tuple c;cases r with
 |cons e t=>cases t with
  |cons j t=>cases t with
   |nil =>
    obtain⟨t,rfl⟩:=e
    cases (show _=Value.ref b from j)
    exact⟨o,t,b,n,v,p,l,m,_,g,d,u,x,by simpa using sr q⟩
theorem wK (I:Inv X pins σ H s) (e:H a=some (dnO X.w a ks)) (n:rZ X.K H ks):ks.length<=sizeLine/\(a==sysModules)=false/\∃xs,KA ks xs/\s.heap.DictOfH (lU X.prog X.w) a xs:=by
 obtain⟨z,k,xs,r,o,i,ep,p,h,g,j,A⟩:=(show ObjOk X.prog X.w H s.heap a (dnO X.w a ks) from I.hok a _ e).1;refine⟨z,k,xs,r,o,i,ep,p,h,g,j,fun x b=>?_,A⟩;have d:∀{l:List (NK × Addr × V)} {m:List (NK × Addr × Value)},KA l m->∀x∈m,∃y∈l,y.1=x.1/\y.2.1=x.2.1:=fun q=>by
  induction q with
  |nil=>intro x b;exact nomatch b
  |cons f _ u =>
  intro x b;rcases o_.mp b with rfl | b
  ·exact⟨_,.head _,f.1,f.2.1⟩
  obtain⟨y,c,z⟩:=u x b;exact⟨y,.tail _ c,z⟩
 obtain⟨y,c,v,t⟩:=d r x b;have:=(n y c).is I
 rwa [v,t] at this
theorem Wh {Q:Value->Shared->Prop}(g:A.units+30<cLine) (I:Inv X pins σ H s) (e:H a=some (dnO X.w a ks)) (n:rZ X.K H ks) (c:NKt X.K H k b) (h:∀s',Inv X pins σ H s'->Q (.bool (eN ks k).isSome) s'):wpAny (model X.prog X.w) A (compareOp .In (.ref b) (.ref a)) Q E s:=by
 obtain⟨z,d,xs,r,f⟩:=wK I e n;refine wpAny_in_heap (knd:=lU X.prog X.w) (show A.units+1+1<cLine by omega) (c.is I) d f ?_;have q:=(r.look k).isSome_eq;rw[Zt] at q;rw[<- q];exact h _ (I.tok _)
theorem Nj {Q:Value->Shared->Prop}(l:A.units+30<cLine) (I:Inv X pins σ H s) (e:H a=some (dnO X.w a ks)) (n:rZ X.K H ks) (g:NKt X.K H k b) (f:RelV d r) (h:∀w' s',Inv X pins σ H s'->RelV ((eN ks k).getD d) w'->Q w' s'):wpAny (model X.prog X.w) A (call (.builtin "dict.get") [.ref a,.ref b,r]) Q E s:=by
 obtain⟨z,j,xs,i,c⟩:=wK I e n;exact call_meetsIn PySem.F.slot_dict_get c.typeIs PySem.F.entry_dict_get (PySem.F.args_dict_get_3 _ _ _) (meetsH_dict_get_default (lU X.prog X.w) a b j r) ⟨show A.units+1+1<cLine by omega,k,xs,g.is I,c,h _ _ (I.tok _) ((i.look k).getD f)⟩
theorem Sh {Q:Unit->Shared->Prop}(D:A.units+30<cLine) (I:Inv X pins σ H s) (e:H a=some (dnO X.w a ks)) (n:rZ X.K H ks) (p:NKt X.K H k b) (B:ks.length<sizeLine) (t:RelV v r) (h:∀s',Inv X pins σ (upd H a (dnO X.w a (qj ks k b v))) s'->Q () s'):wpAny (model X.prog X.w) A (setItem (.ref a) (.ref b) r) Q E s:=by
 obtain⟨z,m,xs,f,o⟩:=wK I e n;have u:xs.length<=sizeLine:=by rw[<- Yx f];exact z
 refine wpAny_setItem_heap (knd:=lU X.prog X.w) (hsz:=u) (show A.units+1+1<cLine by omega) (p.is I) o fun h' c x=>h _ ?_;obtain⟨q,j,ep,d,i,g,l,_,y⟩:=c;have C:=Bb (ks:=ks) (k:=k) (b:=b) (v:=v);exact kW I (by rw[e];exact True.intro) x ⟨q,d⟩ (dnO.ok ⟨by omega,m,_,f.put k b t,q,j,ep,d,i,g,l,y⟩)
theorem Sq (I:Inv X pins σ H s):Inv X pins σ (upd H s.heap.objs.size (dnO X.w s.heap.objs.size [])) { s with heap:=s.heap.push { cls:=.type "dict",data:=.dict #[]}} :=
 I.laid (a:=s.heap.objs.size) (t':=s.toks) (fun _ _ q=>l_ _ q) (j_ _) (dnO.ok ⟨Yy _,XR.mpr (Ne.symm (Xj I.big)),[],.nil,_,#[],0,V_ _ rfl,⟨rfl,rfl,rfl⟩,rfl,rfl,Y7⟩)
end
theorem j5 {F:Str × NameKind->Str × NameKind}(b:∀p,(F p).1=p.1) {x:Str}{k:NameKind}:∀{a:List (Str × NameKind)},a.lookup x=some k->(a.map F).lookup x=some (F (x,k)).2
 |[],h=>by cases h
 | (m,q)::r,h=>by
  have d:=b (m,q)
  rw[y_,show F (m,q)=(m,(F (m,q)).2) from Prod.ext d rfl]
  by_cases e:x=m
  ·
   subst e
   rw[List.lookup_cons_self] at h ⊢
   cases h
   rfl
  ·
   have c:(x==m)=false:=XR.mpr e
   simp only[List.lookup,c] at h ⊢
   exact j5 b h
theorem jc {env:Env}{x:Str}{a:List (Str × NameKind)}(h:a.lookup x=some .free) :
  (a.map fun (n,k)=>if (k==NameKind.free&&env.scope.kind==.function&&env.kindOf n==some .cell) then (n,NameKind.cell) else (n,k)).lookup x=some .cell \/
  (a.map fun (n,k)=>if (k==NameKind.free&&env.scope.kind==.function&&env.kindOf n==some .cell) then (n,NameKind.cell) else (n,k)).lookup x=some .free:=by
 rw[j5 (F:=fun (n,k)=>if (k==NameKind.free&&env.scope.kind==.function&&env.kindOf n==some .cell) then (n,NameKind.cell) else (n,k)) (fun p=>by dsimp only;split <;> rfl) h];dsimp only;split
 ·exact .inl rfl
 exact .inr rfl
theorem lV {scope:Scope}{env:Env}(h:∀y∈scope.names,y.2=.free->∃c,env.cells.lookup y.1=some c) :
  ∃d,closureFor scope env=pure d/\(∀x c,d.lookup x=some c->env.cells.lookup x=some c)/\∀y∈scope.names,y.2=.free->∃c,d.lookup y.1=some c:=by
 have z:∀(b:List (Str × NameKind)) (g:List (Str × Addr)),(∀y∈b,y.2=.free->∃c,env.cells.lookup y.1=some c)->(∀x c,g.lookup x=some c->env.cells.lookup x=some c) ->
   ∃d:List (Str × Addr),(forIn b g (fun (x:Str × NameKind) (r:List (Str × Addr))=>(do
    if x.2==.free then do
     let a <- cellOf env x.1
     pure (ForInStep.yield ((x.1,a)::r))
    else pure (ForInStep.yield r):Sem (ForInStep (List (Str × Addr))))):Sem (List (Str × Addr)))=pure d/\(∀x c,d.lookup x=some c->env.cells.lookup x=some c) /\
    (∀x c,g.lookup x=some c->∃p,d.lookup x=some p)/\∀y∈b,y.2=.free->∃c,d.lookup y.1=some c:=by
  intro b
  induction b with
  |nil=>intro g _ u;exact⟨g,rfl,u,fun x c e=>⟨c,e⟩,fun y f=>nomatch f⟩
  |cons y r B =>
   intro g v u
   obtain⟨n,k⟩:=y
   by_cases w:k=.free
   ·
    subst w
    obtain⟨c,A⟩:=v (n,.free) m_ rfl
    have i:cellOf env n=pure c:=by unfold cellOf;rw[A]
    obtain⟨d,e,s,o,l⟩:=B ((n,c)::g) (fun y f=>v y (F_ _ f)) (fun x p q=>by
     simp only[X_] at q
     cases j:x==n with
     |true=>rw[j] at q;cases q;rw[eq_of_beq j];exact A
     |false=>rw[j] at q;exact u x p q)
    refine⟨d,?_,s,fun x p q=>?_,fun y f t=>?_⟩
    ·
     rw[YF]
     show ((if (NameKind.free==NameKind.free)=true then (cellOf env n >>= fun a=>pure (ForInStep.yield ((n,a)::g))) else pure (ForInStep.yield g)) >>= _)=_
     rw[i]
     exact e
    ·
     cases j:x==n with
     |true=>exact o x c (by simp only[X_,j])
     |false=>exact o x p (by simp only[X_,j];exact q)
    ·
     rcases o_.mp f with rfl | f
     ·
      exact o n c (by simp [X_])
     ·
      exact l y f t
   ·
    obtain⟨d,e,s,o,l⟩:=B g (fun y f=>v y (F_ _ f)) u
    have C:(k==NameKind.free)=false:=by simpa using w
    refine⟨d,?_,s,o,fun y f t=>?_⟩
    ·
     rw[YF]
     show ((if (k==NameKind.free)=true then (cellOf env n >>= fun a=>pure (ForInStep.yield ((n,a)::g))) else pure (ForInStep.yield g)) >>= _)=_
     rw[C]
     exact e
    ·
     rcases o_.mp f with rfl | f
     ·
      exact absurd t w
     ·
      exact l y f t
 obtain⟨d,e,s,_,l⟩:=z scope.names [] h (fun x c q=>by simp at q);refine⟨d,?_,s,l⟩;unfold closureFor;exact O_ (fun m=>m >>= fun r=>pure r) e
def bU (X:Cx) (N':List Str) (scope:Scope) (b:List (Str × Addr)) (a:List (Addr × Obj)) (s:Shared) (H:Hp) (C:Addr) (c:List Addr):Cx where
 prog:=X.prog
 w:=X.w
 K:=X.K
 mg:=X.mg
 base:=X.base
 A:=X.A
 N:=N'
 s₀:=s
 H₀:=H
 env:=compEnvC scope b C X.env
 outer:=X.stack
 stack:=X.stack
 ex:=c
 fn:=fun x=>scope.names.lookup x==some .cell
 calm:=X.calm
 pn:=X.pn++a
 xe:=fun _ _=>False
def PIf (X:Cx) (b:List Expr) (t:TT):Prop :=
 ∀(a:List (Addr × Obj)) (s:Shared) (d:St) (H:Hp) (Q:Bool->Hp->Prop),Inv X a d H s->t d H Q ->
  wpAny (model X.prog X.w) X.A (forIn b true fun c r=>if r=true then do let e <- isTrue c X.env (eval c X.env);pure (ForInStep.yield e) else pure (ForInStep.yield r)) (TP X a d Q) X.xe s
def Wi:TT:=fun _ H Q=>Q true H
theorem Gy {X:Cx}:PIf X [] Wi:=fun _ _ _ H _ I h=>wpAny_tests_nil ⟨H,I,h⟩
theorem Gz {X:Cx}{c:Expr}{t:TT}(h:PT X c t):PIf X [c] t:=fun a s b H Q I d=>wpAny_tests_one (h a s b H Q I d)
section
variable {prog:Program}{w:World}{A:Around}{R:Result->Shared->Prop}{s:Shared}
theorem ql {y a f:Expr}{q:List Expr}{scope:Scope}{F:Pos}{it u:Value}{env:Env}(I:Nat->Shared->Prop)
  (D:∀n s,I n s->wpAny (model prog w) A (pyNext it) (fun r e=>match r with | .none=>R (.ok .next) e | .some v=>wpAny (model prog w) A (letOwnedTupleGo a it v) (fun _ d=>wpAny (model prog w) A (assign a env v) (fun _ p=>wpAny (model prog w) A (forIn q true fun c r=>if r=true then do let z <- isTrue c env (eval c env);pure (ForInStep.yield z) else pure (ForInStep.yield r)) (fun z b=>if z=true then wpAny (model prog w) A (eval y env) (fun x l=>wpAny (model prog w) A (call (.builtin "list.append") [u,x]) (fun _ g=>∃m,m<n/\I m g) (fun _ _=>False) l) (fun _ _=>False) b else ∃m,m<n/\I m b) (fun _ _=>False) p) (fun _ _=>False) d) (fun _ _=>False) e) (fun _ _=>False) s)
  (n:Nat) (h:I n s):codeAny (model prog w) A (.compLoop (.ListComp y [⟨a,f,q,0⟩] scope F) 0 it u env) R s:=by
 refine codeAny_loop rfl I (fun j o G=>?_) n h;show wpAny _ A ((compTurn (.ListComp y [⟨a,f,q,0⟩] scope F) 0 it u env).onRaise (fun x=>do noteFrame x env;theTreesLotGoes x)) _ _ o;refine wpAny_noted ?_;rw[compTurn_list];refine h_ (wpAny_standAt (h_ (Yg (D j o G) (fun r e i=>?_) fun _ _ h'=>h'.elim)));cases r with
 |none=>exact C_ i
 |some v =>
 refine h_ (Yg i (fun _ d t=>?_) fun _ _ h'=>h'.elim);refine h_ (Yg t (fun _ p B=>h_ (Yg B (fun z b k=>?_) fun _ _ h'=>h'.elim)) fun _ _ h'=>h'.elim);cases z with
 |false=>exact (C_ (And.intro rfl k))
 |true =>
 exact h_ (h_ (Yg k (fun x l C=>h_ (Yg C (fun _ g E=>C_ (C_ ⟨rfl,E⟩)) fun _ _ h'=>h'.elim)) fun _ _ h'=>h'.elim))
end
def wL (J:It) (g:TG) (tt:TT) (te:TE) (h:List V->Hp->Prop) (c:St) (f:Hp):Prop :=
 ∃W:Nat->Nat->List V->St->Hp->Prop,(∃m,W 0 m [] c f)/\∀i m d j H,W i m d j H ->
  (J.stop i H/\d.length<=sizeLine/\h d H) \/
  (J.go i H/\∀x H',J.yld i H x H'->g x j H' fun a k=>tt a k fun b H3=>if b=true then te a H3 fun y l=>d.length<sizeLine/\∃e,e<m/\W (i+1) e (d++[y]) a l else ∃e,e<m/\W (i+1) e d a H3)
def nU (nt:Nat) (cap:List Nat) (a:St):St:=List.replicate nt none++cap.map fun j=>(a[j]?).getD none
structure CompSc (X:Cx) (N':List Str) (nt:Nat) (cap:List Nat) (scope:Scope):Prop where
 kind:scope.kind=.function
 cells:∀y∈scope.names,y.2=.cell->scope.names.lookup y.1=some .cell
 names:∀x∈scope.names,x.2=.local->scope.names.lookup x.1=some .local
 free:∀y∈scope.names,y.2=.free->X.env.kindOf y.1=some .cell\/X.env.kindOf y.1=some .free
 len:N'.length=nt+cap.length
 caps:∀(j:Nat) (x:Str),N'[nt+j]?=some x->∃i,cap[j]?=some i/\X.N[i]?=some x/\scope.names.lookup x=some .free
theorem kI {l:Addr}{a:List Value}{n:Nat}{u:Value}{P:Program}{w:World}{A:Around}{E:Value->Shared->Prop}{s:Shared}{Q:Value->Shared->Prop}
  (e:s.heap.get? l=some { cls:=.type "list",data:=.seq a.toArray n}) (f:a.length<sizeLine)
  (h:∀h' n',h'.get? l=some { cls:=.type "list",data:=.seq (a++[u]).toArray n'}->(∀b o,b≠l->s.heap.get? b=some o->h'.get? b=some o)->Q .none { s with heap:=h'}) :
  wpAny (model P w) A (call (.builtin "list.append") [.ref l,u]) Q E s:=by
 refine Z1 F.slot_list_append ⟨_,e,rfl⟩ F.entry_list_append (F.args_list_append_2 _ _) (list_append l a.toArray n u (by rw[n_];omega)) ⟨e,?_⟩;have q:=PySem.IsL.update e (·.push u);rw[List.push_toArray] at q;exact h _ _ q (fun b o c d=>(Heap.get?_update_other s.heap _ (Ne.symm c)).trans d)
theorem bY:∀(b:List (Str × NameKind)) (n:Nat) (a:List (Str × Addr)),cellsFrom n b a=cellsFrom n b []++a
 |[],_,_=>rfl
 | (x,k)::r,n,a=>by
  unfold cellsFrom
  split
  ·
   rw[bY r (n+1) ((x,n)::a),bY r (n+1) [(x,n)],x_]
   rfl
  ·
   exact bY r n a
theorem dR {a:Type}(x:Str):∀(l m:List (Str × a)),(l++m).lookup x=(l.lookup x).or (m.lookup x)
 |[],_=>rfl
 | (y,v)::r,m=>by
  rw[Y8,X_,X_,dR x r m]
  cases x==y <;> rfl
theorem gO {a:List (Str × NameKind)}{n:Nat}{b:List (Str × Addr)}{x:Str}{c:Addr}(h:(cellsFrom n a b).lookup x=some c):(cellsFrom n a []).lookup x=some c\/((cellsFrom n a []).lookup x=none/\b.lookup x=some c):=by
 rw[bY,dR] at h;cases e:(cellsFrom n a []).lookup x with
 |some d=>rw[e] at h;exact .inl h
 |none=>rw[e] at h;exact .inr ⟨rfl,h⟩
theorem ji {x:Str}{c:Addr}:∀{a:List (Str × NameKind)}{n:Nat}{b:List (Str × Addr)},(x,c)∈cellsFrom n a b->(x,NameKind.cell)∈a\/(x,c)∈b
 |[],_,_,h=>.inr h
 | (y,k)::r,n,b,h=>by
  unfold cellsFrom at h
  split at h
  ·
   rename_i d
   rcases ji h with q | q
   ·
    exact .inl (F_ _ q)
   ·
    rcases o_.mp q with q | q
    ·
     cases q
     have:k=.cell:=by simpa using d
     subst this
     exact .inl m_
    ·
     exact .inr q
  ·
   rcases ji h with q | q
   ·
    exact .inl (F_ _ q)
   ·
    exact .inr q
theorem GC {M:Model}{A:Around}{E:Value->Shared->Prop}{s:Shared}{scope:Scope}{a:Addr}{b:List (Str × Addr)}{c:Str}{env:Env}{Q:Env->Shared->Prop}
  (g:Q (newEnv scope s.heap.objs.size a (cellsFrom (s.heap.objs.size+1) scope.names b) c none .none (some env) builtinsNs) { s with heap:=pushCells (s.heap.push { cls:=.type "dict",data:=.dict #[]}) scope.names}) :
  wpAny M A (newFunctionEnv scope a b [] c none .none (some env)) Q E s:=by
 simp only[newFunctionEnv,Option.isSome_some,if_true];refine h_ (wpAny_alloc ?_);refine h_ (wpAny_layCells _ (fun name d f=>by cases e:d==NameKind.cell <;> simp [e]) _ _ _ _ ?_);rw[show ({ s with heap:=s.heap.push { cls:=.type "dict",data:=.dict #[]}}:Shared).heap.objs.size=s.heap.objs.size+1 from ZC ..];refine h_ ?_;rw[List.forIn_nil];exact C_ (C_ g)
theorem Bc {X:Cx}{g:List (Addr × Obj)}{Q:St}{H:Hp}{s:Shared}{N':List Str}{nt:Nat}{cap:List Nat}{scope:Scope}{r:List (Str × Addr)}{V:List Addr}{h':Heap}{C:Addr}{tk:Nat}{pl:List (Addr × Obj)}
  (S:CompSc X N' nt cap scope) (I:Inv X g Q H s) (L:∀x c,r.lookup x=some c->X.env.cells.lookup x=some c) (D:∀y∈scope.names,y.2=.free->∃c,r.lookup y.1=some c)
  (hf:∀b∈V,nQ X g H b) (N:∀b∈V,b<s.heap.objs.size) (B:s.heap.objs.size<C) (hn:h'.Ns C fun _=>none) (J:∀b o,s.heap.get? b=some o->h'.get? b=some o)
  (hp:∀p∈pl,h'.get? p.1=some p.2/\s.heap.objs.size=p.1/\∀v,p.2.data≠.cell v) (w:CellsOk h' (C+1) (cellsFrom (C+1) scope.names [])) :
  Inv (bU X N' scope (cellsFrom (C+1) scope.names r) g s H C V) pl (nU nt cap Q) H { s with heap:=h',toks:=tk}:=by
 have h:∀x c,(cellsFrom (C+1) scope.names r).lookup x=some c->(C+1<=c/\(cellsFrom (C+1) scope.names []).lookup x=some c)\/X.env.cells.lookup x=some c:=fun x c e=>by
  rcases gO e with q | q
  ·exact .inl ⟨(w.empty x c (mem_of_lookup q)).2,q⟩
  exact .inr (L x c q.2)
 have T:∀x c,X.env.cells.lookup x=some c->c<s.heap.objs.size:=fun x c e=>by obtain⟨v,q⟩:=I.cell x c e;exact q.lt
 have Y:(bU X N' scope (cellsFrom (C+1) scope.names r) g s H C V).Ok:=by
  refine⟨I.ok.mod,S.kind,I.ok.glob,I.ok.blt,Yn B,fun x y c Z t=>?_,fun x hx=>?_,fun x c z e=>?_,I.ok.hd,I.ok.frames,.inl rfl,fun b A=>?_,I.bs,W6 I.ok.bsz I.sz,fun b o e A=>?_,fun b A z=>?_,I.stack,I.stkFree⟩
  ·rcases h x c Z with ⟨U,p1⟩ | U
   ·rcases h y c t with ⟨K,p2⟩ | K
    ·exact name_of_addr w.apart (mem_of_lookup p1) (mem_of_lookup p2)
    exact absurd (W7 (YW (ZM (T y c K) B)) U) (X7 _)
   rcases h y c t with ⟨K,p2⟩ | K
   ·exact absurd (W7 (YW (ZM (T x c U) B)) K) (X7 _)
   exact I.ok.inj x y c U K
  ·have hx':(relabel scope X.env).names.lookup x=some .cell\/(relabel scope X.env).names.lookup x=some .free:=hx;have hm:∃k,(x,k)∈(relabel scope X.env).names/\(k=.cell\/k=.free):=by
    rcases hx' with z | z
    ·exact⟨_,mem_of_lookup z,.inl rfl⟩
    exact⟨_,mem_of_lookup z,.inr rfl⟩
   obtain⟨k,hm,J⟩:=hm;obtain⟨⟨n,W⟩,O,e⟩:=i_.mp hm;have E:(if (W==NameKind.free&&X.env.scope.kind==.function&&X.env.kindOf n==some .cell)=true then (n,NameKind.cell) else (n,W))=(x,k):=e;by_cases F:W=.free
   ·subst F;have en:n=x:=by split at E <;> exact O_ Prod.fst E
    subst en;obtain⟨c,ec⟩:=D (n,.free) O rfl;show ∃c,(cellsFrom (C+1) scope.names r).lookup n=some c;rw[bY,dR,ec];cases (cellsFrom (C+1) scope.names []).lookup n with
    |none=>exact⟨c,rfl⟩
    |some d=>exact⟨d,rfl⟩
   have A:(W==NameKind.free)=false:=by simpa using F
   rw[A] at E;simp only[Bool.false_and,K_,Xd] at E;cases E;rcases J with rfl | rfl
   ·obtain⟨c,ec⟩:=jB (n:=C+1) (S.cells _ O rfl);refine⟨c,?_⟩;show (cellsFrom (C+1) scope.names r).lookup _=some c;rw[bY,dR,ec];rfl
   exact absurd rfl F
  ·have z':scope.names.lookup x=some .cell:=by simpa [bU] using z
   obtain⟨d,ed⟩:=jB (n:=C+1) z';have E:(cellsFrom (C+1) scope.names r).lookup x=some c:=e;rw[bY,dR,ed] at E;cases E;have:=(w.empty x _ (mem_of_lookup ed)).2;show s.heap.objs.size<=_;omega
  ·obtain⟨f0,f1,f2,f3,f4,f5⟩:=hf b A;refine⟨fun z=>absurd (N b A) (Z4.mpr (by rw[show b=C from z];exact Yn B)),fun x c e=>?_⟩;rcases h x c e with ⟨q,_⟩ | q
   ·intro z;rw[z] at q;exact absurd (W7 (YW (ZM (N b A) B)) q) (X7 _)
   exact f4 x c q
  ·obtain⟨f0,f1,f2,f3,f4,f5⟩:=hf b A;rcases f3 with q | q
   ·exact I.ok.noex b o e q
   exact absurd (R_ (I.ok.bs b o e).1) (Z4.mpr q)
  obtain⟨f0,f1,f2,f3,f4,f5⟩:=hf b A;rcases o_.mp (I.stkSub b z) with q | q
  ·exact f1 q
  exact f2 q
 obtain⟨m,hnm,hl⟩:=id I.loc;refine⟨Y,rfl,I.bare,Un.kept J,⟨_,hn,fun i x v Z t e3=>?_⟩,fun x c e=>?_,I.hok.fresh (Yn B),fun x c e=>?_,fun p hp'=>?_,I.hok.kept J,?_⟩
 ·-- a name of the block: one that it takes from around
  unfold nU at t;by_cases hi:i<nt
  ·rw[U_ (by simpa using hi),Y6] at t;split at t <;> cases t
  obtain⟨j,rfl⟩:∃j,i=nt+j:=⟨i - nt,by omega⟩;obtain⟨k,ck,hN,f⟩:=S.caps j x Z;rw[E_ (by simp),Zk,Nat.add_sub_cancel_left,H_,ck] at t;have l:(Q[k]?).getD none=some v:=Q_ t;have M:Q[k]?=some (some v):=by
   cases q:Q[k]? with
   |none=>rw[q] at l;cases l
   |some z=>rw[q] at l;exact O_ some l
  have R:=S.free (x,.free) (mem_of_lookup f) rfl;obtain⟨u,ru,lk⟩:=hl k x v hN M (.inr R);refine⟨u,ru,.inr ⟨jc f,?_⟩⟩;rcases lk with ⟨kl,_⟩ | ⟨_,c,hc,G⟩
  ·rcases R with z | z <;> (rw[kl] at z;cases z)
  obtain⟨c',P⟩:=D (x,.free) (mem_of_lookup f) rfl;have e:=L x c' P;rw[hc] at e;cases e;obtain⟨o,ho,hd⟩:=G;refine⟨c,?_,o,J _ _ ho,hd⟩;show (cellsFrom (C+1) scope.names r).lookup x=some c;rw[bY,dR];cases q:(cellsFrom (C+1) scope.names []).lookup x with
  |none=>exact P
  |some d =>
  rcases ji (mem_of_lookup q) with z | z
  ·have:=S.cells _ z rfl;rw[f] at this;cases this
  cases z
 ·rcases h x c e with ⟨_,q⟩ | q
  ·exact⟨none,(w.empty x c (mem_of_lookup q)).1⟩
  obtain⟨v,o,ho,hd⟩:=I.cell x c q;exact⟨v,o,J _ _ ho,hd⟩
 ·rcases h x c e with ⟨q,_⟩ | q
  ·exact I.hok.fresh (Yn (W7 (YW B) q))
  exact I.freeC x c q
 ·rcases A_.mp hp' with z | z
  ·obtain⟨e,n,n1,n2,d⟩:=I.pin p z;refine⟨J _ _ e,n,fun q=>?_,fun q=>?_,d⟩
   ·exact absurd (R_ e) (Z4.mpr (by rw[show p.1=C from q];exact Yn B))
   rcases o_.mp (I.stkSub p.1 q) with q | q
   ·exact n1 q
   exact n2 q
  obtain⟨e,n,d⟩:=hp p z;refine⟨e,I.hok.fresh (by omega),fun q=>?_,fun q=>?_,d⟩
  ·exact absurd (n.trans (show p.1=C from q)) (Xj B)
  have:=I.stkSub p.1 q;rcases o_.mp this with q | q
  ·exact absurd I.lt (Z4.mpr (by rw[<- q,n];exact j_ _))
  exact I.nofs (by omega) q
 unfold nU;show _=N'.length;rw[a_,Zk,b_,S.len]
theorem HOk.track {P:Program}{w:World}{H:Hp}{h h':Heap}{a C:Addr}{o:HO}(x:HOk P w H h) (g:H a=none) (l:H C=none) (k:∀b u,b≠C->h.get? b=some u->h'.get? b=some u) (d:ObjOk P w (upd H a o) h' a o):HOk P w (upd H a o) h':=fun b u e=>by
 by_cases i:b=a
 ·subst i;rw[bT] at e;cases e;exact d
 rw[aU i] at e;have j:∀c z,H c=some z->c≠C:=fun c z q r=>by rw[r,l] at q;cases q
 refine (x b u e).stay (fun c v f q=>k c v ?_ q) (fun c q=>by rw[aU (cC q g)];exact q) fun c xs q=>by rw[aU (cC q g)];exact q
 rcases f with rfl | f
 ·exact j c u e
 exact j c _ f
theorem su {X:Cx}{a:List (Addr × Obj)}{σ:St}{f:Hp}{s₂:Shared}{N':List Str}{nt:Nat}{cap:List Nat}{scope:Scope}{L:List (Str × Addr)}{elt tg iter:Expr}{ifs:List Expr}{pos:Pos}{g:TG}{tt:TT}{te:TE}
  {it:Addr} {l:List Addr} {tn:Nat->Heap->Prop} {J:It} {fin:List V->Hp->Prop} {E:Value->Shared->Prop} {RR:Value->Addr->Result->Shared->Prop}
  (hc:X.calm=true) (S:CompSc X N' nt cap scope) (hcl:∀x c,L.lookup x=some c->X.env.cells.lookup x=some c) (hclh:∀y∈scope.names,y.2=.free->∃c,L.lookup y.1=some c)
  (hX:∀L a s H C l,PG (bU X N' scope L a s H C l) tg g/\PIf (bU X N' scope L a s H C l) ifs tt/\PE (bU X N' scope L a s H C l) elt te)
  (I:Inv X a σ f s₂) (T:Turn X.prog X.w X.K tg J l it tn) (st:tn 0 s₂.heap) (hf:∀b∈l,nQ X a f b) (hw:wL J g tt te fin (nU nt cap σ) f)
  (hRR:∀(D C:Addr) (s₄:Shared) (m:Str->Option Value) (U:List V) (H':Hp),s₄.heap.Ns C m->s₂.heap.objs.size<=D->s₂.heap.objs.size<=C->C≠D->H' D=none->H' C=none->U.length<=sizeLine->fin U H' ->
   (∀h',(∀b o,b≠C->s₄.heap.get? b=some o->h'.get? b=some o)->Inv X a σ (upd H' D (.lst U)) { s₄ with heap:=h'})->RR (.ref D) C (.ok .next) s₄) :
  wpAny (model X.prog X.w) X.A (newList []) (fun acc F=>wpAny (model X.prog X.w) X.A (newFunctionEnv scope X.env.globals L [] X.env.qual none .none (some X.env)) (fun cenv s₄ =>
   codeAny (model X.prog X.w) X.A (.compStart (.ListComp elt [⟨tg,iter,ifs,0⟩] scope pos) 0 (.ref it) acc { cenv with scope:=relabel scope X.env}) (RR acc cenv.locals) s₄) E F) E s₂:=by
 refine Zr (GC ?_);dsimp only;generalize hH2:s₂.heap.push { cls:=.type "list",dict:=none,data:=.seq ([]:List Value).toArray}=B;generalize Y:s₂.heap.objs.size=D;have hB:B.objs.size=D+1:=by rw[<- hH2,ZC,Y]
 have G:CellsOk (pushCells (B.push { cls:=.type "dict",data:=.dict #[]}) scope.names) (B.objs.size+1) (cellsFrom (B.objs.size+1) scope.names []):=by have:=cellsFrom_ok scope.names (B.push { cls:=.type "dict",data:=.dict #[]}) (B.objs.size+1) [] ⟨fun _ _ hm=>(nomatch hm),List.Pairwise.nil⟩ (by rw[ZC];exact j_ _);rw[ZC] at this;exact this
 have t:(pushCells (B.push { cls:=.type "dict",data:=.dict #[]}) scope.names).Ns B.objs.size fun _=>none:=(Heap.Ns.new B (.type "dict")).keeps (pushCells_keeps _ _);have M:∀b o,B.get? b=some o->(pushCells (B.push { cls:=.type "dict",data:=.dict #[]}) scope.names).get? b=some o:=fun b o e=>pushCells_keeps _ _ b o (l_ _ e);generalize hCe:B.objs.size=C at t G ⊢;generalize pushCells (B.push { cls:=.type "dict",data:=.dict #[]}) scope.names=P at t G M ⊢;have hCD:C=D+1:=hCe.symm.trans hB;have hDC:D≠C:=by rw[hCD];exact Xj (ZK _)
 have Q:s₂.heap.objs.size<C:=by rw[Y,hCD];exact ZK _
 have below:∀b o,s₂.heap.get? b=some o->b≠C/\b≠D:=fun b o e=>by have:=R_ e;rw[Y] at this;exact⟨by rw[hCD];exact Xj (YW this),Xj this⟩
 have old:∀b o,s₂.heap.get? b=some o->P.get? b=some o:=fun b o e=>M b o (hH2▸l_ _ e);have hacc:P.get? D=some { cls:=.type "list",data:=.seq ([]:List Value).toArray 0}:=M _ _ (hH2▸Y▸V_ _ rfl);have O:tn 0 P:=T.keep _ _ _ st fun b j o e=>old b o e;have hfl:∀b∈l,b<s₂.heap.objs.size:=fun b j=>by obtain⟨o,e,_⟩:=T.obj _ _ st b j;exact R_ e
 obtain⟨W,⟨m0,w0⟩,turn⟩:=hw;obtain⟨hg,hi,he⟩:=hX (cellsFrom (C+1) scope.names L) a s₂ f C l;have stat:∀{H':Hp} {k:Nat} {h:List Value},(∀b∈l,H' b=none)->∀b∈l,nQ (bU X N' scope (cellsFrom (C+1) scope.names L) a s₂ f C l) [(D,{ cls:=.type "list",data:=.seq h.toArray k})] H' b:=fun {H' k h} hn b j=>by
  obtain⟨f0,f1,f2,f3,f4,f5⟩:=hf b j;have Z:=hfl b j;refine⟨hn b j,fun z=>?_,fun z=>?_,.inl j,fun x c e=>?_,fun p hp=>?_⟩
  ·rw[show b=C from z] at Z;exact absurd Z (Z4.mpr (Yn Q))
  ·rcases o_.mp (I.stkSub b z) with q | q
   ·exact f1 q
   exact f2 q
  ·rcases gO e with q | q
   ·have:=(G.empty x c (mem_of_lookup q)).2;intro z;rw[z] at this;exact absurd (W7 (YW (ZM Z Q)) this) (X7 _)
   exact f4 x c (hcl x c q.2)
  rcases A_.mp hp with z | z
  ·exact f5 p z
  rw[g_.mp z];intro e;rw[<- (show D=b from e),Y] at Z;exact X7 _ Z
 have loop:∀F:Shared,F={ s₂ with heap:=P}->codeAny (model X.prog X.w) X.A (.compLoop (.ListComp elt [⟨tg,iter,ifs,0⟩] scope pos) 0 (.ref it) (.ref D) (compEnvC scope (cellsFrom (C+1) scope.names L) C X.env)) (RR (.ref D) C) F:=by
  rintro F rfl;refine ql (fun n s'=>∃i U h k σ' H',Inv (bU X N' scope (cellsFrom (C+1) scope.names L) a s₂ f C l) [(D,{ cls:=.type "list",data:=.seq h.toArray k})] σ' H' s'/\Vals U h/\tn i s'.heap/\(∀b∈l,H' b=none)/\W i n U σ' H'/\U.length<=sizeLine) ?_ m0
   ⟨0,[],[],0,nU nt cap σ,f,Bc (tk:=s₂.toks) S I hcl hclh hf hfl Q t old (fun p hp=>?_) G,.nil,O,fun b j=>(hf b j).1,w0,Yy _⟩
  ·rintro n s3 ⟨i,U,h,k,σ3,H3,I3,rv,st3,fr3,w3,hz⟩;have pD:=I3.pin (D,{ cls:=.type "list",data:=.seq h.toArray k}) (W9 _ (g_.mpr rfl));rcases turn i n U σ3 H3 w3 with ⟨stop,hz',hfin⟩ | ⟨go,step⟩
   ·refine thn (T.done (bU X N' scope (cellsFrom (C+1) scope.names L) a s₂ f C l) rfl rfl rfl hc i _ s3 σ3 H3 (fun _ _=>False) I3 (stat fr3) st3 stop) fun r s4 ⟨hr,I4⟩=>?_;subst hr;obtain⟨m4,hn4,_⟩:=I4.loc;have pD4:=I4.pin (D,{ cls:=.type "list",data:=.seq h.toArray k}) (W9 _ (g_.mpr rfl));refine hRR D C s4 m4 U H3 hn4 (by rw[Y];exact j_ _) (Yn Q) (Ne.symm hDC) pD4.2.1 I4.free hz' hfin fun h' k'=>?_;have nD:∀b u,H3 b=some u->b≠D:=fun b u e z=>by rw[z,pD4.2.1] at e;cases e
    have nDs:∀b o,s₂.heap.get? b=some o->b≠D/\b≠C:=fun b o e=>⟨(below b o e).2,(below b o e).1⟩;have B4:=I4.base;refine I.call' (s':={ s4 with heap:=h'}) (ch:=l) I4.os ⟨fun b o e n j hx=>k' b o (nDs b o e).2 (B4.keep b o e n j hx),fun b o e n j hx=>?_,fun b o e n hx=>?_,fun b o e hx=>?_,fun b xs e=>?_,fun b o u e=>?_,fun b ps e=>?_⟩ ?_ I4.bare fun b j=>?_
    ·obtain⟨sl,q⟩:=B4.slot b o e n j hx;exact⟨sl,k' b _ (nDs b o e).2 q⟩
    ·rw[aU (nDs b o e).1];exact B4.free b o e n hx
    ·obtain⟨o',q⟩:=B4.there b o e hx;exact⟨o',k' b _ (nDs b o e).2 q⟩
    ·have q:=B4.tups b xs e;rw[aU (nD _ _ q)];exact q
    ·have q:=B4.frzs b o u e;rw[aU (nD _ _ q)];exact q
    ·obtain⟨more,q⟩:=B4.tbls b ps e;exact⟨more,by rw[aU (nD _ _ q)];exact q⟩
    ·exact I4.hok.track pD4.2.1 I4.free k' ⟨hz',h,k,rv,k' D _ hDC pD4.1⟩
    obtain⟨f0,f1,f2,f3,f4,f5⟩:=hf b j;exact⟨f3,f1,f4,f5⟩
   refine thn (T.item (bU X N' scope (cellsFrom (C+1) scope.names L) a s₂ f C l) rfl rfl rfl hc i _ s3 σ3 H3 (fun _ _=>False) I3 (stat fr3) st3 go) fun r s4 ⟨u,hr,h4⟩=>?_;subst hr;refine thn h4 fun _ s5 ⟨x,H5,I5,r5,y5,st5,fr5⟩=>?_;have I5':=I5.pinned (stat fr5) (T.obj _ _ st5);refine thn (hg _ s5 σ3 H5 x u _ I5' r5 (step x H5 y5)) fun _ s6 ⟨σ6,H6,I6,q6⟩=>?_;refine thn (hi _ s6 σ6 H6 _ I6 q6) fun ok s7 ⟨H7,I7,q7⟩=>?_;have N:∀{σ8:St} {H8:Hp} {s8:Shared},Inv (bU X N' scope (cellsFrom (C+1) scope.names L) a s₂ f C l) ([(D,{ cls:=.type "list",data:=.seq h.toArray k})]++lK l s5.heap) σ8 H8 s8->tn (i+1) s8.heap/\∀b∈l,H8 b=none:=fun {σ8 H8 s8} I8 =>
    ⟨T.keep _ _ _ st5 fun b j o e=>(I8.pin (b,o) (W9 _ (W9 _ (gK j e)))).1,fun b j=>by
     obtain⟨o,e,d⟩:=T.obj _ _ st5 b j
     exact (I8.pin (b,o) (W9 _ (W9 _ (gK j e)))).2.1⟩
   cases ok with
   |false=>rw[if_neg t_] at q7 ⊢;obtain⟨m',hm,w7⟩:=q7;exact⟨m',hm,i+1,U,h,k,σ6,H7,I7.unpinned,rv,(N I7).1,(N I7).2,w7,hz⟩
   |true =>
   rw[if_pos rfl] at q7 ⊢;refine thn (he _ s7 σ6 H7 _ I7 q7) fun uy s8 ⟨y,H8,I8,ry,hz8,m',hm,w8⟩=>?_;have R:=I8.pin (D,{ cls:=.type "list",data:=.seq h.toArray k}) (W9 _ (Xr _ (g_.mpr rfl)));have hl:=rv.length;refine kI R.1 (by omega) fun h' k' e' kk=>?_;have I9:Inv (bU X N' scope (cellsFrom (C+1) scope.names L) a s₂ f C l) [] σ6 H8 { s8 with heap:=h'}:=by
    refine Inv.turned (t':=s8.toks) (it:=D) (I8.pins_of (pins':=[]) (fun p hp=>nomatch hp)) (fun b o j e=>kk b o j e) R.2.1 R.2.2.1 (.inr (by show s₂.heap.objs.size<=D;rw[Y];exact j_ _)) (fun x c e z=>?_) (fun p hp z=>?_)
    ·rcases gO e with q | q
     ·have:=(G.empty x c (mem_of_lookup q)).2;rw[z,hCD] at this;omega
     obtain⟨v,q⟩:=I.cell x c (hcl x c q.2);have:=q.lt;rw[z,Y] at this;exact X7 _ this
    rw[J_] at hp;have:=R_ (I.pin p hp).1;rw[z,Y] at this;exact X7 _ this
   refine⟨m',hm,i+1,U++[y],h++[uy],k',σ6,H8,I9.pins_of fun p hp=>?_,rv.append (.cons ry .nil),?_,(N I8).2,w8,?_⟩
   ·rw[g_.mp hp];exact⟨e',R.2.1,R.2.2.1,R.2.2.2.1,fun v z=>by cases z⟩
   ·refine T.keep _ _ _ (N I8).1 fun b j o e=>kk b o (fun z=>?_) e;have:=hfl b j;rw[z,Y] at this;exact X7 _ this
   rw[a_,z_];omega
  rw[g_.mp hp];exact⟨hacc,Y,fun v z=>by cases z⟩
 exact codeAny_compStart_list (loop _ rfl) (T.self _ 0 _ _ _ O (loop _ rfl))
def Ss (c:TI) (g:TG) (tt:TT) (te:TE) (nt:Nat) (cap:List Nat):TE:=fun a H Q=>c a H fun J b=>wL J g tt te (fun d H'=>∀p,H' p=none->Q (.ref p) (upd H' p (.lst d))) (nU nt cap a) b
theorem GD {X:Cx}{N':List Str}{nt:Nat}{cap:List Nat}{scope:Scope}{l z c:Expr}{j:List Expr}{t:Pos}{E:TI}{g:TG}{tt:TT}{te:TE}(M:X.calm=true) (S:CompSc X N' nt cap scope) (V:PI X z c E)
  (O:∀n a s H C p,PG (bU X N' scope n a s H C p) z g/\PIf (bU X N' scope n a s H C p) j tt/\PE (bU X N' scope n a s H C p) l te)
  (R:∀x,foldedSetIterable c X.env x=pure x:=by intro _;rfl):PE X (.ListComp l [⟨z,c,j,0⟩] scope t) (Ss E g tt te nt cap):=by
 intro a s F H Q I h;rw[eval_ListComp];obtain⟨n,d,q,f⟩:=lV (scope:=scope) (env:=X.env) fun y hy P=>I.ok.has y.1 (S.free y hy P);refine wpAny_comprehension_free (use:=none) rfl R d S.kind S.names (thn (V a s F H _ I h) fun v s1 K=>thn K fun U s2 N=>?_);obtain⟨it,p,tn,J,H2,rfl,Z,T,B,Y,hw⟩:=N;refine su (RR:=fun u C=>compPost (model X.prog X.w) X.A X.xe none (EP X a F Q) u C) M S q f O Z T B Y hw fun D C s4 m ys H' W hD hC L G nC hz i k=>?_;refine⟨m,W,fun h' r=>?_⟩;exact⟨.ref D,_,k h' fun b o hb e=>r.extBut b o hb e,rfl,i D G⟩
def Bd (c:TI) (g:TG) (tt:TT) (te:TE) (nt:Nat) (cap:List Nat) (i:Nat):TS:=fun D a H=>c a H fun J b=>wL J g tt te (fun d H'=>∀p,H' p=none->D.nx (a.set i (some (.ref p))) (upd H' p (.lst d))) (nU nt cap a) b
theorem GF {X:Cx}{N':List Str}{nt:Nat}{cap:List Nat}{scope:Scope}{n K f:Expr}{l:List Expr}{u j r:Pos}{wi:TI}{g:TG}{tt:TT}{te:TE}{i:Nat}{x:Str}(hc:X.calm=true) (hN:X.N.Nodup) (Z:X.N[i]?=some x) (hx:Loc X.env.scope x) (S:CompSc X N' nt cap scope) (hi:PI X K f wi)
  (hX:∀M d s H C O,PG (bU X N' scope M d s H C O) K g/\PIf (bU X N' scope M d s H C O) l tt/\PE (bU X N' scope M d s H C O) n te)
  (V:swapsWith (.ListComp n [⟨K,f,l,0⟩] scope u) (some (.Name x j)) r.line X.env=pure true:=by rfl)
  (hs:∀x,foldedSetIterable f X.env x=pure x:=by intro _;rfl) (hf:X.fn x=true\/X.env.scope.names.lookup x=some .local:=by first | exact .inl rfl | exact .inr rfl | assumption) :
  PS X (.Assign [.Name x j] (.ListComp n [⟨K,f,l,0⟩] scope u) r) (Bd wi g tt te nt cap i):=by
 intro d s σ H Dn I h;rw[exec_Assign_Name_used _ _ _ _ V];obtain⟨M,t,R,B⟩:=lV (scope:=scope) (env:=X.env) fun y hy hf=>I.ok.has y.1 (S.free y hy hf);refine h_ (wpAny_standAt (h_ ?_));show wpAny _ X.A (do let _ <- comprehension (.ListComp n [⟨K,f,l,0⟩] scope u) scope X.env _ (newList []) false (eval f X.env) (some (assign (.Name x j) X.env))) _ _ s;refine h_ (Yg (wpAny_comprehension_free (use:=some (assign (.Name x j) X.env)) (Q:=fun _ s'=>SP X d Dn .next s') rfl hs t S.kind S.names
  (thn (hi d s σ H _ I h) fun v s1 h1=>thn h1 fun itv s2 h2=>?_)) (fun _ s' hq=>C_ (C_ hq)) fun _ _ e=>e)
 obtain⟨it,O,tn,J,H2,rfl,G,T,st2,f2,hw⟩:=h2;refine su (RR:=fun acc C=>compPost (model X.prog X.w) X.A X.xe (some (assign (.Name x j) X.env)) (fun _ s'=>SP X d Dn .next s') acc C) hc S R B hX G T st2 f2 hw fun D C s4 m ys H' hn hD P U nD nC hz F k=>?_;show wpAny _ X.A (assign (.Name x j) X.env (.ref D)) _ _ s4;have I4:=k s4.heap fun b o _ e=>e;have E:C≠X.env.locals:=fun z=>by have:=G.lt;rw[<- z] at this;exact absurd this (Z4.mpr P)
 have L:∀y c,X.env.cells.lookup y=some c->c≠C:=fun y c e z=>by obtain⟨v,q⟩:=G.cell y c e;have:=q.lt;rw[z] at this;exact absurd this (Z4.mpr P)
 refine wpAny_assign_Name (oJ I4 hN Z hx (show RelV (.ref D) (.ref D) from rfl) (fun s5 I5 ⟨a,sb,W⟩=>?_) hf);have nCa:C≠a:=by
  rcases W with rfl | W
  ·exact E
  exact fun z=>L x a W z.symm
 refine⟨m,hn.sameBut sb nCa,fun h' Y=>⟨_,_,Inv.turned (t':=s5.toks) (it:=C) I5 (fun b o hb e=>Y.extBut b o hb e) (by rw[aU U];exact nC) E (.inr (W6 G.sz P)) L (fun p hp z=>?_),F D nD⟩⟩;have:=R_ (G.pin p hp).1;rw[z] at this;exact absurd this (Z4.mpr P)
def exP (e C:Addr) (d:Option Addr) (b:Bool) (h:Heap):Prop:=∃vs a,h.get? e=some ⟨.ref C,d,.fields vs,a⟩/\(b=true->vs[1]?=some .none)
def exO (e C:Addr) (d:Option Addr) (a:Bool):HO:=.ext (exP e C d a)
def dxP (c:Addr) (b:List (Str × V)) (h:Heap):Prop:=∃a,h.Ns1 c a/\(∀f,RelO (b.lookup f) (a f))/\PySem.Within a (b.map (·.1))
def dxO (b:Addr) (a:List (Str × V)):HO:=.ext (dxP b a)
section
variable {P:Program}{w:World}{H:Hp}{h:Heap}{e C dx:Addr}{d:Option Addr}{rd:Bool}{fs:List (Str × V)}
end
end L2
set_option maxHeartbeats 1000000
namespace L3
open L2
inductive T where
 |non | bl (b:Bool) | int (i:Int) | str (x:Str) | tup (ts:List T) | ref (a:Addr) | ty (n:String)
mutual
def Rep (K:Frag) (H:Hp):T->V->Prop
 |.non,v=>v=.non
 |.bl b,v=>v=.bl b
 |.int i,v=>v=.int i
 |.str x,v=>v=.str x
 |.tup ts,v=>∃a xs,v=.ref a/\SqT K H a xs/\Reps K H ts xs
 |.ref a,v=>v=.ref a
 |.ty n,v=>v=.ty n
def Reps (K:Frag) (H:Hp):List T->List V->Prop
 |[],xs=>xs=[]
 |t::ts,xs=>∃x r,xs=x::r/\Rep K H t x/\Reps K H ts r
end
def TupLe (K:Frag) (H H':Hp):Prop:=∀a xs,SqT K H a xs->SqT K H' a xs
theorem TupLe.refl {K:Frag}{H:Hp}:TupLe K H H:=fun _ _ h=>h
theorem TupLe.trans {K:Frag}{H d e:Hp}(a:TupLe K H d) (b:TupLe K d e):TupLe K H e:=fun c xs h=>b c xs (a c xs h)
mutual
theorem Rep.mono {K:Frag}{H H':Hp}(b:TupLe K H H'):∀{t:T}{v:V},Rep K H t v->Rep K H' t v
 |.non,_,h=>by simp only[Rep] at h ⊢;exact h
 |.bl _,_,h=>by simp only[Rep] at h ⊢;exact h
 |.int _,_,h=>by simp only[Rep] at h ⊢;exact h
 |.str _,_,h=>by simp only[Rep] at h ⊢;exact h
 |.ref _,_,h=>by simp only[Rep] at h ⊢;exact h
 |.ty _,_,h=>by simp only[Rep] at h ⊢;exact h
 |.tup ts,_,h=>by
  simp only[Rep] at h ⊢
  obtain⟨a,xs,e,s,r⟩:=h
  exact⟨a,xs,e,b a xs s,Reps.mono b r⟩
theorem Reps.mono {K:Frag}{H H':Hp}(c:TupLe K H H'):∀{ts:List T}{xs:List V},Reps K H ts xs->Reps K H' ts xs
 |[],_,h=>by simp only[Reps] at h ⊢;exact h
 |t::ts,_,h=>by
  simp only[Reps] at h ⊢
  obtain⟨x,r,e,a,b⟩:=h
  exact⟨x,r,e,Rep.mono c a,Reps.mono c b⟩
end
section
variable {K:Frag}{H:Hp}
theorem Reps.nil:Reps K H [] []:=by simp only[Reps]
theorem Reps.cons {t:T}{v:V}{ts:List T}{vs:List V}(a:Rep K H t v) (b:Reps K H ts vs):Reps K H (t::ts) (v::vs):=by simp only[Reps];exact⟨v,vs,rfl,a,b⟩
theorem Reps.inv {t:T}{ts:List T}{vs:List V}(h:Reps K H (t::ts) vs):∃v r,vs=v::r/\Rep K H t v/\Reps K H ts r:=by simp only[Reps] at h;exact h
theorem Reps.inv0 {vs:List V}(h:Reps K H [] vs):vs=[]:=by simp only[Reps] at h;exact h
theorem Reps.length:∀{ts:List T}{vs:List V},Reps K H ts vs->ts.length=vs.length
 |[],_,h=>by rw[h.inv0];rfl
 |t::ts,_,h=>by obtain⟨v,r,rfl,_,b⟩:=h.inv;simp [Reps.length b]
theorem Reps.get:∀{ts:List T}{vs:List V}{i:Nat}{t:T},Reps K H ts vs->ts[i]?=some t->∃v,vs[i]?=some v/\Rep K H t v
 |[],_,_,_,_,e=>by simp at e
 |a::ts,_,0,t,h,e=>by obtain⟨v,r,rfl,q,_⟩:=h.inv;simp at e;subst e;exact⟨v,rfl,q⟩
 |a::ts,_,i+1,t,h,e=>by obtain⟨v,r,rfl,_,b⟩:=h.inv;simpa using Reps.get b (by simpa using e)
theorem Reps.get':∀{ts:List T}{vs:List V}{i:Nat}{v:V},Reps K H ts vs->vs[i]?=some v->∃t,ts[i]?=some t/\Rep K H t v
 |[],_,_,_,h,e=>by rw[h.inv0] at e;simp at e
 |a::ts,_,0,v,h,e=>by obtain⟨x,r,rfl,q,_⟩:=h.inv;simp at e;subst e;exact⟨a,rfl,q⟩
 |a::ts,_,i+1,v,h,e=>by obtain⟨x,r,rfl,_,b⟩:=h.inv;simpa using Reps.get' b (by simpa using e)
theorem Reps.append:∀{ts us:List T}{xs c:List V},Reps K H ts xs->Reps K H us c->Reps K H (ts++us) (xs++c)
 |[],_,_,_,h,h'=>by rw[h.inv0];exact h'
 |t::ts,_,_,_,h,h'=>by obtain⟨v,r,rfl,a,b⟩:=h.inv;exact .cons a (Reps.append b h')
theorem Reps.take:∀{ts:List T}{xs:List V}(n:Nat),Reps K H ts xs->Reps K H (ts.take n) (xs.take n)
 |[],_,n,h=>by rw[h.inv0];simp only[List.take_nil];exact .nil
 |t::ts,_,0,h=>.nil
 |t::ts,_,n+1,h=>by obtain⟨v,r,rfl,a,b⟩:=h.inv;exact .cons a (Reps.take n b)
theorem Reps.drop:∀{ts:List T}{xs:List V}(n:Nat),Reps K H ts xs->Reps K H (ts.drop n) (xs.drop n)
 |[],_,n,h=>by rw[h.inv0];simp only[List.drop_nil];exact .nil
 |t::ts,_,0,h=>h
 |t::ts,_,n+1,h=>by obtain⟨v,r,rfl,a,b⟩:=h.inv;exact Reps.drop n b
theorem Reps.set:∀{ts:List T}{xs:List V}{t:T}{v:V}(n:Nat),Reps K H ts xs->Rep K H t v->Reps K H (ts.set n t) (xs.set n v)
 |[],_,_,_,n,h,r=>by rw[h.inv0];exact .nil
 |t::ts,_,_,_,0,h,q=>by obtain⟨v,r,rfl,a,b⟩:=h.inv;exact .cons q b
 |t::ts,_,_,_,n+1,h,q=>by obtain⟨v,r,rfl,a,b⟩:=h.inv;exact .cons a (Reps.set n b q)
theorem Reps.reverse {ts:List T}{xs:List V}(h:Reps K H ts xs):Reps K H ts.reverse xs.reverse:=by
 induction ts generalizing xs with
 |nil=>rw[h.inv0];exact .nil
 |cons t ts c=>obtain⟨v,r,rfl,a,b⟩:=h.inv;simp only[List.reverse_cons];exact (c b).append (.cons a .nil)
theorem Reps.eraseIdx:∀{ts:List T}{xs:List V}(n:Nat),Reps K H ts xs->Reps K H (ts.eraseIdx n) (xs.eraseIdx n)
 |[],_,n,h=>by rw[h.inv0];exact .nil
 |t::ts,_,0,h=>by obtain⟨v,r,rfl,a,b⟩:=h.inv;exact b
 |t::ts,_,n+1,h=>by obtain⟨v,r,rfl,a,b⟩:=h.inv;exact .cons a (Reps.eraseIdx n b)
theorem Rep.non {v:V}(h:Rep K H .non v):v=.non:=by simp only[Rep] at h;exact h
theorem Rep.bl {b:Bool}{v:V}(h:Rep K H (.bl b) v):v=.bl b:=by simp only[Rep] at h;exact h
theorem Rep.int {i:Int}{v:V}(h:Rep K H (.int i) v):v=.int i:=by simp only[Rep] at h;exact h
theorem Rep.str {x:Str}{v:V}(h:Rep K H (.str x) v):v=.str x:=by simp only[Rep] at h;exact h
theorem Rep.ref {a:Addr}{v:V}(h:Rep K H (.ref a) v):v=.ref a:=by simp only[Rep] at h;exact h
theorem Rep.ty {n:String}{v:V}(h:Rep K H (.ty n) v):v=.ty n:=by simp only[Rep] at h;exact h
theorem Rep.tup {ts:List T}{v:V}(h:Rep K H (.tup ts) v):∃a xs,v=.ref a/\SqT K H a xs/\Reps K H ts xs:=by simp only[Rep] at h;exact h
theorem Rep.ofNon:Rep K H .non .non:=by simp only[Rep]
theorem Rep.ofBl {b:Bool}:Rep K H (.bl b) (.bl b):=by simp only[Rep]
theorem Rep.ofInt {i:Int}:Rep K H (.int i) (.int i):=by simp only[Rep]
theorem Rep.ofStr {x:Str}:Rep K H (.str x) (.str x):=by simp only[Rep]
theorem Rep.ofRef {a:Addr}:Rep K H (.ref a) (.ref a):=by simp only[Rep]
theorem Rep.ofTup {ts:List T}{a:Addr}{xs:List V}(h:SqT K H a xs) (r:Reps K H ts xs):Rep K H (.tup ts) (.ref a):=by simp only[Rep];exact⟨a,xs,rfl,h,r⟩
end
inductive O3 where
 |lst (ts:List T) | rol (ts:List T) | dct (kvs:List (Str × T)) | dcp (kvs:List (List Key × T))
 |exc (C dx:Addr) | xdt (fs:List (Str × T))
 |dci (kvs:List (Int × T)) | dif (o:Obj) (kvs:List (Int × T)) | ins (C:Addr) (fs:List (Str × T)) | dcn (w:World) (kvs:List (NK × T))
abbrev Hp3:=Addr->Option O3
def up3 (H:Hp3) (a:Addr) (o:O3):Hp3:=fun b=>if b=a then some o else H b
theorem au {H:Hp3}{a:Addr}{o:O3}:up3 H a o a=some o:=by unfold up3;rw[if_pos rfl]
theorem aD {H:Hp3}{a b:Addr}{o:O3}(h:b≠a):up3 H a o b=H b:=by unfold up3;rw[if_neg h]
theorem wM {H:Hp3}{a:Addr}{o u:O3}:up3 (up3 H a o) a u=up3 H a u:=by funext b;unfold up3;split <;> rfl
def RepD (K:Frag) (H:Hp):List (Str × T)->List (Key × V)->Prop:=Paired fun (p:Str × T) (q:Key × V)=>q.1=Sum.inr p.1/\Rep K H p.2 q.2
def RepP (K:Frag) (H:Hp):List (List Key × T)->List (List Key × V)->Prop:=Paired fun (p:List Key × T) (q:List Key × V)=>q.1=p.1/\Rep K H p.2 q.2
def RepF (K:Frag) (H:Hp):List (Str × T)->List (Str × V)->Prop:=Paired fun (p:Str × T) (q:Str × V)=>q.1=p.1/\Rep K H p.2 q.2
def RepI (K:Frag) (H:Hp):List (Int × T)->List (Key × V)->Prop:=Paired fun (p:Int × T) (q:Key × V)=>q.1=Sum.inl p.1/\Rep K H p.2 q.2
def RepN (K:Frag) (H:Hp):List (NK × T)->List (NK × Addr × V)->Prop:=Paired fun (p:NK × T) (q:NK × Addr × V)=>q.1=p.1/\NKt K H q.1 q.2.1/\Rep K H p.2 q.2.2
def RepO (K:Frag) (H:Hp) (a:Addr):O3->Prop
 |.lst ts=>∃xs,H a=some (.lst xs)/\Reps K H ts xs
 |.rol ts=>∃xs,Rd H a (.lst xs)/\Reps K H ts xs
 |.dct kvs=>∃vs,H a=some (.dK vs)/\RepD K H kvs vs
 |.dcp kvs=>∃vs,H a=some (.dT vs)/\RepP K H kvs vs
 |.exc C c=>H a=some (exO a C (some c) false)
 |.xdt b=>∃vs,H a=some (dxO a vs)/\RepF K H b vs
 |.dci kvs=>∃vs,H a=some (.dK vs)/\RepI K H kvs vs
 |.dif o kvs=>∃vs,H a=some (.frz o (.dK vs))/\RepI K H kvs vs
 |.ins C b=>∃c vs,H a=some (.ins C c vs)/\RepF K H b vs
 |.dcn w kvs=>∃ks,H a=some (dnO w a ks)/\RepN K H kvs ks
def SimH (K:Frag) (H3:Hp3) (H:Hp):Prop:=∀a o,H3 a=some o->RepO K H a o
abbrev St3:=List (Option T)
structure SimS (K:Frag) (H:Hp) (σ3:St3) (σ:L2.St):Prop where
 len:σ3.length=σ.length
 at':∀(i:Nat) (t:T),σ3[i]?=some (some t)->∃v,σ[i]?=some (some v)/\Rep K H t v
section
variable {K:Frag}{H H':Hp}{H3:Hp3}{σ3:St3}{σ:L2.St}
theorem SimS.mono (s:SimS K H σ3 σ) (a:TupLe K H H'):SimS K H' σ3 σ:=⟨s.len,fun i t e=>let ⟨v,e',r⟩:=s.at' i t e;⟨v,e',r.mono a⟩⟩
theorem SimS.set (s:SimS K H σ3 σ) {i:Nat}{t:T}{v:V}(r:Rep K H t v):SimS K H (σ3.set i (some t)) (σ.set i (some v)):=by
 refine⟨by simp [s.len],fun j u e=>?_⟩;by_cases b:i=j
 ·subst b;by_cases a:i<σ3.length
  ·rw[YH a] at e;have c:t=u:=Q_ (Q_ e);subst c;exact⟨v,by rw[YH (by rw[<- s.len];exact a)],r⟩
  rw[Xb (by simpa using a)] at e;cases e
 rw[YS b] at e;rw[YS b];exact s.at' j u e
theorem RepD.mono {kvs:List (Str × T)}{vs:List (Key × V)}(h:RepD K H kvs vs) (c:TupLe K H H'):RepD K H' kvs vs:=Paired.mapP h fun _ _ ⟨a,b⟩=>⟨a,b.mono c⟩
theorem RepF.mono {kvs:List (Str × T)}{vs:List (Str × V)}(h:RepF K H kvs vs) (c:TupLe K H H'):RepF K H' kvs vs:=Paired.mapP h fun _ _ ⟨a,b⟩=>⟨a,b.mono c⟩
theorem RepI.mono {kvs:List (Int × T)}{vs:List (Key × V)}(h:RepI K H kvs vs) (c:TupLe K H H'):RepI K H' kvs vs:=Paired.mapP h fun _ _ ⟨a,b⟩=>⟨a,b.mono c⟩
theorem RepP.mono {kvs:List (List Key × T)}{vs:List (List Key × V)}(h:RepP K H kvs vs) (c:TupLe K H H'):RepP K H' kvs vs:=Paired.mapP h fun _ _ ⟨a,b⟩=>⟨a,b.mono c⟩
theorem NKt.mono {k:NK}{a:Addr}(h:NKt K H k a) (c:TupLe K H H'):NKt K H' k a:=let ⟨b,h1,h2⟩:=h;⟨b,c _ _ h1,c _ _ h2⟩
theorem RepN.mono {kvs:List (NK × T)}{ks:List (NK × Addr × V)}(h:RepN K H kvs ks) (d:TupLe K H H'):RepN K H' kvs ks:=Paired.mapP h fun _ _ ⟨a,b,c⟩=>⟨a,NKt.mono b d,c.mono d⟩
theorem ne3 {a b:Addr}{o u:O3}(h:H3 a=some o) (h':H3 b=some u) (d:o≠u):a≠b:=by
 intro e;subst e;rw[h] at h';exact d (Q_ h')
theorem aZ {a b:Addr}{o:O3}(h:H3 a=some o) (h':H3 b=none):a≠b:=by
 intro e;subst e;rw[h] at h';cases h'
theorem aN {p:Addr}{o:HO}(b:H p=none):TupLe K H (upd H p o):=fun a xs h=>by
 rcases h with (h | ⟨c,h⟩) | h
 ·exact .inl (.inl (by rw[aU (cC h b)];exact h))
 ·exact .inl (.inr ⟨c,by rw[aU (cC h b)];exact h⟩)
 exact .inr h
theorem bH {p:Addr}{o:HO}(c:Mut (H p)):TupLe K H (upd H p o):=fun a xs h=>by
 have b:∀u,H a=some u->¬Mut (some u)->a≠p:=fun u e nm z=>by subst z;rw[e] at c;exact nm c
 rcases h with (h | ⟨d,h⟩) | h
 ·exact .inl (.inl (by rw[aU (b _ h fun z=>z)];exact h))
 ·exact .inl (.inr ⟨d,by rw[aU (b _ h fun z=>z)];exact h⟩)
 exact .inr h
theorem RepO.stay {a:Addr}{o:O3}(h:RepO K H a o) (c:TupLe K H H') (b:∀u,H a=some u->H' a=some u):RepO K H' a o:=by
 cases o with
 |lst ts=>obtain⟨xs,e,r⟩:=h;exact⟨xs,b _ e,r.mono c⟩
 |rol ts =>
  obtain⟨xs,e,r⟩:=h;refine⟨xs,?_,r.mono c⟩;rcases e with e | ⟨g,e⟩
  ·exact .inl (b _ e)
  exact .inr ⟨g,b _ e⟩
 |dct kvs=>obtain⟨vs,e,r⟩:=h;exact⟨vs,b _ e,r.mono c⟩
 |dcp kvs=>obtain⟨vs,e,r⟩:=h;exact⟨vs,b _ e,r.mono c⟩
 |exc C f=>exact b _ h
 |xdt d=>obtain⟨vs,e,r⟩:=h;exact⟨vs,b _ e,r.mono c⟩
 |dci kvs=>obtain⟨vs,e,r⟩:=h;exact⟨vs,b _ e,r.mono c⟩
 |dif o kvs=>obtain⟨vs,e,r⟩:=h;exact⟨vs,b _ e,r.mono c⟩
 |ins C d=>obtain⟨f,vs,e,r⟩:=h;exact⟨f,vs,b _ e,r.mono c⟩
 |dcn w d=>obtain⟨vs,e,r⟩:=h;exact⟨vs,b _ e,r.mono c⟩
theorem SimH.new {p:Addr}{o:HO}(s:SimH K H3 H) (b:H p=none):SimH K H3 (upd H p o):=fun a u e =>
 (s a u e).stay (aN b) fun w q=>by rw[aU (cC q b)];exact q
theorem SimH.fresh {p:Addr}(s:SimH K H3 H) (a:H p=none):H3 p=none:=by
 cases e:H3 p with
 |none=>rfl
 |some o =>
  have q:=s p o e
  cases o with
  |lst ts=>obtain⟨xs,z,_⟩:=q;rw[a] at z;cases z
  |dct ts=>obtain⟨xs,z,_⟩:=q;rw[a] at z;cases z
  |dcp ts=>obtain⟨xs,z,_⟩:=q;rw[a] at z;cases z
  |exc C b=>have z:H p=_:=q;rw[a] at z;cases z
  |xdt ts=>obtain⟨xs,z,_⟩:=q;rw[a] at z;cases z
  |dci ts=>obtain⟨xs,z,_⟩:=q;rw[a] at z;cases z
  |dif o ts=>obtain⟨xs,z,_⟩:=q;rw[a] at z;cases z
  |ins C ts=>obtain⟨b,xs,z,_⟩:=q;rw[a] at z;cases z
  |dcn w ts=>obtain⟨xs,z,_⟩:=q;rw[a] at z;cases z
  |rol ts =>
   obtain⟨xs,z,_⟩:=q
   rcases z with z | ⟨c,z⟩
   ·
    rw[a] at z;cases z
   ·
    rw[a] at z;cases z
end
abbrev VK3:=T->Hp3->Prop
abbrev TE3:=St3->Hp3->VK3->Prop
abbrev TT3:=St3->Hp3->(Bool->Hp3->Prop)->Prop
abbrev TA3:=St3->Hp3->(List T->Hp3->Prop)->Prop
structure Ends3 where
 nx:St3->Hp3->Prop
 rt:VK3
 bk:St3->Hp3->Prop:=fun _ _=>False
 ct:St3->Hp3->Prop:=fun _ _=>False
abbrev TS3:=Ends3->St3->Hp3->Prop
abbrev TG3:=T->St3->Hp3->(St3->Hp3->Prop)->Prop
abbrev nW:=List T->St3->Hp3->(St3->Hp3->Prop)->Prop
abbrev R3:=T->T->Hp3->VK3->Prop
section
variable (K:Frag)
def KV3 (H:Hp) (Q3:VK3) (Q:VK):Prop:=∀v H' t a,TupLe K H H'->SimH K a H'->Rep K H' t v->Q3 t a->Q v H'
def KS3 (H:Hp) (d:St3->Hp3->Prop) (N:L2.St->Hp->Prop):Prop:=∀c H' a b,TupLe K H H'->SimS K H' a c->SimH K b H'->d a b->N c H'
def lft (b:TE3):TE:=fun c H Q=>∃a H3 Q3,SimS K H a c/\SimH K H3 H/\b a H3 Q3/\KV3 K H Q3 Q
def zr (d:TT3):TT:=fun e H Q=>∃c H3 Q3,SimS K H c e/\SimH K H3 H/\d c H3 Q3/\∀b H' a,TupLe K H H'->SimH K a H'->Q3 b a->Q b H'
def Wj (c:TA3):TA:=fun d H Q=>∃b H3 Q3,SimS K H b d/\SimH K H3 H/\c b H3 Q3/\∀vs H' ts a,TupLe K H H'->SimH K a H'->Reps K H' ts vs->Q3 ts a->Q vs H'
def Su (c:TS3):TS:=fun D d H=>∃b H3 a,SimS K H b d/\SimH K H3 H/\c a b H3/\KS3 K H a.nx D.nx/\KV3 K H a.rt D.rt/\KS3 K H a.bk D.bk/\KS3 K H a.ct D.ct
def GJ (b:TG3):TG:=fun v c H Q=>∃t a H3 Q3,Rep K H t v/\SimS K H a c/\SimH K H3 H/\b t a H3 Q3/\KS3 K H Q3 Q
def Sv (b:nW):TGs:=fun vs c H Q=>∃ts a H3 Q3,Reps K H ts vs/\SimS K H a c/\SimH K H3 H/\b ts a H3 Q3/\KS3 K H Q3 Q
def Nk (c:R3):R2:=fun x y H Q=>∃a b H3 Q3,Rep K H a x/\Rep K H b y/\SimH K H3 H/\c a b H3 Q3/\KV3 K H Q3 Q
def Wl (a:List T->Hp3->VK3->Prop):List V->Hp->VK->Prop:=fun xs H Q=>∃ts H3 Q3,Reps K H ts xs/\SimH K H3 H/\a ts H3 Q3/\KV3 K H Q3 Q
def Wm (b:T->List T->Hp3->VK3->Prop):V->List V->Hp->VK->Prop:=fun x xs H Q=>∃a ts H3 Q3,Rep K H a x/\Reps K H ts xs/\SimH K H3 H/\b a ts H3 Q3/\KV3 K H Q3 Q
end
section
variable {K:Frag}{H H1:Hp}
theorem KV3.at {Q3:VK3}{Q:VK}(k:KV3 K H Q3 Q) (b:TupLe K H H1):KV3 K H1 Q3 Q:=fun v H' t a l=>k v H' t a (b.trans l)
theorem KS3.at {e:St3->Hp3->Prop}{N:L2.St->Hp->Prop}(k:KS3 K H e N) (f:TupLe K H H1):KS3 K H1 e N:=fun a b c d l=>k a b c d (f.trans l)
end
def PE3 (X:Cx) (e:Expr) (t:TE3):Prop:=PE X e (lft X.K t)
def PT3 (X:Cx) (e:Expr) (t:TT3):Prop:=PT X e (zr X.K t)
def PW3 (X:Cx) (e:Expr) (t:TT3):Prop:=PW X e (zr X.K t)
def PA3 (X:Cx) (a:List Expr) (t:TA3):Prop:=PA X a (Wj X.K t)
def PS3 (X:Cx) (st:Stmt) (t:TS3):Prop:=PS X st (Su X.K t)
def qm (X:Cx) (st:List Stmt) (t:TS3):Prop:=PSs X st (Su X.K t)
def PG3 (X:Cx) (e:Expr) (t:TG3):Prop:=PG X e (GJ X.K t)
def GK (X:Cx) (a:List Expr) (t:nW):Prop:=PGs X a (Sv X.K t)
def dB (X:Cx) (f:Value->Value->Sem Value) (r:R3):Prop:=OpR X f (Nk X.K r)
def fX (X:Cx) (f:Value) (r:List T->Hp3->VK3->Prop):Prop:=CallR X f (Wl X.K r)
def Sw (X:Cx) (r:R3):Prop:=IxR X (Nk X.K r)
def sE (X:Cx) (a:String) (r:T->List T->Hp3->VK3->Prop):Prop:=MtR X a (Wm X.K r)
theorem PE.imp {X:Cx}{e:Expr}{t t':TE}(h:PE X e t) (w:∀b H Q,t' b H Q->t b H Q):PE X e t':=fun a s b H Q I q=>h a s b H Q I (w b H Q q)
theorem PT.imp {X:Cx}{e:Expr}{t t':TT}(h:PT X e t) (w:∀b H Q,t' b H Q->t b H Q):PT X e t':=fun a s b H Q I q=>h a s b H Q I (w b H Q q)
theorem PW.imp {X:Cx}{e:Expr}{t t':TT}(h:PW X e t) (w:∀b H Q,t' b H Q->t b H Q):PW X e t':=fun c a s b H Q I q=>h c a s b H Q I (w b H Q q)
theorem PA.imp {X:Cx}{d:List Expr}{t t':TA}(h:PA X d t) (w:∀b H Q,t' b H Q->t b H Q):PA X d t':=fun c a s b H Q I q=>h c a s b H Q I (w b H Q q)
theorem PS.imp {X:Cx}{e:Stmt}{t t':TS}(h:PS X e t) (w:∀D b H,t' D b H->t D b H):PS X e t':=fun a s b H D I q=>h a s b H D I (w D b H q)
theorem PSs.imp {X:Cx}{e:List Stmt}{t t':TS}(h:PSs X e t) (w:∀D b H,t' D b H->t D b H):PSs X e t':=fun a s b H D I q=>h a s b H D I (w D b H q)
theorem PG.imp {X:Cx}{e:Expr}{t t':TG}(h:PG X e t) (w:∀v b H Q,t' v b H Q->t v b H Q):PG X e t':=fun a s b H v u Q I r q=>h a s b H v u Q I r (w v b H Q q)
theorem PGs.imp {X:Cx}{e:List Expr}{t t':TGs}(h:PGs X e t) (w:∀v b H Q,t' v b H Q->t v b H Q):PGs X e t':=fun a s b H v u Q I r q=>h a s b H v u Q I r (w v b H Q q)
theorem OpR.imp {X:Cx}{f:Value->Value->Sem Value}{t t':R2}(h:OpR X f t) (w:∀x y H Q,t' x y H Q->t x y H Q):OpR X f t':=fun a s d H x y v u Q I b c q=>h a s d H x y v u Q I b c (w x y H Q q)
theorem CallR.imp {X:Cx}{f:Value}{t t':List V->Hp->VK->Prop}(h:CallR X f t) (w:∀x H Q,t' x H Q->t x H Q):CallR X f t':=fun a s c H x v Q I b q=>h a s c H x v Q I b (w x H Q q)
theorem IxR.imp {X:Cx}{t t':R2}(h:IxR X t) (w:∀x y H Q,t' x y H Q->t x y H Q):IxR X t':=fun a b c s f H x y v u Q I d e q=>h a b c s f H x y v u Q I d e (w x y H Q q)
theorem MtR.imp {X:Cx}{b:String}{t t':V->List V->Hp->VK->Prop}(h:MtR X b t) (w:∀x xs H Q,t' x xs H Q->t x xs H Q):MtR X b t':=fun a s d H x xs v us Q I c e q=>h a s d H x xs v us Q I c e (w x xs H Q q)
section
variable {X:Cx}{pos:Pos}
def sG (i:Nat):TE3:=fun a H Q=>match a[i]? with
 |some (some t)=>Q t H
 |_=>False
def tC3 (t:T):TE3:=fun _ H Q=>Q t H
theorem v3 (i:Nat) {x:Str}{b:Pos}(m:X.N[i]?=some x:=by rfl) (j:Vis X.env.scope x:=by first | exact Or.inl rfl | exact Or.inr (Or.inl rfl) | exact Or.inr (Or.inr rfl)) (g:(x==("__debug__":Str))=false:=by decide)
  (a:(x==("__classdict__":Str))=false:=by decide):PE3 X (.Name x b) (sG i):=by
 refine PE.imp (pv i m j g a) ?_;rintro n H Q ⟨c,H3,Q3,l,d,h,k⟩;unfold sG at h;split at h
 ·rename_i t e;obtain⟨v,f,r⟩:=l.at' i t e;exact⟨v,f,k v H t H3 .refl d r h⟩
 exact h.elim
theorem ao {i:Int}{j:Nat}:PE3 X (.Constant (.int i) j pos) (tC3 (.int i)):=by
 refine PE.imp Ls ?_;rintro c H Q ⟨a,H3,Q3,d,b,h,k⟩;exact k _ _ _ H3 .refl b .ofInt h
theorem dZ {b:Bool}{j:Nat}:PE3 X (.Constant (.bool b) j pos) (tC3 (.bl b)):=by
 refine PE.imp Q4 ?_;rintro d H Q ⟨a,H3,Q3,e,c,h,k⟩;exact k _ _ _ H3 .refl c .ofBl h
theorem fj {j:Nat}:PE3 X (.Constant .none j pos) (tC3 .non):=by
 refine PE.imp Lw ?_;rintro c H Q ⟨a,H3,Q3,d,b,h,k⟩;exact k _ _ _ H3 .refl b .ofNon h
theorem fZ {x:Str}{j:Nat}:PE3 X (.Constant (.str x) j pos) (tC3 (.str x)):=by
 refine PE.imp Lx ?_;rintro c H Q ⟨a,H3,Q3,d,b,h,k⟩;exact k _ _ _ H3 .refl b .ofStr h
variable {a b c:Expr}{ta tb tc:TE3}
def sH (r:R3) (e c:TE3):TE3:=fun a H Q=>e a H fun x d=>c a d fun y b=>r x y b Q
theorem iT {r:R3}{i:L2.St}{H:Hp}{Q:VK}(h:lft X.K (sH r ta tb) i H Q):tOp (Nk X.K r) (lft X.K ta) (lft X.K tb) i H Q:=by
 obtain⟨a,H3,Q3,j,m,h,k⟩:=h;exact⟨a,H3,_,j,m,h,fun x u l d b f n p=>⟨a,d,_,j.mono b,f,p,fun y t s g c e q o=>⟨l,s,g,Q3,n.mono c,q,e,o,k.at (b.trans c)⟩⟩⟩
theorem aJ {op:Operator}{r:R3}(d:dB X (binaryOp op) r) (e:PE3 X a ta) (c:PE3 X b tb):PE3 X (.BinOp a op b pos) (sH r ta tb):=PE.imp (Rj d e c) fun _ _ _ h=>iT h
theorem cZ {op:CmpOp}{r:R3}(d:dB X (compareOp op) r) (e:PE3 X a ta) (c:PE3 X b tb) (f:behindInMarks op b=false:=by first | exact Af _ | rfl):PE3 X (.Compare a [op] [b] pos) (sH r ta tb):=PE.imp (Gb d e c f) fun _ _ _ h=>iT h
theorem aH {r:R3}(e:Sw X r) (d:PE3 X a ta) (c:PE3 X b tb) (f:wF b:=by exact fun _ _=>rfl):PE3 X (.Subscript a b pos) (sH r ta tb):=PE.imp (RK e d c f) fun _ _ _ h=>iT h
def jk (t:TE3):TT3:=fun a H Q=>t a H fun x H'=>match x with
 |.bl k=>Q k H'
 |_=>False
theorem aQ {op:CmpOp}{r:R3}(l:dB X (compareOp op) r) (f:PE3 X a ta) (j:PE3 X b tb) (g:behindInMarks op b=false:=by first | exact Af _ | rfl):PT3 X (.Compare a [op] [b] pos) (jk (sH r ta tb)):=by
 refine PT.imp (Gd l f j g) ?_;rintro o H Q ⟨d,H3,Q3,m,n,h,k⟩;refine iT (X:=X) ⟨d,H3,_,m,n,h,fun v H' t c i e r q=>?_⟩;cases t with
 |bl b=>exact⟨b,r.bl,k b H' c i e q⟩
 |_=>exact q.elim
variable {tA tB':TT3}{rest:List Expr}
theorem c7 (h:PE3 X a ta) (f:∀whole,isTrue a X.env whole=(do let v <- whole;standAt a.pos;holding [v] (truthy v)):=by intro _;rfl):PT3 X a (jk ta):=by
 refine PT.imp (Ly h f) ?_;rintro l H Q ⟨d,H3,Q3,i,j,h,k⟩;refine⟨d,H3,_,i,j,h,fun v H' t c g e r q=>?_⟩;cases t with
 |bl b=>exact⟨b,r.bl,k b H' c g e q⟩
 |_=>exact q.elim
def JG (t u:TT3):TT3:=fun b H Q=>t b H fun c a=>if c=true then u b a Q else Q false a
def Sx (t u:TT3):TT3:=fun b H Q=>t b H fun c a=>if c=true then Q true a else u b a Q
def JH (t:TT3):TT3:=fun b H Q=>t b H fun c a=>Q (!c) a
theorem PW3.pt (h:PW3 X a tA):PT3 X a tA:=PW.pt h
theorem cV (b:PT3 X a tA):PW3 X (.BoolOp .And [a] pos) tA:=Fx b
theorem iz (b:PT3 X a tA):PW3 X (.BoolOp .Or [a] pos) tA:=Lz b
theorem cN (n:PT3 X a tA) (o:PW3 X (.BoolOp .And (b::rest) pos) tB'):PW3 X (.BoolOp .And (a::b::rest) pos) (JG tA tB'):=by
 refine PW.imp (LC n o) ?_;rintro s H Q ⟨e,H3,Q3,m,r,h,k⟩;refine⟨e,H3,_,m,r,h,fun b H' d j g q=>?_⟩;cases b with
 |true=>exact⟨e,d,_,m.mono j,g,q,fun b l f i c p=>k b l f (j.trans i) c p⟩
 |false=>exact k false H' d j g q
theorem j6 (n:PT3 X a tA) (o:PW3 X (.BoolOp .Or (b::rest) pos) tB'):PW3 X (.BoolOp .Or (a::b::rest) pos) (Sx tA tB'):=by
 refine PW.imp (Q5 n o) ?_;rintro s H Q ⟨e,H3,Q3,m,r,h,k⟩;refine⟨e,H3,_,m,r,h,fun b H' d j g q=>?_⟩;cases b with
 |true=>exact k true H' d j g q
 |false=>exact⟨e,d,_,m.mono j,g,q,fun b l f i c p=>k b l f (j.trans i) c p⟩
theorem jR (f:PT3 X a tA):PT3 X (.UnaryOp .Not a pos) (JH tA):=by
 refine PT.imp (LK f) ?_;rintro l H Q ⟨d,H3,Q3,i,j,h,k⟩;exact⟨d,H3,_,i,j,h,fun b H' c g e q=>k _ H' c g e q⟩
def Be (e d:TE3):TE3:=fun b H Q=>e b H fun x a=>match x with
 |.bl c=>if c=true then d b a Q else Q (.bl false) a
 |_=>False
def JK (e d:TE3):TE3:=fun b H Q=>e b H fun x a=>match x with
 |.bl c=>if c=true then Q (.bl true) a else d b a Q
 |_=>False
theorem lW {op:PySem.BoolOp}{t:TE3}(h:PE3 X a t):PE3 X (.BoolOp op [a] pos) t:=LQ h
theorem u6 (i:PE3 X a ta) (j:PE3 X (.BoolOp .And (b::rest) pos) tb):PE3 X (.BoolOp .And (a::b::rest) pos) (Be ta tb):=by
 refine PE.imp (LR i j) ?_;rintro m H Q ⟨d,H3,Q3,g,l,h,k⟩;refine⟨d,H3,_,g,l,h,fun v H' t c f e r q=>?_⟩;cases t with
 |bl b =>
  refine⟨b,r.bl,?_⟩;cases b with
  |true=>exact⟨d,c,_,g.mono f,e,q,k.at f⟩
  |false=>exact k _ H' _ c f e .ofBl q
 |_=>exact q.elim
theorem JL (i:PE3 X a ta) (j:PE3 X (.BoolOp .Or (b::rest) pos) tb):PE3 X (.BoolOp .Or (a::b::rest) pos) (JK ta tb):=by
 refine PE.imp (Q7 i j) ?_;rintro m H Q ⟨d,H3,Q3,g,l,h,k⟩;refine⟨d,H3,_,g,l,h,fun v H' t c f e r q=>?_⟩;cases t with
 |bl b =>
  refine⟨b,r.bl,?_⟩;cases b with
  |true=>exact k _ H' _ c f e .ofBl q
  |false=>exact⟨d,c,_,g.mono f,e,q,k.at f⟩
 |_=>exact q.elim
def Wn (t:TT3) (e d:TE3):TE3:=fun a H Q=>t a H fun c b=>if c=true then e a b Q else d a b Q
variable {e:Expr}{es:List Expr}{te:TE3}{t:TA3}
def wN:TA3:=fun _ H Q=>Q [] H
def qp (e:TE3) (c:TA3):TA3:=fun a H Q=>e a H fun x d=>c a d fun xs b=>Q (x::xs) b
theorem aj:PA3 X [] wN:=by
 refine PA.imp MK ?_;rintro c H Q ⟨a,H3,Q3,d,b,h,k⟩;exact k _ _ _ _ .refl b .nil h
theorem aa (l:PE3 X e te) (n:PA3 X es t) (u:starEach (e::es) X.env=(false,eval e X.env)::starEach es X.env:=by rfl):PA3 X (e::es) (qp te t):=by
 refine PA.imp (Gh l n u) ?_;rintro w H Q ⟨b,H3,Q3,j,s,h,k⟩;exact⟨b,H3,_,j,s,h,fun v H' t d g f r q=>⟨b,d,_,j.mono g,f,q,fun vs o ts i c a m p=>k _ _ _ _ (g.trans c) a (.cons (r.mono c) m) p⟩⟩
def JM (t:TA3):TE3:=fun b H Q=>t b H fun xs a=>xs.length<=sizeLine/\Q (.tup xs) a
def wO (t:TA3):TE3:=fun b H Q=>t b H fun xs a=>xs.length<=sizeLine/\∀p,a p=none->Q (.ref p) (up3 a p (.lst xs))
theorem SimH.newTup {K:Frag}{H:Hp}{H3:Hp3}{ts:List T}{xs:List V}{p:Addr}(a:H p=none) (r:Reps K H ts xs):Rep K (upd H p (.tup xs)) (.tup ts) (.ref p) :=
 .ofTup (.of bT) (r.mono (aN a))
theorem SimH.newLst {K:Frag}{H:Hp}{H3:Hp3}{ts:List T}{xs:List V}{p:Addr}(s:SimH K H3 H) (b:H p=none) (r:Reps K H ts xs):SimH K (up3 H3 p (.lst ts)) (upd H p (.lst xs)):=fun a o e=>by
 by_cases c:a=p
 ·subst c;rw[au] at e;cases e;exact⟨xs,bT,r.mono (aN b)⟩
 rw[aD c] at e;exact s.new b a o e
theorem bL {x1}(h:PA3 X es t):PE3 X (.Tuple es x1 pos) (JM t):=by
 refine PE.imp (MN h) ?_;rintro i H Q ⟨b,H3,Q3,f,g,h,k⟩;refine⟨b,H3,_,f,g,h,fun vs H' ts a e d r q=>⟨by rw[<- r.length];exact q.1,fun p c=>?_⟩⟩;exact k _ _ _ a (e.trans (aN c)) (d.new c) (SimH.newTup (H3:=a) c r) q.2
theorem bI (h:PA3 X es t):PE3 X (.List es pos) (wO t):=by
 refine PE.imp (MP h) ?_;rintro i H Q ⟨b,H3,Q3,f,g,h,k⟩;refine⟨b,H3,_,f,g,h,fun vs H' ts d e a r q=>⟨by rw[<- r.length];exact q.1,fun p c=>?_⟩⟩;exact k _ _ _ _ (e.trans (aN c)) (a.newLst c r) .ofRef (q.2 p (a.fresh c))
end
section
variable {X:Cx}{st:Stmt}{rest:List Stmt}{e c:Expr}{te:TE3}{tc:TT3}{t u:TS3}{pos:Pos}
def Bf:TS3:=fun D a H=>D.nx a H
def wQ (t u:TS3):TS3:=fun D a H=>t { D with nx:=u D} a H
theorem bf:qm X [] Bf:=by
 refine PSs.imp Fy ?_;rintro D f H ⟨a,H3,e,c,d,h,b,_⟩;exact b _ _ _ _ .refl c d h
theorem ak (n:PS3 X st t) (l:qm X rest u):qm X (st::rest) (wQ t u):=by
 refine PSs.imp (z9 n l) ?_;rintro D s H ⟨d,H3,k,o,p,h,m,i,g,j⟩;exact⟨d,H3,_,o,p,h,fun r H' a c b e f q=>⟨a,c,k,e,f,q,m.at b,i.at b,g.at b,j.at b⟩,i,g,j⟩
theorem aq (a:PS3 X st t):qm X [st] t:=Fz a
def Nm:TS3:=fun D a H=>D.ct a H
theorem sI:PS3 X (.Continue pos) Nm:=by
 refine PS.imp rM ?_;rintro D j H ⟨a,H3,e,b,c,h,i,g,f,d⟩;exact d _ _ _ _ .refl b c h
def Bg (te:TE3):TS3:=fun D a H=>te a H fun _ b=>D.nx a b
theorem cg (f:PE3 X e te) (k:swapsWith e none pos.line X.env=pure false:=by rfl):PS3 X (.Expr e pos) (Bg te):=by
 refine PS.imp (FJ f k) ?_;rintro D m H ⟨a,H3,l,d,j,h,i,_⟩;exact⟨a,H3,_,d,j,h,fun v H' t g c b r q=>i _ _ _ _ c (d.mono c) b q⟩
def JN (te:TE3):TS3:=fun D a H=>te a H D.rt
theorem aL (b:PE3 X e te):PS3 X (.Return (some e) pos) (JN te):=by
 refine PS.imp (Ma b) ?_;rintro D j H ⟨a,H3,g,d,f,h,i,c,_⟩;exact⟨a,H3,_,d,f,h,c⟩
def Np:TS3:=fun D _ H=>D.rt .non H
def JP (c:TT3) (t u:TS3):TS3:=fun D a H=>c a H fun b d=>if b=true then t D a d else u D a d
theorem bM {a b:List Stmt}(s:PT3 X c tc) (o:qm X a t) (p:qm X b u):PS3 X (.If c a b pos) (JP tc t u):=by
 refine PS.imp (Rb s o p) ?_;rintro D v H ⟨e,H3,j,i,r,h,m,l,k,n⟩;refine⟨e,H3,_,i,r,h,fun b H' f d g q=>?_⟩;cases b with
 |true=>exact⟨e,f,j,i.mono d,g,q,m.at d,l.at d,k.at d,n.at d⟩
 |false=>exact⟨e,f,j,i.mono d,g,q,m.at d,l.at d,k.at d,n.at d⟩
def fB (i:Nat):TG3:=fun v a H Q=>Q (a.set i (some v)) H
theorem aC {i:Nat}{x:Str}(g:X.N.Nodup) (b:X.N[i]?=some x:=by rfl) (e:Loc X.env.scope x:=by first | exact Or.inl rfl | exact Or.inr rfl) (d:X.fn x=true\/X.env.scope.names.lookup x=some .local:=by first | exact .inl rfl | exact .inr rfl | assumption):PG3 X (.Name x pos) (fB i):=by
 refine PG.imp (FN g b e d) ?_;rintro v j H Q ⟨t,a,H3,Q3,r,c,f,h,k⟩;exact k _ _ _ _ .refl (c.set r) f h
def wR:nW:=fun ts a H Q=>match ts with
 |[]=>Q a H
 |_=>False
def jl (t:TG3) (u:nW):nW:=fun ts b H Q=>match ts with
 |x::r=>t x b H fun a H'=>u r a H' Q
 |[]=>False
theorem bO:GK X [] wR:=by
 refine PGs.imp FP ?_;rintro vs d H Q ⟨ts,a,H3,Q3,r,c,b,h,k⟩;cases ts with
 |nil=>exact⟨r.inv0,k _ _ _ _ .refl c b h⟩
 |cons _ _=>exact h.elim
theorem aG {e:Expr}{b:List Expr}{t:TG3}{u:nW}(m:PG3 X e t) (j:GK X b u)
  (w:(assignEach (e::b) X.env).map (·.2)=assign e X.env::(assignEach b X.env).map (·.2):=by rfl):GK X (e::b) (jl t u):=by
 refine PGs.imp (Ab m j w) ?_;rintro vs z H Q ⟨ts,d,H3,Q3,r,p,s,h,k⟩;cases ts with
 |nil=>exact h.elim
 |cons x ts =>
 obtain⟨v,n,rfl,o,l⟩:=r.inv;exact⟨v,n,rfl,x,d,H3,_,o,p,s,h,fun y H' a c i f g q=>⟨ts,a,c,Q3,l.mono i,f,g,q,k.at i⟩⟩
def wU (n:Nat) (g:nW):TG3:=fun t a H Q=>match t with
 |.tup ts=>ts.length=n/\g ts a H Q
 |_=>False
theorem cD {b:List Expr}{k:Nat}{t:nW}{n:Nat}(i:X.calm=true) (h:GK X b t)
  (f:(assignEach b X.env).length=n:=by rfl) (d:(assignEach b X.env).findIdx? (·.1)=none:=by rfl):PG3 X (.Tuple b k pos) (wU n t):=by
 refine PG.imp (Mf i h f d) ?_;rintro v l H Q ⟨t,c,H3,Q3,r,g,j,h,k⟩;cases t with
 |tup ts=>obtain⟨a,xs,rfl,s,e⟩:=r.tup;exact⟨a,xs,rfl,s,by rw[<- e.length];exact h.1,ts,c,H3,Q3,e,g,j,h.2,k⟩
 |_=>exact h.elim
def wV (te:TE3) (g:TG3):TS3:=fun D a H=>te a H fun x b=>g x a b D.nx
theorem u9 {a e:Expr}{te:TE3}{g:TG3}(j:PE3 X e te) (k:PG3 X a g) (p:swapsWithSole [a] e pos.line X.env=pure false:=by rfl) (n:swappedStores [a] e X.env=pure none:=by rfl)
  (m:(assignEach [a] X.env).map (·.2)=[assign a X.env]:=by rfl):PS3 X (.Assign [a] e pos) (wV te g):=by
 refine PS.imp (Mh j k p n m) ?_;rintro D u H ⟨b,H3,s,i,o,h,l,_⟩;exact⟨b,H3,_,i,o,h,fun v H' t c f d r q=>⟨t,b,c,_,r,i.mono f,d,q,l.at f⟩⟩
theorem aF {i:Nat}{x:Str}{e:Expr}{te:TE3}{a:Pos}(s:X.N.Nodup) (g:PE3 X e te) (k:X.N[i]?=some x:=by rfl) (n:Loc X.env.scope x:=by first | exact Or.inl rfl | exact Or.inr rfl)
  (p:swapsWith e (some (.Name x a)) pos.line X.env=pure false:=by rfl) (m:X.fn x=true\/X.env.scope.names.lookup x=some .local:=by first | exact .inl rfl | exact .inr rfl | assumption) :
  PS3 X (.Assign [.Name x a] e pos) (wV te (fB i)):=by
 refine PS.imp (Mi s k n g p m) ?_;rintro D w H ⟨b,H3,u,f,o,h,l,_⟩;exact⟨b,H3,_,f,o,h,fun v H' t j d c r q=>l _ _ _ _ d ((f.mono d).set r) c q⟩
end
abbrev sJ:=T->T->T->Hp3->(Hp3->Prop)->Prop
def Nq (K:Frag) (e:sJ):Aa:=fun o i v H Q=>∃d c b H3 Q3,Rep K H d o/\Rep K H c i/\Rep K H b v/\SimH K H3 H/\e d c b H3 Q3/\∀H' a,TupLe K H H'->SimH K a H'->Q3 a->Q H'
def JQ (X:Cx) (t:sJ):Prop:=PSet X (Nq X.K t)
theorem PSet.imp {X:Cx}{t t':Aa}(h:PSet X t) (w:∀o i v H Q,t' o i v H Q->t o i v H Q):PSet X t':=fun a s f H o i v c e u Q I d g b q=>h a s f H o i v c e u Q I d g b (w o i v H Q q)
section
variable {X:Cx}{pos:Pos}
def JR (e c:TE3) (t:sJ):TG3:=fun v a H Q=>e a H fun o d=>c a d fun i b=>t o i v b fun H3=>Q a H3
theorem Bh {o i:Expr}{d e:TE3}{t:sJ}(D:PE3 X o d) (x:PE3 X i e) (w:JQ X t)
  (u:∀v,assign (.Subscript o i pos) X.env v=(do
   let ov <- holding [v] (eval o X.env)
   let iv <- holding [v,ov] (eval i X.env)
   standAt pos
   holding [v,ov,iv] (setItem ov iv v)
   release [v,ov,iv] []):=by intro _;rfl):PG3 X (.Subscript o i pos) (JR d e t):=by
 refine PG.imp (Mg D x w u) ?_;rintro v F H Q ⟨t,c,H3,Q3,r,l,B,h,k⟩;exact⟨c,H3,_,l,B,h,fun o E d f a n s A=>⟨c,f,_,l.mono a,n,A,fun i G e j b m z y=>⟨d,e,t,j,_,s.mono b,z,r.mono (a.trans b),m,y,fun H' C p g q=>k _ _ _ _ (a.trans (b.trans p)) (l.mono (a.trans (b.trans p))) g q⟩⟩⟩
end
abbrev TI3:=St3->Hp3->(List T->(Hp3->Prop)->Hp3->Prop)->Prop
def lX (K:Frag) (J:It) (ts:List T) (still:Hp3->Prop) (H:Hp):Prop:=∀H' b,TupLe K H H'->SimH K b H'->still b ->
 (∀i,ts.length<=i->J.stop i H')/\∀i t,ts[i]?=some t->J.go i H'/\∀x a,J.yld i H' x a->TupLe K H' a/\SimH K b a/\Rep K a t x
def Wo (K:Frag) (c:TI3):TI:=fun d H R=>∃b H3 R3,SimS K H b d/\SimH K H3 H/\c b H3 R3/\∀J ts still H' a,TupLe K H H'->SimH K a H'->lX K J ts still H'->R3 ts still a->R J H'
def PI3 (X:Cx) (b a:Expr) (t:TI3):Prop:=PI X b a (Wo X.K t)
theorem PI.imp {X:Cx}{c e:Expr}{t t':TI}(h:PI X c e t) (w:∀b H R,t' b H R->t b H R):PI X c e t':=fun a s b H R I q=>h a s b H R I (w b H R q)
def cP:Hp3->Prop:=fun _=>True
def cF (a:Addr) (ts:List T):Hp3->Prop:=fun H=>H a=some (.lst ts)\/H a=some (.rol ts)
theorem SimH.sqL {K:Frag}{H:Hp}{H3:Hp3}{a:Addr}{ts:List T}(s:SimH K H3 H) (h:cF a ts H3):∃xs,SqL K H a xs/\Reps K H ts xs:=by
 rcases h with h | h
 ·obtain⟨xs,e,r⟩:=s a _ h;exact⟨xs,.of e,r⟩
 obtain⟨xs,e,r⟩:=s a _ h;exact⟨xs,.inl e,r⟩
section
variable {X:Cx}{tg l:Expr}{tl:TE3}{pos p:Pos}
def Bj (c:TE3):TI3:=fun d H R=>c d H fun x b=>match x with
 |.ref a=>match b a with
  |some (.lst ts)=>R ts (cF a ts) b
  |some (.rol ts)=>R ts (cF a ts) b
  |_=>False
 |_=>False
theorem oZ {K:Frag}{H:Hp}{a:Addr}{ts:List T}:lX K (Itl K a) ts (cF a ts) H:=fun H' g n f st=>by
 obtain⟨xs,b,c⟩:=f.sqL st;have l:=c.length;refine⟨fun i m=>⟨xs,b,by omega⟩,fun i t e=>?_⟩;obtain⟨v,d,h⟩:=c.get e;refine⟨⟨xs,v,b,d⟩,fun x j y=>?_⟩;obtain⟨k,y⟩:=y;subst k;have:=y xs b;rw[d] at this;cases this;exact⟨.refl,f,h⟩
theorem cz (j:PE3 X l tl):PI3 X tg l (Bj tl):=by
 refine PI.imp (FQ j) ?_;rintro p H R ⟨f,H3,R3,n,o,h,k⟩;refine⟨f,H3,_,n,o,h,fun v H' t b i c r q=>?_⟩;cases t with
 |ref a =>
  have d:(match b a with
   |some (.lst ts)=>R3 ts (cF a ts) b
   |some (.rol ts)=>R3 ts (cF a ts) b
   |_=>False):=q
  split at d
  ·
   rename_i ts e
   obtain⟨xs,g,m⟩:=c.sqL (.inl e)
   exact⟨a,r.ref,⟨xs,g⟩,k _ ts (cF a ts) H' b i c oZ d⟩
  ·
   rename_i ts e
   obtain⟨xs,g,m⟩:=c.sqL (.inr e)
   exact⟨a,r.ref,⟨xs,g⟩,k _ ts (cF a ts) H' b i c oZ d⟩
  ·
   exact d.elim
 |_=>exact q.elim
def JS (a:TE3):TI3:=fun c H R=>a c H fun x b=>match x with
 |.tup ts=>R ts cP b
 |_=>False
theorem Bk {K:Frag}{H:Hp}{a:Addr}{ts:List T}{xs:List V}(c:SqT K H a xs) (d:Reps K H ts xs):lX K (Itt K a) ts cP H:=fun H' g b l st=>by
 have m:=d.length;refine⟨fun i n=>⟨xs,b _ _ c,by omega⟩,fun i t e=>?_⟩;obtain⟨v,f,h⟩:=d.get e;refine⟨⟨xs,v,b _ _ c,f⟩,fun x j y=>?_⟩;obtain⟨k,y⟩:=y;subst k;have:=y xs (b _ _ c);rw[f] at this;cases this;exact⟨.refl,l,h.mono b⟩
theorem cG (g:PE3 X l tl):PI3 X tg l (JS tl):=by
 refine PI.imp (Ml g) ?_;rintro o H R ⟨c,H3,R3,m,n,h,k⟩;refine⟨c,H3,_,m,n,h,fun v H' t b i d r q=>?_⟩;cases t with
 |tup ts=>obtain⟨a,xs,e,f,j⟩:=r.tup;exact⟨a,e,⟨xs,f⟩,k _ ts cP H' b i d (Bk f j) q⟩
 |_=>exact q.elim
def dC (a:Int) (n:Nat):List T:=(List.range n).map fun (i:Nat)=>T.int (a+i)
theorem sO {K:Frag}{H:Hp}{b:Int}{n:Nat}:lX K (Itr b n) (dC b n) cP H:=fun H' c j h st=>by
 refine⟨fun i a=>by unfold dC at a;simp at a;exact a,fun i t e=>?_⟩;unfold dC at e;rw[H_] at e;by_cases a:i<n
 ·rw[Xp a] at e;cases e;refine⟨a,fun x f y=>?_⟩;obtain⟨g,d⟩:=y;subst g;subst d;exact⟨.refl,h,.ofInt⟩
 rw[Xb (by simpa using a)] at e;cases e
def Bm (b:TA3):TI3:=fun c H R=>b c H fun vs a=>match vs with
 |[.int j]=>-(2^62)<=j/\j<2^62/\R (dC 0 j.toNat) cP a
 |[.int i,.int j]=>(-(2^62)<=i/\i<2^62 /\ -(2^62)<=j/\j<2^62)/\R (dC i (j - i).toNat) cP a
 |_=>False
theorem aR {a:Expr}{f:TA3}(m:Gl X "range") (l:X.mg "range"=none) (i:PA3 X [a] f) (y:starEach [a] X.env=[(false,eval a X.env)]:=by rfl):PI3 X tg (.Call (.Name "range" p) [a] [] pos) (Bm (fun g H Q=>f g H fun vs w=>vs.length=1/\Q vs w)):=by
 refine PI.imp (yS m l i y) ?_;rintro g H R ⟨c,H3,R3,u,x,h,k⟩;refine⟨c,H3,_,u,x,h,fun vs H' ts b n d r q=>?_⟩;obtain⟨e,q⟩:=q;cases ts with
 |nil=>cases e
 |cons t ts =>
 cases ts with
 |cons _ _=>simp at e
 |nil =>
 cases t with
 |int j=>obtain⟨v,_,rfl,o,s⟩:=r.inv;rw[s.inv0,o.int];exact⟨j,rfl,q.1,q.2.1,k _ _ _ H' b n d sO q.2.2⟩
 |_=>exact q.elim
theorem zu {a b:Expr}{m:TA3}(s:Gl X "range") (o:X.mg "range"=none) (n:PA3 X [a,b] m) (x:starEach [a,b] X.env=[(false,eval a X.env),(false,eval b X.env)]:=by rfl) (g:starEach [b] X.env=[(false,eval b X.env)]:=by rfl) :
  PI3 X tg (.Call (.Name "range" p) [a,b] [] pos) (Bm (fun l H Q=>m l H fun vs w=>vs.length=2/\Q vs w)):=by
 refine PI.imp (yU s o n x g) ?_;rintro l H R ⟨e,H3,R3,u,A,h,k⟩;refine⟨e,H3,_,u,A,h,fun vs H' ts f B d r q=>?_⟩;obtain⟨y,q⟩:=q
 match ts,y,r with
 |[t1,t2],_,r =>
 obtain⟨v,_,rfl,C,t⟩:=r.inv;obtain⟨D,_,rfl,c,z⟩:=t.inv;cases t1 with
 |int i =>
  cases t2 with
  |int j=>rw[z.inv0,C.int,c.int];exact⟨i,j,rfl,q.1,k _ _ _ H' f B d sO q.2⟩
  |_=>exact q.elim
 |_=>cases t2 <;> exact q.elim
end
def iter3 (g:TG3) (a:TS3) (D:Ends3) (still:Hp3->Prop):List T->St3->Hp3->Prop
 |[],σ,H=>still H/\D.nx σ H
 |t::r,σ,H=>still H/\g t σ H fun b c=>a { D with nx:=iter3 g a D still r,ct:=iter3 g a D still r,bk:=D.nx} b c
theorem iter3.st {g:TG3}{a:TS3}{D:Ends3}{still:Hp3->Prop}{ts:List T}{b:St3}{H:Hp3}(h:iter3 g a D still ts b H):still H:=by
 cases ts with
 |nil=>exact h.1
 |cons t r=>exact h.1
def JT (d:TI3) (g:TG3) (b:TS3):TS3:=fun D a H=>d a H fun ts still c=>iter3 g b D still ts a c
section
variable {X:Cx}{tg iter:Expr}{pos:Pos}
theorem bu {n:List Stmt}{Y:TI3}{g:TG3}{r:TS3}(hp:PassesOwn (model X.prog X.w) X.A X.env X.xe) (hc:X.calm=true) (Z:PI3 X tg iter Y) (hg:PG3 X tg g) (hb:qm X n r)
  (hs:∀x,foldedSetIterable iter X.env x=pure x:=by intro _;rfl):PS3 X (.For tg iter n [] pos) (JT Y g r):=by
 refine PS.imp (Mm hp hc Z hg hb hs) ?_;rintro D Q H ⟨f,H3,F,W,sh,h,V,k2,k3,k4⟩;refine⟨f,H3,_,W,sh,h,fun J ts still z I G T wk q=>?_⟩;refine⟨fun i m Q H=>∃f H3,TupLe X.K z H/\SimS X.K H f Q/\SimH X.K H3 H/\m=ts.length - i/\i<=ts.length/\iter3 g r F still (ts.drop i) f H3,⟨ts.length,f,I,.refl,W.mono G,T,rfl,Yy _,by simpa using q⟩,?_⟩;rintro i m Q H ⟨N,H4,p,v,t,rfl,Z,it⟩;have w:=wk H H4 p t it.st;by_cases o:i<ts.length
 ·have e:=e_ o;have ed:ts.drop i=ts[i]::ts.drop (i+1):=Yd o;rw[ed] at it;obtain⟨st,it⟩:=it;obtain⟨go,yl⟩:=w.2 i _ e;refine .inr ⟨go,fun j H'=>∃f H3,TupLe X.K z H'/\SimS X.K H' f j/\SimH X.K H3 H'/\iter3 g r F still (ts.drop (i+1)) f H3,fun j H' ⟨s5,h5,a,b,c,d⟩=>⟨ts.length - (i+1),by omega,s5,h5,a,b,c,rfl,o,d⟩,fun x H' y=>?_⟩;obtain⟨C,L,rx⟩:=yl x H' y;refine⟨ts[i],N,H4,_,rx,v.mono C,L,it,fun σ2 S E M U O P q2=>?_⟩;have k:TupLe X.K z S:=p.trans (C.trans U);have nx:∀(B:TupLe X.K z S),KS3 X.K S (iter3 g r F still (ts.drop (i+1))) (fun j H'=>∃f H3,TupLe X.K z H'/\SimS X.K H' f j/\SimH X.K H3 H'/\iter3 g r F still (ts.drop (i+1)) f H3) :=
   fun B j H' u R l s h q=>⟨u,R,B.trans l,s,h,q⟩
  exact⟨E,M,_,O,P,q2,nx k,k2.at (G.trans k),V.at (G.trans k),nx k⟩
 have e:i=ts.length:=by omega
 subst e;rw[List.drop_length] at it;exact .inl ⟨w.1 _ (j_ _),V _ _ _ _ (G.trans p) v t it.2⟩
def qt (c:TT3) (g:TS3):TS3:=fun D d H=>∃W:Nat->St3->Hp3->Prop,(∃m,W m d H)/\∀m d H,W m d H ->
 c d H fun b f=>if b=true then g { D with nx:=fun a H'=>∃e,e<m/\W e a H',ct:=fun a H'=>∃e,e<m/\W e a H',bk:=D.nx} d f else D.nx d f
theorem lY {c:Expr}{g:List Stmt}{x:TT3}{v:TS3}(J:PassesOwn (model X.prog X.w) X.A X.env X.xe) (F:PT3 X c x) (O:qm X g v):PS3 X (.While c g [] pos) (qt x v):=by
 refine PS.imp (Ac J F O) ?_;rintro D U H ⟨d,H3,R,L,Q,⟨W,⟨E,M⟩,p⟩,u,C,S,V⟩;refine⟨fun m a H'=>∃d H3,TupLe X.K H H'/\SimS X.K H' d a/\SimH X.K H3 H'/\W m d H3,⟨E,d,H3,.refl,L,Q,M⟩,?_⟩;rintro m P T ⟨i,y,f,j,r,B⟩;refine⟨i,y,_,j,r,p m i y B,fun b N G e o q=>?_⟩;cases b with
 |true =>
  rw[if_pos rfl] at q ⊢;have z:KS3 X.K N (fun a H'=>∃k,k<m/\W k a H') (fun a H'=>∃k,k<m/\∃d H3,TupLe X.K H H'/\SimS X.K H' d a/\SimH X.K H3 H'/\W k d H3) :=
   fun a H' n t l s h ⟨k,I,w⟩=>⟨k,I,n,t,f.trans (e.trans l),s,h,w⟩
  exact⟨_,fun a H' h=>h,i,G,_,j.mono e,o,q,z,C.at (f.trans e),u.at (f.trans e),z⟩
 |false =>
 rw[if_neg t_] at q ⊢;exact u _ _ _ _ (f.trans e) (j.mono e) o q
end
def GP (X:Cx) (a:List Expr) (t:TT3):Prop:=PIf X a (zr X.K t)
def wW:TT3:=fun _ H Q=>Q true H
theorem bQ {X:Cx}:GP X [] wW:=fun a s c H Q I ⟨b,H3,Q3,e,d,h,k⟩=>Gy a s c H Q I (k _ _ _ .refl d h)
theorem dG {X:Cx}{c:Expr}{t:TT3}(h:PT3 X c t):GP X [c] t:=Gz h
def sS (nt:Nat) (cap:List Nat) (a:St3):St3:=List.replicate nt none++cap.map fun j=>(a[j]?).getD none
theorem wX {K:Frag}{H:Hp}{a:St3}{d:L2.St}{nt:Nat}{cap:List Nat}(s:SimS K H a d):SimS K H (sS nt cap a) (nU nt cap d):=by
 refine⟨by simp [sS,nU],fun i t e=>?_⟩;unfold sS at e;unfold nU;by_cases c:i<nt
 ·rw[U_ (by simpa using c),Y6] at e;split at e <;> cases e
 rw[E_ (by simpa using c),H_] at e;rw[E_ (by simpa using c),H_];simp only[Zk] at e ⊢;cases q:cap[i - nt]? with
 |none=>rw[q] at e;cases e
 |some j =>
 rw[q] at e;have b:(a[j]?).getD none=some t:=Q_ e;have f:a[j]?=some (some t):=by
  cases z:a[j]? with
  |none=>rw[z] at b;cases b
  |some y=>rw[z] at b;exact O_ some b
 obtain⟨v,g,r⟩:=s.at' j t f;exact⟨v,by simp [g],r⟩
def cIter3 (g:TG3) (tt:TT3) (te:TE3) (still:Hp3->Prop) (c:List T->Hp3->Prop):List T->List T->St3->Hp3->Prop
 |[],ys,σ,H=>still H/\ys.length<=sizeLine/\c ys H
 |t::r,ys,σ,H=>still H/\g t σ H fun a d=>tt a d fun b H3=>if b=true then te a H3 fun y e=>ys.length<sizeLine/\cIter3 g tt te still c r (ys++[y]) a e else cIter3 g tt te still c r ys a H3
theorem cIter3.st {g:TG3}{tt:TT3}{te:TE3}{still:Hp3->Prop}{a:List T->Hp3->Prop}{ts b:List T}{c:St3}{H:Hp3}(h:cIter3 g tt te still a ts b c H):still H:=by
 cases ts with
 |nil=>exact h.1
 |cons t r=>exact h.1
theorem Bo {K:Frag}{J:It}{g:TG3}{tt:TT3}{te:TE3}{still:Hp3->Prop}{d:List T->Hp3->Prop}{D:List V->Hp->Prop}{ts:List T}{c:St3}{B:L2.St}{r:Hp}{p:Hp3}
  (wk:lX K J ts still r) (W:SimS K r c B) (sh:SimH K p r) (h:cIter3 g tt te still d ts [] c p)
  (Y:∀o us H' H3',TupLe K r H'->SimH K H3' H'->Reps K H' o us->d o H3'->D us H'):wL J (GJ K g) (zr K tt) (lft K te) D B r:=by
 refine⟨fun i m us B H=>∃c H3 o,TupLe K r H/\SimS K H c B/\SimH K H3 H/\Reps K H o us/\m=ts.length - i/\i<=ts.length/\cIter3 g tt te still d (ts.drop i) o c H3,⟨ts.length,c,p,[],.refl,W,sh,.nil,rfl,Yy _,by simpa using h⟩,?_⟩;rintro i m us B H ⟨I,R,o,n,N,A,z,rfl,hi,it⟩;have w:=wk H R n A it.st;by_cases k:i<ts.length
 ·have e:=e_ k;have S:ts.drop i=ts[i]::ts.drop (i+1):=Yd k;rw[S] at it;obtain⟨st,it⟩:=it;obtain⟨go,X⟩:=w.2 i _ e;refine .inr ⟨go,fun x H' y=>?_⟩;obtain⟨C,F,rx⟩:=X x H' y;refine⟨ts[i],I,R,_,rx,N.mono C,F,it,fun U H2 a G P j O q2=>?_⟩;refine⟨a,G,_,j,O,q2,fun b H3 u l s E=>?_⟩;have f:TupLe K H H3:=C.trans (P.trans l);cases b with
  |true=>rw[if_pos rfl] at E;refine Wg ?_;refine⟨a,u,_,j.mono l,s,E,fun v H5 t L q M Z Q=>⟨by rw[<- z.length];exact Q.1,ts.length - (i+1),by omega,a,L,o++[t],n.trans (f.trans q),j.mono (l.trans q),M,(z.mono (f.trans q)).append (.cons Z .nil),rfl,k,Q.2⟩⟩
  |false =>
  rw[if_neg t_] at E;refine Wf ?_;exact⟨ts.length - (i+1),by omega,a,u,o,n.trans f,j.mono l,s,z.mono f,rfl,k,E⟩
 have e:i=ts.length:=by omega
 subst e;rw[List.drop_length] at it;exact .inl ⟨w.1 _ (j_ _),by rw[<- z.length];exact it.2.1,Y _ _ _ _ n A z it.2.2⟩
def Bp (c:TI3) (g:TG3) (tt:TT3) (te:TE3) (nt:Nat) (cap:List Nat):TE3:=fun a H Q=>c a H fun ts still b=>cIter3 g tt te still (fun d H'=>∀p,H' p=none->Q (.ref p) (up3 H' p (.lst d))) ts [] (sS nt cap a) b
def o4 (c:TI3) (g:TG3) (tt:TT3) (te:TE3) (nt:Nat) (cap:List Nat) (i:Nat):TS3:=fun D a H=>c a H fun ts still b=>cIter3 g tt te still (fun d H'=>∀p,H' p=none->D.nx (a.set i (some (.ref p))) (up3 H' p (.lst d))) ts [] (sS nt cap a) b
section
variable {X:Cx}{N':List Str}{nt:Nat}{cap:List Nat}{scope:Scope}{elt tg iter:Expr}{ifs:List Expr}{pos pos' spos:Pos}{wi:TI3}{g:TG3}{tt:TT3}{te:TE3}
theorem bA (m:X.calm=true) (S:CompSc X N' nt cap scope) (r:PI3 X tg iter wi)
  (n:∀cl pins s H C fp,PG3 (bU X N' scope cl pins s H C fp) tg g/\GP (bU X N' scope cl pins s H C fp) ifs tt/\PE3 (bU X N' scope cl pins s H C fp) elt te)
  (o:∀x,foldedSetIterable iter X.env x=pure x:=by intro _;rfl):PE3 X (.ListComp elt [⟨tg,iter,ifs,0⟩] scope pos) (Bp wi g tt te nt cap):=by
 refine PE.imp (GD (g:=GJ X.K g) (tt:=zr X.K tt) (te:=lft X.K te) m S r n o) ?_;rintro A H Q ⟨b,H3,Q3,f,v,h,k⟩;refine⟨b,H3,_,f,v,h,fun J ts still z j i e w q=>?_⟩;exact Bo w (wX (f.mono i)) e q fun y us H' t d a l u p c=>k _ _ _ _ (i.trans (d.trans (aN c))) (a.newLst c l) .ofRef (u p (a.fresh c))
theorem jC {i:Nat}{x:Str}(o:X.calm=true) (y:X.N.Nodup) (S:CompSc X N' nt cap scope) (z:PI3 X tg iter wi)
  (u:∀cl pins s H C fp,PG3 (bU X N' scope cl pins s H C fp) tg g/\GP (bU X N' scope cl pins s H C fp) ifs tt/\PE3 (bU X N' scope cl pins s H C fp) elt te)
  (f:X.N[i]?=some x:=by rfl) (r:Loc X.env.scope x:=by first | exact Or.inl rfl | exact Or.inr rfl)
  (d:swapsWith (.ListComp elt [⟨tg,iter,ifs,0⟩] scope pos) (some (.Name x pos')) spos.line X.env=pure true:=by rfl)
  (w:∀x,foldedSetIterable iter X.env x=pure x:=by intro _;rfl) (v:X.fn x=true\/X.env.scope.names.lookup x=some .local:=by first | exact .inl rfl | exact .inr rfl | assumption) :
  PS3 X (.Assign [.Name x pos'] (.ListComp elt [⟨tg,iter,ifs,0⟩] scope pos) spos) (o4 wi g tt te nt cap i):=by
 refine PS.imp (GF (g:=GJ X.K g) (tt:=zr X.K tt) (te:=lft X.K te) o y f r S z u d w v) ?_;rintro D M H ⟨e,H3,G,j,E,h,t,_⟩;refine⟨e,H3,_,j,E,h,fun J ts still L m l k F q=>?_⟩;exact Bo F (wX (j.mono l)) k q fun I us H' A b a n B p c =>
  t _ _ _ _ (l.trans (b.trans (aN c))) ((j.mono (l.trans (b.trans (aN c)))).set .ofRef) (a.newLst c n) (B p (a.fresh c))
end
abbrev Sp3:=List T->Hp3->VK3->Prop
def sU (K:Frag) (sp:Sp3):Sp:=fun vs H Q _=>∃ts H3 Q3,Reps K H ts vs/\SimH K H3 H/\sp ts H3 Q3/\KV3 K H Q3 Q
def Sub3 (H H':Hp3):Prop:=∀a o,H a=some o->H' a=some o
theorem Sub3.refl {H:Hp3}:Sub3 H H:=fun _ _ h=>h
theorem Sub3.trans {H d e:Hp3}(a:Sub3 H d) (b:Sub3 d e):Sub3 H e:=fun c o h=>b c o (a c o h)
theorem Sub3.new {H:Hp3}{p:Addr}{o:O3}(h:H p=none):Sub3 H (up3 H p o):=fun a u e=>by rw[aD (aZ e h)];exact e
theorem SimH.sub {K:Frag}{H3 b:Hp3}{H:Hp}(s:SimH K b H) (h:Sub3 H3 b):SimH K H3 H:=fun a o e=>s a o (h a o e)
def Fin3 (Q:VK3):VK3:=fun v H=>∃H',Sub3 H' H/\Q v H'
theorem Fin3.of {Q:VK3}{v:T}{H H':Hp3}(h:Sub3 H' H) (q:Q v H'):Fin3 Q v H:=⟨H',h,q⟩
def aV (N:List Str) (ts:List T):St3:=ts.map some++List.replicate (N.length - ts.length) none
theorem zz {K:Frag}{H:Hp}{N:List Str}{ts:List T}{vs:List V}(r:Reps K H ts vs):SimS K H (aV N ts) (L2.start N vs):=by
 refine⟨by simp [aV,L2.start,r.length],fun i t e=>?_⟩;unfold aV at e;unfold L2.start;have d:=r.length;by_cases a:i<ts.length
 ·rw[U_ (by simpa using a),H_] at e;rw[U_ (by rw[b_];omega),H_];cases q:ts[i]? with
  |none=>rw[q] at e;cases e
  |some u =>
  rw[q] at e;cases e;obtain⟨v,b,c⟩:=r.get q;exact⟨v,by rw[b];rfl,c⟩
 rw[E_ (by simpa using a),Y6] at e;split at e <;> cases e
section
variable {X:Cx}{k:Nat}{f:Addr}{fd:FuncData}{ps:List Str}{sp:Sp3}{x:Str}{p pos:Pos}{e:Expr}{es:List Expr}{t:TA3}
def j7 (P:Program) (w:World) (K:Frag) (b:Str->Option Value) (base:Heap) (k:Nat) (f:Addr) (a:FuncData) (ps:List Str) (sp:Sp3):Prop:=FnOk P w K b base CX0 k f a ps (sU K sp)
def qu (sp:Sp3) (t:TA3):TE3:=fun b H Q=>t b H fun vs a=>sp vs a Q
theorem GQ (F:j7 X.prog X.w X.K X.mg X.base k f fd ps sp) (u:Room k X.A) (m:Gl X x) (l:X.mg x=some (.ref f)) (o:keepIn X.K (.ref f)=true) (s:Binds X.K fd ps [])
  (j:PA3 X (e::es) t) (g:(x==("__debug__":Str))=false:=by decide) (i:starEach (e::es) X.env=(false,eval e X.env)::starEach es X.env:=by rfl) (c:(backTo pos (starEach es X.env)).any (·.1)=false:=by rfl) :
  PE3 X (.Call (.Name x p) (e::es) [] pos) (qu sp t):=by
 refine PE.imp (Gi (dvs:=[]) (E:=E0) F u m l o s .nil Ax j g i c) ?_;rintro z H Q ⟨b,H3,Q3,v,y,h,k⟩;refine⟨b,H3,_,v,y,h,fun vs H' ts a n d r q=>?_⟩;show sU X.K sp (vs++[]) H' Q E0;rw[J_];exact⟨ts,a,Q3,r,d,q,k.at n⟩
theorem fn3 {P:Program}{w:World}{K:Frag}{j:Str->Option Value}{base:Heap}{b:Str}{st:Stmt}{N:List Str}(F:Fun K x b st f fd) (S:FnScope N ps (aA st)) (i:∀ts H Q,sp ts H Q->ts.length=ps.length)
  (e:∀(c:Value) (A:Around) (a:List Env) (s:Shared) (H:Hp) (E:XK) (ts:List T) (H3:Hp3) (Q:VK3),Room k (A.deeper (envOfC b (aA st) s.heap.objs.size f c))->sp ts H3 Q ->
   ∃t,qm (uT CX0 P w K j base N b (aA st) f c A a s H E).nox (bW st) t/\t { nx:=fun _ H'=>Fin3 Q .non H',rt:=Fin3 Q} (aV N ts) H3):j7 P w K j base (k+1) f fd ps sp:=by
 refine F.ok S (fun vs H Q E ⟨ts,H3,Q3,r,m,q,k⟩=>by rw[<- r.length];exact i _ _ _ q) fun c A a s H vs Q E u ⟨ts,H3,Q3,r,m,q,k⟩=>?_;obtain⟨t,n,o⟩:=e c A a s H E ts H3 Q3 u q;exact⟨_,n,aV N ts,H3,_,zz r,m,o,fun C H' l g h p d ⟨B,sb,q⟩=>k _ _ _ _ h (d.sub sb) .ofNon q,fun v H' t g h d y ⟨B,sb,q⟩=>k _ _ _ _ h (d.sub sb) y q,fun _ _ _ _ _ _ _ z=>z,fun _ _ _ _ _ _ _ z=>z⟩
end
noncomputable instance:DecidableEq T:=fun a b=>Classical.propDecidable (a=b)
def pl:Nat->T->Bool
 |_,.non=>true
 |_,.int _=>true
 |_,.str _=>true
 |d+1,.tup ts=>ts.all (pl d)
 |_,_=>false
section
variable {X:Cx}{pins:List (Addr × Obj)}{σ:L2.St}{H:Hp}{s:Shared}
theorem wY (I:Inv X pins σ H s):∀(d:Nat) (x y:T) (v:V),pl d x=true->pl d y=true->Rep X.K H x v->Rep X.K H y v->x=y:=by
 intro d;induction d with
 |zero =>
  intro x y v i g c f;cases x <;> cases y <;> first
   |rfl
   | (simp only[Rep] at c f;subst c;cases f <;> rfl)
   | (simp [pl] at i;done)
   | (simp [pl] at g;done)
 |succ d A =>
 intro x y v i g c f;cases x with
 |tup ts =>
  cases y with
  |tup us =>
   obtain⟨a,xs,rfl,z,r⟩:=c.tup;obtain⟨b,C,e,k,p⟩:=f.tup;cases e;have:=I.tuple_inj z k;subst this;simp only[pl,Xh] at i g;congr 1;have m:∀(ts us:List T) (xs:List V),(∀t∈ts,pl d t=true)->(∀t∈us,pl d t=true)->Reps X.K H ts xs->Reps X.K H us xs->ts=us:=by
    intro ts;induction ts with
    |nil =>
     intro us xs _ _ h h';rw[h.inv0] at h';cases us with
     |nil=>rfl
     |cons u us=>obtain⟨_,_,e,_⟩:=h'.inv;cases e
    |cons t ts l =>
    intro us xs n o h h';obtain⟨v,r,rfl,a,b⟩:=h.inv;cases us with
    |nil=>exact absurd h'.inv0 (by simp)
    |cons u us =>
    obtain⟨B,p,e,q,w⟩:=h'.inv;cases e;rw[A t u v (n t m_) (o u m_) a q,l us r (fun t j=>n t (F_ _ j)) (fun t j=>o t (F_ _ j)) b w]
   exact m ts us xs i g r p
  |_=>first | (simp only[Rep] at c f;obtain⟨a,xs,e,_⟩:=c;subst e;cases f;done) | (simp [pl] at g;done)
 |_=>cases y <;> first
  |rfl
  | (simp only[Rep] at c f;subst c;cases f <;> rfl)
  | (simp [pl] at i;done)
  | (simp [pl] at g;done)
  | (simp only[Rep] at c f;obtain⟨a,xs,e,_⟩:=f;subst e;cases c;done)
theorem units_in1 (A:Around):A.in1.units=A.units+1:=by rfl
theorem lZ {a:Type} [DecidableEq (Option a)] (ts us:List a):((List.range (min ts.length us.length)).all (fun j=>decide (ts[j]?=us[j]?))&&ts.length==us.length)=true↔ts=us:=by
 rw[Xm,Xh,Zz];constructor
 ·rintro⟨h,b⟩;refine aab fun i=>?_;by_cases c:i<ts.length
  ·exact Xa (h i (I_.mpr (by omega)))
  rw[Xb (by omega),Xb (by omega)]
 rintro rfl;exact⟨fun i _=>by simp,rfl⟩
theorem GR {us:List Value}{i:Nat}(h:i<us.toArray.size) {v:Value}(e:us[i]?=some v):us.toArray[i]=v:=by
 have:us.toArray[i]?=some v:=by simpa using e
 rw[YK h] at this;exact Q_ this
theorem wZ (I:Inv X pins σ H s):∀(d:Nat) (A:Around) (x y:T) (m l:V) (u v:Value),pl d x=true->pl d y=true->Rep X.K H x m->Rep X.K H y l->RelV m u->RelV l v->A.units+d<cLine->SeqAt.EqAt A s u v (decide (x=y)):=by
 have jf:∀(A:Around) (x y:T) (m l:V) (u v:Value),pl 0 x=true->pl 0 y=true->Rep X.K H x m->Rep X.K H y l->RelV m u->RelV l v->SeqAt.EqAt A s u v (decide (x=y)):=by
  intro A x y m l u v z q g c k f;cases x with
  |non =>
   cases g.non;cases k;cases y with
   |non=>cases c.non;cases f;simp only[Yu];exact SeqAt.EqAt.same _
   |int j=>cases c.int;obtain⟨t',rfl⟩:=f;rw[p_ (by simp)];exact SeqAt.EqAt.none_int _ _
   |str j=>cases c.str;obtain⟨t',rfl⟩:=f;rw[p_ (by simp)];exact SeqAt.EqAt.none_str _ _
   |_=>simp [pl] at q
  |int i =>
   cases g.int;obtain⟨t,rfl⟩:=k;cases y with
   |non=>cases c.non;cases f;rw[p_ (by simp)];exact SeqAt.EqAt.int_none _ _
   |int j=>cases c.int;obtain⟨t',rfl⟩:=f;rw[show decide (T.int i=T.int j)=(i==j) by by_cases h:i=j <;> simp [h]];exact SeqAt.EqAt.int_int _ _ _ _
   |str j=>cases c.str;obtain⟨t',rfl⟩:=f;rw[p_ (by simp)];exact SeqAt.EqAt.int_str _ _ _ _
   |_=>simp [pl] at q
  |str i =>
   cases g.str;obtain⟨t,rfl⟩:=k;cases y with
   |non=>cases c.non;cases f;rw[p_ (by simp)];exact SeqAt.EqAt.str_none _ _
   |int j=>cases c.int;obtain⟨t',rfl⟩:=f;rw[p_ (by simp)];exact SeqAt.EqAt.str_int _ _ _ _
   |str j=>cases c.str;obtain⟨t',rfl⟩:=f;rw[show decide (T.str i=T.str j)=(i==j) by by_cases h:i=j <;> simp [h]];exact SeqAt.EqAt.str_str _ _ _ _
   |_=>simp [pl] at q
  |_=>simp [pl] at z
 intro d;induction d with
 |zero=>intro A x y m l u v z q g c k f _;exact jf A x y m l u v z q g c k f
 |succ d R =>
 intro A x y m l u v z q g c k f hu;have p:A.units<cLine:=by omega
 cases x with
 |tup ts =>
  obtain⟨a,xs,rfl,N,r⟩:=g.tup;cases k;obtain⟨B,D,G,_⟩:=I.tuple N;cases y with
  |tup us =>
   obtain⟨b,L,rfl,n,C⟩:=c.tup;cases f;obtain⟨its',w,o,_⟩:=I.tuple n;by_cases E:a=b
   ·subst E;have e:T.tup ts=T.tup us:=wY I (d+1) _ _ (.ref a) z q (.ofTup N r) (.ofTup n C);rw[e,q_ rfl];exact SeqAt.EqAt.same _
   have l1:=r.length;have l2:=C.length;have l3:=D.length;have P:=w.length;have F:=SeqAt.RcAt.tuples (A:=A) (s:=s) (e:=fun j=>decide (ts[j]?=us[j]?)) (show s.heap.IsTuple a B.toArray from G) (show s.heap.IsTuple b its'.toArray from o) p (fun j Q W=>by
    rw[n_] at Q W
    have M:j<ts.length:=by omega
    have J:j<us.length:=by omega
    obtain⟨O,S,q1⟩:=r.get (e_ M)
    obtain⟨p2,Z,q2⟩:=C.get (e_ J)
    obtain⟨z1,f1,U⟩:=D.get S
    obtain⟨Y,f2,w2⟩:=w.get Z
    rw[GR _ f1,GR _ f2,e_ M,e_ J]
    simp only[pl,Xh] at z q
    have:=R A.in1 ts[j] us[j] O p2 z1 Y (z _ (Xx M)) (q _ (Xx J)) q1 q2 U w2 (by rw[units_in1];omega)
    rw[show decide (some ts[j]=some us[j])=decide (ts[j]=us[j]) by by_cases h:ts[j]=us[j] <;> simp [h]]
    exact this)
   have eb:((List.range (min B.toArray.size its'.toArray.size)).all (fun j=>decide (ts[j]?=us[j]?))&&B.toArray.size==its'.toArray.size)=decide (T.tup ts=T.tup us):=by
    rw[n_,n_,<- l3,<- l1,<- P,<- l2,Xf,lZ,v_];constructor
    ·rintro rfl;rfl
    intro h;injection h
   rw[eb] at F;exact .of_refs E F
  |non=>cases c.non;cases f;rw[p_ (by simp)];exact SeqAt.EqAt.tuple_none G p
  |int j=>cases c.int;obtain⟨t',rfl⟩:=f;rw[p_ (by simp)];exact SeqAt.EqAt.tuple_int _ _ G p
  |str j=>cases c.str;obtain⟨t',rfl⟩:=f;rw[p_ (by simp)];exact SeqAt.EqAt.tuple_str _ _ G p
  |_=>simp [pl] at q
 |non =>
  cases y with
  |tup us=>obtain⟨b,L,rfl,n,C⟩:=c.tup;cases f;obtain⟨its',w,o,_⟩:=I.tuple n;cases g.non;cases k;rw[p_ (by simp)];exact SeqAt.EqAt.none_tuple o p
  |non=>exact jf A _ _ m l u v rfl rfl g c k f
  |int j=>exact jf A _ _ m l u v rfl rfl g c k f
  |str j=>exact jf A _ _ m l u v rfl rfl g c k f
  |_=>simp [pl] at q
 |int i =>
  cases y with
  |tup us=>obtain⟨b,L,rfl,n,C⟩:=c.tup;cases f;obtain⟨its',w,o,_⟩:=I.tuple n;cases g.int;obtain⟨t,rfl⟩:=k;rw[p_ (by simp)];exact SeqAt.EqAt.int_tuple _ _ o p
  |non=>exact jf A _ _ m l u v rfl rfl g c k f
  |int j=>exact jf A _ _ m l u v rfl rfl g c k f
  |str j=>exact jf A _ _ m l u v rfl rfl g c k f
  |_=>simp [pl] at q
 |str i =>
  cases y with
  |tup us=>obtain⟨b,L,rfl,n,C⟩:=c.tup;cases f;obtain⟨its',w,o,_⟩:=I.tuple n;cases g.str;obtain⟨t,rfl⟩:=k;rw[p_ (by simp)];exact SeqAt.EqAt.str_tuple _ _ o p
  |non=>exact jf A _ _ m l u v rfl rfl g c k f
  |int j=>exact jf A _ _ m l u v rfl rfl g c k f
  |str j=>exact jf A _ _ m l u v rfl rfl g c k f
  |_=>simp [pl] at q
 |_=>simp [pl] at z
end
def rI3 (C:Int->Int->Prop) (g:Int->Int->T):R3:=fun x y H Q=>match x,y with
 |.int i,.int j=>C i j/\Q (g i j) H
 |_,_=>False
def qw (g:Int->Int->T):R3:=fun x y H Q=>match x,y with
 |.int i,.int j=>Q (g i j) H
 |_,_=>False
section
variable {X:Cx}
theorem sV {f:Value->Value->Sem Value}{C:Int->Int->Prop}{g:Int->Int->T}{g':Int->Int->V}(h:OpR X f (rI C g')) (c:∀i j H,Rep X.K H (g i j) (g' i j)):dB X f (rI3 C g):=by
 refine OpR.imp h ?_;rintro x y H Q ⟨a,d,H3,Q3,b,e,l,h,k⟩;cases a with
 |int i =>
  cases d with
  |int j=>exact⟨i,j,b.int,e.int,h.1,k _ _ _ _ .refl l (c i j H) h.2⟩
  |_=>exact h.elim
 |_=>exact h.elim
theorem mj {f:Value->Value->Sem Value}{g:Int->Int->T}{g':Int->Int->V}(h:OpR X f (rI0 g')) (c:∀i j H,Rep X.K H (g i j) (g' i j)):dB X f (qw g):=by
 refine OpR.imp h ?_;rintro x y H Q ⟨a,d,H3,Q3,b,e,l,h,k⟩;cases a with
 |int i =>
  cases d with
  |int j=>exact⟨i,j,b.int,e.int,k _ _ _ _ .refl l (c i j H) h⟩
  |_=>exact h.elim
 |_=>exact h.elim
def JV (_ j:Int):Prop:=0<j/\j.natAbs.log2<9000
theorem Bq:OpR X (binaryOp .FloorDiv) (rI JV fun i j=>.int (i / j)):=opI fun i j _ _ _ _ _ a q=>by
 have e:i / j=i.fdiv j:=(Int.fdiv_eq_ediv_of_nonneg i (Xz a.1)).symm;rw[e] at q;exact floordiv_int (Int.ne_of_gt a.1) q (.inl (PyProof.noPylong_of_log2 a.2))
theorem jT:dB X (binaryOp .Sub) (qw fun i j=>.int (i - j)):=mj Mq fun _ _ _=>.ofInt
theorem fJ:dB X (binaryOp .FloorDiv) (rI3 JV fun i j=>.int (i / j)):=sV Bq fun _ _ _=>.ofInt
theorem dU:dB X (binaryOp .Mod) (rI3 (fun _ j=>0<j) fun i j=>.int (i%j)):=sV Ms fun _ _ _=>.ofInt
theorem gP:dB X (binaryOp .Pow) (rI3 FZ fun i j=>.int (i^j.toNat)):=sV Mt fun _ _ _=>.ofInt
theorem o5:dB X (compareOp .Lt) (qw fun i j=>.bl (decide (i<j))):=mj Rp fun _ _ _=>.ofBl
theorem Br:dB X (compareOp .LtE) (qw fun i j=>.bl (decide (i<=j))):=mj Rq fun _ _ _=>.ofBl
theorem o6:dB X (compareOp .Gt) (qw fun i j=>.bl (decide (j<i))):=mj Rr fun _ _ _=>.ofBl
theorem JW:dB X (compareOp .GtE) (qw fun i j=>.bl (decide (j<=i))):=mj Rt fun _ _ _=>.ofBl
theorem f9:dB X (binaryOp .Mult) (rI3 CMul fun i j=>.int (i*j)):=sV Mr fun _ _ _=>.ofInt
def o7:R3:=fun x y H Q=>match x,y with
 |.int i,.int j=>Q (.int (i+j)) H
 |.str i,.str j=>i.length+j.length<=sizeLine/\Q (.str (i++j)) H
 |.ref a,.ref b=>match H a,H b with
  |some (.lst xs),some (.lst ys)=>xs.length+ys.length<=sizeLine/\∀p,H p=none->Q (.ref p) (up3 H p (.lst (xs++ys)))
  |_,_=>False
 |.tup xs,.tup ys=>xs.length+ys.length<=sizeLine/\Q (.tup (xs++ys)) H
 |_,_=>False
theorem Bs:OpR X (binaryOp .Add) (fun x y H Q=>∃a b l,x=.ref a/\y=.ref b/\SqT X.K H a []/\SqT X.K H b l/\Q (.ref b) H):=by
 intro k s O H x y v u Q I J z h;obtain⟨a,b,l,rfl,rfl,A,N,q⟩:=h;cases J;cases z;obtain⟨L,B,w,_⟩:=I.tuple A;obtain⟨f,P,M,_⟩:=I.tuple N;cases B;obtain⟨⟨E,C,r,G⟩,p,m,n,t⟩:=id w;obtain⟨⟨o,j,g,i⟩,c,d,D,e⟩:=id M;simp only at m t d e;subst m t d e;exact concat_meets ⟨_,p,rfl⟩ ⟨_,c,rfl⟩ noFill_tuple_add seq_tuple_add PySem.F.slot_tuple_add PySem.F.entry_tuple_add (ZV _ _)
   (tuple_addW0 a b _ f.toArray n D C j G i (by simp)) ⟨p,c,⟨.ref b,H,I,rfl,q⟩⟩
theorem bh:dB X (binaryOp .Add) o7:=by
 refine OpR.imp (op_add.or (op_add_str.or (op_cat.or (op_catT.or Bs)))) ?_;rintro x y H Q ⟨z,o,H3,Q3,n,m,c,h,k⟩;cases z with
 |int i =>
  cases o with
  |int j=>exact .inl ⟨i,j,n.int,m.int,k _ _ _ _ .refl c .ofInt h⟩
  |_=>exact h.elim
 |str i =>
  cases o with
  |str j=>exact .inr (.inl ⟨i,j,n.str,m.str,h.1,k _ _ _ _ .refl c .ofStr h.2⟩)
  |_=>exact h.elim
 |ref a =>
  cases o with
  |ref b =>
   have h':(match H3 a,H3 b with
    |some (.lst xs),some (.lst l)=>xs.length+l.length<=sizeLine/\∀p,H3 p=none->Q3 (.ref p) (up3 H3 p (.lst (xs++l)))
    |_,_=>False):=h
   split at h'
   ·
    rename_i xs l C B
    obtain⟨vs,A,f⟩:=c a _ C
    obtain⟨ws,w,g⟩:=c b _ B
    refine .inr (.inr (.inl ⟨a,b,vs,ws,n.ref,m.ref,A,w,by rw[<- f.length,<- g.length];exact h'.1,fun p d=>?_⟩))
    exact k _ _ _ _ (aN d) (c.newLst d (f.append g)) .ofRef (h'.2 p (c.fresh d))
   ·
    exact h'.elim
  |_=>exact h.elim
 |tup xs =>
  cases o with
  |tup l =>
   obtain⟨a,vs,rfl,s,f⟩:=n.tup;obtain⟨b,ws,rfl,r,g⟩:=m.tup;by_cases t:vs=[]
   ·subst t;have v:xs=[]:=Yz f.length;subst v;exact .inr (.inr (.inr (.inr ⟨a,b,ws,rfl,rfl,s,r,k _ _ _ _ .refl c (.ofTup r g) h.2⟩)))
   refine .inr (.inr (.inr (.inl ⟨a,b,vs,ws,rfl,rfl,s,r,t,by rw[<- f.length,<- g.length];exact h.1,fun u=>?_,fun u p d=>?_⟩)))
   ·have e:l=[]:=by have:=g.length;rw[u] at this;exact Yz this
    have q:=h.2;rw[e,J_] at q;exact k _ _ _ _ .refl c (.ofTup s f) q
   exact k _ _ _ _ (aN d) (c.new d) (SimH.newTup (H3:=H3) d (f.append g)) h.2
  |_=>exact h.elim
 |_=>exact h.elim
variable {pins:List (Addr × Obj)}{σ:L2.St}{H:Hp}{s:Shared}
def vd (neg:Bool):R3:=fun x y H Q=>match x,y with
 |.int i,.int j=>Q (.bl (if neg then !decide (i=j) else decide (i=j))) H
 |.str i,.str j=>Q (.bl (if neg then !decide (i=j) else decide (i=j))) H
 |.bl i,.bl j=>Q (.bl (if neg then !decide (i=j) else decide (i=j))) H
 |.non,.non=>Q (.bl (if neg then false else true)) H
 |.tup xs,.tup ys=>xs.all (pl 20)=true/\ys.all (pl 20)=true/\Q (.bl (if neg then !decide (xs=ys) else decide (xs=ys))) H
 |.ref a,.ref b=>match H a,H b with
  |some (.lst xs),some (.lst ys)=>a≠b/\xs.all (pl 20)=true/\ys.all (pl 20)=true/\Q (.bl (if neg then !decide (xs=ys) else decide (xs=ys))) H
  |_,_=>False
 |_,_=>False
theorem gB (I:Inv X pins σ H s) {ts us:List T}{xs g:List V}{a its':List Value}{A:Around}(D:A.units+30<cLine) (m:ts.all (pl 20)=true) (k:us.all (pl 20)=true) (r:Reps X.K H ts xs) (l:Reps X.K H us g) (c:Vals xs a) (b:Vals g its') :
  ∀j (f:j<a.toArray.size) (i:j<its'.toArray.size),SeqAt.EqAt A.in1 s a.toArray[j] its'.toArray[j] (decide (ts[j]?=us[j]?)):=fun j f i=>by
 have F:=r.length;have E:=l.length;have G:=c.length;have C:=b.length;rw[n_] at f i;have e:j<ts.length:=by omega
 have d:j<us.length:=by omega
 obtain⟨n,o,w⟩:=r.get (e_ e);obtain⟨z,t,v⟩:=l.get (e_ d);obtain⟨u,y,p⟩:=c.get o;obtain⟨q,x,B⟩:=b.get t;rw[GR _ y,GR _ x,e_ e,e_ d];rw[Xh] at m k;have:=wZ I 20 A.in1 ts[j] us[j] n z u q (m _ (Xx e)) (k _ (Xx d)) w v p B (by rw[units_in1];omega);rw[show decide (some ts[j]=some us[j])=decide (ts[j]=us[j]) by by_cases h:ts[j]=us[j] <;> simp [h]];exact this
theorem gC {ts us:List T}:((List.range (min ts.length us.length)).all (fun j=>decide (ts[j]?=us[j]?))&&ts.length==us.length)=decide (ts=us):=by
 rw[Xf,lZ,v_]
theorem cM (J:X.A.units+30<cLine):dB X (compareOp .Eq) (vd false):=by
 intro n s K H x y v u Q I g f h;obtain⟨S,p,H3,Q3,t,o,m,h,k⟩:=h;have E:∀{x y:V},jf x y=true->RelV x v->RelV y u->(k:Q (.bl (decide (x=y))) H)->wpAny (model X.prog X.w) X.A (compareOp .Eq v u) (EP X n K Q) X.xe s:=fun {x y} a O W q=>Rn n s K H x y v u Q I O W ⟨a,q⟩;cases S with
 |int i =>
  cases p with
  |int j=>rw[t.int] at g;rw[o.int] at f;exact E rfl g f (k _ _ _ _ .refl m (by rw[show decide (V.int i=V.int j)=decide (i=j) by by_cases e:i=j <;> simp [e]];exact .ofBl) h)
  |_=>exact h.elim
 |str i =>
  cases p with
  |str j=>rw[t.str] at g;rw[o.str] at f;exact E rfl g f (k _ _ _ _ .refl m (by rw[show decide (V.str i=V.str j)=decide (i=j) by by_cases e:i=j <;> simp [e]];exact .ofBl) h)
  |_=>exact h.elim
 |bl i =>
  cases p with
  |bl j=>rw[t.bl] at g;rw[o.bl] at f;exact E rfl g f (k _ _ _ _ .refl m (by rw[show decide (V.bl i=V.bl j)=decide (i=j) by by_cases e:i=j <;> simp [e]];exact .ofBl) h)
  |_=>exact h.elim
 |non =>
  cases p with
  |non=>rw[t.non] at g;rw[o.non] at f;exact E rfl g f (k _ _ _ _ .refl m (by rw[show decide (V.non=V.non)=true by simp];exact .ofBl) h)
  |_=>exact h.elim
 |tup ts =>
  cases p with
  |tup us=>obtain⟨a,xs,rfl,M,r⟩:=t.tup;obtain⟨b,D,rfl,G,B⟩:=o.tup;cases g;cases f;obtain⟨C,d,F,_⟩:=I.tuple M;obtain⟨its',c,l,_⟩:=I.tuple G;refine SeqAt.eq_tupleAt (e:=fun j=>decide (ts[j]?=us[j]?)) F l (by omega) (gB I J h.1 h.2.1 r B d c) ⟨.bl _,H,I,rfl,?_⟩;rw[n_,n_,<- d.length,<- c.length,<- r.length,<- B.length,gC];exact k _ _ _ _ .refl m .ofBl h.2.2
  |_=>exact h.elim
 |ref a =>
  cases p with
  |ref b =>
   have h':(match H3 a,H3 b with
    |some (.lst xs),some (.lst D)=>a≠b/\xs.all (pl 20)=true/\D.all (pl 20)=true/\Q3 (.bl (decide (xs=D))) H3
    |_,_=>False):=h
   split at h'
   ·
    rename_i ts us N R
    obtain⟨xs,U,r⟩:=m a _ N
    obtain⟨D,L,B⟩:=m b _ R
    cases t.ref;cases o.ref;cases g;cases f
    obtain⟨C,d,F,_⟩:=I.list (X:=X) (.of U)
    obtain⟨its',c,l,_⟩:=I.list (X:=X) (.of L)
    have T:C.length=ts.length:=by rw[<- d.length,<- r.length]
    have P:its'.length=us.length:=by rw[<- c.length,<- B.length]
    by_cases hsz:ts.length=us.length
    ·
     refine SeqAt.eq_listAt (e:=fun j=>decide (ts[j]?=us[j]?)) F.isList l.isList (by simp;omega) (by omega) (gB I J h'.2.1 h'.2.2.1 r B d c) ⟨.bl _,H,I,rfl,?_⟩
     have e:=gC (ts:=ts) (us:=us)
     rw[<- hsz,Nat.min_self,ZP,Zj] at e
     rw[n_,T,e]
     exact k _ _ _ _ .refl m .ofBl h'.2.2.2
    ·
     refine SeqAt.eq_list_lengthsAt F.isList l.isList (by simp;omega) (by omega) ⟨.bl false,H,I,rfl,?_⟩
     have e:decide (ts=us)=false:=p_ fun z=>hsz (by rw[z])
     have q:=h'.2.2.2
     rw[e] at q
     exact k _ _ _ _ .refl m .ofBl q
   ·
    exact h'.elim
  |_=>exact h.elim
 |_=>exact h.elim
theorem j8 (J:X.A.units+30<cLine):dB X (compareOp .NotEq) (vd true):=by
 intro n s K H x y v u Q I g f h;obtain⟨S,p,H3,Q3,t,o,m,h,k⟩:=h;have E:∀{x y:V},jf x y=true->RelV x v->RelV y u->(k:Q (.bl (!decide (x=y))) H)->wpAny (model X.prog X.w) X.A (compareOp .NotEq v u) (EP X n K Q) X.xe s:=fun {x y} a O W q=>Ro n s K H x y v u Q I O W ⟨a,q⟩;cases S with
 |int i =>
  cases p with
  |int j=>rw[t.int] at g;rw[o.int] at f;exact E rfl g f (k _ _ _ _ .refl m (by rw[show decide (V.int i=V.int j)=decide (i=j) by by_cases e:i=j <;> simp [e]];exact .ofBl) h)
  |_=>exact h.elim
 |str i =>
  cases p with
  |str j=>rw[t.str] at g;rw[o.str] at f;exact E rfl g f (k _ _ _ _ .refl m (by rw[show decide (V.str i=V.str j)=decide (i=j) by by_cases e:i=j <;> simp [e]];exact .ofBl) h)
  |_=>exact h.elim
 |bl i =>
  cases p with
  |bl j=>rw[t.bl] at g;rw[o.bl] at f;exact E rfl g f (k _ _ _ _ .refl m (by rw[show decide (V.bl i=V.bl j)=decide (i=j) by by_cases e:i=j <;> simp [e]];exact .ofBl) h)
  |_=>exact h.elim
 |non =>
  cases p with
  |non=>rw[t.non] at g;rw[o.non] at f;exact E rfl g f (k _ _ _ _ .refl m (by rw[show decide (V.non=V.non)=true by simp];exact .ofBl) h)
  |_=>exact h.elim
 |tup ts =>
  cases p with
  |tup us=>obtain⟨a,xs,rfl,M,r⟩:=t.tup;obtain⟨b,D,rfl,G,B⟩:=o.tup;cases g;cases f;obtain⟨C,d,F,_⟩:=I.tuple M;obtain⟨its',c,l,_⟩:=I.tuple G;refine SeqAt.RcNeAt.tuples (e:=fun j=>decide (ts[j]?=us[j]?)) F l (by omega) (gB I J h.1 h.2.1 r B d c) _ _ _ _ ⟨.bl _,H,I,rfl,?_⟩;rw[n_,n_,<- d.length,<- c.length,<- r.length,<- B.length,gC];exact k _ _ _ _ .refl m .ofBl h.2.2
  |_=>exact h.elim
 |ref a =>
  cases p with
  |ref b =>
   have h':(match H3 a,H3 b with
    |some (.lst xs),some (.lst D)=>a≠b/\xs.all (pl 20)=true/\D.all (pl 20)=true/\Q3 (.bl (!decide (xs=D))) H3
    |_,_=>False):=h
   split at h'
   ·
    rename_i ts us N R
    obtain⟨xs,U,r⟩:=m a _ N
    obtain⟨D,L,B⟩:=m b _ R
    cases t.ref;cases o.ref;cases g;cases f
    obtain⟨C,d,F,_⟩:=I.list (X:=X) (.of U)
    obtain⟨its',c,l,_⟩:=I.list (X:=X) (.of L)
    have T:C.length=ts.length:=by rw[<- d.length,<- r.length]
    have P:its'.length=us.length:=by rw[<- c.length,<- B.length]
    by_cases hsz:ts.length=us.length
    ·
     refine SeqAt.RcNeAt.lists (e:=fun j=>decide (ts[j]?=us[j]?)) F.isList l.isList (by simp;omega) (by omega) (gB I J h'.2.1 h'.2.2.1 r B d c) _ _ _ _ ⟨.bl _,H,I,rfl,?_⟩
     have e:=gC (ts:=ts) (us:=us)
     rw[<- hsz,Nat.min_self,ZP,Zj] at e
     rw[n_,T,e]
     exact k _ _ _ _ .refl m .ofBl h'.2.2.2
    ·
     refine SeqAt.RcNeAt.lists_lengths F.isList l.isList (by simp;omega) (by omega) _ _ _ _ ⟨.bl true,H,I,rfl,?_⟩
     have e:decide (ts=us)=false:=p_ fun z=>hsz (by rw[z])
     have q:=h'.2.2.2
     rw[e] at q
     exact k _ _ _ _ .refl m .ofBl q
   ·
    exact h'.elim
  |_=>exact h.elim
 |_=>exact h.elim
def dD (neg:Bool) (x:T) (ts:List T):Bool:=if neg then !decide (x∈ts) else decide (x∈ts)
def occ (neg:Bool) (i j:Str):Bool:=if neg then !(!(Builtin.Str.occurrences j i 0 j.length 1).isEmpty) else !(Builtin.Str.occurrences j i 0 j.length 1).isEmpty
def vf (neg:Bool):R3:=fun x y H Q=>match y with
 |.tup ts=>pl 20 x=true/\ts.all (pl 20)=true/\Q (.bl (dD neg x ts)) H
 |.ref a=>match H a with
  |some (.lst ts)=>pl 20 x=true/\ts.all (pl 20)=true/\Q (.bl (dD neg x ts)) H
  |some (.rol ts)=>pl 20 x=true/\ts.all (pl 20)=true/\Q (.bl (dD neg x ts)) H
  |_=>False
 |.str j=>match x with
  |.str i=>Q (.bl (occ neg i j)) H
  |_=>False
 |_=>False
theorem qx (I:Inv X pins σ H s) {x:T}{ts:List T}{xs:List V}{a:List Value}(w:pl 20 x=true) (f:ts.all (pl 20)=true) (r:Reps X.K H ts xs) (o:Vals xs a) (A:Around) (N:A.units+30<cLine) {n:V}{u:Value}(L:Rep X.K H x n) (M:RelV n u) :
  ∃e:Value->Bool,(∀y,y∈a->SeqAt.EqAt A s y u (e y))/\a.any e=decide (x∈ts):=by
 rw[Xh] at f;have h:∀y,y∈a->∃t v,t∈ts/\Rep X.K H t v/\RelV v y:=fun y j=>by
  obtain⟨i,l,e⟩:=List.mem_iff_getElem.mp j;have O:=o.length;have J:a[i]?=some y:=by rw[e_ l,e]
  have k:xs[i]?=some xs[i]:=e_ (by omega);obtain⟨z,p,F⟩:=o.get k;rw[J] at p;cases p;obtain⟨t,B,c⟩:=r.get' k;exact⟨t,_,XF B,c,F⟩
 have g:∀t v y,t∈ts->Rep X.K H t v->RelV v y->(@decide (∃v,RelV v y/\Rep X.K H x v) (Classical.propDecidable _)=true↔t=x):=fun t v y d c b=>by
  rw[@v_ _ (Classical.propDecidable _)];constructor
  ·rintro⟨P,D,E⟩;cases D.inj b;exact wY I 20 t x _ (f t d) w c E
  rintro rfl;exact⟨v,b,c⟩
 refine⟨fun y=>@decide (∃v,RelV v y/\Rep X.K H x v) (Classical.propDecidable _),fun y j=>?_,?_⟩
 ·obtain⟨t,v,d,c,b⟩:=h y j;have q:=wZ I 20 A t x v n y u (f t d) w c L b M (by omega);have e:@decide (∃v,RelV v y/\Rep X.K H x v) (Classical.propDecidable _)=decide (t=x):=by rw[Xf,g t v y d c b,v_]
  show SeqAt.EqAt A s y u (@decide (∃v,RelV v y/\Rep X.K H x v) (Classical.propDecidable _));rw[e];exact q
 rw[Xf,Y9,v_];constructor
 ·rintro⟨y,j,e⟩;obtain⟨t,v,d,c,b⟩:=h y j;rw[<- (g t v y d c b).mp e];exact d
 intro k;obtain⟨i,l,e⟩:=List.mem_iff_getElem.mp k;obtain⟨v,C,m⟩:=r.get (show ts[i]?=some x by rw[e_ l,e]);obtain⟨y,G,b⟩:=o.get C;exact⟨y,XF G,(g x v y k m b).mpr rfl⟩
theorem sW (M:X.A.units+31<cLine):dB X (compareOp .In) (vf false):=by
 intro c s F H x y v u Q I E o h;obtain⟨g,J,H3,Q3,D,t,n,h,k⟩:=h;have m:X.A.in1.units+30<cLine:=by rw[units_in1];omega
 have l:∀{a:Addr} {ts:List T} {xs:List V},SqL X.K H a xs->Reps X.K H ts xs->u=.ref a->pl 20 g=true->ts.all (pl 20)=true->Q3 (.bl (dD false g ts)) H3->wpAny (model X.prog X.w) X.A (compareOp .In v u) (EP X c F Q) X.xe s:=by intro a ts xs d r e G L q;subst e;obtain⟨b,f,B,_⟩:=I.list d;obtain⟨e,z,p⟩:=qx I G L r f X.A.in1 m D E;refine SeqAt.in_listAt e B.isList (fun y C=>z y (by simpa using C)) ⟨.bl _,H,I,rfl,?_⟩;rw[show b.toArray.any e=b.any e by simp,p];exact k _ _ _ _ .refl n .ofBl q
 cases J with
 |tup ts=>obtain⟨a,xs,rfl,d,r⟩:=t.tup;cases o;obtain⟨b,f,B,_⟩:=I.tuple d;obtain⟨e,z,p⟩:=qx I h.1 h.2.1 r f X.A.in1 m D E;refine SeqAt.in_tupleAt e B (fun y C=>z y (by simpa using C)) ⟨.bl _,H,I,rfl,?_⟩;rw[show b.toArray.any e=b.any e by simp,p];exact k _ _ _ _ .refl n .ofBl h.2.2
 |ref a =>
  have h':(match H3 a with
   |some (.lst ts)=>pl 20 g=true/\ts.all (pl 20)=true/\Q3 (.bl (dD false g ts)) H3
   |some (.rol ts)=>pl 20 g=true/\ts.all (pl 20)=true/\Q3 (.bl (dD false g ts)) H3
   |_=>False):=h
  rw[t.ref] at o
  split at h'
  ·
   rename_i ts e
   obtain⟨xs,d,r⟩:=n.sqL (.inl e)
   exact l d r o h'.1 h'.2.1 h'.2.2
  ·
   rename_i ts e
   obtain⟨xs,d,r⟩:=n.sqL (.inr e)
   exact l d r o h'.1 h'.2.1 h'.2.2
  ·
   exact h'.elim
 |str j =>
  cases g with
  |str i=>exact yW c s F H x y v u Q I E o ⟨i,j,D.str,t.str,k _ _ _ _ .refl n .ofBl h⟩
  |_=>exact h.elim
 |_=>exact h.elim
theorem sZ (M:X.A.units+31<cLine):dB X (compareOp .NotIn) (vf true):=by
 intro c s F H x y v u Q I E o h;obtain⟨g,J,H3,Q3,D,t,n,h,k⟩:=h;have m:X.A.in1.units+30<cLine:=by rw[units_in1];omega
 have l:∀{a:Addr} {ts:List T} {xs:List V},SqL X.K H a xs->Reps X.K H ts xs->u=.ref a->pl 20 g=true->ts.all (pl 20)=true->Q3 (.bl (dD true g ts)) H3->wpAny (model X.prog X.w) X.A (compareOp .NotIn v u) (EP X c F Q) X.xe s:=by intro a ts xs d r e G L q;subst e;obtain⟨b,f,B,_⟩:=I.list d;obtain⟨e,z,p⟩:=qx I G L r f X.A.in1 m D E;refine SeqAt.notIn_listAt e B.isList (fun y C=>z y (by simpa using C)) ⟨.bl _,H,I,rfl,?_⟩;rw[show b.toArray.any e=b.any e by simp,p];exact k _ _ _ _ .refl n .ofBl q
 cases J with
 |tup ts=>obtain⟨a,xs,rfl,d,r⟩:=t.tup;cases o;obtain⟨b,f,B,_⟩:=I.tuple d;obtain⟨e,z,p⟩:=qx I h.1 h.2.1 r f X.A.in1 m D E;refine SeqAt.notIn_tupleAt e B (fun y C=>z y (by simpa using C)) ⟨.bl _,H,I,rfl,?_⟩;rw[show b.toArray.any e=b.any e by simp,p];exact k _ _ _ _ .refl n .ofBl h.2.2
 |ref a =>
  have h':(match H3 a with
   |some (.lst ts)=>pl 20 g=true/\ts.all (pl 20)=true/\Q3 (.bl (dD true g ts)) H3
   |some (.rol ts)=>pl 20 g=true/\ts.all (pl 20)=true/\Q3 (.bl (dD true g ts)) H3
   |_=>False):=h
  rw[t.ref] at o
  split at h'
  ·
   rename_i ts e
   obtain⟨xs,d,r⟩:=n.sqL (.inl e)
   exact l d r o h'.1 h'.2.1 h'.2.2
  ·
   rename_i ts e
   obtain⟨xs,d,r⟩:=n.sqL (.inr e)
   exact l d r o h'.1 h'.2.1 h'.2.2
  ·
   exact h'.elim
 |str j =>
  cases g with
  |str i=>exact pZ c s F H x y v u Q I E o ⟨i,j,D.str,t.str,k _ _ _ _ .refl n .ofBl h⟩
  |_=>exact h.elim
 |_=>exact h.elim
def oq {a:Type}(o:Option a) (Q:a->Prop):Prop:=match o with
 |some v=>Q v
 |none=>False
def tu:R3:=fun x y H Q=>match x,y with
 |.ref a,.int i=>match H a with
  |some (.lst ts)=>oq (atI ts i) fun t=>Q t H
  |some (.rol ts)=>oq (atI ts i) fun t=>Q t H
  |_=>False
 |.tup ts,.int i=>oq (atI ts i) fun t=>Q t H
 |.str z,.int i=>z.length<=sizeLine/\oq (atI z.cps.toList i) fun c=>Q (.str ⟨#[c]⟩) H
 |_,_=>False
theorem xf {K:Frag}{H:Hp}{ts:List T}{xs:List V}{i:Int}{t:T}(r:Reps K H ts xs) (h:atI ts i=some t):∃v,atI xs i=some v/\Rep K H t v:=by
 unfold atI at h ⊢;rw[<- r.length];cases e:ixN ts.length i with
 |none=>rw[e] at h;cases h
 |some j =>
 rw[e] at h;exact r.get h
theorem ix3:Sw X tu:=by
 refine IxR.imp M4 ?_;rintro x y H Q ⟨p,o,H3,Q3,g,j,d,h,k⟩;have f:∀{a:Addr} {ts:List T} {xs:List V} {i:Int},SqL X.K H a xs->Reps X.K H ts xs->x=.ref a->y=.int i->oq (atI ts i) (fun t=>Q3 t H3)->rIx X.K x y H Q:=by
  intro a ts xs i b r n s q;cases e:atI ts i with
  |none=>rw[e] at q;exact q.elim
  |some t =>
  rw[e] at q;obtain⟨v,m,l⟩:=xf r e;exact .inl ⟨a,xs,i,v,n,s,b,m,k _ _ _ _ .refl d l q⟩
 cases p with
 |ref a =>
  cases o with
  |int i =>
   have h':(match H3 a with
    |some (.lst ts)=>oq (atI ts i) fun t=>Q3 t H3
    |some (.rol ts)=>oq (atI ts i) fun t=>Q3 t H3
    |_=>False):=h
   split at h'
   ·
    rename_i ts e
    obtain⟨xs,b,r⟩:=d.sqL (.inl e)
    exact f b r g.ref j.int h'
   ·
    rename_i ts e
    obtain⟨xs,b,r⟩:=d.sqL (.inr e)
    exact f b r g.ref j.int h'
   ·
    exact h'.elim
  |_=>exact h.elim
 |tup ts =>
  cases o with
  |int i =>
   have h':oq (atI ts i) fun t=>Q3 t H3:=h
   cases e:atI ts i with
   |none=>rw[e] at h';exact h'.elim
   |some t =>
    rw[e] at h'
    obtain⟨a,xs,n,b,r⟩:=g.tup
    obtain⟨v,m,l⟩:=xf r e
    exact .inr (.inl ⟨a,xs,i,v,n,j.int,b,m,k _ _ _ _ .refl d l h'⟩)
  |_=>exact h.elim
 |str z =>
  cases o with
  |int i =>
   have h':z.length<=sizeLine/\oq (atI z.cps.toList i) fun c=>Q3 (.str ⟨#[c]⟩) H3:=h
   cases e:atI z.cps.toList i with
   |none=>rw[e] at h';exact h'.2.elim
   |some c =>
    rw[e] at h'
    exact .inr (.inr ⟨z,i,c,g.str,j.int,h'.1,e,k _ _ _ _ .refl d .ofStr h'.2⟩)
  |_=>exact h.elim
 |_=>exact h.elim
def Bt:sJ:=fun o i v H Q=>match o,i with
 |.ref a,.int k=>match H a with
  |some (.lst ts)=>oq (ixN ts.length k) fun j=>Q (up3 H a (.lst (ts.set j v)))
  |_=>False
 |_,_=>False
theorem SimH.wrL {K:Frag}{H:Hp}{H3:Hp3}{a:Addr}{xs:List V}{ts:List T}{c:List V}(s:SimH K H3 H) (g:H a=some (.lst xs)) (r:Reps K H ts c):SimH K (up3 H3 a (.lst ts)) (upd H a (.lst c)):=fun b o e=>by
 have f:TupLe K H (upd H a (.lst c)):=bH (by rw[g];exact trivial);by_cases d:b=a
 ·subst d;rw[au] at e;cases e;exact⟨c,bT,r.mono f⟩
 rw[aD d] at e;exact (s b o e).stay f fun u q=>by rw[aU d];exact q
theorem o9:JQ X Bt:=by
 refine PSet.imp set_list ?_;rintro o i v H Q ⟨f,m,g,H3,Q3,q,l,p,d,h,k⟩;cases f with
 |ref a =>
  cases m with
  |int n =>
   have h':(match H3 a with
    |some (.lst ts)=>oq (ixN ts.length n) fun j=>Q3 (up3 H3 a (.lst (ts.set j g)))
    |_=>False):=h
   split at h'
   ·
    rename_i ts e
    obtain⟨xs,b,r⟩:=d a _ e
    cases c:ixN ts.length n with
    |none=>rw[c] at h';exact h'.elim
    |some j =>
     rw[c] at h'
     exact⟨a,xs,n,j,q.ref,l.int,b,by rw[<- r.length];exact c,k _ _ (bH (by rw[b];exact trivial)) (d.wrL b (r.set j p)) h'⟩
   ·
    exact h'.elim
  |_=>exact h.elim
 |_=>exact h.elim
abbrev TO3:=St3->Hp3->(Option Int->Hp3->Prop)->Prop
def Wq (K:Frag) (c:TO3):TO:=fun d H Q=>∃b H3 Q3,SimS K H b d/\SimH K H3 H/\c b H3 Q3/\∀o H' a,TupLe K H H'->SimH K a H'->Q3 o a->Q o H'
def PO3 (X:Cx) (e:Option Expr) (t:TO3):Prop:=PO X e (Wq X.K t)
theorem PO.imp {e:Option Expr}{t t':TO}(h:PO X e t) (w:∀b H Q,t' b H Q->t b H Q):PO X e t':=fun a s b H Q I q=>h a s b H Q I (w b H Q q)
def tD:TO3:=fun _ H Q=>Q none H
def Bu (t:TE3):TO3:=fun b H Q=>t b H fun x a=>match x with
 |.int i=>Q (some i) a
 |_=>False
theorem iB:PO3 X none tD:=by
 refine PO.imp Gn ?_;rintro c H Q ⟨a,H3,Q3,d,b,h,k⟩;exact k _ _ _ .refl b h
theorem fC {e:Expr}{te:TE3}(h:PE3 X e te):PO3 X (some e) (Bu te):=by
 refine PO.imp (Gp h) ?_;rintro j H Q ⟨a,H3,Q3,f,g,h,k⟩;refine⟨a,H3,_,f,g,h,fun v H' t c d b r q=>?_⟩;cases t with
 |int i=>exact⟨i,r.int,k _ _ _ d b q⟩
 |_=>exact q.elim
theorem Nr:SlR X (fun x g m H Q=>∃z,x=.str z/\z.length<=sizeLine/\Q (.str (Txt.slice z g m)) H):=by
 intro b s y H x v D C g m B Q I w A pl r h;obtain⟨z,rfl,f,q⟩:=h;obtain⟨t,rfl⟩:=w;refine⟨"str",_,F.slot_str_getitem.lookup,typeIs_str _ _ _,?_⟩;obtain⟨o,e,c,d⟩:=A;have a:∀(t':Tok) (k:Nat),EP X b y Q (.str (Txt.slice z g m) t') { s with toks:=k}:=fun t' k=>⟨.str _,H,I.tok k,⟨t',rfl⟩,q⟩;cases pl with
 |none =>
  cases r with
  |none=>exact Y_ (l:=none) (u:=none) (st:=none) ⟨o,e,c,d⟩ rfl (post_val_or_str ⟨W6 (Txt.slice_le z _ _) f,a⟩)
  |int j n=>exact Y_ (l:=none) (u:=some (j,n)) (st:=none) ⟨o,e,c,d⟩ rfl (post_val_or_str ⟨W6 (Txt.slice_le z _ _) f,a⟩)
 |int i p =>
 cases r with
 |none=>exact Y_ (l:=some (i,p)) (u:=none) (st:=none) ⟨o,e,c,d⟩ rfl (post_val_or_str ⟨W6 (Txt.slice_le z _ _) f,a⟩)
 |int j n=>exact Y_ (l:=some (i,p)) (u:=some (j,n)) (st:=none) ⟨o,e,c,d⟩ rfl (post_val_or_str ⟨W6 (Txt.slice_le z _ _) f,a⟩)
def fH (ts:List T) (a b:Option Int):List T:=(ts.drop (HT.sIx ts.length 0 a)).take (HT.sIx ts.length ts.length b - HT.sIx ts.length 0 a)
def GX:T->Option Int->Option Int->Hp3->VK3->Prop:=fun x b c H Q=>match x with
 |.ref a=>match H a with
  |some (.lst ts)=>∀p,H p=none->Q (.ref p) (up3 H p (.lst (fH ts b c)))
  |some (.rol ts)=>∀p,H p=none->Q (.ref p) (up3 H p (.lst (fH ts b c)))
  |_=>False
 |.tup ts=>¬(HT.sIx ts.length 0 b=0/\HT.sIx ts.length ts.length c=ts.length)/\Q (.tup (fH ts b c)) H
 |.str z=>z.length<=sizeLine/\Q (.str (Txt.slice z b c)) H
 |_=>False
def Sy (te:TE3) (b d:TO3):TE3:=fun a H Q=>te a H fun x e=>b a e fun l c=>d a c fun u H3=>GX x l u H3 Q
theorem qy {K:Frag}{H:Hp}{ts:List T}{xs:List V}(r:Reps K H ts xs) (a b:Option Int):Reps K H (fH ts a b) (rO xs a b):=by
 unfold fH rO;rw[<- r.length];exact (r.drop _).take _
theorem iC {e:Expr}{D E:Option Expr}{te:TE3}{B C:TO3}{O y:Pos}(G:PE3 X e te) (I:PO3 X D B) (F:PO3 X E C):PE3 X (.Subscript e (.Slice D E none O) y) (Sy te B C):=by
 refine PE.imp (Am (sl_list.or (sl_tup.or Nr)) G I F) ?_;rintro R H Q ⟨g,H3,Q3,v,M,h,k⟩;refine⟨g,H3,_,v,M,h,fun x P J s i A N L=>⟨g,s,_,v.mono i,A,L,fun l T t j w K=>⟨g,t,_,v.mono (i.trans j),w,K,fun u S c o b m=>?_⟩⟩⟩;have q:=k.at (i.trans (j.trans o));have f:=N.mono (j.trans o);cases J with
 |ref a =>
  have h':(match c a with
   |some (.lst ts)=>∀p,c p=none->Q3 (.ref p) (up3 c p (.lst (fH ts l u)))
   |some (.rol ts)=>∀p,c p=none->Q3 (.ref p) (up3 c p (.lst (fH ts l u)))
   |_=>False):=m
  split at h'
  ·
   rename_i ts e
   obtain⟨xs,n,r⟩:=b.sqL (.inl e)
   exact .inl ⟨a,xs,f.ref,n,fun p d=>q _ _ _ _ (aN d) (b.newLst d (qy r l u)) .ofRef (h' p (b.fresh d))⟩
  ·
   rename_i ts e
   obtain⟨xs,n,r⟩:=b.sqL (.inr e)
   exact .inl ⟨a,xs,f.ref,n,fun p d=>q _ _ _ _ (aN d) (b.newLst d (qy r l u)) .ofRef (h' p (b.fresh d))⟩
  ·
   exact h'.elim
 |tup ts=>obtain⟨a,xs,rfl,n,r⟩:=f.tup;refine .inr (.inl ⟨a,xs,rfl,n,by rw[<- r.length];exact m.1,fun p d=>q _ _ _ _ (aN d) (b.new d) (SimH.newTup (H3:=c) d (qy r l u)) m.2⟩)
 |str z=>exact .inr (.inr ⟨z,f.str,m.1,q _ _ _ _ .refl b .ofStr m.2⟩)
 |_=>exact m.elim
def aO (k:Str):List (Str × T)->Option T
 |[]=>none
 | (k',v)::r=>if k'=k then some v else aO k r
def put3 (k:Str) (v:T) (kvs:List (Str × T)):List (Str × T) :=
 if (kvs.any fun a=>decide (a.1=k))=true then kvs.map (fun a=>if a.1=k then (a.1,v) else a) else kvs++[(k,v)]
def r3D:R3:=fun x y H Q=>match x,y with
 |.ref a,.str k=>match H a with
  |some (.dct kvs)=>oq (aO k kvs) fun t=>Q t H
  |_=>False
 |_,_=>False
theorem tE {K:Frag}{H:Hp}{k:Str}:∀{kvs:List (Str × T)}{vs:List (Key × V)}{t:T},RepD K H kvs vs->aO k kvs=some t->∃v,iw vs (Sum.inr k:Key)=some v/\Rep K H t v
 |[],_,_,_,e=>by cases e
 | (k',t')::r,_,t,.cons (b:=(kk,v')) ⟨e1,rv⟩ rr,e=>by
  simp only at e1 rv
  subst e1
  unfold aO at e
  by_cases a:k'=k
  ·
   rw[if_pos a] at e
   cases e
   exact⟨v',by rw[eZ (by rw[a])],rv⟩
  ·
   rw[if_neg a] at e
   obtain⟨v,c,q⟩:=tE rr e
   exact⟨v,by rw[fc (by intro z;exact a (Sum.inr.inj z))];exact c,q⟩
theorem iU {o i:Expr}{u w:TE3}{n:Pos}(B:X.A.units+1<cLine) (M:PE3 X o u) (I:PE3 X i w) (F:Gu i:=by exact fun _ _=>rfl):PE3 X (.Subscript o i n) (sH r3D u w):=by
 refine PE.imp (wG B M I F) ?_;rintro P H Q ⟨d,H3,Q3,s,K,h,k⟩;refine⟨d,H3,_,s,K,h,fun x O G j f p L J=>⟨d,j,_,s.mono f,p,J,fun y R E c q g D m=>?_⟩⟩;cases G with
 |ref a =>
  cases E with
  |str b =>
   have h':(match c a with
    |some (.dct kvs)=>oq (aO b kvs) fun t=>Q3 t c
    |_=>False):=m
   split at h'
   ·
    rename_i kvs e
    obtain⟨vs,z,r⟩:=g a _ e
    cases l:aO b kvs with
    |none=>rw[l] at h';exact h'.elim
    |some t =>
     rw[l] at h'
     obtain⟨v,C,N⟩:=tE r l
     refine⟨a,v,L.ref,?_,k.at (f.trans q) _ _ _ _ .refl g N h'⟩
     rw[D.str,<- C]
     exact DGet.k (k:=Sum.inr b) z
   ·
    exact h'.elim
  |_=>exact m.elim
 |_=>exact m.elim
def Bv (e g d:TE3):TS3:=fun D b H=>d b H fun v f=>e b f fun x c=>g b c fun y H3=>match x,y with
 |.ref a,.str k=>match H3 a with
  |some (.dct kvs)=>kvs.length<sizeLine/\D.nx b (up3 H3 a (.dct (put3 k v kvs)))
  |_=>False
 |_,_=>False
theorem GZ {K:Frag}{H:Hp}{k:Str}{t:T}{v:V}(n:Rep K H t v) {kvs:List (Str × T)}{vs:List (Key × V)}(r:RepD K H kvs vs):RepD K H (put3 k t kvs) (putK vs (Sum.inr k:Key) v):=by
 have e:∀{kvs:List (Str × T)} {vs:List (Key × V)},RepD K H kvs vs->(kvs.any fun c=>decide (c.1=k))=(vs.any fun c=>decide (c.1=(Sum.inr k:Key)))/\RepD K H (kvs.map (fun c=>if c.1=k then (c.1,t) else c)) (vs.map (fun c=>if c.1=(Sum.inr k:Key) then (c.1,v) else c)):=by
  intro kvs;induction kvs with
  |nil=>intro vs r;cases r;exact⟨rfl,.nil⟩
  |cons p l u =>
  intro vs r;cases r with
  |cons q s =>
  rename_i b x;obtain⟨j,g⟩:=u s;obtain⟨o,m⟩:=q;obtain⟨y,w⟩:=b;simp only at o m;subst o;by_cases f:p.1=k
  ·refine⟨by simp [f],?_⟩;simp only[y_,f,if_true];exact .cons ⟨rfl,n⟩ g
  have d:¬(Sum.inr p.1:Key)=Sum.inr k:=fun z=>f (Sum.inr.inj z);refine⟨by simp only[ZW,f,d,Yb,Bool.false_or];exact j,?_⟩;simp only[y_,f,d,Xd];exact .cons ⟨rfl,m⟩ g
 obtain⟨j,g⟩:=e r;unfold put3 putK;rw[j];split
 ·exact g
 have i:∀{a:List (Str × T)} {b:List (Key × V)},RepD K H a b->RepD K H (a++[(k,t)]) (b++[((Sum.inr k:Key),v)]):=fun h=>aaj h ⟨rfl,n⟩;exact i r
theorem SimH.wrD {K:Frag}{H:Hp}{H3:Hp3}{a:Addr}{h:List (Key × V)}{kvs:List (Str × T)}{c:List (Key × V)}(s:SimH K H3 H) (g:H a=some (.dK h)) (r:RepD K H kvs c):SimH K (up3 H3 a (.dct kvs)) (upd H a (.dK c)):=fun b o e=>by
 have f:TupLe K H (upd H a (.dK c)):=bH (by rw[g];exact trivial);by_cases d:b=a
 ·subst d;rw[au] at e;cases e;exact⟨c,bT,r.mono f⟩
 rw[aD d] at e;exact (s b o e).stay f fun u q=>by rw[aU d];exact q
theorem qz {o i b:Expr}{I s t:TE3}{q j:Pos}(M:X.A.units+1<cLine) (Y:PE3 X o I) (R:PE3 X i s) (W:PE3 X b t) (P:swapsWith b (some (.Subscript o i j)) q.line X.env=pure false:=by rfl) :
  PS3 X (.Assign [.Subscript o i j] b q) (Bv I s t):=by
 refine PS.imp (wH M Y R W P) ?_;rintro D σ H ⟨c,H3,L,u,U,h,O,_⟩;refine⟨c,H3,_,u,U,h,fun v H1 t z d F Z T=>⟨c,z,_,u.mono d,F,T,fun x H2 Q B g C V S=>⟨c,B,_,u.mono (d.trans g),C,S,fun y J s m f n N G=>?_⟩⟩⟩;cases Q with
 |ref a =>
  cases s with
  |str l =>
   have h':(match m a with
    |some (.dct kvs)=>kvs.length<sizeLine/\L.nx c (up3 m a (.dct (put3 l t kvs)))
    |_=>False):=G
   split at h'
   ·
    rename_i kvs e
    obtain⟨vs,w,r⟩:=n a _ e
    have E:=Z.mono (g.trans f)
    have p:TupLe X.K J (upd J a (.dK (putK vs (Sum.inr l:Key) v))):=bH (by rw[w];exact trivial)
    refine⟨a,_,(V.mono f).ref,?_,O _ _ _ _ (d.trans (g.trans (f.trans p))) (u.mono (d.trans (g.trans (f.trans p)))) (n.wrD w (GZ E r)) h'.2⟩
    rw[N.str]
    exact DPut.k (k:=Sum.inr l) w (by rw[<- Yx r];exact h'.1)
   ·
    exact h'.elim
  |_=>exact G.elim
 |_=>exact G.elim
def SJ:List (Str × TE3)->St3->Hp3->(List (Str × T)->Hp3->Prop)->Prop
 |[],_,H,Q=>Q [] H
 | (k,tv)::r,σ,H,Q=>tv σ H fun y a=>SJ r σ a fun ps H3=>Q ((k,y)::ps) H3
def Wr (kvs a:List (Str × T)):List (Str × T):=a.foldl (fun b c=>put3 c.1 c.2 b) kvs
def Nt (a:List (Str × TE3)):TE3:=fun c H Q=>∀p,H p=none->SJ a c (up3 H p (.dct [])) fun ps b=>b p=some (.dct [])/\ps.length<=15/\Q (.ref p) (up3 b p (.dct (Wr [] ps)))
variable {x:Str}{p pos:Pos}{e:Expr}{es:List Expr}{t:TA3}{id Ty:String}{r:List T->Hp3->VK3->Prop}
def Nu (r:List T->Hp3->VK3->Prop) (t:TA3):TE3:=fun b H Q=>t b H fun vs a=>r vs a Q
theorem aP (v:fX X (.builtin id) r) (m:Gl X x) (l:X.mg x=none) (o:bootBuiltins x=some (.builtin id)) (i:PA3 X (e::es) t) (j:x≠"__name__":=by decide) (f:(x==("__debug__":Str))=false:=by decide)
  (g:starEach (e::es) X.env=(false,eval e X.env)::starEach es X.env:=by rfl) (c:(backTo pos (starEach es X.env)).any (·.1)=false:=by rfl):PE3 X (.Call (.Name x p) (e::es) [] pos) (Nu r t):=by
 refine PE.imp (Ak v m l o i j f g c) ?_;rintro w H Q ⟨b,H3,Q3,s,u,h,k⟩;exact⟨b,H3,_,s,u,h,fun vs H' ts a n d r q=>⟨ts,a,Q3,r,d,q,k.at n⟩⟩
theorem bG (v:fX X (.type Ty) r) (m:Gl X x) (l:X.mg x=none) (o:bootBuiltins x=some (.type Ty)) (i:PA3 X (e::es) t) (j:x≠"__name__":=by decide) (f:(x==("__debug__":Str))=false:=by decide)
  (g:starEach (e::es) X.env=(false,eval e X.env)::starEach es X.env:=by rfl) (c:(backTo pos (starEach es X.env)).any (·.1)=false:=by rfl):PE3 X (.Call (.Name x p) (e::es) [] pos) (Nu r t):=by
 refine PE.imp (zc v m l o i j f g c) ?_;rintro w H Q ⟨b,H3,Q3,s,u,h,k⟩;exact⟨b,H3,_,s,u,h,fun vs H' ts a n d r q=>⟨ts,a,Q3,r,d,q,k.at n⟩⟩
theorem Reps.one' {K:Frag}{H:Hp}{t:T}{vs:List V}(r:Reps K H [t] vs):∃v,vs=[v]/\Rep K H t v:=by
 obtain⟨v,_,rfl,a,b⟩:=r.inv;rw[b.inv0];exact⟨v,rfl,a⟩
theorem Reps.two' {K:Frag}{H:Hp}{t u:T}{vs:List V}(r:Reps K H [t,u] vs):∃v w,vs=[v,w]/\Rep K H t v/\Rep K H u w:=by
 obtain⟨v,_,rfl,a,b⟩:=r.inv;obtain⟨w,rfl,c⟩:=b.one';exact⟨v,w,rfl,a,c⟩
def xg:List T->Hp3->VK3->Prop:=fun ts H Q=>match ts with
 |[.ref a]=>match H a with
  |some (.lst xs)=>Q (.int xs.length) H
  |some (.rol xs)=>Q (.int xs.length) H
  |_=>False
 |[.tup xs]=>Q (.int xs.length) H
 |[.str z]=>z.length<=sizeLine/\Q (.int z.length) H
 |_=>False
theorem b7:fX X (.builtin "len") xg:=by
 refine CallR.imp (call_len_seq.or qg) ?_;rintro xs H Q ⟨ts,H3,Q3,r,c,h,k⟩
 match ts,h,r with
 |[.ref a],h,r =>
  obtain⟨v,rfl,b⟩:=r.one';have h':(match H3 a with
   |some (.lst xs)=>Q3 (.int xs.length) H3
   |some (.rol xs)=>Q3 (.int xs.length) H3
   |_=>False):=h
  split at h'
  ·rename_i us e;obtain⟨d,f,g⟩:=c.sqL (.inl e);exact .inl ⟨a,d,by rw[b.ref],.inl f,by rw[<- g.length];exact k _ _ _ _ .refl c .ofInt h'⟩
  ·rename_i us e;obtain⟨d,f,g⟩:=c.sqL (.inr e);exact .inl ⟨a,d,by rw[b.ref],.inl f,by rw[<- g.length];exact k _ _ _ _ .refl c .ofInt h'⟩
  exact h'.elim
 |[.tup us],h,r=>obtain⟨v,rfl,b⟩:=r.one';obtain⟨a,d,rfl,f,g⟩:=b.tup;exact .inl ⟨a,d,rfl,.inr f,by rw[<- g.length];exact k _ _ _ _ .refl c .ofInt h⟩
 |[.str z],h,r =>
 obtain⟨v,rfl,b⟩:=r.one';exact .inr ⟨z,by rw[b.str],h.1,k _ _ _ _ .refl c .ofInt h.2⟩
def vg:List T->Hp3->VK3->Prop:=fun ts H Q=>match ts with
 |[.ref a]=>match H a with
  |some (.lst xs)=>∀p,H p=none->Q (.ref p) (up3 H p (.lst xs))
  |some (.rol xs)=>∀p,H p=none->Q (.ref p) (up3 H p (.lst xs))
  |_=>False
 |[.tup xs]=>∀p,H p=none->Q (.ref p) (up3 H p (.lst xs))
 |_=>False
theorem qC:fX X (.type "list") vg:=by
 refine CallR.imp qi ?_;rintro xs H Q ⟨ts,H3,Q3,r,c,h,k⟩
 match ts,h,r with
 |[.ref a],h,r =>
  obtain⟨v,rfl,i⟩:=r.one';have h':(match H3 a with
   |some (.lst xs)=>∀p,H3 p=none->Q3 (.ref p) (up3 H3 p (.lst xs))
   |some (.rol xs)=>∀p,H3 p=none->Q3 (.ref p) (up3 H3 p (.lst xs))
   |_=>False):=h
  split at h'
  ·rename_i us e;obtain⟨g,d,f⟩:=c.sqL (.inl e);exact⟨a,g,by rw[i.ref],.inl d,fun l b=>k _ _ _ _ (aN b) (c.newLst b f) .ofRef (h' l (c.fresh b))⟩
  ·rename_i us e;obtain⟨g,d,f⟩:=c.sqL (.inr e);exact⟨a,g,by rw[i.ref],.inl d,fun l b=>k _ _ _ _ (aN b) (c.newLst b f) .ofRef (h' l (c.fresh b))⟩
  exact h'.elim
 |[.tup us],h,r =>
 obtain⟨v,rfl,i⟩:=r.one';obtain⟨a,g,rfl,d,f⟩:=i.tup;exact⟨a,g,rfl,.inr d,fun l b=>k _ _ _ _ (aN b) (c.newLst b f) .ofRef (h l (c.fresh b))⟩
def qD:List T->Hp3->VK3->Prop:=fun ts H Q=>match ts with
 |[.ref a]=>match H a with
  |some (.lst xs)=>Q (.tup xs) H
  |some (.rol xs)=>Q (.tup xs) H
  |_=>False
 |[.tup xs]=>Q (.tup xs) H
 |_=>False
theorem cR:fX X (.type "tuple") qD:=by
 refine CallR.imp nT ?_;rintro xs H Q ⟨ts,H3,Q3,r,g,h,k⟩
 match ts,h,r with
 |[.ref a],h,r =>
  obtain⟨v,rfl,i⟩:=r.one';have h':(match H3 a with
   |some (.lst xs)=>Q3 (.tup xs) H3
   |some (.rol xs)=>Q3 (.tup xs) H3
   |_=>False):=h
  split at h'
  ·rename_i us e;obtain⟨f,c,d⟩:=g.sqL (.inl e);exact⟨a,f,by rw[i.ref],.inl ⟨c,fun l b=>k _ _ _ _ (aN b) (g.new b) (SimH.newTup (H3:=H3) b d) h'⟩⟩
  ·rename_i us e;obtain⟨f,c,d⟩:=g.sqL (.inr e);exact⟨a,f,by rw[i.ref],.inl ⟨c,fun l b=>k _ _ _ _ (aN b) (g.new b) (SimH.newTup (H3:=H3) b d) h'⟩⟩
  exact h'.elim
 |[.tup us],h,r =>
 obtain⟨v,rfl,i⟩:=r.one';obtain⟨a,f,rfl,c,d⟩:=i.tup;exact⟨a,f,rfl,.inr ⟨c,k _ _ _ _ .refl g (.ofTup c d) h⟩⟩
def Bw:List T->Hp3->VK3->Prop:=fun ts H Q=>match ts with
 |[.int i]=>Q (.int i) H
 |[.bl b]=>Q (.int (if b then 1 else 0)) H
 |_=>False
theorem qF:fX X (.type "int") Bw:=by
 refine CallR.imp yX ?_;rintro xs H Q ⟨ts,H3,Q3,r,c,h,k⟩
 match ts,h,r with
 |[.int i],h,r=>obtain⟨v,rfl,a⟩:=r.one';exact .inl ⟨i,by rw[a.int],k _ _ _ _ .refl c .ofInt h⟩
 |[.bl b],h,r =>
 obtain⟨v,rfl,a⟩:=r.one';exact .inr ⟨b,by rw[a.bl],k _ _ _ _ .refl c .ofInt h⟩
def ints3:List T->Option (List Int)
 |[]=>some []
 |.int i::r=>(ints3 r).map (i::·)
 |_=>none
theorem dm:∀(ns:List Int),ints3 (ns.map T.int)=some ns
 |[]=>rfl
 |n::r=>by simp [ints3,dm r]
theorem jm {K:Frag}{H:Hp}:∀{ts:List T}{xs:List V}{us:List Value}{ns:List Int},ints3 ts=some ns->Reps K H ts xs->Vals xs us->IntsAre us ns
 |[],xs,us,ns,e,r,v=>by
  cases e
  rw[r.inv0] at v
  cases v
  exact .nil
 |.int i::l,xs,us,ns,e,r,v=>by
  obtain⟨x,h,rfl,d,f⟩:=r.inv
  cases v with
  |cons a b =>
   rw[d.int] at a
   obtain⟨t,rfl⟩:=a
   cases c:ints3 l with
   |none=>simp [ints3,c] at e
   |some g =>
    simp [ints3,c] at e
    subst e
    exact .cons _ _ (jm c f b)
 |.non::_,_,_,_,e,_,_=>by simp [ints3] at e
 |.bl _::_,_,_,_,e,_,_=>by simp [ints3] at e
 |.str _::_,_,_,_,e,_,_=>by simp [ints3] at e
 |.tup _::_,_,_,_,e,_,_=>by simp [ints3] at e
 |.ref _::_,_,_,_,e,_,_=>by simp [ints3] at e
 |.ty _::_,_,_,_,e,_,_=>by simp [ints3] at e
def JX:List T->Hp3->VK3->Prop:=fun ts H Q=>match ts with
 |[.ref a]=>match H a with
  |some (.lst xs)=>oq (ints3 xs) fun ns=>Q (.int ns.sum) H
  |some (.rol xs)=>oq (ints3 xs) fun ns=>Q (.int ns.sum) H
  |_=>False
 |_=>False
theorem jn (C:X.calm=true):fX X (.builtin "sum") JX:=by
 intro f s G H xs us Q I J h;obtain⟨ts,H3,Q3,r,t,h,k⟩:=h
 match ts,h,r with
 |[.ref a],h,r =>
 obtain⟨v,rfl,p⟩:=r.one';obtain⟨u,rfl,B⟩:=vals1 J;rw[p.ref] at B;cases B;have b:∀{d:List T} {j:List V},SqL X.K H a j->Reps X.K H d j->oq (ints3 d) (fun ns=>Q3 (.int ns.sum) H3)->wpAny (model X.prog X.w) X.A (call (.builtin "sum") [.ref a]) (EP X f G Q) X.xe s:=by
  intro d j g i q;cases e:ints3 d with
  |none=>rw[e] at q;exact q.elim
  |some ns =>
  rw[e] at q;obtain⟨c,n,F,_⟩:=I.list g;have z:=jm e i n;have l:AllInts c.toArray:=z.allInts;obtain⟨m,y⟩:=l.items;have o:s.heap.IsList a (intItems m):=by rw[<- y];exact F.isList
  refine sum_intListG (I.ok.hd C) o fun h' tk t' E=>?_;have D:preSum (numAt m) m.size=ns.sum:=by have x:=nums_intItems m;rw[<- y,show c.toArray.toList=c from rfl,z.numsOf] at x;rw[preSum_eq,Xk (by simp),<- x]
  rw[D];exact⟨.int ns.sum,H,I.kept E,⟨t',rfl⟩,k _ _ _ _ .refl t .ofInt q⟩
 have h':(match H3 a with
  |some (.lst xs)=>oq (ints3 xs) fun ns=>Q3 (.int ns.sum) H3
  |some (.rol xs)=>oq (ints3 xs) fun ns=>Q3 (.int ns.sum) H3
  |_=>False):=h
 split at h'
 ·rename_i d e;obtain⟨j,g,i⟩:=t.sqL (.inl e);exact b g i h'
 ·rename_i d e;obtain⟨j,g,i⟩:=t.sqL (.inr e);exact b g i h'
 exact h'.elim
variable {o:Expr}{to:TE3}{name:Str}{apos cpos:Pos}{m:T->List T->Hp3->VK3->Prop}
def ty3 (b:String):T->Hp3->Prop:=fun x H=>match x with
 |.str _=>b="str"
 |.tup _=>b="tuple"
 |.ref a=>b="list"/\match H a with
  |some (.lst _)=>True
  |some (.rol _)=>True
  |_=>False
 |_=>False
theorem JZ {K:Frag}{H:Hp}{H3:Hp3}{t:T}{v:V}(d:SimH K H3 H) (r:Rep K H t v) (h:ty3 Ty t H3):tyV K Ty v H:=by
 cases t with
 |str z=>rw[r.str];exact h
 |tup ts=>obtain⟨a,xs,rfl,c,_⟩:=r.tup;exact .inr (.inl ⟨h,xs,c⟩)
 |ref a =>
  rw[r.ref];refine .inl ⟨h.1,?_⟩;have b:=h.2;cases e:H3 a with
  |none=>rw[e] at b;exact b.elim
  |some o =>
  rw[e] at b;cases o with
  |lst ts=>obtain⟨xs,c,_⟩:=d.sqL (.inl e);exact⟨xs,c⟩
  |rol ts=>obtain⟨xs,c,_⟩:=d.sqL (.inr e);exact⟨xs,c⟩
  |dct _=>exact b.elim
  |dcp _=>exact b.elim
  |exc _ _=>exact b.elim
  |xdt _=>exact b.elim
  |dcn _ _=>exact b.elim
  |dci _=>exact b.elim
  |dif _ _=>exact b.elim
  |ins _ _=>exact b.elim
 |_=>exact h.elim
def SM (c:String) (m:T->List T->Hp3->VK3->Prop) (e:TE3) (t:TA3):TE3:=fun a H Q=>e a H fun x b=>ty3 c x b/\t a b fun xs d=>m x xs d Q
theorem dq (E:PlainAttrs Ty) (i:Slot Ty name id) (r:typeOf (.builtin id)=pure (.type "method_descriptor")) (z:sE X id m) (F:PE3 X o to) (y:PA3 X (e::es) t)
  (c:attributeBase o name X.env (eval o X.env)=eval o X.env:=by rfl)
  (g:((backTo cpos (starEach (e::es) X.env)).all (fun x=>!x.1)&&(backToKw cpos (keywordEach [] X.env)).all (fun x=>x.1.isSome)
   && decide ((e::es).length+([]:List Keyword).length+(if ([]:List Keyword).isEmpty then 0 else 1)<30))=true:=by rfl)
  (b:(apos.endLine==cpos.line)=true:=by rfl) (A:starEach (e::es) X.env=(false,eval e X.env)::starEach es X.env:=by rfl) (a:(backTo cpos (starEach es X.env)).any (·.1)=false:=by rfl) :
  PE3 X (.Call (.Attribute o name apos) (e::es) [] cpos) (SM Ty m to t):=by
 refine PE.imp (RQ E i r z F y c g b A a) ?_;rintro I H Q ⟨d,H3,Q3,s,D,h,k⟩;exact⟨d,H3,_,s,D,h,fun x G B n f j v u=>⟨JZ j v u.1,d,n,_,s.mono f,j,u.2,fun vs J ts p l q w C=>⟨B,ts,p,Q3,v.mono l,w,q,C,k.at (f.trans l)⟩⟩⟩
def J0:T->List T->Hp3->VK3->Prop:=fun x ts H Q=>match x,ts with
 |.ref a,[t]=>match H a with
  |some (.lst xs)=>xs.length<sizeLine/\Q .non (up3 H a (.lst (xs++[t])))
  |_=>False
 |_,_=>False
theorem bJ:sE X "list.append" J0:=by
 refine MtR.imp zf ?_;rintro x xs H Q ⟨g,ts,H3,Q3,c,d,f,h,k⟩
 match g,ts,h,c,d with
 |.ref a,[t],h,c,d =>
 obtain⟨v,rfl,i⟩:=d.one';have h':(match H3 a with
  |some (.lst xs)=>xs.length<sizeLine/\Q3 .non (up3 H3 a (.lst (xs++[t])))
  |_=>False):=h
 split at h'
 ·rename_i l e;obtain⟨j,b,r⟩:=f a _ e;exact⟨a,j,v,c.ref,rfl,b,by rw[<- r.length];exact h'.1,k _ _ _ _ (bH (by rw[b];exact trivial)) (f.wrL b (r.append (.cons i .nil))) .ofNon h'.2⟩
 exact h'.elim
def J1:T->List T->Hp3->VK3->Prop:=fun x ts H Q=>match x,ts with
 |.ref a,[.ref b]=>match H a,H b with
  |some (.lst xs),some (.lst ys)=>xs.length+ys.length<=sizeLine/\Q .non (up3 H a (.lst (xs++ys)))
  |_,_=>False
 |_,_=>False
theorem zA:sE X "list.extend" J1:=by
 refine MtR.imp zg ?_;rintro x xs H Q ⟨l,ts,H3,Q3,e,f,i,h,k⟩
 match l,ts,h,e,f with
 |.ref a,[.ref b],h,e,f =>
 obtain⟨v,rfl,n⟩:=f.one';have h':(match H3 a,H3 b with
  |some (.lst xs),some (.lst c)=>xs.length+c.length<=sizeLine/\Q3 .non (up3 H3 a (.lst (xs++c)))
  |_,_=>False):=h
 split at h'
 ·rename_i q s p m;obtain⟨c,d,r⟩:=i a _ p;obtain⟨o,g,j⟩:=i b _ m;exact⟨a,b,c,o,e.ref,by rw[n.ref],d,g,by rw[<- r.length,<- j.length];exact h'.1,k _ _ _ _ (bH (by rw[d];exact trivial)) (i.wrL d (r.append j)) .ofNon h'.2⟩
 exact h'.elim
def xj:T->List T->Hp3->VK3->Prop:=fun x ts H Q=>match x,ts with
 |.ref a,[.int i]=>match H a with
  |some (.lst xs)=>oq (ixN xs.length i) fun j=>oq (xs[j]?) fun t=>Q t (up3 H a (.lst (xs.eraseIdx j)))
  |_=>False
 |_,_=>False
theorem Bx:sE X "list.pop" xj:=by
 intro b s E H x xs v us Q I o f B;obtain⟨D,ts,H3,Q3,n,l,u,h,k⟩:=B;refine Aq b s E H x xs v us Q I o f ?_
 match D,ts,h,n,l with
 |.ref a,[.int i],h,n,l =>
 obtain⟨w,rfl,J⟩:=l.one';have h':(match H3 a with
  |some (.lst xs)=>oq (ixN xs.length i) fun j=>oq (xs[j]?) fun t=>Q3 t (up3 H3 a (.lst (xs.eraseIdx j)))
  |_=>False):=h
 split at h'
 ·rename_i d e;obtain⟨p,c,r⟩:=u a _ e;have N:=(I.lstM c).1;cases m:ixN d.length i with
  |none=>rw[m] at h';exact h'.elim
  |some j =>
  rw[m] at h';cases g:d[j]? with
  |none=>simp only[oq,g] at h'
  |some t =>
   have A:Q3 t (up3 H3 a (.lst (d.eraseIdx j))):=by simpa only[oq,g] using h'
   obtain⟨F,L,O,M⟩:=qb m
   obtain⟨y,G,z⟩:=r.get g
   have C:=r.length
   have P:=jg
   have q:TupLe X.K H (upd H a (.lst (p.eraseIdx j))):=bH (by rw[c];exact trivial)
   exact⟨a,p,i,j,y,n.ref,by rw[J.int],c,by omega,by omega,by rw[<- C];exact F,G,k _ _ _ _ q (u.wrL c (r.eraseIdx j)) (z.mono q) A⟩
 exact h'.elim
def mq:List T->Option (List Str)
 |[]=>some []
 |.str x::r=>(mq r).map (x::·)
 |_=>none
theorem ph:∀(ns:List Str),mq (ns.map T.str)=some ns
 |[]=>rfl
 |n::r=>by simp [mq,ph r]
def xm:T->List T->Hp3->VK3->Prop:=fun x ts H Q=>match x,ts with
 |.str z,[.str y]=>match Builtin.Str.occurrences z y 0 z.length 1 with
  |i::_=>Q (.int i) H
  |[]=>False
 |_,_=>False
theorem By:sE X "str.index" xm:=by
 intro f s o H x xs v us Q I a c m;obtain⟨j,ts,H3,Q3,b,d,n,h,k⟩:=m
 match j,ts,h,b,d with
 |.str z,[.str y],h,b,d =>
 obtain⟨w,rfl,l⟩:=d.one';obtain⟨u,rfl,g⟩:=vals1 c;rw[l.str] at g;obtain⟨t',rfl⟩:=g;rw[b.str] at a;obtain⟨t,rfl⟩:=a;have h':(match Builtin.Str.occurrences z y 0 z.length 1 with
  |i::_=>Q3 (.int i) H3
  |[]=>False):=h
 split at h'
 ·rename_i i rest e;exact SC.index e ⟨.int i,H,I.tok _,⟨_,rfl⟩,k _ _ _ _ .refl n .ofInt h'⟩
 exact h'.elim
end
def compLook (n0:List (Str × NameKind)) (N:List Str) (b:Bool) (a:List (Str × NameKind)) (N':List Str) (nt:Nat) (cap:List Nat):Bool :=
 b&&a.all (fun y=>y.2 != .cell||a.lookup y.1==some .cell)&&a.all (fun x=>x.2 != .local||a.lookup x.1==some .local)&&a.all (fun y=>y.2 != .free||n0.lookup y.1==some .cell||n0.lookup y.1==some .free)
  && N'.length==nt+cap.length&&(List.range cap.length).all fun j=>match N'[nt+j]?,cap[j]? with
   |some x,some i=>N[i]?==some x&&a.lookup x==some .free
   |_,_=>false
theorem bD {X:Cx}{N':List Str}{nt:Nat}{cap:List Nat}{scope:Scope}{n0:List (Str × NameKind)}{N:List Str}(m:X.env.scope.names=n0) (f:X.N=N)
  (h:compLook n0 N (scope.kind==.function) scope.names N' nt cap=true):CompSc X N' nt cap scope:=by
 unfold compLook at h;simp only[Xm,Xh,Zz,bne_iff_ne,Bool.or_eq_true,I_] at h;obtain⟨⟨⟨⟨⟨l,d⟩,c⟩,g⟩,p⟩,k⟩:=h;refine⟨l,fun y a e=>(d y a).resolve_left fun z=>z e,fun x o e=>(c x o).resolve_left fun z=>z e,fun y a e=>?_,p,fun j x e=>?_⟩
 ·show X.env.scope.names.lookup y.1=_\/X.env.scope.names.lookup y.1=_;rw[m];rcases g y a with (z | z) | z
  ·exact absurd e z
  ·exact .inl z
  exact .inr z
 have n:j<cap.length:=by have:=(Yc.mp e).1;omega
 have q:=k j n;rw[e] at q;cases b:cap[j]? with
 |none=>rw[b] at q;cases q
 |some i =>
 rw[b] at q;simp only[Xm,Zz] at q;exact⟨i,rfl,by rw[f];exact q.1,q.2⟩
def Nv (n00 a:List (Str × NameKind)):List (Str × NameKind):=a.map fun (n,k)=>if (k==NameKind.free&&n00.lookup n==some .cell)=true then (n,NameKind.cell) else (n,k)
theorem xn {X:Cx}{c N':List Str}{nt:Nat}{cap:List Nat}{a scope:Scope}{n00:List (Str × NameKind)}{N:List Str}{f:List (Str × Addr)}{b:List (Addr × Obj)}{s:Shared}{H:Hp}{C:Addr}{d:List Addr}
  (i:X.env.scope.names=n00) (g:X.env.scope.kind=.function) (j:c=N) (h:compLook (Nv n00 a.names) N (scope.kind==.function) scope.names N' nt cap=true):CompSc (bU X c a f b s H C d) N' nt cap scope:=by
 refine bD (n0:=Nv n00 a.names) (N:=N) ?_ j h;show (relabel a X.env).names=_;unfold relabel Nv;dsimp only;refine Xq fun y l=>?_;obtain⟨n,k⟩:=y;have e:X.env.kindOf n=n00.lookup n:=by unfold Env.kindOf;rw[i]
 simp only[e,g,ZP,Zj]
structure G3 (K:Frag) (mg:Str->Option Value) (x:Str) (st:Stmt) (ps:List Str) (f:Addr) (fd:FuncData):Prop where
 fn:Fun K x x st f fd
 b:Binds K fd ps []
 m:mg x=some (.ref f)
structure Bl (mg:Str->Option Value):Prop where
 len_:mg "len"=none
 sum_:mg "sum"=none
 isinstance_:mg "isinstance"=none
 all_:mg "all"=none
 any_:mg "any"=none
 list_:mg "list"=none
 tuple_:mg "tuple"=none
 int_:mg "int"=none
 str_:mg "str"=none
 bool_:mg "bool"=none
 range_:mg "range"=none
 zip_:mg "zip"=none
 reversed_:mg "reversed"=none
 enumerate_:mg "enumerate"=none
 set_:mg "set"=none
 sorted_:mg "sorted"=none
 min_:mg "min"=none
 max_:mg "max"=none
 dict_:mg "dict"=none
 repr_:mg "repr"=none
theorem b8:bootBuiltins "len"=some (.builtin "len"):=by decide +kernel
theorem jo:bootBuiltins "sum"=some (.builtin "sum"):=by decide +kernel
theorem kZ:bootBuiltins "list"=some (.type "list"):=by decide +kernel
theorem cT:bootBuiltins "tuple"=some (.type "tuple"):=by decide +kernel
theorem vh:bootBuiltins "int"=some (.type "int"):=by decide +kernel
theorem Room.u30 {k:Nat}{A:Around}(r:Room k A):A.units+30<cLine:=by have:=r.un;omega
theorem Room.u31 {k:Nat}{A:Around}(r:Room k A):A.units+31<cLine:=by have:=r.un;omega
theorem Room.u1 {k:Nat}{A:Around}(r:Room k A):A.units+1<cLine:=by have:=r.un;omega
section
variable {H:Hp3}{Q:VK3}{σ:St3}
def vq (o:Option (Option T)) (Q:T->Prop):Prop:=match o with
 |some (some t)=>Q t
 |_=>False
theorem Ws (t:T) (Q:T->Prop):vq (some (some t)) Q=Q t:=rfl
theorem BJ (i:Nat):sG i σ H Q=vq (σ[i]?) fun t=>Q t H:=rfl
def bq (x:T) (Q:Bool->Prop):Prop:=match x with
 |.bl k=>Q k
 |_=>False
theorem jq (b:Bool) (Q:Bool->Prop):bq (.bl b) Q=Q b:=rfl
theorem Nx (t:TE3) (Q:Bool->Hp3->Prop):jk t σ H Q=t σ H fun x H'=>bq x fun k=>Q k H':=rfl
theorem Ny (d a:TE3):Be d a σ H Q=d σ H fun x b=>bq x fun c=>if c=true then a σ b Q else Q (.bl false) b:=rfl
theorem SN (d a:TE3):JK d a σ H Q=d σ H fun x b=>bq x fun c=>if c=true then Q (.bl true) b else a σ b Q:=rfl
theorem gQ {a:Type}(v:a) (Q:a->Prop):oq (some v) Q=Q v:=rfl
theorem q_I (C:Int->Int->Prop) (g:Int->Int->T) (i j:Int):rI3 C g (.int i) (.int j) H Q=(C i j/\Q (g i j) H):=rfl
theorem Wu (g:Int->Int->T) (i j:Int):qw g (.int i) (.int j) H Q=Q (g i j) H:=rfl
theorem BK (i j:Int):o7 (.int i) (.int j) H Q=Q (.int (i+j)) H:=rfl
theorem Nz (i j:Str):o7 (.str i) (.str j) H Q=(i.length+j.length<=sizeLine/\Q (.str (i++j)) H):=rfl
theorem NB (xs a:List T):o7 (.tup xs) (.tup a) H Q=(xs.length+a.length<=sizeLine/\Q (.tup (xs++a)) H):=rfl
def SQ (o u:Option O3) (H:Hp3) (Q:VK3):Prop:=match o,u with
 |some (.lst xs),some (.lst ys)=>xs.length+ys.length<=sizeLine/\∀p,H p=none->Q (.ref p) (up3 H p (.lst (xs++ys)))
 |_,_=>False
theorem BL (a b:Addr):o7 (.ref a) (.ref b) H Q=SQ (H a) (H b) H Q:=rfl
theorem my (xs a:List T):SQ (some (.lst xs)) (some (.lst a)) H Q=(xs.length+a.length<=sizeLine/\∀p,H p=none->Q (.ref p) (up3 H p (.lst (xs++a)))):=rfl
theorem SX (n:Bool) (i j:Int):vd n (.int i) (.int j) H Q=Q (.bl (if n then !decide (i=j) else decide (i=j))) H:=rfl
theorem S5 (n:Bool) (i j:Str):vd n (.str i) (.str j) H Q=Q (.bl (if n then !decide (i=j) else decide (i=j))) H:=rfl
theorem S6 (n:Bool) (i j:Bool):vd n (.bl i) (.bl j) H Q=Q (.bl (if n then !decide (i=j) else decide (i=j))) H:=rfl
theorem S7 (n:Bool) (xs a:List T):vd n (.tup xs) (.tup a) H Q=(xs.all (pl 20)=true/\a.all (pl 20)=true/\Q (.bl (if n then !decide (xs=a) else decide (xs=a))) H):=rfl
def eqH (n:Bool) (a b:Addr) (o u:Option O3) (H:Hp3) (Q:VK3):Prop:=match o,u with
 |some (.lst xs),some (.lst ys)=>a≠b/\xs.all (pl 20)=true/\ys.all (pl 20)=true/\Q (.bl (if n then !@decide (xs=ys) (instDecidableEqList xs ys) else @decide (xs=ys) (instDecidableEqList xs ys))) H
 |_,_=>False
theorem J2 (n:Bool) (a b:Addr):vd n (.ref a) (.ref b) H Q=eqH n a b (H a) (H b) H Q:=rfl
theorem J3 (n:Bool) (a b:Addr) (xs c:List T):eqH n a b (some (.lst xs)) (some (.lst c)) H Q=(a≠b/\xs.all (pl 20)=true/\c.all (pl 20)=true/\Q (.bl (if n then !decide (xs=c) else decide (xs=c))) H):=rfl
theorem J4 (n:Bool) (x:T) (ts:List T):vf n x (.tup ts) H Q=(pl 20 x=true/\ts.all (pl 20)=true/\Q (.bl (dD n x ts)) H):=rfl
theorem S8 (n:Bool) (i j:Str):vf n (.str i) (.str j) H Q=Q (.bl (occ n i j)) H:=rfl
def inH (n:Bool) (x:T) (o:Option O3) (H:Hp3) (Q:VK3):Prop:=match o with
 |some (.lst ts)=>pl 20 x=true/\ts.all (pl 20)=true/\Q (.bl (dD n x ts)) H
 |some (.rol ts)=>pl 20 x=true/\ts.all (pl 20)=true/\Q (.bl (dD n x ts)) H
 |_=>False
theorem J5 (n:Bool) (x:T) (a:Addr):vf n x (.ref a) H Q=inH n x (H a) H Q:=rfl
theorem J6 (n:Bool) (x:T) (ts:List T):inH n x (some (.lst ts)) H Q=(pl 20 x=true/\ts.all (pl 20)=true/\Q (.bl (dD n x ts)) H):=rfl
def ixH (o:Option O3) (i:Int) (H:Hp3) (Q:VK3):Prop:=match o with
 |some (.lst ts)=>oq (atI ts i) fun t=>Q t H
 |some (.rol ts)=>oq (atI ts i) fun t=>Q t H
 |_=>False
theorem S9 (a:Addr) (i:Int):tu (.ref a) (.int i) H Q=ixH (H a) i H Q:=rfl
theorem Tc (ts:List T) (i:Int):ixH (some (.lst ts)) i H Q=oq (atI ts i) fun t=>Q t H:=rfl
theorem Td (ts:List T) (i:Int):tu (.tup ts) (.int i) H Q=oq (atI ts i) fun t=>Q t H:=rfl
theorem Te (z:Str) (i:Int):tu (.str z) (.int i) H Q=(z.length<=sizeLine/\oq (atI z.cps.toList i) fun c=>Q (.str ⟨#[c]⟩) H):=rfl
def stH (o:Option O3) (a:Addr) (k:Int) (v:T) (H:Hp3) (Q:Hp3->Prop):Prop:=match o with
 |some (.lst ts)=>oq (ixN ts.length k) fun j=>Q (up3 H a (.lst (ts.set j v)))
 |_=>False
theorem NP (a:Addr) (k:Int) (v:T) (Q:Hp3->Prop):Bt (.ref a) (.int k) v H Q=stH (H a) a k v H Q:=rfl
theorem Tf (ts:List T) (a:Addr) (k:Int) (v:T) (Q:Hp3->Prop):stH (some (.lst ts)) a k v H Q=oq (ixN ts.length k) fun j=>Q (up3 H a (.lst (ts.set j v))):=rfl
def pq (x:T) (Q:Option Int->Prop):Prop:=match x with
 |.int i=>Q (some i)
 |_=>False
theorem Wv (i:Int) (Q:Option Int->Prop):pq (.int i) Q=Q (some i):=rfl
theorem NQ (t:TE3) (Q:Option Int->Hp3->Prop):Bu t σ H Q=t σ H fun x a=>pq x fun o=>Q o a:=rfl
def slH (o:Option O3) (a b:Option Int) (H:Hp3) (Q:VK3):Prop:=match o with
 |some (.lst ts)=>∀p,H p=none->Q (.ref p) (up3 H p (.lst (fH ts a b)))
 |some (.rol ts)=>∀p,H p=none->Q (.ref p) (up3 H p (.lst (fH ts a b)))
 |_=>False
theorem Tg (a:Addr) (b c:Option Int):GX (.ref a) b c H Q=slH (H a) b c H Q:=rfl
theorem J7 (ts:List T) (a b:Option Int):slH (some (.lst ts)) a b H Q=∀p,H p=none->Q (.ref p) (up3 H p (.lst (fH ts a b))):=rfl
theorem NT (ts:List T) (a b:Option Int):slH (some (.rol ts)) a b H Q=∀p,H p=none->Q (.ref p) (up3 H p (.lst (fH ts a b))):=rfl
theorem Th (ts:List T) (a b:Option Int):GX (.tup ts) a b H Q=(¬(HT.sIx ts.length 0 a=0/\HT.sIx ts.length ts.length b=ts.length)/\Q (.tup (fH ts a b)) H):=rfl
theorem Ti (z:Str) (a b:Option Int):GX (.str z) a b H Q=(z.length<=sizeLine/\Q (.str (Txt.slice z a b)) H):=rfl
def dgH (o:Option O3) (k:Str) (H:Hp3) (Q:VK3):Prop:=match o with
 |some (.dct kvs)=>oq (aO k kvs) fun t=>Q t H
 |_=>False
theorem q_D (a:Addr) (k:Str):r3D (.ref a) (.str k) H Q=dgH (H a) k H Q:=rfl
theorem Tn (kvs:List (Str × T)) (k:Str):dgH (some (.dct kvs)) k H Q=oq (aO k kvs) fun t=>Q t H:=rfl
def dpH (x y v:T) (H:Hp3) (Q:Hp3->Prop):Prop:=match x,y with
 |.ref a,.str k=>match H a with
  |some (.dct kvs)=>kvs.length<sizeLine/\Q (up3 H a (.dct (put3 k v kvs)))
  |_=>False
 |_,_=>False
def dpO (o:Option O3) (a:Addr) (k:Str) (v:T) (H:Hp3) (Q:Hp3->Prop):Prop:=match o with
 |some (.dct kvs)=>kvs.length<sizeLine/\Q (up3 H a (.dct (put3 k v kvs)))
 |_=>False
theorem NZ (b c a:TE3) (D:Ends3):Bv b c a D σ H=a σ H fun v f=>b σ f fun x d=>c σ d fun y H3=>dpH x y v H3 fun e=>D.nx σ e:=rfl
theorem Tp (a:Addr) (k:Str) (v:T) (Q:Hp3->Prop):dpH (.ref a) (.str k) v H Q=dpO (H a) a k v H Q:=rfl
theorem Tr (kvs:List (Str × T)) (a:Addr) (k:Str) (v:T) (Q:Hp3->Prop):dpO (some (.dct kvs)) a k v H Q=(kvs.length<sizeLine/\Q (up3 H a (.dct (put3 k v kvs)))):=rfl
def lnH (o:Option O3) (H:Hp3) (Q:VK3):Prop:=match o with
 |some (.lst xs)=>Q (.int xs.length) H
 |some (.rol xs)=>Q (.int xs.length) H
 |_=>False
theorem N5 (a:Addr):xg [.ref a] H Q=lnH (H a) H Q:=rfl
theorem Tt (xs:List T):lnH (some (.lst xs)) H Q=Q (.int xs.length) H:=rfl
theorem N6 (xs:List T):xg [.tup xs] H Q=Q (.int xs.length) H:=rfl
theorem N7 (z:Str):xg [.str z] H Q=(z.length<=sizeLine/\Q (.int z.length) H):=rfl
def liH (o:Option O3) (H:Hp3) (Q:VK3):Prop:=match o with
 |some (.lst xs)=>∀p,H p=none->Q (.ref p) (up3 H p (.lst xs))
 |some (.rol xs)=>∀p,H p=none->Q (.ref p) (up3 H p (.lst xs))
 |_=>False
theorem G4 (a:Addr):vg [.ref a] H Q=liH (H a) H Q:=rfl
theorem Tu (xs:List T):liH (some (.lst xs)) H Q=∀p,H p=none->Q (.ref p) (up3 H p (.lst xs)):=rfl
theorem G5 (xs:List T):vg [.tup xs] H Q=∀p,H p=none->Q (.ref p) (up3 H p (.lst xs)):=rfl
def tpH (o:Option O3) (H:Hp3) (Q:VK3):Prop:=match o with
 |some (.lst xs)=>Q (.tup xs) H
 |some (.rol xs)=>Q (.tup xs) H
 |_=>False
theorem N8 (a:Addr):qD [.ref a] H Q=tpH (H a) H Q:=rfl
theorem Tv (xs:List T):tpH (some (.lst xs)) H Q=Q (.tup xs) H:=rfl
theorem Oa (xs:List T):qD [.tup xs] H Q=Q (.tup xs) H:=rfl
theorem Ob (i:Int):Bw [.int i] H Q=Q (.int i) H:=rfl
theorem Oc (b:Bool):Bw [.bl b] H Q=Q (.int (if b then 1 else 0)) H:=rfl
def smH (o:Option O3) (H:Hp3) (Q:VK3):Prop:=match o with
 |some (.lst xs)=>oq (ints3 xs) fun ns=>Q (.int ns.sum) H
 |some (.rol xs)=>oq (ints3 xs) fun ns=>Q (.int ns.sum) H
 |_=>False
theorem Od (a:Addr):JX [.ref a] H Q=smH (H a) H Q:=rfl
theorem Tw (xs:List T):smH (some (.lst xs)) H Q=oq (ints3 xs) fun ns=>Q (.int ns.sum) H:=rfl
theorem Tz (a:String) (z:Str):ty3 a (.str z) H=(a="str"):=rfl
def tyH (o:Option O3):Prop:=match o with
 |some (.lst _)=>True
 |some (.rol _)=>True
 |_=>False
theorem TF (b:String) (a:Addr):ty3 b (.ref a) H=(b="list"/\tyH (H a)):=rfl
theorem TJ (xs:List T):tyH (some (.lst xs))=True:=rfl
def apH (o:Option O3) (a:Addr) (t:T) (H:Hp3) (Q:VK3):Prop:=match o with
 |some (.lst xs)=>xs.length<sizeLine/\Q .non (up3 H a (.lst (xs++[t])))
 |_=>False
theorem TQ (a:Addr) (t:T):J0 (.ref a) [t] H Q=apH (H a) a t H Q:=rfl
theorem J8 (xs:List T) (a:Addr) (t:T):apH (some (.lst xs)) a t H Q=(xs.length<sizeLine/\Q .non (up3 H a (.lst (xs++[t])))):=rfl
def exH (o u:Option O3) (a:Addr) (H:Hp3) (Q:VK3):Prop:=match o,u with
 |some (.lst xs),some (.lst ys)=>xs.length+ys.length<=sizeLine/\Q .non (up3 H a (.lst (xs++ys)))
 |_,_=>False
theorem TV (a b:Addr):J1 (.ref a) [.ref b] H Q=exH (H a) (H b) a H Q:=rfl
theorem J9 (xs b:List T) (a:Addr):exH (some (.lst xs)) (some (.lst b)) a H Q=(xs.length+b.length<=sizeLine/\Q .non (up3 H a (.lst (xs++b)))):=rfl
def poH (o:Option O3) (a:Addr) (i:Int) (H:Hp3) (Q:VK3):Prop:=match o with
 |some (.lst xs)=>oq (ixN xs.length i) fun j=>oq (xs[j]?) fun t=>Q t (up3 H a (.lst (xs.eraseIdx j)))
 |_=>False
theorem TX (a:Addr) (i:Int):xj (.ref a) [.int i] H Q=poH (H a) a i H Q:=rfl
theorem TY (xs:List T) (a:Addr) (i:Int):poH (some (.lst xs)) a i H Q=oq (ixN xs.length i) fun j=>oq (xs[j]?) fun t=>Q t (up3 H a (.lst (xs.eraseIdx j))):=rfl
def idH (o:List Nat) (H:Hp3) (Q:VK3):Prop:=match o with
 |i::_=>Q (.int i) H
 |[]=>False
theorem G6 (z y:Str):xm (.str z) [.str y] H Q=idH (Builtin.Str.occurrences z y 0 z.length 1) H Q:=rfl
theorem T3 (i:Nat) (r:List Nat):idH (i::r) H Q=Q (.int i) H:=rfl
def rgq (vs:List T) (H:Hp3) (R:List T->(Hp3->Prop)->Hp3->Prop):Prop:=match vs with
 |[.int j]=>-(2^62)<=j/\j<2^62/\R (dC 0 j.toNat) cP H
 |[.int i,.int j]=>(-(2^62)<=i/\i<2^62 /\ -(2^62)<=j/\j<2^62)/\R (dC i (j - i).toNat) cP H
 |_=>False
theorem T4 (a:TA3) (R:List T->(Hp3->Prop)->Hp3->Prop):Bm a σ H R=a σ H fun vs b=>rgq vs b R:=rfl
theorem T5 (j:Int) (R:List T->(Hp3->Prop)->Hp3->Prop):rgq [.int j] H R=(-(2^62)<=j/\j<2^62/\R (dC 0 j.toNat) cP H):=rfl
theorem T6 (i j:Int) (R:List T->(Hp3->Prop)->Hp3->Prop):rgq [.int i,.int j] H R=((-(2^62)<=i/\i<2^62 /\ -(2^62)<=j/\j<2^62)/\R (dC i (j - i).toNat) cP H):=rfl
def tuq (x:T) (H:Hp3) (R:List T->(Hp3->Prop)->Hp3->Prop):Prop:=match x with
 |.tup ts=>R ts cP H
 |_=>False
theorem Oe (a:TE3) (R:List T->(Hp3->Prop)->Hp3->Prop):JS a σ H R=a σ H fun x b=>tuq x b R:=rfl
theorem T7 (ts:List T) (R:List T->(Hp3->Prop)->Hp3->Prop):tuq (.tup ts) H R=R ts cP H:=rfl
def liq (x:T) (H:Hp3) (R:List T->(Hp3->Prop)->Hp3->Prop):Prop:=match x with
 |.ref a=>match H a with
  |some (.lst ts)=>R ts (cF a ts) H
  |some (.rol ts)=>R ts (cF a ts) H
  |_=>False
 |_=>False
def liO (o:Option O3) (a:Addr) (H:Hp3) (R:List T->(Hp3->Prop)->Hp3->Prop):Prop:=match o with
 |some (.lst ts)=>R ts (cF a ts) H
 |some (.rol ts)=>R ts (cF a ts) H
 |_=>False
theorem G7 (a:TE3) (R:List T->(Hp3->Prop)->Hp3->Prop):Bj a σ H R=a σ H fun x b=>liq x b R:=rfl
theorem BP (a:Addr) (R:List T->(Hp3->Prop)->Hp3->Prop):liq (.ref a) H R=liO (H a) a H R:=rfl
theorem pB (ts:List T) (a:Addr) (R:List T->(Hp3->Prop)->Hp3->Prop):liO (some (.lst ts)) a H R=R ts (cF a ts) H:=rfl
theorem Og (Q:St3->Hp3->Prop):wR [] σ H Q=Q σ H:=rfl
theorem G8 (t:TG3) (u:nW) (x:T) (r:List T) (Q:St3->Hp3->Prop):jl t u (x::r) σ H Q=t x σ H fun a H'=>u r a H' Q:=rfl
theorem Oh (n:Nat) (g:nW) (ts:List T) (Q:St3->Hp3->Prop):wU n g (.tup ts) σ H Q=(ts.length=n/\g ts σ H Q):=rfl
end
theorem qG {n j:Nat}(h:j<n):ixN n (j:Int)=some j:=by
 unfold ixN;rw[if_pos (Yh j),if_pos (by omega),Zq]
theorem at0 {b:Type}(a:b) (r:List b):atI (a::r) 0=some a:=bN (j:=0) rfl
theorem at1 {c:Type}(a b:c) (r:List c):atI (a::b::r) 1=some b:=bN (j:=1) rfl
theorem at2 {d:Type}(a b c:d) (r:List d):atI (a::b::c::r) 2=some c:=bN (j:=2) rfl
theorem tG {c:Type}(xs:List c) (i:Int) (b:0<=i) (d:i<xs.length):∃z,z∈xs/\atI xs i=some z:=by
 obtain⟨j,rfl⟩:=Int.eq_ofNat_of_zero_le b;have a:j<xs.length:=by omega
 exact⟨xs[j],Xx a,bN (e_ a)⟩
theorem mC {a b:Type}(f:a->b) (xs:List a) (i:Int):atI (xs.map f) i=(atI xs i).map f:=by
 unfold atI;rw[b_];cases ixN xs.length i with
 |none=>rfl
 |some j=>simp
theorem lg {g:TG3}{c:TS3}{D:Ends3}{still:Hp3->Prop}{ts:List T}{a:St3}{H:Hp3}(I:List T->St3->Hp3->Prop) (d:I ts a H) (e:∀a H,I [] a H->still H/\D.nx a H)
  (i:∀t r a H (N:St3->Hp3->Prop),I (t::r) a H->(∀b H',I r b H'->N b H')->still H/\g t a H fun σ2 H2=>c { D with nx:=N,ct:=N,bk:=D.nx} σ2 H2):iter3 g c D still ts a H:=by
 induction ts generalizing a H with
 |nil=>exact e a H d
 |cons t r f=>exact i t r a H (iter3 g c D still r) d fun b H' h=>f h
theorem iD {g:TG3}{tt:TT3}{te:TE3}{still:Hp3->Prop}{e:List T->Hp3->Prop}{ts a:List T}{c:St3}{H:Hp3}(I:List T->List T->St3->Hp3->Prop) (i:I ts a c H) (j:∀a c H,I [] a c H->still H/\a.length<=sizeLine/\e a H)
  (l:∀t r a c H (N:List T->St3->Hp3->Prop),I (t::r) a c H->(∀d f H',I r d f H'->N d f H') ->
   still H/\g t c H fun σ2 H2=>tt σ2 H2 fun b H3=>if b=true then te σ2 H3 fun y H4=>a.length<sizeLine/\N (a++[y]) σ2 H4 else N a σ2 H3):cIter3 g tt te still e ts a c H:=by
 induction ts generalizing c H a with
 |nil=>exact j a c H i
 |cons t r k=>exact l t r a c H (cIter3 g tt te still e r) i fun d f H' h=>k h
theorem sx0 (n:Nat):HT.sIx n 0 none=0:=rfl
theorem BR {ts:List T}{k:Nat}:fH ts none (some (k:Int))=ts.take k:=by
 unfold fH;rw[sx0,HT.sIx_nat,aac,Nat.sub_zero];by_cases h:k<=ts.length
 ·rw[Nat.min_eq_left h]
 rw[Nat.min_eq_right (by omega),List.take_length,Xk (by omega)]
theorem BV {ts:List T}{k:Nat}:fH ts (some (k:Int)) none=ts.drop k:=by
 unfold fH;rw[HT.sIx_none,HT.sIx_nat];by_cases h:k<=ts.length
 ·rw[Nat.min_eq_left h,Xk (by simp)]
 rw[Nat.min_eq_right (by omega),XJ (j_ _),XJ (by omega),List.take_nil]
theorem cA {H:Hp3}{a b:Addr}{o:O3}(h:up3 H a o b=none):b≠a/\H b=none:=by
 by_cases e:b=a
 ·subst e;rw[au] at h;cases h
 rw[aD e] at h;exact⟨e,h⟩
theorem BW {H:Hp3}{a b:Addr}{o u:O3}(h:a≠b):up3 (up3 H a o) b u=up3 (up3 H b u) a o:=by
 funext c;by_cases e:c=b
 ·subst e;rw[au,aD (Ne.symm h),au]
 rw[aD e];by_cases d:c=a
 ·subst d;rw[au,au]
 rw[aD d,aD d,aD e]
theorem cL {n:Type}(d f:n->T) (g:List n) (rest:St3) {te:TE3}{still:Hp3->Prop}{j:List T->Hp3->Prop}{v:Option T}{H:Hp3}(h:still H) (p:g.length<=sizeLine)
  (q:∀a∈g,∀Q:VK3,Q (f a) H->te (some (d a)::rest) H Q) (l:j (g.map f) H):cIter3 (fB 0) wW te still j (g.map d) [] (v::rest) H:=by
 refine iD (fun r o m H'=>∃(e k:List n) (v:Option T),m=v::rest/\r=e.map d/\o=k.map f/\k++e=g/\H'=H) ⟨g,[],v,rfl,rfl,rfl,rfl,rfl⟩ ?_ ?_
 ·rintro o m H' ⟨e,k,v,rfl,c,rfl,b,rfl⟩;have i:e=[]:=YG.mp c.symm;subst i;rw[J_] at b;subst b;exact⟨h,by rw[b_];exact p,l⟩
 rintro x r o m H' N ⟨e,k,v,rfl,c,rfl,b,rfl⟩ s;cases e with
 |nil=>cases c
 |cons t e =>
 injection c with e1 e2;subst e1 e2;refine⟨h,?_⟩;show te (some (d t)::rest) H' _;refine q t (by rw[<- b];simp) _ ⟨?_,s _ _ _ ⟨e,k++[t],_,rfl,rfl,by simp,by rw[<- b];simp,rfl⟩⟩;have:=O_ List.length b;simp only[a_,d_] at this;rw[b_];omega
section
variable {X:Cx}
end
def G9:T->Option Key
 |.int i=>some (.inl i)
 |.str x=>some (.inr x)
 |_=>none
def BX:List T->Option (List Key)
 |[]=>some []
 |t::r=>match G9 t,BX r with
  |some k,some ks=>some (k::ks)
  |_,_=>none
def Ka (k:List Key):List (List Key × T)->Option T
 |[]=>none
 | (k',v)::r=>if k'=k then some v else Ka k r
def Ww (k:List Key) (v:T) (kvs:List (List Key × T)):List (List Key × T) :=
 if (kvs.any fun a=>decide (a.1=k))=true then kvs.map (fun a=>if a.1=k then (a.1,v) else a) else kvs++[(k,v)]
def Wx (o:Option O3) (ts:List T) (H:Hp3) (Q:VK3):Prop:=match o with
 |some (.dcp kvs)=>oq (BX ts) fun ks=>oq (Ka ks kvs) fun t=>Q t H
 |_=>False
def dgP (x:T) (ts:List T) (H:Hp3) (Q:VK3):Prop:=match x with
 |.ref a=>Wx (H a) ts H Q
 |_=>False
def Ha (e:TE3) (d:TA3):TE3:=fun a H Q=>e a H fun x c=>d a c fun ts b=>ts.length<=sizeLine/\dgP x ts b Q
def Wy (o:Option O3) (a:Addr) (ts:List T) (v:T) (H:Hp3) (Q:Hp3->Prop):Prop:=match o with
 |some (.dcp kvs)=>oq (BX ts) fun ks=>kvs.length<sizeLine/\Q (up3 H a (.dcp (Ww ks v kvs)))
 |_=>False
def dpP (x:T) (ts:List T) (v:T) (H:Hp3) (Q:Hp3->Prop):Prop:=match x with
 |.ref a=>Wy (H a) a ts v H Q
 |_=>False
def Hb (g:TE3) (f:TA3) (c:TE3):TS3:=fun D a H=>c a H fun v e=>g a e fun x b=>f a b fun ts H3=>ts.length<=sizeLine/\dpP x ts v H3 fun d=>D.nx a d
section
variable {H:Hp3}{Q:VK3}{σ:St3}
variable {X:Cx}{o i k value:Expr}{es:List Expr}{td ti tk tv:TE3}{ta:TA3}{pos pos' p2:Pos}{x1:Nat}
def BZ:TE3:=fun _ H Q=>∀p,H p=none->Q (.ref p) (up3 H p (.dct []))
def Hc:TE3:=fun _ H Q=>∀p,H p=none->Q (.ref p) (up3 H p (.dcp []))
theorem SimH.newD {K:Frag}{H:Hp}{H3:Hp3}{p:Addr}(s:SimH K H3 H) (c:H p=none):SimH K (up3 H3 p (.dct [])) (upd H p (.dK [])):=fun a o e=>by
 by_cases b:a=p
 ·subst b;rw[au] at e;cases e;exact⟨[],bT,.nil⟩
 rw[aD b] at e;exact s.new c a o e
theorem xq:PE3 X (.Dict [] [] pos) BZ:=by
 refine PE.imp rW ?_;rintro d H Q ⟨c,H3,Q3,e,b,h,k⟩ p a;exact k _ _ _ _ (aN a) (b.newD a) .ofRef (h p (b.fresh a))
def d1q (y:T) (p:Addr) (v:T) (H:Hp3) (Q:VK3):Prop:=match y with
 |.str k=>H p=some (.dct [])/\Q (.ref p) (up3 H p (.dct [(k,v)]))
 |_=>False
def Ca (tk d:TE3):TE3:=fun a H Q=>∀p,H p=none->tk a (up3 H p (.dct [])) fun y b=>d a b fun v c=>d1q y p v c Q
theorem T8 (x:Str) (p:Addr) (v:T) {H:Hp3}{Q:VK3}:d1q (.str x) p v H Q=(H p=some (.dct [])/\Q (.ref p) (up3 H p (.dct [(x,v)]))):=rfl
theorem Cd {v:Expr}(x:PE3 X k tk) (C:PE3 X v tv):PE3 X (.Dict [some k] [v] pos) (Ca tk tv):=by
 refine PE.imp (wJ (rY x C wI) rfl rfl (by simp) (by show 1<=15;decide)) ?_;rintro E H Q ⟨d,H3,Q3,o,s,h,k⟩ p m;have b:TupLe X.K H (upd H p (.dK [])):=aN m;refine⟨d,up3 H3 p (.dct []),_,o.mono b,s.newD m,h p (s.fresh m),fun y D w l f n u A=>?_⟩;refine⟨d,l,_,o.mono (b.trans f),n,A,fun z F t c i g B q=>?_⟩;cases w with
 |str a =>
  have h':c p=some (.dct [])/\Q3 (.ref p) (up3 c p (.dct [(a,t)])):=q
  obtain⟨ws,j,r⟩:=g p _ h'.1
  cases r
  refine⟨j,[(Sum.inr a,z)],by rw[(u.mono i).str];rfl,by show 1<=15;decide,?_⟩
  have e:jh [] [((Sum.inr a:Key),z)]=[((Sum.inr a:Key),z)]:=rfl
  rw[e]
  exact k _ _ _ _ (b.trans (f.trans (i.trans (bH (by rw[j];exact trivial))))) (g.wrD j (.cons ⟨rfl,B⟩ .nil)) .ofRef h'.2
 |_=>exact q.elim
def diH (neg:Bool) (y:T) (o:Option O3) (H:Hp3) (Q:VK3):Prop:=match y,o with
 |.str k,some (.dct kvs)=>Q (.bl (if neg then !(aO k kvs).isSome else (aO k kvs).isSome)) H
 |_,_=>False
def diq (neg:Bool) (y x:T) (H:Hp3) (Q:VK3):Prop:=match x with
 |.ref a=>diH neg y (H a) H Q
 |_=>False
def Ce (neg:Bool) (c e:TE3):TE3:=fun a H Q=>c a H fun y d=>e a d fun x b=>diq neg y x b Q
theorem T9 (neg:Bool) (y:T) (a:Addr) {H:Hp3}{Q:VK3}:diq neg y (.ref a) H Q=diH neg y (H a) H Q:=rfl
theorem Ua (neg:Bool) (k:Str) (kvs:List (Str × T)) {H:Hp3}{Q:VK3}:diH neg (.str k) (some (.dct kvs)) H Q=Q (.bl (if neg then !(aO k kvs).isSome else (aO k kvs).isSome)) H:=rfl
theorem pC {K:Frag}{H:Hp}{k:Str}:∀{kvs:List (Str × T)}{vs:List (Key × V)},RepD K H kvs vs->(iw vs (Sum.inr k:Key)).isSome=(aO k kvs).isSome
 |[],_,.nil=>rfl
 | (k',t')::r,_,.cons (b:=(kk,v')) ⟨e1,rv⟩ rr=>by
  simp only at e1 rv
  subst e1
  unfold aO
  by_cases a:k'=k
  ·
   rw[if_pos a,eZ (by rw[a])];rfl
  ·
   rw[if_neg a,fc (by intro z;exact a (Sum.inr.inj z))]
   exact pC rr
theorem xu {neg:Bool}{H:Hp}{H3:Hp3}{x y:V}{d c:T}{Q3:VK3}(h:SimH X.K H3 H) (i:Rep X.K H d x) (l:Rep X.K H c y) (q:diq neg c d H3 Q3) :
  ∃a f b,x=.ref a/\DGet H a y f/\(if neg then !f.isSome else f.isSome)=b/\Q3 (.bl b) H3:=by
 cases d with
 |ref a =>
  have h':diH neg c (H3 a) H3 Q3:=q
  cases c with
  |str k =>
   cases e:H3 a with
   |none=>rw[e] at h';exact h'.elim
   |some j =>
    rw[e] at h'
    cases j with
    |dct kvs =>
     obtain⟨ws,g,r⟩:=h a _ e
     refine⟨a,iw ws (Sum.inr k:Key),_,i.ref,by rw[l.str];exact DGet.k (k:=Sum.inr k) g,rfl,?_⟩
     rw[pC r]
     exact h'
    |_=>exact h'.elim
  |_=>exact h'.elim
 |_=>exact q.elim
theorem qH (r:X.A.units+1<cLine) (w:PE3 X i ti) (E:PE3 X o td) (u:behindInMarks .In o=false:=by rfl):PT3 X (.Compare i [.In] [o] pos) (jk (Ce false ti td)):=by
 refine PT.imp (pY (M9 r w E) u) ?_;rintro J H Q ⟨c,H3,Q3,n,C,h,k⟩;refine⟨c,H3,_,n,C,h,fun y G F l d m t B=>⟨c,l,_,n.mono d,m,B,fun x K I s j f D z=>?_⟩⟩;obtain⟨a,p,b,e,g,v,q⟩:=xu f D (t.mono j) z;exact⟨a,p,e,g,b,by rw[show p.isSome=b from v],k _ _ _ (d.trans j) f q⟩
theorem pF (r:X.A.units+1<cLine) (w:PE3 X i ti) (E:PE3 X o td) (u:behindInMarks .NotIn o=false:=by rfl):PT3 X (.Compare i [.NotIn] [o] pos) (jk (Ce true ti td)):=by
 refine PT.imp (pY (oX r w E) u) ?_;rintro J H Q ⟨c,H3,Q3,n,C,h,k⟩;refine⟨c,H3,_,n,C,h,fun y G F l d m t B=>⟨c,l,_,n.mono d,m,B,fun x K I s j f D z=>?_⟩⟩;obtain⟨a,p,b,e,g,v,q⟩:=xu f D (t.mono j) z;exact⟨a,p,e,g,b,by rw[show (!p.isSome)=b from v],k _ _ _ (d.trans j) f q⟩
end
def zB (x:T) (H:Hp3) (R:List T->(Hp3->Prop)->Hp3->Prop):Prop:=match x with
 |.tup ts=>R ts cP H
 |.ref a=>liO (H a) a H R
 |_=>False
theorem Oi (ts:List T) {H:Hp3}{R:List T->(Hp3->Prop)->Hp3->Prop}:zB (.tup ts) H R=R ts cP H:=rfl
theorem Oj (a:Addr) {H:Hp3}{R:List T->(Hp3->Prop)->Hp3->Prop}:zB (.ref a) H R=liO (H a) a H R:=rfl
def Cg (i:Nat):TI3:=fun a H R=>vq (a[i]?) fun x=>zB x H R
theorem Hd (i:Nat) {a:St3}{H:Hp3}{R:List T->(Hp3->Prop)->Hp3->Prop}:Cg i a H R=vq (a[i]?) fun x=>zB x H R:=rfl
theorem Hf {X:Cx}{r:Expr}(i:Nat) {x:Str}{f:Pos}(j:X.N[i]?=some x:=by rfl) (m:Vis X.env.scope x:=by first | exact Or.inl rfl | exact Or.inr (Or.inl rfl) | exact Or.inr (Or.inr rfl)) (p:(x==("__debug__":Str))=false:=by decide)
  (d:(x==("__classdict__":Str))=false:=by decide):PI3 X r (.Name x f) (Cg i):=by
 intro c s l H R I q;obtain⟨b,H3,R3,n,g,h,k⟩:=q;have h':vq (b[i]?) fun x=>zB x H3 R3:=h;cases e:b[i]? with
 |none=>rw[e] at h';exact h'.elim
 |some o =>
 cases o with
 |none=>rw[e] at h';exact h'.elim
 |some t =>
 rw[e] at h';cases t with
 |tup ts=>exact cG (v3 i j m p d) c s l H R I ⟨b,H3,R3,n,g,by show sG i b H3 _;rw[BJ,e];exact h',k⟩
 |ref a=>exact cz (v3 i j m p d) c s l H R I ⟨b,H3,R3,n,g,by show sG i b H3 _;rw[BJ,e];exact h',k⟩
 |_=>exact h'.elim
theorem aW {f:Type}(b:f->T) (xs:List f) {g:TG3}{d:TS3}{D:Ends3}{still:Hp3->Prop}{a:St3}{H:Hp3}(I:List f->St3->Hp3->Prop) (j:I [] a H) (i:∀a H,I xs a H->still H/\D.nx a H)
  (l:∀A x B a H (N:St3->Hp3->Prop),xs=A++x::B->I A a H->(∀c H',I (A++[x]) c H'->N c H')->still H/\g (b x) a H fun σ2 H2=>d { D with nx:=N,ct:=N,bk:=D.nx} σ2 H2):iter3 g d D still (xs.map b) a H:=by
 have:∀(B A:List f) (a:St3) (H:Hp3),xs=A++B->I A a H->iter3 g d D still (B.map b) a H:=by
  intro B;induction B with
  |nil=>intro A a H e h;rw[J_] at e;subst e;exact i a H h
  |cons x B k =>
  intro A a H e h;exact l A x B a H (iter3 g d D still (B.map b)) e h fun c H' h'=>k (A++[x]) c H' (by rw[e];simp) h'
 exact this xs [] a H rfl j
theorem dW {k:Type}(f:k->T) (xs:List k) {g:TG3}{tt:TT3}{te:TE3}{still:Hp3->Prop}{i:List T->Hp3->Prop}{a:St3}{H:Hp3}(I:List k->List T->St3->Hp3->Prop) (n:I [] [] a H) (l:∀c a H,I xs c a H->still H/\c.length<=sizeLine/\i c H)
  (o:∀A x B c a H (N:List T->St3->Hp3->Prop),xs=A++x::B->I A c a H->(∀d j H',I (A++[x]) d j H'->N d j H') ->
   still H/\g (f x) a H fun σ2 H2=>tt σ2 H2 fun b H3=>if b=true then te σ2 H3 fun y H4=>c.length<sizeLine/\N (c++[y]) σ2 H4 else N c σ2 H3):cIter3 g tt te still i (xs.map f) [] a H:=by
 have:∀(B A:List k) (c:List T) (a:St3) (H:Hp3),xs=A++B->I A c a H->cIter3 g tt te still i (B.map f) c a H:=by
  intro B;induction B with
  |nil=>intro A c a H e h;rw[J_] at e;subst e;exact l c a H h
  |cons x B m =>
  intro A c a H e h;exact o A x B c a H (cIter3 g tt te still i (B.map f)) e h fun d j H' h'=>m (A++[x]) d j H' (by rw[e];simp) h'
 exact this xs [] [] a H rfl n
section
variable {prog:Program}{w:World}{A:Around}{E:Value->Shared->Prop}{s:Shared}
variable {X:Cx}{e:Expr}{te:TE}{p1 p2 pos pos':Pos}
variable {z ti to i1 i2:Addr}{f1 f2:List Addr}
variable {n1 n2 k:Nat}{P1 P2:Nat->Value->Prop}{S1 S2:Nat->Heap->Prop}
variable {pins:List (Addr × Obj)}{σ:L2.St}{H:Hp}{h':Heap}
theorem lq {ch:List Addr}{t':Nat}(I:Inv X pins σ H s) (k:∀b o,b∉ch->s.heap.get? b=some o->h'.get? b=some o) (f:∀b∈ch,nQ X pins H b):Inv X pins σ H { s with heap:=h',toks:=t'}:=by
 have d:∀b u,H b=some u->b∉ch:=fun b u e z=>by rw[(f b z).1] at e;cases e
 refine I.step (g':=s.gens) (d':=s.drawn) (ch:=ch) (fun b p=>?_) (fun b o _ _ a e _=>k b o a e) (fun b o _ _ a e _=>⟨o.slots,k b o a e⟩) (fun _ _ _ _ n=>n)
  (fun b o a e=>⟨o,k b o a e⟩) (fun _ _ e=>e) (fun _ _ _ e=>e) (fun b ps e=>⟨#[],by rw[e];simp⟩) (fun m i=>?_) (fun b u e=>?_) I.bare
 ·obtain⟨_,g,_,w,h,l⟩:=f b p;exact⟨w,g,h,l⟩
 ·obtain⟨o,j,ep,t,r⟩:=i;exact⟨o,j,ep,k _ o (fun z=>(f _ z).2.1 rfl) t,r⟩
 refine (I.hok b u e).stay (fun c v a q=>k c v ?_ q) (fun _ q=>q) fun _ _ q=>q;rcases a with z | z
 ·rw[z];exact d b u e
 exact d c _ z
variable {elts:List Expr}{x1:Nat}{tpos p:Pos}{ea eb:Expr}
end
theorem tH {p:Type}(m l f:p->T) (e:List p) (rest:St3) {te:TE3}{still:Hp3->Prop}{h:List T->Hp3->Prop}{v u:Option T}{H:Hp3}(j:still H) (q:e.length<=sizeLine)
  (s:∀a∈e,∀Q:VK3,Q (f a) H->te (some (m a)::some (l a)::rest) H Q) (k:h (e.map f) H) :
  cIter3 (wU 2 (jl (fB 0) (jl (fB 1) wR))) wW te still h (e.map fun a=>.tup [m a,l a]) [] (v::u::rest) H:=by
 refine iD (fun r n o H'=>∃(d i:List p) (v u:Option T),o=v::u::rest/\r=d.map (fun a=>.tup [m a,l a])/\n=i.map f/\i++d=e/\H'=H) ⟨e,[],v,u,rfl,rfl,rfl,rfl,rfl⟩ ?_ ?_
 ·rintro n o H' ⟨d,i,v,u,rfl,c,rfl,b,rfl⟩;have g:d=[]:=YG.mp c.symm;subst g;rw[J_] at b;subst b;exact⟨j,by rw[b_];exact q,k⟩
 rintro x r n o H' N ⟨d,i,v,u,rfl,c,rfl,b,rfl⟩ w;cases d with
 |nil=>cases c
 |cons t d =>
 injection c with a1 a2;subst a1 a2;refine⟨j,rfl,?_⟩;show te (some (m t)::some (l t)::rest) H' _;refine s t (by rw[<- b];simp) _ ⟨?_,w _ _ _ ⟨d,i++[t],_,_,rfl,rfl,by simp,by rw[<- b];simp,rfl⟩⟩;have:=O_ List.length b;simp only[a_,d_] at this;rw[b_];omega
section
variable {H:Hp3}{Q:VK3}
theorem xx {b:Type} [DecidableEq b] (a:b):decide (a=a)=true:=q_ rfl
end
open L2 PySem.Builtin PySem.Builtin.Str
section
variable {prog:Program}{w:World}{A:Around}{E:Value->Shared->Prop}{s:Shared}{x y:Str}{t u:Tok}{Q:Value->Shared->Prop}
variable {X:Cx}
end
theorem Hg {prog:Program}{w:World}{A:Around}(g:A.handled=none) (it t:Addr) (c:t≠it) (a:Array Value) (k:Nat) (b:a[k]?=none) :
  Draws prog w A it [it,t] k (fun _ _=>True) (fun i h=>i=k/\h.IsListIter it t i/\h.IsList t a) where
 live:=fun _ _ st=>let ⟨o,ho,_⟩:=st.2.1;⟨o,ho⟩
 frame:=fun _ _ _ st b=>⟨st.1,st.2.1.at fun o e=>b it (by simp) o e,st.2.2.at fun o e=>b t (by simp) o e⟩
 item:=fun i s Q E d st j=>absurd st.1 (Xj d)
 done:=fun s Q E st f=>wpAny_nextOf_list_end g st.2.1 st.2.2 b f
section
variable {X:Cx}{elts:List Expr}{x1 j:Nat}{tpos pos p cp kp:Pos}{e:Expr}
theorem qI:bootBuiltins "enumerate"=some (.type "enumerate"):=by decide +kernel
variable {tg l:Expr}
variable {prog:Program}{w:World}{A:Around}{E:Value->Shared->Prop}{s:Shared}
variable {te:TE}{p1 p2 pos':Pos}
variable {pins:List (Addr × Obj)}{σ:L2.St}{H:Hp}
variable {a:Expr}{ta:TE3}
def ngq (x:T) (H:Hp3) (Q:VK3):Prop:=match x with
 |.int i=>Q (.int (-i)) H
 |_=>False
def Kc (b:TE3):TE3:=fun c H Q=>b c H fun x a=>ngq x a Q
theorem Ub (a:TE3) {b:St3}{H:Hp3}{Q:VK3}:Kc a b H Q=a b H fun x c=>ngq x c Q:=rfl
theorem Uc (i:Int) {H:Hp3}{Q:VK3}:ngq (.int i) H Q=Q (.int (-i)) H:=rfl
theorem vm (e:PE3 X a ta):PE3 X (.UnaryOp .USub a pos) (Kc ta):=by
 refine PE.imp (Rk Mx e) ?_;rintro l H Q ⟨b,H3,Q3,g,j,h,k⟩;refine⟨b,H3,_,g,j,h,fun v H' t d f c r q=>?_⟩;cases t with
 |int i=>exact⟨i,r.int,k _ _ _ _ f c .ofInt q⟩
 |_=>exact q.elim
end
def Ol (K:Frag) (a:Addr):It :=
 ⟨fun i H=>∃xs x,SqL K H a xs/\xs[i]?=some x,
  fun i H v H'=>∃p x,v=.ref p/\H p=none/\H'=upd H p (.tup [.int (i:Int),x])/\∀xs,SqL K H a xs->xs[i]?=some x,
  fun i H=>∃xs,SqL K H a xs/\xs.length<=i⟩
theorem vo {P:Program}{w:World}{K:Frag}{J:List Expr}{x1:Nat}{pos:Pos}(a it e:Addr) (l1:a<it) (l2:it<e) :
  Turn P w K (.Tuple J x1 pos) (Ol K a) [e,it] e (fun i h=>(∃f,IsEnum h e it (i:Int) f)/\h.IsListIter it a i) where
 mem:=m_
 obj:=fun i h st c d=>by
  obtain⟨⟨f,j⟩,⟨o1,R,_,d1⟩⟩:=st
  simp only[o_,Xu,Za] at d
  rcases d with rfl | rfl
  ·
   exact⟨_,j,fun v z=>by cases z⟩
  ·
   exact⟨_,R,fun v z=>by rw[d1] at z;cases z⟩
 keep:=fun i h h' st k=>by
  obtain⟨⟨f,j⟩,t⟩:=st
  exact⟨⟨f,k e (by simp) _ j⟩,t.at fun o q=>k it (by simp) o q⟩
 item:=by
  intro X V hw Q d i g s σ H E I C st U
  subst V hw Q
  obtain⟨xs,x,N,S⟩:=U
  obtain⟨l,rv,p,hz⟩:=I.list N
  obtain⟨u,hu,ru⟩:=rv.get S
  obtain⟨⟨f,j⟩,t⟩:=st
  have L:l.toArray[i]?=some u:=by simpa using hu
  have n:a≠it:=Xj l1
  have r:e≠it:=ZJ l2
  have hea:e≠a:=ZJ (ZM l1 l2)
  have hef:e∉[it,a]:=by simp [r,hea]
  have D:=Draws.list (prog:=X.prog) (w:=X.w) (A:=X.A.in1) (I.ok.hd d) it a n l.toArray
  refine wpAny_pyNext_enum_itemD (i:=i) D j ⟨t,p.isList⟩ (Array.getElem?_eq_some_iff.mp L).1 r hef fun m h' tk px ho W hT hsz kp=>?_
  have R:m=u:=Q_ (px.symm.trans L)
  subst R
  obtain⟨hs1,hs2⟩:=W
  refine⟨_,rfl,wpAny_letOwnedTupleGo_enum ho fun F y sb=>?_⟩
  have Z:∀c o,c∉[e,it]->s.heap.get? c=some o->F.get? c=some o:=fun c o B q=>(sb.2 c fun z=>B (z▸m_)).trans (kp c o (fun z=>B (z▸m_)) (fun z=>B (by simp [z])) q)
  have O:∀{c o},s.heap.get? c=some o->s.heap.objs.size≠c:=fun q=>ZJ (R_ q)
  have G:∀{c:Addr},c∈[e,it]->c≠s.heap.objs.size:=fun {c} d=>by
   simp only[o_,Xu,Za] at d
   rcases d with q | q <;> subst q
   ·
    exact Ne.symm (O j)
   ·
    obtain⟨o,q,_⟩:=t;exact Ne.symm (O q)
  have T:s.heap.objs.size≠e:=O j
  have I1:Inv X g σ (upd H s.heap.objs.size (.tup [.int (i:Int),x])) { s with heap:=s.heap.push { cls:=.type "tuple",data:=.seq #[.int (i:Int) tk,m]},toks:=tk+1} :=
   I.laid (t':=tk+1) (fun b o q=>l_ _ q) (j_ _) (show ObjOk X.prog X.w _ _ _ (.tup [.int (i:Int),x]) from ⟨by show 2<=sizeLine;decide,[.int (i:Int) tk,m],.cons ⟨tk,rfl⟩ (.cons ru .nil),Tup0.new _ _⟩)
  have I2:Inv X g σ (upd H s.heap.objs.size (.tup [.int (i:Int),x])) { s with heap:=F,toks:=tk+1}:=lq (s:={ s with heap:=s.heap.push { cls:=.type "tuple",data:=.seq #[.int (i:Int) tk,m]},toks:=tk+1}) (ch:=[e,it]) (t':=tk+1) I1 (fun c o B q=>by
   by_cases z:c=s.heap.objs.size
   ·
    subst z
    have M:(s.heap.push { cls:=.type "tuple",data:=.seq #[.int (i:Int) tk,m]}).get? s.heap.objs.size=some o:=q
    rw[V_ _ rfl] at M
    cases M
    exact (sb.2 _ T).trans hT
   ·
    have M:(s.heap.push { cls:=.type "tuple",data:=.seq #[.int (i:Int) tk,m]}).get? c=some o:=q
    rw[Heap.get?_push_ne _ _ _ z] at M
    exact Z c o B M) fun c d=>⟨by rw[aU (G d)];exact (C c d).1,(C c d).2⟩
  refine⟨.ref s.heap.objs.size,_,I2,rfl,⟨s.heap.objs.size,x,rfl,I.hok.fresh (j_ _),rfl,fun zs Y=>by rw[I.list_inj Y N];exact S⟩,⟨⟨m,?_⟩,hs1.at fun o q=>(sb.2 it (Ne.symm r)).trans q⟩,fun c d=>by rw[aU (G d)];exact (C c d).1⟩
  exact y
 done:=by
  intro X V hw Q d i g s σ H E I C st U
  subst V hw Q
  obtain⟨xs,N,S⟩:=U
  obtain⟨l,rv,p,hz⟩:=I.list N
  obtain⟨⟨f,j⟩,t⟩:=st
  have hl:=rv.length
  have n:a≠it:=Xj l1
  have D:=Hg (prog:=X.prog) (w:=X.w) (A:=X.A.in1) (I.ok.hd d) it a n l.toArray i (by simp;omega)
  exact wpAny_pyNext_enum_endD D j ⟨rfl,t,p.isList⟩ fun h' eb=>⟨rfl,lq (ch:=[e,it]) (t':=s.toks) I (fun b o nb q=>eb b o (fun z=>nb (by simp [z])) q) C⟩
 self:=fun _ _ _ _ _ st h=>wpAny_pyIter_enum st.1.choose_spec h
section
variable {X:Cx}{elts:List Expr}{x1:Nat}{tpos pos p:Pos}{e:Expr}
def Om (K:Frag) (te:TE):TI:=fun c H R=>te c H fun x b=>∃a,x=.ref a/\(∃xs,b a=some (.lst xs))/\R (Ol K a) b
theorem Ci {te:TE}(t:Gl X "enumerate") (r:X.mg "enumerate"=none) (y:PE X e te)
  (l:starEach [e] X.env=(false,eval e X.env)::starEach [] X.env:=by rfl) (i:(backTo pos (starEach [] X.env)).any (·.1)=false:=by rfl) :
  PI X (.Tuple elts x1 tpos) (.Call (.Name "enumerate" p) [e] [] pos) (Om X.K te):=by
 intro d s B H R I h;refine Yv (je I t r qI ?_ (by decide) (by decide));refine XX ?_ l i;rw[l];show wpAny _ _ (spliced ((false,eval e X.env)::backTo pos (starEach [] X.env))) _ _ s;refine YJ (thn (y d s B H _ I h) fun u b ⟨x,C,g,v,a,o,⟨xs,A⟩,q⟩=>?_);subst o;cases v;refine Zo ?_;obtain⟨G,D,n,L,m⟩:=g.hok a _ A;have w:a<b.heap.objs.size:=R_ m;refine call_enumerate_list ⟨_,m,rfl,n,rfl⟩ fun h' k E J F=>wpAny_pyIter_enum k ?_;refine⟨b.heap.objs.size+1,[b.heap.objs.size+1,b.heap.objs.size],_,_,C,rfl,g.kept (t':=b.toks) F,vo a b.heap.objs.size (b.heap.objs.size+1) w (ZK _),⟨⟨.none,k⟩,E⟩,fun c j=>?_,q⟩;have f:b.heap.objs.size<=c:=by
  simp only[o_,Xu,Za] at j;rcases j with z | z <;> subst z
  ·exact Nat.le_succ _
  exact j_ _
 exact g.fpOk f (g.hok.fresh f)
def iu (k:Int):List T->List T
 |[]=>[]
 |x::r=>.tup [.int k,x]::iu (k+1) r
theorem pG:∀(k:Int) (xs:List T) (i:Nat),(iu k xs)[i]?=xs[i]?.map fun x=>.tup [.int (k+i),x]
 |_,[],i=>by simp [iu]
 |k,x::xs,0=>by simp [iu]
 |k,x::xs,i+1=>by
  simp only[iu,Yj]
  rw[pG (k+1) xs i]
  have:k+1+(i:Int)=k+((i+1:Nat):Int):=by omega
  rw[this]
theorem pH:∀(k:Int) (xs:List T),(iu k xs).length=xs.length
 |_,[]=>rfl
 |k,x::xs=>by simp [iu,pH (k+1) xs]
def Hh (o:Option O3) (a:Addr) (H:Hp3) (R:List T->(Hp3->Prop)->Hp3->Prop):Prop:=match o with
 |some (.lst ts)=>R (iu 0 ts) (cF a ts) H
 |_=>False
def Oo (x:T) (H:Hp3) (R:List T->(Hp3->Prop)->Hp3->Prop):Prop:=match x with
 |.ref a=>Hh (H a) a H R
 |_=>False
def xF (te:TE3):TI3:=fun b H R=>te b H fun x a=>Oo x a R
theorem Cj (te:TE3) {a:St3}{H:Hp3}{R:List T->(Hp3->Prop)->Hp3->Prop}:xF te a H R=te a H fun x b=>Oo x b R:=rfl
theorem Oq (a:Addr) {H:Hp3}{R:List T->(Hp3->Prop)->Hp3->Prop}:Oo (.ref a) H R=Hh (H a) a H R:=rfl
theorem Ot (ts:List T) (a:Addr) {H:Hp3}{R:List T->(Hp3->Prop)->Hp3->Prop}:Hh (some (.lst ts)) a H R=R (iu 0 ts) (cF a ts) H:=rfl
theorem vp {K:Frag}{H:Hp}{a:Addr}{ts:List T}:lX K (Ol K a) (iu 0 ts) (cF a ts) H:=fun H' b r h st=>by
 obtain⟨xs,d,f⟩:=h.sqL st;have n:=f.length;refine⟨fun i j=>⟨xs,d,by rw[pH] at j;omega⟩,fun i t e=>?_⟩;rw[pG] at e;cases q:ts[i]? with
 |none=>rw[q] at e;cases e
 |some x =>
 rw[q] at e;cases e;obtain⟨v,g,k⟩:=f.get q;refine⟨⟨xs,v,d,g⟩,fun z m y=>?_⟩;obtain⟨p,o,rfl,c,rfl,l⟩:=y;have:=(l xs d).symm.trans g;cases this;refine⟨aN c,h.new c,?_⟩;rw[show (0:Int)+(i:Int)=(i:Int) from by omega];exact SimH.newTup (H3:=b) c (.cons .ofInt (.cons k .nil))
theorem Ck {te:TE3}(s:Gl X "enumerate") (n:X.mg "enumerate"=none) (j:PE3 X e te) (m:starEach [e] X.env=(false,eval e X.env)::starEach [] X.env:=by rfl) (g:(backTo pos (starEach [] X.env)).any (·.1)=false:=by rfl) :
  PI3 X (.Tuple elts x1 tpos) (.Call (.Name "enumerate" p) [e] [] pos) (xF te):=by
 refine PI.imp (Ci s n j m g) ?_;rintro y H R ⟨f,H3,R3,w,x,h,k⟩;refine⟨f,H3,_,w,x,h,fun v H' t c u d r q=>?_⟩;cases t with
 |ref a =>
  have b:Hh (c a) a c R3:=q
  cases i:c a with
  |none=>rw[i] at b;exact b.elim
  |some o =>
   rw[i] at b
   cases o with
   |lst ts =>
    obtain⟨xs,l,z⟩:=d a _ i
    exact⟨a,r.ref,⟨xs,l⟩,k _ _ (cF a ts) H' c u d vp b⟩
   |rol ts=>exact b.elim
   |dct ts=>exact b.elim
   |dcp ts=>exact b.elim
   |exc _ _=>exact b.elim
   |xdt _=>exact b.elim
   |dcn _ _=>exact b.elim
   |dci _=>exact b.elim
   |dif _ _=>exact b.elim
   |ins _ _=>exact b.elim
 |_=>exact q.elim
end
theorem Cm {X:Cx}:dB X (binaryOp .LShift) (rI3 FZ fun i j=>.int (i*2^j.toNat)):=sV Mu fun _ _ _=>.ofInt
section
variable {X:Cx}{elts:List Expr}{x1:Nat}{tpos pos p:Pos}{e:Expr}
def Cp:List T->Hp3->VK3->Prop:=fun ts H Q=>match ts with
 |[.int i,.int j]=>Q (.int (if j>i then j else i)) H
 |_=>False
theorem Ou (i j:Int) {H:Hp3}{Q:VK3}:Cp [.int i,.int j] H Q=Q (.int (if j>i then j else i)) H:=rfl
theorem Hi (m:X.calm=true):fX X (.builtin "max") Cp:=by
 intro a s o H xs us Q I f h;obtain⟨ts,H3,Q3,r,l,h,k⟩:=h
 match ts,h,r with
 |[.int i,.int j],h,r =>
 obtain⟨v,t,rfl,d,g⟩:=r.two';obtain⟨q,p,rfl,c,b⟩:=vals2 f;rw[d.int] at c;rw[g.int] at b;obtain⟨n,rfl⟩:=c;obtain⟨u,rfl⟩:=b;refine max_two_ints (I.ok.hd m) fun h' tk e=>?_;refine⟨.int (if j>i then j else i),H,I.kept e,?_,k _ _ _ _ .refl l .ofInt h⟩;by_cases z:j>i
 ·rw[if_pos z,if_pos z];exact⟨_,rfl⟩
 rw[if_neg z,if_neg z];exact⟨_,rfl⟩
theorem qJ:dB X (binaryOp .BitAnd) (qw fun i j=>.int (Builtin.bitAnd i j)):=mj Mw fun _ _ _=>.ofInt
theorem Ud:dB X (binaryOp .BitOr) (qw fun i j=>.int (Builtin.bitOr i j)):=mj Rm fun _ _ _=>.ofInt
theorem vz:bootBuiltins "max"=some (.builtin "max"):=by decide +kernel
end
theorem bB {N P:List Str}{h:Scope}(a:h.kind=.function:=by rfl) (b:h.isCoroutine=false:=by rfl) (c:h.isGenerator=false:=by rfl) (d:N.Nodup:=by decide +kernel) (e:N.take P.length=P:=by rfl)
 (f:∀x∈P,h.names.lookup x=some .local\/h.names.lookup x=some .cell:=by decide +kernel) (g:∀y∈h.names,y.2≠.free:=by decide +kernel):FnScope N P h:=⟨a,b,c,d,e,f,g⟩
theorem Hj {p:Prop} [Decidable p] (h:¬p):¬(decide p=true) := fun e=>h (Xa e)
theorem upa {H:Hp3}{a q:Addr}{o u:O3}(h:H a=some u) (b:H q=none):up3 H q o a=some u := by rw[aD (aZ h b)];exact h
structure Cal (P:Program) (w:World) (K:Frag) (mg:Str->Option Value) (base:Heap) (k:Nat) (x:Str) (st:Stmt) (ps:List Str) (sp:Sp3):Prop where
 ex:∃(f:Addr) (fd:FuncData),G3 K mg x st ps f fd/\j7 P w K mg base k f fd ps sp
theorem Ov {X:Cx}{k:Nat}{ps:List Str}{sp:Sp3}{st:Stmt}{x:Str}{p c:Pos}{e:Expr}{a:List Expr}{t:TA3}(D:Cal X.prog X.w X.K X.mg X.base k x st ps sp) (n:Room k X.A) (l:Gl X x)
  (j:PA3 X (e::a) t) (h:(x==("__debug__":Str))=false:=by decide) (i:starEach (e::a) X.env=(false,eval e X.env)::starEach a X.env:=by rfl) (d:(backTo c (starEach a X.env)).any (·.1)=false:=by rfl) :
  PE3 X (.Call (.Name x p) (e::a) [] c) (qu sp t):=by
 obtain⟨f,o,g,F⟩:=D.ex;exact GQ F n l g.m g.fn.kp g.b j h i d
theorem aK {X:Cx}{k j:Nat}{ps:List Str}{sp:Sp3}{st:Stmt}{x:Str}{p b:Pos}{e:Expr}{a:List Expr}{t:TA3}(D:Cal X.prog X.w X.K X.mg X.base k x st ps sp) (l:Room j X.A) (h:Gl X x) (g:PA3 X (e::a) t) (i:k<=j:=by decide) (d:(x==("__debug__":Str))=false:=by decide) (f:starEach (e::a) X.env=(false,eval e X.env)::starEach a X.env:=by rfl) (c:(backTo b (starEach a X.env)).any (·.1)=false:=by rfl):PE3 X (.Call (.Name x p) (e::a) [] b) (qu sp t):=Ov D (l.mono i) h g d f c
section
variable {X:Cx}{pins:List (Addr × Obj)}{σ:L2.St}{H:Hp}{s:Shared}
def rpH (o:Option O3) (k:Int) (H:Hp3) (Q:VK3):Prop:=match o with
 |some (.lst xs)=>(-(2^63)<=k/\k<2^63/\xs.length*k.toNat<=sizeLine)/\∀p,H p=none->Q (.ref p) (up3 H p (.lst (List.replicate k.toNat xs).flatten))
 |_=>False
def Kd:R3:=fun x y H Q=>match x,y with
 |.ref a,.int k=>rpH (H a) k H Q
 |_,_=>False
theorem Ke (a:Addr) (k:Int) (H:Hp3) (Q:VK3):Kd (.ref a) (.int k) H Q=rpH (H a) k H Q:=rfl
theorem Kf (xs:List T) (k:Int) (H:Hp3) (Q:VK3):rpH (some (.lst xs)) k H Q=((-(2^63)<=k/\k<2^63/\xs.length*k.toNat<=sizeLine)/\∀p,H p=none->Q (.ref p) (up3 H p (.lst (List.replicate k.toNat xs).flatten))):=rfl
theorem Reps.rep {K:Frag}{H:Hp}{ts:List T}{vs:List V}(r:Reps K H ts vs):∀k:Nat,Reps K H (List.replicate k ts).flatten (List.replicate k vs).flatten
 |0=>.nil
 |k+1=>by rw[Yt,Yt,Yo,Yo];exact r.append (Reps.rep r k)
theorem Ow:dB X (binaryOp .Mult) Kd:=by
 refine OpR.imp M8 ?_;rintro x y H Q ⟨g,r,H3,Q3,j,q,b,h,k⟩;cases g with
 |ref a =>
  cases r with
  |int n =>
   rw[Ke] at h;cases e:H3 a with
   |none=>rw[e] at h;exact h.elim
   |some o =>
   rw[e] at h;cases o with
   |lst xs=>rw[Kf] at h;obtain⟨vs,m,d⟩:=b a _ e;obtain⟨⟨l,i,f⟩,h'⟩:=h;refine⟨a,n,vs,j.ref,q.int,m,l,i,by rw[<- d.length];exact f,fun p c=>?_⟩;exact k _ _ _ _ (aN c) (b.newLst c (d.rep n.toNat)) .ofRef (h' p (b.fresh c))
   |_=>exact h.elim
  |_=>exact h.elim
 |_=>exact h.elim
variable {prog:Program}{w:World}{A:Around}{E:Value->Shared->Prop}
variable {tg e:Expr}{p p1 p2 pos pos':Pos}{o:Expr}{to:TE3}{name:Str}{apos cpos:Pos}{m:T->List T->Hp3->VK3->Prop}{Ty id:String}
def Kg (c:String) (m:T->List T->Hp3->VK3->Prop) (b:TE3):TE3:=fun d H Q=>b d H fun x a=>ty3 c x a/\m x [] a Q
theorem Ox (q:PlainAttrs Ty) (d:Slot Ty name id) (f:typeOf (.builtin id)=pure (.type "method_descriptor")) (p:sE X id m) (r:PE3 X o to)
  (a:attributeBase o name X.env (eval o X.env)=eval o X.env:=by rfl) (b:(apos.endLine==cpos.line)=true:=by rfl) :
  PE3 X (.Call (.Attribute o name apos) [] [] cpos) (Kg Ty m to):=by
 refine PE.imp (M5 q d f p r a b) ?_;rintro u H Q ⟨e,H3,Q3,s,t,h,k⟩;exact⟨e,H3,_,s,t,h,fun x v n i g c j l=>⟨JZ c j l.1,n,[],i,Q3,j,.nil,c,l.2,k.at g⟩⟩
def Hk:V->List V->Hp->VK->Prop:=fun x vs H Q=>∃l xs i y,x=.ref l/\vs=[.int i,y]/\H l=some (.lst xs)/\0<=i/\i<=xs.length/\xs.length<sizeLine/\Q .non (upd H l (.lst (xs.take i.toNat++y::xs.drop i.toNat)))
theorem zE:MtR X "list.insert" Hk:=by
 intro c s w H x vs v us Q I g j h;obtain⟨l,xs,i,y,rfl,rfl,d,B,p,A,q⟩:=h;cases g;obtain⟨u,f,rfl,m,b⟩:=vals2 j;obtain⟨t,rfl⟩:=m;obtain⟨z,a,n,r,o,e⟩:=I.lstM d;have hsz:sizeLine=16777216:=rfl;have k:¬(!Builtin.List.listFitsIndex i)=true:=by rw[fitsIndex_both (by omega) (by omega)];exact t_
 refine Z1 F.slot_list_insert ⟨_,e,rfl⟩ F.entry_list_insert (F.args_list_insert_3 _ _ _) (AutoSeq1.list_insert_list_int_val_1 l a.toArray n i t f k (by rw[n_];omega)) ⟨e,?_⟩;refine⟨.non,_,I.lset (its':=a.take i.toNat++f::a.drop i.toNat) d e ?_ ((r.take _).append (.cons b (r.drop _))) ?_,rfl,q⟩
 ·dsimp only;rw[if_neg (by omega),n_,Nat.min_eq_left (by omega)];apply Array.toList_inj.mp;simp;exact Xk (by simp)
 rw[a_,d_,Xc,Xe];omega
def Oz (o:Option O3) (a:Addr) (i:Int) (t:T) (H:Hp3) (Q:VK3):Prop:=match o with
 |some (.lst xs)=>(0<=i/\i<=xs.length/\xs.length<sizeLine)/\Q .non (up3 H a (.lst (xs.take i.toNat++t::xs.drop i.toNat)))
 |_=>False
def Kh:T->List T->Hp3->VK3->Prop:=fun x ts H Q=>match x,ts with
 |.ref a,[.int i,t]=>Oz (H a) a i t H Q
 |_,_=>False
theorem Kl (a:Addr) (i:Int) (t:T) (H:Hp3) (Q:VK3):Kh (.ref a) [.int i,t] H Q=Oz (H a) a i t H Q:=rfl
theorem Cq (xs:List T) (a:Addr) (i:Int) (t:T) (H:Hp3) (Q:VK3):Oz (some (.lst xs)) a i t H Q=((0<=i/\i<=xs.length/\xs.length<sizeLine)/\Q .non (up3 H a (.lst (xs.take i.toNat++t::xs.drop i.toNat)))):=rfl
theorem zF:sE X "list.insert" Kh:=by
 refine MtR.imp zE ?_;rintro x xs H Q ⟨j,ts,H3,Q3,m,q,f,h,k⟩;cases j with
 |ref a =>
  cases ts with
  |nil=>exact h.elim
  |cons d ts =>
  cases ts with
  |nil=>cases d <;> exact h.elim
  |cons w ts =>
  cases ts with
  |cons _ _=>cases d <;> exact h.elim
  |nil =>
  cases d with
  |int i =>
   rw[Kl] at h;cases e:H3 a with
   |none=>rw[e] at h;exact h.elim
   |some o =>
   rw[e] at h;cases o with
   |lst u=>rw[Cq] at h;obtain⟨t,b,r⟩:=f a _ e;obtain⟨⟨p,l,g⟩,h'⟩:=h;obtain⟨v,n,rfl,s,c⟩:=q.two';refine⟨a,t,i,n,m.ref,by rw[s.int],b,p,by rw[<- r.length];exact l,by rw[<- r.length];exact g,k _ _ _ _ (bH (by rw[b];exact trivial)) (f.wrL b ((r.take _).append (.cons c (r.drop _)))) .ofNon h'⟩
   |_=>exact h.elim
  |_=>exact h.elim
 |_=>exact h.elim
def mxH (o:Option O3) (H:Hp3) (Q:VK3):Prop:=match o with
 |some (.lst xs)=>oq (ints3 xs) fun ns=>ns≠[]/\∀M,M∈ns->(∀a∈ns,a<=M)->Q (.int M) H
 |_=>False
def Cr:List T->Hp3->VK3->Prop:=fun ts H Q=>match ts with
 |[.ref a]=>mxH (H a) H Q
 |_=>False
theorem Cu (a:Addr) (H:Hp3) (Q:VK3):Cr [.ref a] H Q=mxH (H a) H Q:=rfl
theorem Km (xs:List T) (H:Hp3) (Q:VK3):mxH (some (.lst xs)) H Q=oq (ints3 xs) fun ns=>ns≠[]/\∀M,M∈ns->(∀a∈ns,a<=M)->Q (.int M) H:=rfl
theorem xG (E:X.calm=true):fX X (.builtin "max") Cr:=by
 intro p s P H xs us Q I M h;obtain⟨ts,H3,Q3,r,y,h,k⟩:=h;cases ts with
 |nil=>exact h.elim
 |cons t ts =>
 cases ts with
 |cons _ _=>cases t <;> exact h.elim
 |nil =>
 cases t with
 |ref a =>
  rw[Cu] at h;obtain⟨v,rfl,m⟩:=r.one';obtain⟨u,rfl,z⟩:=vals1 M;rw[m.ref] at z;cases z;cases e:H3 a with
  |none=>rw[e] at h;exact h.elim
  |some o =>
  rw[e] at h;cases o with
  |lst A =>
   rw[Km] at h;obtain⟨O,B,C⟩:=y.sqL (.inl e);cases g:ints3 A with
   |none=>rw[g] at h;exact h.elim
   |some ns =>
   rw[g,gQ] at h;obtain⟨n,h⟩:=h;obtain⟨b,i,J,_⟩:=I.list B;have x:=jm g C i;have c:AllInts b.toArray:=x.allInts;obtain⟨d,q⟩:=c.items;have l:s.heap.IsList a (intItems d):=by rw[<- q];exact J.isList
   have f:=nums_intItems d;rw[<- q,show b.toArray.toList=b from rfl,x.numsOf] at f;have K:0<d.size:=by have:=O_ List.length f;simp at this;have:=List.length_pos_iff.mpr n;omega
   refine max_intList (I.ok.hd E) l K fun v h' tk L G=>?_;obtain⟨t,rfl⟩:=intItems_at L;obtain⟨N,F⟩:=argBest_gt (numAt d) (d.size - 1);refine⟨.int _,H,I.kept G,⟨t,rfl⟩,k _ _ _ _ .refl y .ofInt (h _ ?_ fun a w=>?_)⟩
   ·rw[f,numAt_eq];exact getD_mem (by rw[b_,P_];omega)
   rw[f] at w;obtain⟨j,D,rfl⟩:=mem_getD w;rw[b_,P_] at D;rw[<- numAt_eq];exact F j (by omega)
  |_=>exact h.elim
 |_=>cases h
end
theorem gD {o:Type}(i k n f:o->T) (p:o->Bool) (g:List o) (rest:St3) {tt:TT3}{te:TE3}{still:Hp3->Prop}{m:List T->Hp3->Prop}{v u w:Option T}{H:Hp3}(j:still H) (B:g.length<=sizeLine)
  (A:∀a∈g,∀Q:Bool->Hp3->Prop,Q (p a) H->tt (some (i a)::some (k a)::some (n a)::rest) H Q)
  (C:∀a∈g,p a=true->∀Q:VK3,Q (f a) H->te (some (i a)::some (k a)::some (n a)::rest) H Q) (l:m ((g.filter p).map f) H) :
  cIter3 (wU 3 (jl (fB 0) (jl (fB 1) (jl (fB 2) wR)))) tt te still m (g.map fun a=>.tup [i a,k a,n a]) [] (v::u::w::rest) H:=by
 refine iD (fun r q y H'=>∃(c e:List o) (v u w:Option T),y=v::u::w::rest/\r=c.map (fun a=>.tup [i a,k a,n a])/\q=(e.filter p).map f/\e++c=g/\H'=H) ⟨g,[],v,u,w,rfl,rfl,rfl,rfl,rfl⟩ ?_ ?_
 ·rintro q y H' ⟨c,e,v,u,w,rfl,d,rfl,b,rfl⟩;have h:c=[]:=YG.mp d.symm;subst h;rw[J_] at b;subst b;exact⟨j,by rw[b_];exact W6 (Xi _ _) B,l⟩
 rintro x r q y H' N ⟨c,e,v,u,w,rfl,d,rfl,b,rfl⟩ z;cases c with
 |nil=>cases d
 |cons t c =>
 injection d with a1 a2;subst a1 a2;refine⟨j,rfl,?_⟩;show tt (some (i t)::some (k t)::some (n t)::rest) H' _;refine A t (by rw[<- b];simp) _ ?_;cases s:p t with
 |true=>rw[if_pos rfl];refine C t (by rw[<- b];simp) s _ ⟨?_,z _ _ _ ⟨c,e++[t],_,_,_,rfl,rfl,by simp [s],by rw[<- b];simp,rfl⟩⟩;have:=O_ List.length b;simp only[a_,d_] at this;rw[b_];have:=Xi p e;omega
 |false =>
 rw[if_neg t_];exact z _ _ _ ⟨c,e++[t],_,_,_,rfl,rfl,by simp [s],by rw[<- b];simp,rfl⟩
open L2 HT
section
variable {prog:Program}{w:World}{A:Around}{E:Value->Shared->Prop}{s:Shared}
variable {X:Cx}
variable {e st:Expr}{p2 pos:Pos}
end
theorem vA {a:Array Value}{n:Nat}(h:ItemsOf (fun i v=>∃t,v=Value.int (0+(i:Int)*1) t) a n):Vals ((List.range n).map fun (i:Nat)=>V.int (i:Int)) a.toList:=by
 obtain⟨m,f⟩:=h;have c:∀(l:List Value) (k:Nat),(∀(j:Nat) (v:Value),l[j]?=some v->∃t,v=Value.int ((k:Int)+(j:Int)) t)->Vals ((List.range' k l.length).map fun (i:Nat)=>V.int (i:Int)) l:=fun l=>by
  induction l with
  |nil=>intro k _;exact .nil
  |cons v r g =>
  intro k d;rw[d_,List.range'_succ,y_];refine .cons ?_ (g (k+1) fun j u b=>?_)
  ·obtain⟨t,e⟩:=d 0 v rfl;exact⟨t,by rw[e];congr 1⟩
  obtain⟨t,e⟩:=d (j+1) u (by rw[Yj];exact b);exact⟨t,by rw[e];congr 1;omega⟩
 have:=c a.toList 0 fun j v b=>by obtain⟨t,e⟩:=f j v (by rw[<- Xv];exact b);exact⟨t,by rw[e];congr 1;omega⟩
 rw[P_,m,<- List.range_eq_range'] at this;exact this
section
variable {X:Cx}{e:Expr}{p1 p2 pos pos':Pos}
def OD (te:TE):TE:=fun b H Q=>te b H fun x a=>∃n:Nat,x=.int (n:Int)/\n<=1000/\∀l,a l=none->Q (.ref l) (upd a l (.lst ((List.range n).map fun (i:Nat)=>V.int (i:Int))))
theorem Cv {te:TE}(z:X.calm=true) (g:Gl X "list") (k:X.mg "list"=none) (j:Gl X "range") (f:X.mg "range"=none) (m:bootBuiltins "list"=some (.type "list")) (A:PE X e te)
  (v:starEach [e] X.env=(false,eval e X.env)::starEach [] X.env:=by rfl) (l:(backTo pos (starEach [] X.env)).any (·.1)=false:=by rfl) (d:(backTo pos' (starEach [] X.env)).any (·.1)=false:=by rfl) :
  PE X (.Call (.Name "list" p1) [.Call (.Name "range" p2) [e] [] pos'] [] pos) (OD te):=by
 intro c s w H Q I h;refine Yv (je I g k m ?_ (by decide) (by decide));refine XX ?_ rfl l;show wpAny _ _ (spliced ((false,eval (.Call (.Name "range" p2) [e] [] pos') X.env)::backTo pos (starEach [] X.env))) _ _ s;refine YJ ?_;refine Yv (je I j f boot_range ?_ (by decide) (by decide));refine XX ?_ v d;rw[v];show wpAny _ _ (spliced ((false,eval e X.env)::backTo pos' (starEach [] X.env))) _ _ s;refine YJ (thn (A c s w H _ I h) fun u s1 ⟨x,E,G,C,n,J,K,q⟩=>?_);subst J;obtain⟨t,rfl⟩:=C;refine Zo ?_;refine call_range_1 ?_;refine Zo ?_;have p:Inv X c w E { s1 with heap:=s1.heap.push { cls:=.type "range",data:=.fields #[.int 0 s1.toks,.int (n:Int) t,.int 1 (s1.toks+1)]},toks:=s1.toks+1+1}:=G.kept fun b o e=>l_ _ e;have hsz:Builtin.Range.rangeSize 0 (n:Int) 1=((n:Nat):Int):=by rw[rangeSize_one];split <;> omega
 refine call_list_range (p.ok.hd z) (IsRange.new ..) (small_one (by omega) (by omega) (by omega) (by omega)) hsz (by omega) fun h' tk a y D B r=>?_;have F:=vA r;refine⟨.ref _,_,p.laid (t':=tk) (o:=.lst ((List.range n).map fun (i:Nat)=>V.int (i:Int))) D (j_ _) ⟨by rw[b_,k_];show n<=16777216;omega,a.toList,y,F,?_⟩,rfl,q _ (p.hok.fresh (j_ _))⟩;rw[show a.toList.toArray=a by simp];exact B
def lrq (x:T) (H:Hp3) (Q:VK3):Prop:=match x with
 |.int i=>(0<=i/\i<=1000)/\∀p,H p=none->Q (.ref p) (up3 H p (.lst ((List.range i.toNat).map fun (k:Nat)=>T.int (k:Int))))
 |_=>False
def xH (te:TE3):TE3:=fun b H Q=>te b H fun x a=>lrq x a Q
theorem Hl (te:TE3) {a:St3}{H:Hp3}{Q:VK3}:xH te a H Q=te a H fun x b=>lrq x b Q:=rfl
theorem Ko (i:Int) {H:Hp3}{Q:VK3}:lrq (.int i) H Q=((0<=i/\i<=1000)/\∀p,H p=none->Q (.ref p) (up3 H p (.lst ((List.range i.toNat).map fun (k:Nat)=>T.int (k:Int))))):=rfl
theorem Cw {K:Frag}{H:Hp}(l:List Nat):Reps K H (l.map fun (k:Nat)=>T.int (k:Int)) (l.map fun (k:Nat)=>V.int (k:Int)):=by
 induction l with
 |nil=>exact .nil
 |cons k r a=>exact .cons .ofInt a
theorem Cy {te:TE3}(y:X.calm=true) (c:Gl X "list") (m:X.mg "list"=none) (j:Gl X "range") (g:X.mg "range"=none) (s:PE3 X e te)
  (o:starEach [e] X.env=(false,eval e X.env)::starEach [] X.env:=by rfl) (n:(backTo pos (starEach [] X.env)).any (·.1)=false:=by rfl) (a:(backTo pos' (starEach [] X.env)).any (·.1)=false:=by rfl) :
  PE3 X (.Call (.Name "list" p1) [.Call (.Name "range" p2) [e] [] pos'] [] pos) (xH te):=by
 refine PE.imp (Cv y c m j g kZ s o n a) ?_;rintro z H Q ⟨f,H3,Q3,w,x,h,k⟩;refine⟨f,H3,_,w,x,h,fun v H' t p u b r q=>?_⟩;cases t with
 |int i=>rw[Ko] at q;rw[r.int];refine⟨i.toNat,by rw[Y4 q.1.1],by omega,fun l d=>k _ _ _ _ (u.trans (aN d)) (b.newLst d (Cw _)) .ofRef (q.2 l (b.fresh d))⟩
 |_=>exact q.elim
variable {st:Expr}
def Ue (K:Frag) (te:TE) (ts:TO):TE:=fun c H Q=>te c H fun x d=>ts c d fun o b=>o=some (-1)/\∃a xs,x=.ref a/\SqL K b a xs/\∀p,b p=none->Q (.ref p) (upd b p (.lst xs.reverse))
theorem Hm {te:TE}{ts:TO}(t:PE X e te) (p:PO X (some st) ts):PE X (.Subscript e (.Slice none none (some st) p2) pos) (Ue X.K te ts):=by
 intro c s f H Q I h;refine Subscript_ (thn (t c s f H _ I h) fun v C ⟨x,n,D,m,y⟩=>?_);refine wpAny_Slice ?_;rw[evalPart_none];refine C_ (C_ (thn (p c C f n _ D y) fun vs s3 ⟨o,H3,B,ps,k,a,xs,z,E,q⟩=>?_));subst k z;cases m;have g:Inv X c f H3 { s3 with heap:=s3.heap.push { cls:=.type "slice",data:=.fields #[.none,.none,vs]}}:=B.kept (t':=s3.toks) fun b l q=>l_ _ q;obtain⟨d,r,j,u⟩:=g.list E;have i:=r.length;show wpAny (model X.prog X.w) X.A (subscriptTail e (.Slice none none (some st) p2) (.ref a) (.ref s3.heap.objs.size)) (EP X c f Q) X.xe { s3 with heap:=s3.heap.push { cls:=.type "slice",data:=.fields #[.none,.none,vs]}};refine tail_any (T:="list") (ops:=[.ref a,.ref s3.heap.objs.size]) j.isList.typeIs slot_list_getitem.lookup ?_ (by with_unfolding_all rfl);refine wpAny_getItem_list_slice j.isList (Heap.IsSliceOf.new ..) .none .none ps (by simp) ?_ (by rw[n_] <;> omega);rw[PySem.W.krv_pick];refine⟨.ref (s3.heap.push { cls:=.type "slice",data:=.fields #[.none,.none,vs]}).objs.size,_,g.laid (t':=s3.toks) (o:=.lst xs.reverse) (fun b l q=>l_ _ q) (j_ _) ?_,rfl,q _ (g.hok.fresh (j_ _))⟩;refine⟨by simpa using u,d.reverse,0,r.reverse,?_⟩;rw[show d.toArray.toList.reverse.toArray=d.reverse.toArray by simp];exact V_ _ rfl
def rvH (o:Option O3) (H:Hp3) (Q:VK3):Prop:=match o with
 |some (.lst ts)=>∀p,H p=none->Q (.ref p) (up3 H p (.lst ts.reverse))
 |_=>False
def rvq (x:T) (o:Option Int) (H:Hp3) (Q:VK3):Prop:=match x with
 |.ref a=>o=some (-1)/\rvH (H a) H Q
 |_=>False
def Cz (te:TE3) (ts:TO3):TE3:=fun a H Q=>te a H fun x b=>ts a b fun o c=>rvq x o c Q
theorem OJ (te:TE3) (ts:TO3) {a:St3}{H:Hp3}{Q:VK3}:Cz te ts a H Q=te a H fun x b=>ts a b fun o c=>rvq x o c Q:=rfl
theorem Ug (a:Addr) (o:Option Int) {H:Hp3}{Q:VK3}:rvq (.ref a) o H Q=(o=some (-1)/\rvH (H a) H Q):=rfl
theorem Uh (ts:List T) {H:Hp3}{Q:VK3}:rvH (some (.lst ts)) H Q=∀p,H p=none->Q (.ref p) (up3 H p (.lst ts.reverse)):=rfl
theorem xJ {te:TE3}{ts:TO3}(v:PE3 X e te) (u:PO3 X (some st) ts):PE3 X (.Subscript e (.Slice none none (some st) p2) pos) (Cz te ts):=by
 refine PE.imp (Hm v u) ?_;rintro C H Q ⟨d,H3,Q3,n,A,h,k⟩;refine⟨d,H3,_,n,A,h,fun x B w g f l z y=>⟨d,g,_,n.mono f,l,y,fun o D i m c b=>?_⟩⟩;cases w with
 |ref a =>
  obtain⟨s,b⟩:=b;cases e:i a with
  |none=>rw[e] at b;exact b.elim
  |some t =>
  rw[e] at b;cases t with
  |lst ts=>obtain⟨xs,q,r⟩:=c.sqL (.inl e);refine⟨s,a,xs,z.ref,q,fun p j=>k _ _ _ _ (f.trans (m.trans (aN j))) (c.newLst j r.reverse) .ofRef (b p (c.fresh j))⟩
  |rol ts=>exact b.elim
  |dct ts=>exact b.elim
  |dcp ts=>exact b.elim
  |exc _ _=>exact b.elim
  |xdt _=>exact b.elim
  |dcn _ _=>exact b.elim
  |dci _=>exact b.elim
  |dif _ _=>exact b.elim
  |ins _ _=>exact b.elim
 |_=>exact b.elim
variable {prog:Program}{w:World}{A:Around}{E:Value->Shared->Prop}{s:Shared}{l:Addr}{xs:Array (Int × Tok)}
def isN:T->Bool
 |.non=>true
 |_=>false
def Ui:R3:=fun x y H Q=>match y with
 |.non=>Q (.bl (isN x)) H
 |_=>False
theorem Wz (x:T) (H:Hp3) (Q:VK3):Ui x .non H Q=Q (.bl (isN x)) H:=rfl
theorem Hn:isN .non=true:=rfl
theorem Ho (i:Int):isN (.int i)=false:=rfl
theorem Hq (x:Str):isN (.str x)=false:=rfl
theorem Hr (ts:List T):isN (.tup ts)=false:=rfl
theorem O1 (b:Bool):isN (.bl b)=false:=rfl
theorem pI:dB X (compareOp .Is) Ui:=by
 refine OpR.imp Mz ?_;rintro x y H Q ⟨c,ty,H3,Q3,b,d,f,h,k⟩;cases ty with
 |non =>
  refine⟨d.non,?_⟩;have e:decide (x=.non)=isN c:=by
   cases c with
   |non=>rw[b.non];rfl
   |int i=>rw[b.int];rfl
   |str i=>rw[b.str];rfl
   |bl i=>rw[b.bl];rfl
   |ref a=>rw[b.ref];rfl
   |tup ts=>obtain⟨a,vs,rfl,_⟩:=b.tup;rfl
   |ty n=>rw[b.ty];rfl
  rw[e];exact k _ _ _ _ .refl f .ofBl h
 |_=>exact h.elim
end
end L3
namespace L2
section
variable {X:Cx}{a b:Expr}{rest:List Expr}{ta tb:TE}{pos:Pos}
end
end L2
namespace L3
open L2
section
variable {X:Cx}{a b:Expr}{rest:List Expr}{ta tb:TE3}{pos:Pos}
def orq (x:T) (p q:Prop):Prop:=match x with
 |.non=>p
 |.tup (_::_)=>q
 |_=>False
def Uj (d c:TE3):TE3:=fun b H Q=>d b H fun x a=>orq x (c b a Q) (Q x a)
theorem CG:dB X (binaryOp .RShift) (rI3 (fun _ j=>0<=j) fun i j=>.int (i / 2^j.toNat)):=sV Mv fun _ _ _=>.ofInt
def neR (a b:Addr) (o u:Option O3) (H:Hp3) (Q:VK3):Prop:=match o,u with
 |some (.rol xs),some (.lst ys)=>a≠b/\xs.all (pl 20)=true/\ys.all (pl 20)=true/\Q (.bl (!decide (xs=ys))) H
 |_,_=>False
def Kp:R3:=fun x y H Q=>match x,y with
 |.ref a,.ref b=>neR a b (H a) (H b) H Q
 |_,_=>False
theorem Kq (a b:Addr) (H:Hp3) (Q:VK3):Kp (.ref a) (.ref b) H Q=neR a b (H a) (H b) H Q:=rfl
theorem CJ (a b:Addr) (xs c:List T) (H:Hp3) (Q:VK3):neR a b (some (.rol xs)) (some (.lst c)) H Q=(a≠b/\xs.all (pl 20)=true/\c.all (pl 20)=true/\Q (.bl (!decide (xs=c))) H):=rfl
theorem O2 (C:X.A.units+30<cLine):dB X (compareOp .NotEq) Kp:=by
 intro n s P H x y v u Q I M N h;obtain⟨J,E,H3,Q3,L,D,i,h,k⟩:=h;cases J with
 |ref a =>
  cases E with
  |ref b =>
   rw[Kq] at h;cases g:H3 a with
   |none=>rw[g] at h;exact h.elim
   |some o =>
   cases l:H3 b with
   |none=>rw[g,l] at h;cases o <;> exact h.elim
   |some p =>
   rw[g,l] at h;cases o with
   |rol ts =>
    cases p with
    |lst us =>
     rw[CJ] at h;obtain⟨xs,K,r⟩:=i.sqL (.inr g);obtain⟨O,B,t⟩:=i b _ l;cases L.ref;cases D.ref;cases M;cases N;obtain⟨m,d,w,_⟩:=I.list (X:=X) K;obtain⟨its',c,f,_⟩:=I.list (X:=X) (.of B);have G:m.length=ts.length:=by rw[<- d.length,<- r.length]
     have F:its'.length=us.length:=by rw[<- c.length,<- t.length]
     by_cases hsz:ts.length=us.length
     ·refine SeqAt.RcNeAt.lists (e:=fun j=>decide (ts[j]?=us[j]?)) w.isList f.isList (by simp;omega) (by omega) (gB I C h.2.1 h.2.2.1 r t d c) _ _ _ _ ⟨.bl _,H,I,rfl,?_⟩;have e:=gC (ts:=ts) (us:=us);rw[<- hsz,Nat.min_self,ZP,Zj] at e;rw[n_,G,e];exact k _ _ _ _ .refl i .ofBl h.2.2.2
     refine SeqAt.RcNeAt.lists_lengths w.isList f.isList (by simp;omega) (by omega) _ _ _ _ ⟨.bl true,H,I,rfl,?_⟩;have e:decide (ts=us)=false:=p_ fun z=>hsz (by rw[z]);have q:=h.2.2.2;rw[e] at q;exact k _ _ _ _ .refl i .ofBl q
    |_=>exact h.elim
   |_=>cases p <;> exact h.elim
  |_=>exact h.elim
 |_=>exact h.elim
end
end L3
namespace L2
section
variable {prog:Program}{w:World}{K:Type} [DecidableEq K] {knd:KeyKind prog w K}
end
end L2
namespace L3
open L2
section
variable {X:Cx}
variable {pins:List (Addr × Obj)}{σ:L2.St}{H:Hp}{s:Shared}{a:Addr}
theorem Inv.freeze {kvs:List (Key × V)}(I:Inv X pins σ H s) (e:H a=some (.dK kvs)):∃o,s.heap.get? a=some o/\Inv X pins σ (upd H a (.frz o (.dK kvs))) s:=by
 have z:=I.hok a _ e;obtain⟨l,j,vs,g,o,i,ep,f,k,r⟩:=id (show ObjOk X.prog X.w H s.heap a (.dK kvs) from z);have d:∀b u,H b=some u->(∀ks,u≠.dK ks)->b≠a:=fun b u q n w=>by subst w;rw[e] at q;cases q;exact n _ rfl
 refine⟨o,f,?_⟩;have:=I.step (h':=s.heap) (g':=s.gens) (d':=s.drawn) (t':=s.toks) (H':=upd H a (.frz o (.dK kvs))) (ch:=[]) (fun _ z=>nomatch z) (fun b o _ _ _ q _=>q) (fun b o _ _ _ q _=>⟨_,q⟩)
  (fun b o _ _ n=>by rw[aU (fun w=>by subst w;rw[e] at n;cases n)];exact n) (fun b o _ q=>⟨_,q⟩)
  (fun b xs q=>by rw[aU (d b _ q fun _=>nofun)];exact q) (fun b o u q=>by rw[aU (d b _ q fun _=>nofun)];exact q)
  (fun b ps q=>⟨#[],by rw[aU (d b _ q fun _=>nofun),Array.append_empty];exact q⟩) (fun _ q=>q) (fun b u q=>?_) I.bare
 ·exact this
 by_cases h:b=a
 ·subst h;rw[bT] at q;cases q;exact⟨f,l,j,vs,g,o,i,ep,f,k,r⟩
 rw[aU h] at q;exact (I.hok b u q).stay (fun _ _ _ r=>r) (fun c r=>by rw[aU (d c _ r fun _=>nofun)];exact r) fun c xs r=>by rw[aU (d c _ r fun _=>nofun)];exact r
end
theorem Uk {P:Program}{w:World}{k:Key}{u:Value}(h:(bC P w).is k u=true):RelV (kV k) u:=by
 rcases bR h with ⟨i,t,a,b⟩ | ⟨y,t,a,b⟩
 ·subst a b;exact⟨t,rfl⟩
 subst a b;exact⟨t,rfl⟩
theorem jr {d f:Type}{F:d->f->Prop}:∀{a:List d}{c:List f}{i:Nat}{x:d},Paired F a c->a[i]?=some x->∃y,c[i]?=some y/\F x y
 |_,_,i,x,.nil,e=>by simp at e
 |_,_,0,x,.cons (b:=b) h t,e=>by simp at e;subst e;exact⟨b,rfl,h⟩
 |_,_,i+1,x,.cons h t,e=>by simpa using jr t (by simpa using e)
def Iti (d:Addr) (o:Obj):It :=
 ⟨fun i H=>∃kvs a,H d=some (.frz o (.dK kvs))/\kvs[i]?=some a,
  fun i H v H'=>∃p k x,v=.ref p/\H p=none/\H'=upd H p (.tup [kV k,x])/\∀kvs,H d=some (.frz o (.dK kvs))->kvs[i]?=some (k,x),
  fun i H=>∃kvs,H d=some (.frz o (.dK kvs))/\kvs.length<=i⟩
theorem zG:entryFor table "dict_itemiterator.__iter__"=some Builtin.«dict_keyiterator.__iter__» :=
 entryFor_alias (id':="dict_keyiterator.__iter__") (by kernel_rfl) rfl (by decide +kernel) (by kernel_rfl)
theorem CK {X:Cx}{a:List (Addr × Obj)}{m:L2.St}{H:Hp}{s:Shared}{d:Addr}{o:Obj}{kvs:List (Key × V)}{f:Array DictEntry}{ep:Nat}(I:Inv X a m H s) (e:H d=some (.frz o (.dK kvs))) (j:o.data=.dict f ep) :
  ∃vs,KV kvs vs/\s.heap.DictAt (bC X.prog X.w) d vs ep/\vs.length=f.size:=by
 obtain⟨i,_,_,vs,g,r,k,q,b,p,c,n,h,l⟩:=(show ObjOk X.prog X.w H s.heap d (.frz o (.dK kvs)) from I.hok d _ e);rw[i] at b;cases b;rw[j] at c;cases c;exact⟨vs,g,⟨o,f,i,p,j,n,h,l⟩,by rw[<- h.length];simp⟩
theorem vB {P:Program}{w:World}{K:Frag}{C:List Expr}{x1:Nat}{W:Pos}(d it:Addr) (o:Obj) (Z:Array DictEntry) (ep:Nat) (hd:o.data=.dict Z ep) :
  Turn P w K (.Tuple C x1 W) (Iti d o) [it] it (fun i h=>∃l n,IsItemIter h it d i Z.size ep l n) where
 mem:=m_
 obj:=fun i h st c e=>by
  obtain⟨l,n,g⟩:=st
  rw[g_.mp e]
  exact⟨_,g,fun v z=>by cases z⟩
 keep:=fun i h h' st k=>by
  obtain⟨l,n,g⟩:=st
  exact⟨l,n,k it (by simp) _ g⟩
 item:=by
  intro X T Y N e i j s V H E I t st R
  subst T Y N
  obtain⟨kvs,⟨k,x⟩,L,O⟩:=R
  obtain⟨l,n,g⟩:=st
  obtain⟨vs,m,S,a⟩:=CK I L hd
  obtain⟨⟨k',u⟩,hu,ek,ru⟩:∃q,vs[i]?=some q/\k=q.1/\RelV x q.2:=jr m O
  subst ek
  rw[<- a] at g
  refine wpAny_pyNext_items_item g S hu fun f h' hk ho G hsz kp=>?_
  refine⟨_,rfl,wpAny_letOwnedTupleGo_items ho fun y r sb=>?_⟩
  have lt:∀{c o},s.heap.get? c=some o->s.heap.objs.size≠c:=fun q=>ZJ (R_ q)
  have p:s.heap.objs.size≠it:=lt g
  have D:∀{c:Addr},c∈[it]->c≠s.heap.objs.size:=fun {c} e=>by rw[g_.mp e];exact Ne.symm p
  have U:∀c o,c∉[it]->s.heap.get? c=some o->y.get? c=some o:=fun c o M q=>(sb.2 c fun z=>M (z▸m_)).trans (kp c o (fun z=>M (z▸m_)) q)
  have I1:Inv X j V (upd H s.heap.objs.size (.tup [kV k,x])) { s with heap:=s.heap.push { cls:=.type "tuple",data:=.seq #[f,u]},toks:=s.toks} :=
   I.laid (t':=s.toks) (fun b o q=>l_ _ q) (j_ _) (show ObjOk X.prog X.w _ _ _ (.tup [kV k,x]) from ⟨by show 2<=sizeLine;decide,[f,u],.cons (Uk hk) (.cons ru .nil),Tup0.new _ _⟩)
  have I2:Inv X j V (upd H s.heap.objs.size (.tup [kV k,x])) { s with heap:=y}:=lq (s:={ s with heap:=s.heap.push { cls:=.type "tuple",data:=.seq #[f,u]}}) (ch:=[it]) (t':=s.toks) I1 (fun c o M q=>by
   by_cases z:c=s.heap.objs.size
   ·
    subst z
    have J:(s.heap.push { cls:=.type "tuple",data:=.seq #[f,u]}).get? s.heap.objs.size=some o:=q
    rw[V_ _ rfl] at J
    cases J
    exact (sb.2 _ p).trans G
   ·
    have J:(s.heap.push { cls:=.type "tuple",data:=.seq #[f,u]}).get? c=some o:=q
    rw[Heap.get?_push_ne _ _ _ z] at J
    exact U c o M J) fun c e=>⟨by rw[aU (D e)];exact (t c e).1,(t c e).2⟩
  refine⟨.ref s.heap.objs.size,_,I2,rfl,⟨s.heap.objs.size,k,x,rfl,I.hok.fresh (j_ _),rfl,fun zs B=>by rw[L] at B;cases B;exact O⟩,⟨f,u,?_⟩,fun c e=>by rw[aU (D e)];exact (t c e).1⟩
  rw[<- a]
  exact r
 done:=by
  intro X T Y N e i j s V H E I t st R
  subst T Y N
  obtain⟨kvs,L,O⟩:=R
  obtain⟨l,n,g⟩:=st
  obtain⟨vs,m,S,a⟩:=CK I L hd
  have hl:=m.length
  rw[<- a] at g
  exact wpAny_pyNext_items_end (I.ok.hd e) g S (Xb (by omega)) fun h' eb=>⟨rfl,lq (ch:=[it]) (t':=s.toks) I (fun b o nb q=>eb b o (fun z=>nb (by simp [z])) q) t⟩
 self:=fun A i s Q E st h=>by
  obtain⟨l,n,g⟩:=st
  have G:s.TypeIs (.ref it) "dict_itemiterator":=⟨_,g,rfl⟩
  refine wpAny_pyIter_slot G PySem.F.slot_dict_itemiterator_iter (ZL PySem.F.slot_dict_itemiterator_iter G zG ?_ (PySem.F.args_dict_itemiterator_iter_1 _))
  show wpAny _ _ (ret (.ref it)) _ _ s
  exact C_ ⟨_,rfl,"dict_itemiterator",_,G,PySem.F.slot_dict_itemiterator_next.lookup,h⟩
section
variable {X:Cx}{elts:List Expr}{x1:Nat}{tpos pos apos cpos:Pos}{e:Expr}
def O4 (te:TE):TI:=fun c H R=>te c H fun x b=>∃a kvs,x=.ref a/\b a=some (.dK kvs)/\∀o,R (Iti a o) (upd b a (.frz o (.dK kvs)))
theorem CN {te:TE}(M:PE X e te) (i:attributeBase e "items" X.env (eval e X.env)=eval e X.env:=by rfl) (g:(apos.endLine==cpos.line)=true:=by rfl) :
  PI X (.Tuple elts x1 tpos) (.Call (.Attribute e "items" apos) [] [] cpos) (O4 te):=by
 intro f s A H R I h;refine wpAny_Call_method0_late i g (thn (M f s A H _ I h) fun v s1 ⟨x,L,r,G,a,kvs,C,n,q⟩=>?_);subst C;cases G;obtain⟨z,l,vs,K,u⟩:=Ar r.hok n;obtain⟨o,B,P⟩:=Inv.freeze r n;obtain⟨y,D,_⟩:=Ng r (a:=a) (.inl ⟨kvs,.inl n⟩);refine⟨"dict","dict.items",PySem.F.plainAttrs_dict,PySem.F.slot_dict_items,PySem.F.type_dict_items,y,D,Ze rfl (PySem.evalArgs_none (call_meetsIn PySem.F.slot_dict_items y PySem.F.entry_dict_items (PySem.F.args_dict_items_1 _) (meets_dict_items (bC X.prog X.w) a l) ⟨⟨vs,u⟩,?_⟩))⟩;obtain⟨Q,m,ep,j,O,k,J,t,N⟩:=id u;rw[B] at j;cases j;have hsz:m.size=vs.length:=by rw[<- t.length];simp
 have p:Inv X f A (upd L a (.frz o (.dK kvs))) { s1 with heap:=s1.heap.push { cls:=.type "dict_items",data:=.fields #[.ref a]}}:=P.kept (t':=s1.toks) fun b o q=>l_ _ q;refine wpAny_pyIter_items (knd:=bC X.prog X.w) (d:=a) (kvs:=vs) (ep:=ep) ⟨_,V_ _ rfl,rfl,rfl⟩ ⟨o,m,l_ _ B,O,k,J,t,N⟩ ?_;refine⟨_,[_],_,Iti a o,_,rfl,p.kept (t':=s1.toks) fun b o q=>l_ _ q,vB a _ o m ep k,⟨.none,.none,?_⟩,fun c E=>?_,q o⟩
 ·rw[hsz];exact V_ _ rfl
 rw[g_.mp E];exact p.fpOk (j_ _) (p.hok.fresh (j_ _))
variable {o f:Expr}{td ty tx:TE}
end
def dw (k:Int):List (Int × T)->Option T
 |[]=>none
 | (k',v)::r=>if k'=k then some v else dw k r
def qK (k:Int) (v:T) (kvs:List (Int × T)):List (Int × T) :=
 if (kvs.any fun a=>decide (a.1=k))=true then kvs.map (fun a=>if a.1=k then (a.1,v) else a) else kvs++[(k,v)]
theorem jU {K:Frag}{H:Hp}{k:Int}:∀{kvs:List (Int × T)}{vs:List (Key × V)}{t:T},RepI K H kvs vs->dw k kvs=some t->∃v,iw vs (Sum.inl k:Key)=some v/\Rep K H t v
 |[],_,_,_,e=>by cases e
 | (k',t')::r,_,t,.cons (b:=(kk,v')) ⟨e1,rv⟩ rr,e=>by
  simp only at e1 rv
  subst e1
  unfold dw at e
  by_cases a:k'=k
  ·
   rw[if_pos a] at e
   cases e
   exact⟨v',by rw[eZ (by rw[a])],rv⟩
  ·
   rw[if_neg a] at e
   obtain⟨v,c,q⟩:=jU rr e
   exact⟨v,by rw[fc (by intro z;exact a (Sum.inl.inj z))];exact c,q⟩
theorem mD {K:Frag}{H:Hp}{k:Int}:∀{kvs:List (Int × T)}{vs:List (Key × V)},RepI K H kvs vs->(iw vs (Sum.inl k:Key)).isSome=(dw k kvs).isSome
 |[],_,.nil=>rfl
 | (k',t')::r,_,.cons (b:=(kk,v')) ⟨e1,rv⟩ rr=>by
  simp only at e1 rv
  subst e1
  unfold dw
  by_cases a:k'=k
  ·
   rw[if_pos a,eZ (by rw[a])];rfl
  ·
   rw[if_neg a,fc (by intro z;exact a (Sum.inl.inj z))]
   exact mD rr
theorem CP {K:Frag}{H:Hp}{k:Int}{t:T}{v:V}(i:Rep K H t v) {kvs:List (Int × T)}{vs:List (Key × V)}(r:RepI K H kvs vs):RepI K H (qK k t kvs) (putK vs (Sum.inl k:Key) v):=by
 have e:∀{kvs:List (Int × T)} {vs:List (Key × V)},RepI K H kvs vs->(kvs.any fun a=>decide (a.1=k))=(vs.any fun a=>decide (a.1=(Sum.inl k:Key)))/\RepI K H (kvs.map (fun a=>if a.1=k then (a.1,t) else a)) (vs.map (fun a=>if a.1=(Sum.inl k:Key) then (a.1,v) else a)):=by
  intro kvs;induction kvs with
  |nil=>intro vs r;cases r;exact⟨rfl,.nil⟩
  |cons p l n =>
  intro vs r;cases r with
  |cons q m =>
  rename_i b s;obtain⟨g,f⟩:=n m;obtain⟨j,h⟩:=q;obtain⟨u,o⟩:=b;simp only at j h;subst j;by_cases d:p.1=k
  ·refine⟨by simp [d],?_⟩;simp only[y_,d,if_true];exact .cons ⟨rfl,i⟩ f
  have c:¬(Sum.inl p.1:Key)=Sum.inl k:=fun z=>d (Sum.inl.inj z);refine⟨by simp only[ZW,d,c,Yb,Bool.false_or];exact g,?_⟩;simp only[y_,d,c,Xd];exact .cons ⟨rfl,h⟩ f
 obtain⟨g,f⟩:=e r;unfold qK putK;rw[g];split
 ·exact f
 exact aaj r ⟨rfl,i⟩
section
variable {K:Frag}{H:Hp}{H3:Hp3}{a p:Addr}
theorem SimH.wrI {h c:List (Key × V)}{kvs:List (Int × T)}(s:SimH K H3 H) (g:H a=some (.dK h)) (r:RepI K H kvs c):SimH K (up3 H3 a (.dci kvs)) (upd H a (.dK c)):=fun b o e=>by
 have f:TupLe K H (upd H a (.dK c)):=bH (by rw[g];exact trivial);by_cases d:b=a
 ·subst d;rw[au] at e;cases e;exact⟨c,bT,r.mono f⟩
 rw[aD d] at e;exact (s b o e).stay f fun u q=>by rw[aU d];exact q
theorem SimH.newI (s:SimH K H3 H) (c:H p=none):SimH K (up3 H3 p (.dci [])) (upd H p (.dK [])):=fun a o e=>by
 by_cases b:a=p
 ·subst b;rw[au] at e;cases e;exact⟨[],bT,.nil⟩
 rw[aD b] at e;exact s.new c a o e
theorem SimH.frzI {c:List (Key × V)}{kvs:List (Int × T)}{o:Obj}(s:SimH K H3 H) (g:H a=some (.dK c)) (r:RepI K H kvs c):SimH K (up3 H3 a (.dif o kvs)) (upd H a (.frz o (.dK c))):=fun b u e=>by
 have f:TupLe K H (upd H a (.frz o (.dK c))):=bH (by rw[g];exact trivial);by_cases d:b=a
 ·subst d;rw[au] at e;cases e;exact⟨c,bT,r.mono f⟩
 rw[aD d] at e;exact (s b u e).stay f fun u q=>by rw[aU d];exact q
end
section
variable {X:Cx}{o i e f value k v:Expr}{td ty tv tx ti tk:TE3}{pos pos' apos cpos tpos:Pos}{elts:List Expr}{x1:Nat}{σ:St3}{H:Hp3}{Q:VK3}
def xK:TE3:=fun _ H Q=>∀p,H p=none->Q (.ref p) (up3 H p (.dci []))
theorem CQ:PE3 X (.Dict [] [] pos) xK:=by
 refine PE.imp rW ?_;rintro d H Q ⟨c,H3,Q3,e,b,h,k⟩ p a;exact k _ _ _ _ (aN a) (b.newI a) .ofRef (h p (b.fresh a))
def d1i (y:T) (p:Addr) (v:T) (H:Hp3) (Q:VK3):Prop:=match y with
 |.int k=>H p=some (.dci [])/\Q (.ref p) (up3 H p (.dci [(k,v)]))
 |_=>False
def lr (tk d:TE3):TE3:=fun a H Q=>∀p,H p=none->tk a (up3 H p (.dci [])) fun y b=>d a b fun v c=>d1i y p v c Q
theorem Ul (x:Int) (p:Addr) (v:T):d1i (.int x) p v H Q=(H p=some (.dci [])/\Q (.ref p) (up3 H p (.dci [(x,v)]))):=rfl
theorem zH (x:PE3 X k tk) (C:PE3 X v tv):PE3 X (.Dict [some k] [v] pos) (lr tk tv):=by
 refine PE.imp (wJ (rY x C wI) rfl rfl (by simp) (by show 1<=15;decide)) ?_;rintro E H Q ⟨d,H3,Q3,o,s,h,k⟩ p m;have b:TupLe X.K H (upd H p (.dK [])):=aN m;refine⟨d,up3 H3 p (.dci []),_,o.mono b,s.newI m,h p (s.fresh m),fun y D w l f n u A=>?_⟩;refine⟨d,l,_,o.mono (b.trans f),n,A,fun z F t c i g B q=>?_⟩;cases w with
 |int a =>
  have h':c p=some (.dci [])/\Q3 (.ref p) (up3 c p (.dci [(a,t)])):=q
  obtain⟨ws,j,r⟩:=g p _ h'.1
  cases r
  refine⟨j,[(Sum.inl a,z)],by rw[(u.mono i).int];rfl,by show 1<=15;decide,?_⟩
  have e:jh [] [((Sum.inl a:Key),z)]=[((Sum.inl a:Key),z)]:=rfl
  rw[e]
  exact k _ _ _ _ (b.trans (f.trans (i.trans (bH (by rw[j];exact trivial))))) (g.wrI j (.cons ⟨rfl,B⟩ .nil)) .ofRef h'.2
 |_=>exact q.elim
def dgI (o:Option O3) (k:Int) (H:Hp3) (Q:VK3):Prop:=match o with
 |some (.dci kvs)=>oq (dw k kvs) fun t=>Q t H
 |some (.dif _ kvs)=>oq (dw k kvs) fun t=>Q t H
 |_=>False
def Um:R3:=fun x y H Q=>match x,y with
 |.ref a,.int k=>dgI (H a) k H Q
 |_,_=>False
theorem WD (a:Addr) (k:Int):Um (.ref a) (.int k) H Q=dgI (H a) k H Q:=rfl
theorem Kr (kvs:List (Int × T)) (k:Int):dgI (some (.dci kvs)) k H Q=oq (dw k kvs) fun t=>Q t H:=rfl
theorem CT (o:Obj) (kvs:List (Int × T)) (k:Int):dgI (some (.dif o kvs)) k H Q=oq (dw k kvs) fun t=>Q t H:=rfl
theorem mF {B:TE3}(D:X.A.units+1<cLine) (M:PE3 X o B) (J:PE3 X i ti) (G:Gu i:=by exact fun _ _=>rfl):PE3 X (.Subscript o i pos) (sH Um B ti):=by
 refine PE.imp (wG D M J G) ?_;rintro O H Q ⟨j,H3,Q3,z,L,h,k⟩;refine⟨j,H3,_,z,L,h,fun x N I n f s C K=>⟨j,n,_,z.mono f,s,K,fun y P E d l c w q=>?_⟩⟩;cases I with
 |ref a =>
  cases E with
  |int b =>
   have h':dgI (d a) b d Q3:=q
   cases e:d a with
   |none=>rw[e] at h';exact h'.elim
   |some F =>
    rw[e] at h'
    cases F with
    |dci kvs =>
     rw[Kr] at h'
     obtain⟨vs,m,r⟩:=c a _ e
     cases g:dw b kvs with
     |none=>rw[g] at h';exact h'.elim
     |some t =>
      rw[g] at h'
      obtain⟨v,p,u⟩:=jU r g
      refine⟨a,v,C.ref,?_,k.at (f.trans l) _ _ _ _ .refl c u h'⟩
      rw[w.int,<- p]
      exact DGet.k (k:=Sum.inl b) m
    |dif R kvs =>
     rw[CT] at h'
     obtain⟨vs,m,r⟩:=c a _ e
     cases g:dw b kvs with
     |none=>rw[g] at h';exact h'.elim
     |some t =>
      rw[g] at h'
      obtain⟨v,p,u⟩:=jU r g
      refine⟨a,v,C.ref,?_,k.at (f.trans l) _ _ _ _ .refl c u h'⟩
      rw[w.int,<- p]
      exact .inl ⟨vs,Sum.inl b,.inr ⟨_,m⟩,rfl,rfl⟩
    |_=>exact h'.elim
  |_=>exact q.elim
 |_=>exact q.elim
def dpI (x y v:T) (H:Hp3) (Q:Hp3->Prop):Prop:=match x,y with
 |.ref a,.int k=>match H a with
  |some (.dci kvs)=>kvs.length<sizeLine/\Q (up3 H a (.dci (qK k v kvs)))
  |_=>False
 |_,_=>False
def O5 (o:Option O3) (a:Addr) (k:Int) (v:T) (H:Hp3) (Q:Hp3->Prop):Prop:=match o with
 |some (.dci kvs)=>kvs.length<sizeLine/\Q (up3 H a (.dci (qK k v kvs)))
 |_=>False
def xM (d g c:TE3):TS3:=fun D a H=>c a H fun v f=>d a f fun x b=>g a b fun y H3=>dpI x y v H3 fun e=>D.nx a e
theorem Uo (a:Addr) (k:Int) (v:T) (Q:Hp3->Prop):dpI (.ref a) (.int k) v H Q=O5 (H a) a k v H Q:=rfl
theorem CV (kvs:List (Int × T)) (a:Addr) (k:Int) (v:T) (Q:Hp3->Prop):O5 (some (.dci kvs)) a k v H Q=(kvs.length<sizeLine/\Q (up3 H a (.dci (qK k v kvs)))):=rfl
theorem CW (G:X.A.units+1<cLine) (U:PE3 X o td) (O:PE3 X i u) (T:PE3 X value w) (M:swapsWith value (some (.Subscript o i pos')) pos.line X.env=pure false:=by rfl) :
  PS3 X (.Assign [.Subscript o i pos'] value pos) (xM td u w):=by
 refine PS.imp (wH G U O T M) ?_;rintro D Y H ⟨b,H3,F,n,R,h,L,_⟩;refine⟨b,H3,_,n,R,h,fun v W w s c C V Q=>⟨b,s,_,n.mono c,C,Q,fun x Z N t f z S P=>⟨b,t,_,n.mono (c.trans f),z,P,fun y p u g d l I E=>?_⟩⟩⟩;cases N with
 |ref a =>
  cases u with
  |int j =>
   have h':O5 (g a) a j w g fun p=>F.nx b p:=E
   cases e:g a with
   |none=>rw[e] at h';exact h'.elim
   |some J =>
    rw[e] at h'
    cases J with
    |dci kvs =>
     rw[CV] at h'
     obtain⟨vs,q,r⟩:=l a _ e
     have B:=V.mono (f.trans d)
     have m:TupLe X.K p (upd p a (.dK (putK vs (Sum.inl j:Key) v))):=bH (by rw[q];exact trivial)
     refine⟨a,_,(S.mono d).ref,?_,L _ _ _ _ (c.trans (f.trans (d.trans m))) (n.mono (c.trans (f.trans (d.trans m)))) (l.wrI q (CP B r)) h'.2⟩
     rw[I.int]
     exact DPut.k (k:=Sum.inl j) q (by rw[<- Yx r];exact h'.1)
    |_=>exact h'.elim
  |_=>exact E.elim
 |_=>exact E.elim
def diI (neg:Bool) (y:T) (o:Option O3) (H:Hp3) (Q:VK3):Prop:=match y,o with
 |.int k,some (.dci kvs)=>Q (.bl (if neg then !(dw k kvs).isSome else (dw k kvs).isSome)) H
 |_,_=>False
def O6 (neg:Bool) (y x:T) (H:Hp3) (Q:VK3):Prop:=match x with
 |.ref a=>diI neg y (H a) H Q
 |_=>False
def CZ (neg:Bool) (c e:TE3):TE3:=fun a H Q=>c a H fun y d=>e a d fun x b=>O6 neg y x b Q
theorem O7 (neg:Bool) (y:T) (a:Addr):O6 neg y (.ref a) H Q=diI neg y (H a) H Q:=rfl
theorem Uq (neg:Bool) (k:Int) (kvs:List (Int × T)):diI neg (.int k) (some (.dci kvs)) H Q=Q (.bl (if neg then !(dw k kvs).isSome else (dw k kvs).isSome)) H:=rfl
theorem Dd {neg:Bool}{H:Hp}{H3:Hp3}{x y:V}{d c:T}{Q3:VK3}(h:SimH X.K H3 H) (i:Rep X.K H d x) (l:Rep X.K H c y) (q:O6 neg c d H3 Q3) :
  ∃a f b,x=.ref a/\DGet H a y f/\(if neg then !f.isSome else f.isSome)=b/\Q3 (.bl b) H3:=by
 cases d with
 |ref a =>
  have h':diI neg c (H3 a) H3 Q3:=q
  cases c with
  |int k =>
   cases e:H3 a with
   |none=>rw[e] at h';exact h'.elim
   |some j =>
    rw[e] at h'
    cases j with
    |dci kvs =>
     obtain⟨ws,g,r⟩:=h a _ e
     refine⟨a,iw ws (Sum.inl k:Key),_,i.ref,by rw[l.int];exact DGet.k (k:=Sum.inl k) g,rfl,?_⟩
     rw[mD r]
     exact h'
    |_=>exact h'.elim
  |_=>exact h'.elim
 |_=>exact q.elim
theorem mG (r:X.A.units+1<cLine) (w:PE3 X i ti) (E:PE3 X o td) (u:behindInMarks .NotIn o=false:=by rfl):PT3 X (.Compare i [.NotIn] [o] pos) (jk (CZ true ti td)):=by
 refine PT.imp (pY (oX r w E) u) ?_;rintro J H Q ⟨c,H3,Q3,n,C,h,k⟩;refine⟨c,H3,_,n,C,h,fun y G F l d m t B=>⟨c,l,_,n.mono d,m,B,fun x K I s j f D z=>?_⟩⟩;obtain⟨a,p,b,e,g,v,q⟩:=Dd f D (t.mono j) z;exact⟨a,p,e,g,by rw[show (!p.isSome)=b from v];exact⟨b,rfl,k _ _ _ (d.trans j) f q⟩⟩
def sdO (o:Option O3) (a:Addr) (k:Int) (v:T) (H:Hp3) (Q:VK3):Prop:=match o with
 |some (.dci kvs)=>kvs.length<sizeLine/\match dw k kvs with
  |some t=>Q t H
  |none=>Q v (up3 H a (.dci (qK k v kvs)))
 |_=>False
def sdq (x y v:T) (H:Hp3) (Q:VK3):Prop:=match x,y with
 |.ref a,.int k=>sdO (H a) a k v H Q
 |_,_=>False
def WF (o:Option O3):Prop:=match o with
 |some (.dci _)=>True
 |_=>False
def WK (x:T) (H:Hp3):Prop:=match x with
 |.ref a=>WF (H a)
 |_=>False
def O8 (e f d:TE3):TE3:=fun a H Q=>e a H fun x b=>WK x b/\f a b fun y c=>d a c fun v H3=>sdq x y v H3 Q
def itT (a:Int × T):T:=.tup [.int a.1,a.2]
def vC (a:Addr) (o:Obj) (kvs:List (Int × T)):Hp3->Prop:=fun H=>H a=some (.dif o kvs)
def itO (u:Option O3) (a:Addr) (H:Hp3) (R:List T->(Hp3->Prop)->Hp3->Prop):Prop:=match u with
 |some (.dci kvs)=>∀o,R (kvs.map itT) (vC a o kvs) (up3 H a (.dif o kvs))
 |_=>False
def itq (x:T) (H:Hp3) (R:List T->(Hp3->Prop)->Hp3->Prop):Prop:=match x with
 |.ref a=>itO (H a) a H R
 |_=>False
def xN (te:TE3):TI3:=fun b H R=>te b H fun x a=>itq x a R
theorem De (te:TE3) {R:List T->(Hp3->Prop)->Hp3->Prop}:xN te σ H R=te σ H fun x a=>itq x a R:=rfl
theorem Ks (a:Addr) {R:List T->(Hp3->Prop)->Hp3->Prop}:itq (.ref a) H R=itO (H a) a H R:=rfl
theorem Ku (kvs:List (Int × T)) (a:Addr) {R:List T->(Hp3->Prop)->Hp3->Prop}:itO (some (.dci kvs)) a H R=∀o,R (kvs.map itT) (vC a o kvs) (up3 H a (.dif o kvs)):=rfl
theorem vD {K:Frag}{H:Hp}{a:Addr}{o:Obj}{kvs:List (Int × T)}:lX K (Iti a o) (kvs.map itT) (vC a o kvs) H:=fun H' b x j st=>by
 obtain⟨vs,c,r⟩:=j a _ st;have n:=Yx r;refine⟨fun i k=>⟨vs,c,by rw[b_] at k;omega⟩,fun i t e=>?_⟩;rw[H_] at e;cases q:kvs[i]? with
 |none=>rw[q] at e;cases e
 |some w =>
 rw[q] at e;cases e;obtain⟨⟨A,v⟩,g,h,f⟩:=jr r q;simp only at h f;subst h;refine⟨⟨vs,_,c,g⟩,fun z m y=>?_⟩;obtain⟨p,u,s,rfl,d,rfl,l⟩:=y;have:=(l vs c).symm.trans g;cases this;exact⟨aN d,j.new d,SimH.newTup (H3:=b) d (.cons .ofInt (.cons f .nil))⟩
theorem Df {te:TE3}(l:PE3 X e te) (b:attributeBase e "items" X.env (eval e X.env)=eval e X.env:=by rfl) (c:(apos.endLine==cpos.line)=true:=by rfl) :
  PI3 X (.Tuple elts x1 tpos) (.Call (.Attribute e "items" apos) [] [] cpos) (xN te):=by
 refine PI.imp (CN l b c) ?_;rintro w H R ⟨i,H3,R3,s,u,h,k⟩;refine⟨i,H3,_,s,u,h,fun v H' t f n d r q=>?_⟩;cases t with
 |ref a =>
  rw[Ks] at q;cases j:f a with
  |none=>rw[j] at q;exact q.elim
  |some m =>
  rw[j] at q;cases m with
  |dci kvs=>rw[Ku] at q;obtain⟨vs,g,p⟩:=d a _ j;exact⟨a,vs,r.ref,g,fun o=>k _ _ _ _ _ (n.trans (bH (by rw[g];exact trivial))) (d.frzI g p) vD (q o)⟩
  |_=>exact q.elim
 |_=>exact q.elim
end
theorem pJ {K:Frag}{H:Hp}{f:Str}:∀{c:List (Str × T)}{vs:List (Str × V)}{t:T},RepF K H c vs->aO f c=some t->∃v,vs.lookup f=some v/\Rep K H t v
 |[],_,_,_,e=>by cases e
 | (g,t')::r,_,t,.cons (b:=(g',v')) ⟨e1,rv⟩ rr,e=>by
  simp only at e1 rv
  subst e1
  unfold aO at e
  by_cases a:g'=f
  ·
   rw[if_pos a] at e
   cases e
   exact⟨v',by rw[X_,show (f==g')=true from Zz.mpr a.symm],rv⟩
  ·
   rw[if_neg a] at e
   obtain⟨v,d,q⟩:=pJ rr e
   exact⟨v,by rw[X_,show (f==g')=false from XR.mpr (Ne.symm a)];exact d,q⟩
theorem mH {K:Frag}{H:Hp}{f:Str}:∀{c:List (Str × T)}{vs:List (Str × V)},RepF K H c vs->aO f c=none->vs.lookup f=none
 |[],_,.nil,_=>rfl
 | (g,t')::r,_,.cons (b:=(g',v')) ⟨e1,rv⟩ rr,e=>by
  simp only at e1 rv
  subst e1
  unfold aO at e
  by_cases a:g'=f
  ·
   rw[if_pos a] at e;cases e
  ·
   rw[if_neg a] at e
   rw[X_,show (f==g')=false from XR.mpr (Ne.symm a)]
   exact mH rr e
def dO (f:Str) (v:T):List (Str × T)->List (Str × T)
 |[]=>[(f,v)]
 | (g,x)::r=>if g=f then (g,v)::r else (g,x)::dO f v r
theorem tK {K:Frag}{H:Hp}{f:Str}{t:T}{v:V}(c:Rep K H t v):∀{d:List (Str × T)}{vs:List (Str × V)},RepF K H d vs->RepF K H (dO f t d) (gM f v vs)
 |[],_,.nil=>.cons ⟨rfl,c⟩ .nil
 | (g,t')::r,_,.cons (b:=(g',v')) ⟨e1,r1⟩ rr=>by
  simp only at e1 r1
  subst e1
  unfold dO gM
  by_cases a:g'=f
  ·
   rw[if_pos a,if_pos a];exact .cons ⟨rfl,c⟩ rr
  ·
   rw[if_neg a,if_neg a];exact .cons ⟨rfl,r1⟩ (tK c rr)
structure InsC (K:Frag) (C:Addr) (ns:List Str):Prop where
 cls:Cls K C
 no:∀n∈ns,NoAttr K C n
structure MtC (P:Program) (w:World) (K:Frag) (mg:Str->Option Value) (base:Heap) (C:Addr) (k:Nat) (m:Str) (ps:List Str) (sp:Sp3):Prop where
 cls:Cls K C
 ex:∃(f:Addr) (fd:FuncData),Meth K C m f/\Binds K fd ps []/\j7 P w K mg base k f fd ps sp
structure MkC (P:Program) (w:World) (K:Frag) (mg:Str->Option Value) (base:Heap) (C:Addr) (k:Nat) (x:Str) (ps:List Str) (sp:Sp3):Prop where
 at_:mg x=some (.ref C)
 ex:∃(f:Addr) (fd:FuncData),Mk K C f/\Binds K fd ps []/\j7 P w K mg base k f fd ps sp
structure GM (K:Frag) (C:Addr) (m qual:Str) (st:Stmt) (ps:List Str) (f:Addr) (fd:FuncData):Prop where
 cls:Cls K C
 fn:Fun K m qual st f fd
 b:Binds K fd ps []
 mt:Meth K C m f
structure GI (K:Frag) (mg:Str->Option Value) (C:Addr) (x qual:Str) (st:Stmt) (ps:List Str) (f:Addr) (fd:FuncData):Prop where
 mk_:Mk K C f
 fn:Fun K "__init__" qual st f fd
 b:Binds K fd ps []
 at_:mg x=some (.ref C)
theorem SimH.wrO {K:Frag}{H:Hp}{H3:Hp3}{a C d:Addr}{g:List (Str × T)}{vs c:List (Str × V)}(s:SimH K H3 H) (i:H a=some (.ins C d vs)) (r:RepF K H g c):SimH K (up3 H3 a (.ins C g)) (upd H a (.ins C d c)):=fun b o e=>by
 have h:TupLe K H (upd H a (.ins C d c)):=bH (by rw[i];exact trivial);by_cases f:b=a
 ·subst f;rw[au] at e;cases e;exact⟨d,c,bT,r.mono h⟩
 rw[aD f] at e;exact (s b o e).stay h fun u q=>by rw[aU f];exact q
section
variable {X:Cx}{o e value:Expr}{es:List Expr}{ta tv:TE3}{t:TA3}{C:Addr}{f m x:Str}{ns ps:List Str}{sp:Sp3}{n:Nat}{pos pos' apos p:Pos}{H:Hp3}{Q:VK3}
def O9 (C:Addr) (f:Str) (u:Option O3) (H:Hp3) (Q:VK3):Prop:=match u with
 |some (.ins C' fs)=>C'=C/\oq (aO f fs) fun t=>Q t H
 |_=>False
def Ur (C:Addr) (f:Str) (x:T) (H:Hp3) (Q:VK3):Prop:=match x with
 |.ref a=>O9 C f (H a) H Q
 |_=>False
def Kv (C:Addr) (f:Str) (b:TE3):TE3:=fun c H Q=>b c H fun x a=>Ur C f x a Q
theorem Dg (a:Addr):Ur C f (.ref a) H Q=O9 C f (H a) H Q:=rfl
theorem Pa (a:List (Str × T)):O9 C f (some (.ins C a)) H Q=oq (aO f a) fun t=>Q t H:=propext ⟨fun h=>h.2,fun h=>⟨rfl,h⟩⟩
theorem gR (c:InsC X.K C ns) (y:PE3 X e ta) (x:f∈ns:=by simp) (B:attributeBase e f X.env (eval e X.env)=eval e X.env:=by rfl):PE3 X (.Attribute e f pos) (Kv C f ta):=by
 refine PE.imp (MF y B) ?_;rintro G H Q ⟨j,H3,Q3,w,E,h,k⟩;refine⟨j,H3,_,w,E,h,fun v H' t d A b r q=>?_⟩;cases t with
 |ref a =>
  rw[Dg] at q;cases i:d a with
  |none=>rw[i] at q;exact q.elim
  |some u =>
  rw[i] at q;cases u with
  |ins m n =>
   obtain⟨rfl,g⟩:=(show m=C/\oq (aO f n) fun t=>Q3 t d from q);clear q;obtain⟨F,vs,o,p⟩:=b a _ i;cases l:aO f n with
   |none=>rw[l] at g;exact g.elim
   |some t =>
   rw[l,gQ] at g;obtain⟨z,s,D⟩:=pJ p l;exact⟨a,m,F,vs,z,r.ref,o,c.cls,c.no f x,s,k _ _ _ _ A b D g⟩
  |_=>exact q.elim
 |_=>exact q.elim
def sfO (C:Addr) (f:Str) (a:Addr) (y:T) (u:Option O3) (H:Hp3) (Q:Hp3->Prop):Prop:=match u with
 |some (.ins C' fs)=>C'=C/\fs.length<1000/\Q (up3 H a (.ins C (dO f y fs)))
 |_=>False
def sfq (C:Addr) (f:Str) (x y:T) (H:Hp3) (Q:Hp3->Prop):Prop:=match x with
 |.ref a=>sfO C f a y (H a) H Q
 |_=>False
def Kw (C:Addr) (f:Str) (e c:TE3):TS3:=fun D a H=>c a H fun y d=>e a d fun x b=>sfq C f x y b fun H3=>D.nx a H3
theorem Kz (a:Addr) (y:T) (Q:Hp3->Prop):sfq C f (.ref a) y H Q=sfO C f a y (H a) H Q:=rfl
theorem Us (a:Addr) (y:T) (b:List (Str × T)) (Q:Hp3->Prop):sfO C f a y (some (.ins C b)) H Q=(b.length<1000/\Q (up3 H a (.ins C (dO f y b)))):=propext ⟨fun h=>h.2,fun h=>⟨rfl,h⟩⟩
theorem qL (c:InsC X.K C ns) (E:PE3 X o ta) (Q:PE3 X value tv) (I:f∈ns:=by simp) (J:swapsWith value (some (.Attribute o f pos')) pos.line X.env=pure false:=by rfl):PS3 X (.Assign [.Attribute o f pos'] value pos) (Kw C f ta tv):=by
 refine PS.imp (MJ E Q J) ?_;rintro D S H ⟨b,H3,z,r,O,h,G,_⟩;refine⟨b,H3,_,r,O,h,fun y R B m d s A N=>⟨b,m,_,r.mono d,s,N,fun x v M i g k P e=>?_⟩⟩;cases M with
 |ref a =>
  rw[Kz] at e;cases n:i a with
  |none=>rw[n] at e;exact e.elim
  |some F =>
  rw[n] at e;cases F with
  |ins p u=>obtain⟨rfl,L,q⟩:=(show p=C/\u.length<1000/\z.nx b (up3 i a (.ins C (dO f B u))) from e);obtain⟨w,vs,l,t⟩:=k a _ n;have j:TupLe X.K v (upd v a (.ins p w (gM f y vs))):=bH (by rw[l];exact trivial);exact⟨a,p,w,vs,P.ref,l,c.cls,c.no f I,by rw[<- Yx t];exact L,G _ _ _ _ (d.trans (g.trans j)) (r.mono (d.trans (g.trans j))) (k.wrO l (tK (A.mono g) t)) q⟩
  |_=>exact e.elim
 |_=>exact e.elim
def mtO (C:Addr) (m:Str) (u:Option O3) (q:Prop):Prop:=match u with
 |some (.ins C' fs)=>C'=C/\aO m fs=none/\q
 |_=>False
def mtq (C:Addr) (m:Str) (x:T) (H:Hp3) (q:Prop):Prop:=match x with
 |.ref a=>mtO C m (H a) q
 |_=>False
def Dh (C:Addr) (m:Str) (sp:Sp3) (c:TE3) (t:TA3):TE3:=fun b H Q=>c b H fun x a=>mtq C m x a (t b a fun vs d=>sp (x::vs) d Q)
theorem KD (a:Addr) (q:Prop):mtq C m (.ref a) H q=mtO C m (H a) q:=rfl
theorem KH (a:List (Str × T)) (q:Prop):mtO C m (some (.ins C a)) q=(aO m a=none/\q):=propext ⟨fun h=>h.2,fun h=>⟨rfl,h⟩⟩
theorem qM {pl:Sem Bool}(M:MtC X.prog X.w X.K X.mg X.base C n m ps sp) (B:Room n X.A) (J:PE3 X o ta) (D:PA3 X (e::es) t)
  (j:starEach (e::es) X.env=(false,eval e X.env)::starEach es X.env:=by rfl) (s:(backTo pos (starEach es X.env)).any (·.1)=false:=by rfl)
  (P:eval (.Call (.Attribute o m apos) (e::es) [] pos) X.env=(do
   let ov <- eval o X.env
   standAt apos.atName
   let (f,first) <- holding [ov] (getMethod ov m pl)
   callWith pos f first (backTo pos (starEach (e::es) X.env)) (backToKw pos (keywordEach [] X.env))):=by rfl) :
  PE3 X (.Call (.Attribute o m apos) (e::es) [] pos) (Dh C m sp ta t):=by
 obtain⟨f,Z,G,T,F⟩:=M.ex;refine PE.imp (Gj (dvs:=[]) (E:=E0) J M.cls G F B T .nil Ax D j s P) ?_;rintro Y H Q ⟨c,H3,Q3,u,O,h,k⟩;refine⟨c,H3,_,u,O,h,fun v H' t d x b r q=>?_⟩;cases t with
 |ref a =>
  rw[KD] at q;cases l:d a with
  |none=>rw[l] at q;exact q.elim
  |some I =>
  rw[l] at q;cases I with
  |ins V W=>obtain⟨rfl,L,q⟩:=q;obtain⟨U,vs,y,z⟩:=b a _ l;refine⟨a,U,vs,r.ref,y,mH z L,c,d,_,u.mono x,b,q,fun us R ts i g p S N=>?_⟩;show sU X.K sp (v::(us++[])) R Q E0;rw[J_];exact⟨_,i,Q3,.cons (r.mono g) S,p,N,k.at (x.trans g)⟩
  |_=>exact q.elim
 |_=>exact q.elim
def Di (C:Addr) (sp:Sp3) (t:TA3):TE3:=fun c H Q=>t c H fun vs b=>∀a,b a=none->sp (.ref a::vs) (up3 b a (.ins C [])) fun v d=>v=.non/\Q (.ref a) d
theorem xO (M:MkC X.prog X.w X.K X.mg X.base C n x ps sp) (L:Room (n+1) X.A) (O:Gl X x) (l:PA3 X (e::es) t) (s:(x==("__debug__":Str))=false:=by decide)
  (S:starEach (e::es) X.env=(false,eval e X.env)::starEach es X.env:=by rfl) (y:(backTo pos (starEach es X.env)).any (·.1)=false:=by rfl):PE3 X (.Call (.Name x p) (e::es) [] pos) (Di C sp t):=by
 obtain⟨f,fd,N,o,F⟩:=M.ex;refine PE.imp (Gk (dvs:=[]) (E:=E0) N F L O M.at_ o .nil Ax l s S y) ?_;rintro σ H Q ⟨r,H3,Q3,R,Z,h,k⟩;refine⟨r,H3,_,R,Z,h,fun us H' ts B Y d W q=>fun a c l g D=>?_⟩;show sU X.K sp (V.ref a::(us++[])) _ _ E0;rw[J_];have G:upd H' c (.own a) a=none:=by rw[aU (Ne.symm D)];exact l
 have i:TupLe X.K H' (upd H' c (.own a)):=aN g;have j:TupLe X.K (upd H' c (.own a)) (upd (upd H' c (.own a)) a (.ins C c [])):=aN G;refine⟨T.ref a::ts,up3 B a (.ins C []),_,.cons .ofRef (W.mono (i.trans j)),fun b P m=>?_,q a (d.fresh l),fun v H2 t2 J z u U I=>⟨?_,?_⟩⟩
 ·by_cases o:b=a
  ·subst o;rw[au] at m;cases m;exact⟨c,[],bT,.nil⟩
  rw[aD o] at m;exact ((d.new g).new G) b P m
 ·obtain⟨rfl,_⟩:=I;exact U.non
 exact k _ _ _ _ (Y.trans (i.trans (j.trans z))) u .ofRef I.2
def CMulW (i j:Int):Prop:=i.natAbs<2^1000/\j.natAbs<2^1000
def KJ (i j:Int):Prop:=j=2/\i.natAbs<2^1000
theorem CMulW.ok {i j:Int}(h:CMulW i j):IntMulOk i j:=by
 have c:=intBits_le h.1;have b:=intBits_le h.2;unfold IntMulOk;have:Builtin.Int.intTooBig ((Builtin.Int.intBits i:Int)+(Builtin.Int.intBits j:Int))=false:=by
  unfold Builtin.Int.intTooBig;have a:(2000:Int)<=(bitsLine:Int):=by decide +kernel
  rw[decide_eq_false_iff_not];omega
 rw[this,Bool.and_false];exact t_
theorem lw:dB X (binaryOp .Mult) (rI3 CMulW fun i j=>.int (i*j)):=sV (opI fun _ _ _ _ _ _ _ a q=>mul_int q a.ok) fun _ _ _=>.ofInt
theorem Ht:dB X (binaryOp .Pow) (rI3 KJ fun i j=>.int (i^j.toNat)):=sV (opI fun i j _ _ _ _ _ a q=>pow_int (by rw[a.1];decide) (by
 have b:=intBits_le a.2
 rw[a.1]
 omega) q) fun _ _ _=>.ofInt
def KN:R3:=fun x y H Q=>match y with
 |.non=>Q (.bl (!isN x)) H
 |_=>False
theorem Ut (x:T) (H:Hp3) (Q:VK3):KN x .non H Q=Q (.bl (!isN x)) H:=rfl
theorem Pb:dB X (compareOp .IsNot) KN:=by
 refine OpR.imp Ga ?_;rintro x y H Q ⟨c,ty,H3,Q3,b,d,f,h,k⟩;cases ty with
 |non =>
  refine⟨d.non,?_⟩;have e:decide (x=.non)=isN c:=by
   cases c with
   |non=>rw[b.non];rfl
   |int i=>rw[b.int];rfl
   |str i=>rw[b.str];rfl
   |bl i=>rw[b.bl];rfl
   |ref a=>rw[b.ref];rfl
   |tup ts=>obtain⟨a,vs,rfl,_⟩:=b.tup;rfl
   |ty n=>rw[b.ty];rfl
  rw[e];exact k _ _ _ _ .refl f .ofBl h
 |_=>exact h.elim
end
open L2 PySem.W
section
variable {O:KeyOrd}{key:Nat->O.α}{n:Nat}
def Ky (O:KeyOrd) (a:Nat->O.α) (p:Array Nat) (i:Nat):O.α:=a (p.getD i 0)
def Up (O:KeyOrd) (a:Nat->O.α) (p:Array Nat) (k:Nat):Prop:=∀i j,i<=j->j<k->O.kle (Ky O a p i) (Ky O a p j)
def Dn (O:KeyOrd) (a:Nat->O.α) (p:Array Nat) (k:Nat):Prop:=∀i j,i<=j->j<k->O.kle (Ky O a p j) (Ky O a p i)
variable {A:Around}{s:Shared}
variable {X:Cx}{pins:List (Addr × Obj)}{σ:L2.St}{H:Hp}
variable {P:Program}{w:World}{R:Result->Shared->Prop}{I S:Addr}{fp wr:List Addr}{V:Nat->Value->Prop}{St:Nat->Heap->Prop}{bt:Nat->Nat->Bool}{s0:Shared}
def Kpt (h h':Heap):Prop:=∀b o,h.get? b=some o->h'.get? b=some o
end
theorem zJ:bootBuiltins "sorted"=some (.builtin "sorted"):=by decide +kernel
section
variable {P:Program}{w:World}{A:Around}{E:Value->Shared->Prop}{s:Shared}{O:KeyOrd}{key:Nat->O.α}
end
open L2 PySem.W M
section
variable {X:Cx}{pins:List (Addr × Obj)}{σ:L2.St}{H:Hp}{s:Shared}
end
section
variable (O:KeyOrd)
variable {O}
end
section
variable {X:Cx}{pins:List (Addr × Obj)}{σ:L2.St}{H:Hp}{s:Shared}{H3:Hp3}{Q3:VK3}{Q:VK}
theorem zK {P:Program}{w:World}{kvs:List (Key × V)}{vs:List (Key × Value)}(r:KV kvs vs):∀(us:List Value),us.length=vs.length->(∀(j:Nat) (v:Value),us[j]?=some v->∃k x,vs[j]?=some (k,x)/\(bC P w).is k v=true)->Vals (kvs.map fun q=>kV q.1) us:=by
 induction r with
 |nil=>intro us h _;rw[Yz h];exact .nil
 |cons g n m =>
 intro us d a;cases us with
 |nil=>cases d
 |cons u us =>
 refine .cons ?_ (m us (Nat.succ.inj d) fun j v e=>a (j+1) v e);obtain⟨k,x,e,l⟩:=a 0 u rfl;cases e;obtain⟨f,_⟩:=g;dsimp only at f ⊢;rw[f];rcases bR l with ⟨i,t,c,b⟩ | ⟨y,t,c,b⟩
 ·rw[c,b];exact⟨t,rfl⟩
 rw[c,b];exact⟨t,rfl⟩
end
theorem Hu {h:Heap}{vs:List Value}{out:Array Value}:Kpt h (sortedHeap (h.push (seqObj "list" vs.toArray 0)) h.objs.size vs out)/\∃c,(sortedHeap (h.push (seqObj "list" vs.toArray 0)) h.objs.size vs out).get? h.objs.size=some (seqObj "list" out c):=by
 have a:(h.push (seqObj "list" vs.toArray 0)).get? h.objs.size=some (seqObj "list" vs.toArray 0):=V_ _ rfl;refine⟨fun b o e=>?_,?_⟩
 ·have d:b<h.objs.size:=R_ e;unfold sortedHeap;rw[Heap.get?_update_ne _ _ _ _ (Xj d)];refine l_ _ (l_ _ ?_);rw[Heap.get?_update_ne _ _ _ _ (Xj d)];exact l_ _ e
 unfold sortedHeap;exact⟨_,get?_update_seq (l_ _ (l_ _ (get?_update_seq a fun _=>#[]))) fun _=>out⟩
section
variable {P:Program}{w:World}{A:Around}{E:Value->Shared->Prop}{s:Shared}{O:KeyOrd}{key:Nat->O.α}
theorem tL {T:String}{r d:Addr}{n:Nat}{v:Nat->Value->Prop}{B:Heap->Prop}{Q:List Value->Shared->Prop}(K:KdlSrc P w T r d n v B) (H:A.handled=none) (l:B s.heap) (C:n<=sizeLine)
  (h:∀h' tk a,Kpt s.heap h'->s.heap.objs.size<h'.objs.size->ItemsOf v a n->Q a.toList { s with heap:=h',toks:=tk}):wpAny (model P w) A (collect (.ref r)) Q E s:=by
 have k:=K.there _ l;unfold collect;refine h_ (wpAny_runValue (codeAny_builtin entry_proto_collect' ?_));refine h_ (m:=newList []) (wpAny_newList (C_ ⟨Code.quiet_builtin _ (by decide +kernel),codeAny_builtin entry_list_iadd' ?_⟩))
 let st:Shared:={ s with heap:=s.heap.push (seqObj "list" #[] 0)}
 let G:Result->Shared->Prop:=fun q t=>∃h' tk a c,q=.ok (.ret (.ref s.heap.objs.size))/\t={ s with heap:=h',toks:=tk}/\Kpt s.heap h'/\h'.get? s.heap.objs.size=some (seqObj "list" a c)/\ItemsOf v a n
 have z:=kdl_extend (A:=A) (s:=st) (R:=G) K H (K.keep _ _ l fun b _ o e=>l_ _ e) s.heap.objs.size (ZJ k.1) (ZJ k.2) (.ref s.heap.objs.size) 0 (V_ _ rfl) (fun h' tk a c F i g=>⟨h',tk,a,c,rfl,rfl,fun b o e=>F b o (Xj (R_ e)) (l_ _ e),i,g⟩) C;have j:∀q t,G q t->∃h' tk a c,q=.ok (.ret (.ref s.heap.objs.size))/\h'.get? s.heap.objs.size=some (seqObj "list" a c)/\t={ s with heap:=h',toks:=tk}/\Q a.toList t:=by rintro q t ⟨h',tk,a,c,p,rfl,D,i,g⟩;exact⟨h',tk,a,c,p,i,rfl,h h' tk a D (R_ i) g⟩
 refine Yg (A:=A.in1) z (fun f t x=>?_) fun e t x=>?_
 ·cases f with
  |done f=>obtain⟨h',tk,a,c,p,i,rfl,u⟩:=j _ _ x;cases p;exact h_ (m:=load s.heap.objs.size) (wpAny_load i (C_ u))
  |again I =>
  refine⟨x.1,codeAny_mono x.2 fun q t y=>?_⟩;obtain⟨h',tk,a,c,rfl,i,rfl,u⟩:=j _ _ y;exact h_ (m:=load s.heap.objs.size) (wpAny_load i (C_ u))
 obtain⟨_,_,_,_,p,_⟩:=j _ _ x;cases p
variable {X:Cx}{pins:List (Addr × Obj)}{σ:L2.St}{H:Hp}{H3:Hp3}{Q3:VK3}{Q:VK}
variable {tg e:Expr}
end
section
variable {X:Cx}{tg e:Expr}{σ:St3}{H:Hp3}
end
section
variable {X:Cx}{pins:List (Addr × Obj)}{σ:L2.St}{H:Hp}{s:Shared}{H3:Hp3}{Q3:VK3}{Q:VK}
theorem zL {K:Frag}{kvs:List (Int × T)}{vs:List (Key × V)}(r:RepI K H kvs vs):Reps K H (kvs.map fun q=>T.int q.1) (vs.map fun q=>kV q.1):=by
 induction r with
 |nil=>exact .nil
 |cons h _ a =>
 refine .cons ?_ a;dsimp only;rw[h.1];exact .ofInt
theorem xP:∀{ns:List Int}{d:List V}{c:List Value},Reps X.K H (ns.map T.int) d->Vals d c->IntsAre c ns
 |[],_,_,r,a=>by rw[r.inv0] at a;cases a;exact .nil
 |x::ss,_,_,r,a=>by
  obtain⟨v,f,rfl,q,b⟩:=r.inv
  cases a with
  |cons e a =>
   cases q.int
   obtain⟨t,rfl⟩:=e
   exact .cons x t (xP b a)
theorem Dj {a:List Value}{ns:List Int}(h:IntsAre a ns):a.length=ns.length:=by
 induction h with
 |nil=>rfl
 |cons x t _ b=>rw[d_,d_,b]
variable {prog:Program}{w:World}{A:Around}{E:Value->Shared->Prop}
end
abbrev kdO (st:SortSt):SortKind:=PyProof.Rows.kindOf st
def gal:Bool->Keyed->Array Keyed->Nat->Nat->Nat->StateT SortSt Sem (Option Nat):=sortPriv% PySem.Builtin.gallop
def Hv (a:Nat->StateT SortSt Sem (Option Bool)) (n c b:Nat):StateT SortSt Sem (Option Nat):=do
 let mut lo:=c
 let mut hi:=b
 for _ in [0:n] do
  if lo ≥ hi then break
  let m:=lo+(hi - lo) / 2
  let some mr <- a m | return none
  if mr then lo:=m+1 else hi:=m
 return some hi
def vG (c:Bool) (a:Keyed) (xs:Array Keyed) (b i:Nat):StateT SortSt Sem (Option Bool):=do
 let x <- elem' xs (b+i)
 if c then lt' x a else return (<- lt' a x).map (!·)
theorem Pg (c:Bool) (d:Keyed) (xs:Array Keyed) (b n a:Nat):gal c d xs b n a=(do
 let mut la:=0
 let mut of:=1
 let some rt <- vG c d xs b a | return none
 if rt then
  let e:=n - a
  for _ in [0:n] do
   if of ≥ e then break
   let some mr <- vG c d xs b (a+of) | return none
   if !mr then break
   la:=of
   of:=2*of+1
  Hv (vG c d xs b) n (a+la+1) (a+min of e)
 else
  let e:=a+1
  for _ in [0:n] do
   if of ≥ e then break
   let some fd <- vG c d xs b (a - of) | return none
   if fd then break
   la:=of
   of:=2*of+1
  Hv (vG c d xs b) n (a+1 - min of e) (a - la)):=rfl
section
variable {prog:Program}{w:World}{A:Around}{E:Value->Shared->Prop}{s:Shared}
def Iny (x:Keyed):Prop:=∃n t,x.1=.int n t
def nu (x:Keyed):Int:=numOf x.1
theorem mJ {st:SortSt}{x y:Keyed}{Q:Option Bool->SortSt->Prop}(f:kdO st=oneType') (g:Iny x) (e:Iny y) (h:Q (some (decide (nu x<nu y))) st):wpS (model prog w) A E s (lt' x y) Q st:=by
 obtain⟨a,t,d⟩:=g;obtain⟨b,u,c⟩:=e;rw[lt'_eq];refine B_ (wpS_get ?_);rw[show PyProof.Rows.kindOf st=oneType' from f,d,c,keyLt'_oneType];refine B_ (wpS_lift (wpAny_attempt ?_));refine oneLt_int ?_;unfold nu at h;rw[d,c] at h;exact⟨rfl,L_ h⟩
theorem bx {st:SortSt}{xs:Array Keyed}{i:Nat}{Q:Keyed->SortSt->Prop}(a:i<xs.size) (h:Q xs[i] st):wpS (model prog w) A E s (elem' xs i) Q st:=by
 rw[elem'_eq,YK a];exact L_ h
def Cut (B:Nat->Bool) (n k:Nat):Prop:=k<=n/\(∀i,i<k->B i=true)/\∀i,k<=i->i<n->B i=false
theorem tM {st:SortSt}{f:Nat->StateT SortSt Sem (Option Bool)}{B:Nat->Bool}{n:Nat}{Q:Option Nat->SortSt->Prop}(G:∀i (Q:Option Bool->SortSt->Prop),i<n->Q (some (B i)) st->wpS (model prog w) A E s (f i) Q st) (d:∀i j,i<=j->j<n->B j=true->B i=true)
  (h:∀k,Cut B n k->Q (some k) st) {p b:Nat} (q:p<=b) (v:b<=n) (u:∀i,i<p->B i=true) (C:∀i,b<=i->i<n->B i=false):wpS (model prog w) A E s (Hv f n p b) Q st:=by
 unfold Hv;refine B_ (Zb (XM (I:=fun x c a=>a=st/\∃l r,c=(none,l,r)/\l<=r/\r<=n/\r - l<=n - x/\(∀i,i<l->B i=true)/\∀i,r<=i->i<n->B i=false)
  (Q:=fun c a=>a=st/\∃k,c=(none,k,k)/\Cut B n k) ?_ ?_ ⟨rfl,p,b,rfl,q,v,by omega,u,C⟩) ?_)
 ·rintro x c a _ H ⟨rfl,l,r,rfl,D,g,F,o,m⟩;dsimp only;by_cases c:l ≥ r
  ·rw[if_pos c];exact L_ ⟨rfl,r,by rw[show l=r by omega],g,fun i b=>o i (by omega),m⟩
  rw[if_neg c];refine B_ (G _ _ (by omega) ?_);dsimp only;cases e:B (l+(r - l) / 2) with
  |true=>rw[if_pos rfl];exact L_ ⟨rfl,_,r,rfl,by omega,g,by omega,fun i b=>d i _ (by omega) (by omega) e,m⟩
  |false =>
  rw[if_neg t_];refine L_ ⟨rfl,l,_,rfl,by omega,by omega,by omega,o,fun i b z=>?_⟩;cases y:B i with
  |false=>rfl
  |true=>rw[d _ i b z y] at e;cases e
 ·rintro c a ⟨rfl,l,r,rfl,D,g,F,o,m⟩;exact⟨rfl,r,by rw[show l=r by omega],g,fun i b=>o i (by omega),m⟩
 rintro c a ⟨rfl,k,rfl,t⟩;exact L_ (h k t)
theorem xQ {st:SortSt}{v:Bool}{u:Keyed}{xs:Array Keyed}{b n d:Nat}{Q:Option Nat->SortSt->Prop}(J:kdO st=oneType') (C:∀i (h:i<xs.size),Iny xs[i]) (K:Iny u) (R:b+n<=xs.size) (O:d<n) (B:Nat->Bool) (P:∀i (h:b+i<xs.size),B i=if v=true then decide (nu xs[b+i]<nu u) else !decide (nu u<nu xs[b+i])) (f:∀i j,i<=j->j<n->B j=true->B i=true)
  (h:∀k,Cut B n k->Q (some k) st):wpS (model prog w) A E s (gal v u xs b n d) Q st:=by
 rw[Pg];have r:∀i (Q:Option Bool->SortSt->Prop),i<n->Q (some (B i)) st->wpS (model prog w) A E s (vG v u xs b i) Q st:=by
  intro i Q y q;have t:b+i<xs.size:=by omega
  unfold vG;refine B_ (bx t ?_);rw[P i t] at q;cases v with
  |true=>rw[if_pos rfl] at q ⊢;exact mJ J (C _ _) K q
  |false =>
  rw[if_neg t_] at q ⊢;exact B_ (mJ J K (C _ _) (L_ q))
 have fls:∀i j,i<=j->j<n->B i=false->B j=false:=fun i j L M e=>by
  cases N:B j with
  |false=>rfl
  |true=>rw[f i j L M N] at e;cases e
 refine B_ (r _ _ O ?_);dsimp only;cases H:B d with
 |true =>
  rw[if_pos rfl];refine B_ (Zb (XM (I:=fun x c a=>a=st/\∃l o,c=(none,l,o)/\l<n - d/\l<o/\x+1<=o/\B (d+l)=true)
   (Q:=fun c a=>a=st/\∃l o,c=(none,l,o)/\l<n - d/\l<o/\B (d+l)=true/\(o<n - d->B (d+o)=false)) ?_ ?_ ⟨rfl,0,1,rfl,by omega,by omega,by omega,H⟩) ?_)
  ·rintro x c a _ C ⟨rfl,l,o,rfl,p,m,G,g⟩;dsimp only;by_cases c:o ≥ n - d
   ·rw[if_pos c];exact L_ ⟨rfl,l,o,rfl,p,m,g,fun z=>absurd z (by omega)⟩
   rw[if_neg c];refine B_ (r _ _ (by omega) ?_);dsimp only;cases e:B (d+o) with
   |false=>rw[if_pos (by decide)];exact L_ ⟨rfl,l,o,rfl,p,m,g,fun _=>e⟩
   |true =>
   rw[if_neg (by decide)];exact L_ ⟨rfl,o,_,rfl,by omega,by omega,by omega,e⟩
  ·rintro c a ⟨rfl,l,o,rfl,p,m,G,g⟩;exact⟨rfl,l,o,rfl,p,m,g,fun z=>absurd z (by omega)⟩
  rintro c a ⟨rfl,l,o,rfl,p,m,g,D⟩;dsimp only;refine tM r f h (by omega) (by omega) (fun i y=>f i _ (by omega) (by omega) g) fun i y F=>?_;exact fls (d+o) i (by omega) F (D (by omega))
 |false =>
 rw[if_neg t_];refine B_ (Zb (XM (I:=fun x c a=>a=st/\∃l o,c=(none,l,o)/\l<d+1/\l<o/\x+1<=o/\B (d - l)=false)
  (Q:=fun c a=>a=st/\∃l o,c=(none,l,o)/\l<d+1/\l<o/\B (d - l)=false/\(o<d+1->B (d - o)=true)) ?_ ?_ ⟨rfl,0,1,rfl,by omega,by omega,by omega,H⟩) ?_)
 ·rintro x c a _ C ⟨rfl,l,o,rfl,p,m,G,g⟩;dsimp only;by_cases c:o ≥ d+1
  ·rw[if_pos c];exact L_ ⟨rfl,l,o,rfl,p,m,g,fun z=>absurd z (by omega)⟩
  rw[if_neg c];refine B_ (r _ _ (by omega) ?_);dsimp only;cases e:B (d - o) with
  |true=>rw[if_pos rfl];exact L_ ⟨rfl,l,o,rfl,p,m,g,fun _=>e⟩
  |false =>
  rw[if_neg t_];exact L_ ⟨rfl,o,_,rfl,by omega,by omega,by omega,e⟩
 ·rintro c a ⟨rfl,l,o,rfl,p,m,G,g⟩;exact⟨rfl,l,o,rfl,p,m,g,fun z=>absurd z (by omega)⟩
 rintro c a ⟨rfl,l,o,rfl,p,m,g,D⟩;dsimp only;refine tM r f h (by omega) (by omega) (fun i y=>?_) fun i y F=>fls _ i (by omega) F g;by_cases z:o<d+1
 ·exact f i (d - o) (by omega) (by omega) (D z)
 omega
end
def mlo:Array Keyed->Array Keyed->StateT SortSt Sem (Array Keyed):=sortPriv% PySem.Builtin.mergeLo
def Dk (g:Nat):StateT SortSt Sem Unit:=(sortPriv% PySem.Builtin.setMinGallop) g
abbrev LS:=Option (Array Keyed) × Array Keyed × Nat × Nat × Nat × Nat
abbrev LG:=Option (Array Keyed) × Array Keyed × Nat × Nat × Nat × Nat × Nat
abbrev LO:=Option (Array Keyed) × Array Keyed × Nat × Nat × Nat
section
variable (a b:Array Keyed)
def dnL (o:Array Keyed) (i j:Nat):Array Keyed:=o++a.extract i a.size++b.extract j b.size
def laL (o:Array Keyed) (i j:Nat):Array Keyed:=o++b.extract j b.size++a.extract i a.size
def stL (e:Nat) (o:Array Keyed) (i j c d:Nat):StateT SortSt Sem (ForInStep LS):=do
 let y <- elem' b j
 let x <- elem' a i
 match <- lt' y x with
 |some bw =>
  if bw then do
   let y <- elem' b j
   if j+1==b.size then pure (.done (some (dnL a b (o.push y) i (j+1)),o.push y,i,j+1,0,d+1))
   else if d+1 ≥ e then pure (.done (none,o.push y,i,j+1,0,d+1)) else pure (.yield (none,o.push y,i,j+1,0,d+1))
  else do
   let x <- elem' a i
   if i+1+1==a.size then pure (.done (some (laL a b (o.push x) (i+1) j),o.push x,i+1,j,c+1,0))
   else if c+1 ≥ e then pure (.done (none,o.push x,i+1,j,c+1,0)) else pure (.yield (none,o.push x,i+1,j,c+1,0))
 |_=>pure (.done (some (dnL a b o i j),o,i,j,c,d))
def enL (o:Array Keyed) (i j d k c:Nat):StateT SortSt Sem (ForInStep LG):=do
 let x <- elem' a i
 if i+1+1==a.size then pure (.done (some (laL a b (o.push x) (i+1) j),o.push x,i+1,j,d,k,c))
 else if decide (k<7)&&decide (c<7) then pure (.done (none,o.push x,i+1,j,d,k,c)) else pure (.yield (none,o.push x,i+1,j,d,k,c))
def hfL (o:Array Keyed) (i j d k e:Nat):StateT SortSt Sem (ForInStep LG):=do
 let y <- elem' b j
 if j+1==b.size then pure (.done (some (dnL a b (o.push y) i (j+1)),o.push y,i,j+1,d,k,e))
 else do
  let x <- elem' a i
  match <- gal true x b (j+1) (b.size - (j+1)) 0 with
  |some c =>
   if c>0 then
    if j+1+c==b.size then pure (.done (some (dnL a b (o.push y++b.extract (j+1) (j+1+c)) i (j+1+c)),o.push y++b.extract (j+1) (j+1+c),i,j+1+c,d,k,c))
    else enL a b (o.push y++b.extract (j+1) (j+1+c)) i (j+1+c) d k c
   else enL a b (o.push y) i (j+1) d k c
  |_=>pure (.done (some (dnL a b (o.push y) i (j+1)),o.push y,i,j+1,d,k,e))
def gaL (o:Array Keyed) (i j c e d:Nat):StateT SortSt Sem (ForInStep LG):=do
 Dk c
 let y <- elem' b j
 match <- gal false y a i (a.size - i) 0 with
 |some k =>
  if k>0 then
   if i+k+1==a.size then pure (.done (some (laL a b (o++a.extract i (i+k)) (i+k) j),o++a.extract i (i+k),i+k,j,c,k,d))
   else if i+k==a.size then pure (.done (some (dnL a b (o++a.extract i (i+k)) (i+k) j),o++a.extract i (i+k),i+k,j,c,k,d))
   else hfL a b (o++a.extract i (i+k)) (i+k) j c k d
  else hfL a b o i j c k d
 |_=>pure (.done (some (dnL a b o i j),o,i,j,c,e,d))
def ouL (c:LO):StateT SortSt Sem (ForInStep LO):=do
 let r <- forIn [0:a.size+b.size] ((none,c.2.1,c.2.2.1,c.2.2.2.1,0,0):LS) fun _ r=>stL a b c.2.2.2.2 r.2.1 r.2.2.1 r.2.2.2.1 r.2.2.2.2.1 r.2.2.2.2.2
 match r.1 with
 |some z=>pure (.done (some z,r.2.1,r.2.2.1,r.2.2.2.1,c.2.2.2.2))
 |none=>do
  rule "list.sort.gallop"
  let q <- forIn [0:a.size+b.size] ((none,r.2.1,r.2.2.1,r.2.2.2.1,c.2.2.2.2+1,r.2.2.2.2.1,r.2.2.2.2.2):LG) fun _ q =>
   if q.2.2.2.2.1>1 then gaL a b q.2.1 q.2.2.1 q.2.2.2.1 (q.2.2.2.2.1 - 1) q.2.2.2.2.2.1 q.2.2.2.2.2.2 else gaL a b q.2.1 q.2.2.1 q.2.2.2.1 q.2.2.2.2.1 q.2.2.2.2.2.1 q.2.2.2.2.2.2
  match q.1 with
  |some z=>pure (.done (some z,q.2.1,q.2.2.1,q.2.2.2.1,q.2.2.2.2.1))
  |none=>do
   Dk (q.2.2.2.2.1+1)
   pure (.yield (none,q.2.1,q.2.2.1,q.2.2.2.1,q.2.2.2.2.1+1))
theorem aM {b c:Type}{x y:StateT SortSt Sem b}{f g:b->StateT SortSt Sem c}(h:x=y) (k:∀a,f a=g a):x >>= f=y >>= g:=by rw[h];exact bind_congr k
theorem Ph:mlo a b=(do
 rule "list.sort.merge-lo"
 let y <- elem' b 0
 if 1==b.size then pure (dnL a b #[y] 0 1)
 else if 0+1==a.size then pure (laL a b #[y] 0 1)
 else do
  let g <- get
  let c <- forIn [0:a.size+b.size] ((none,#[y],0,1,gallopOf g):LO) fun _ c=>ouL a b c
  match c.1 with
  |some z=>pure z
  |none=>unsupported "internal:list.sort.merge-bound"):=by
 refine aM rfl fun _=>aM rfl fun y=>?_
 refine O_ (fun z=>ite ((1==b.size)=true) (pure (dnL a b #[y] 0 1)) z) ?_
 refine O_ (fun z=>ite ((0+1==a.size)=true) (pure (laL a b #[y] 0 1)) z) ?_
 refine aM rfl fun g=>aM (O_ (fun f=>forIn [0:a.size+b.size] ((none,#[y],0,1,gallopOf g):LO) f) ?_) ?_
 ·
  funext x c
  refine aM rfl fun r=>?_
  cases e:r.1 with
  |some z=>rfl
  |none=>exact aM rfl fun _=>aM rfl fun q=>by cases q.1 <;> rfl
 ·
  intro c
  cases c.1 <;> rfl
end
def SL (l:List Keyed):Prop:=l.Pairwise fun x y=>nu x<=nu y
structure MI (O X Y T:List Keyed):Prop where
 x:SL (O++X)
 y:SL (O++Y)
 p:(O++X++Y).Perm T
theorem MI.symm {O X Y T:List Keyed}(h:MI O X Y T):MI O Y X T:=⟨h.y,h.x,by
 refine List.Perm.trans ?_ h.p
 rw[x_,x_]
 exact Zm.append_left _⟩
theorem MI.mv {O P X Y T:List Keyed}(h:MI O (P++X) Y T) (f:∀p∈P,∀y∈Y,nu p<=nu y):MI (O++P) X Y T:=by
 obtain⟨b,a,d⟩:=h;refine⟨by rw[x_];exact b,?_,by rw[<- x_] at d;exact d⟩;unfold SL at *;rw[<- x_,Yk] at b;rw[Yk] at a ⊢;refine⟨b.1,a.2.1,fun p c y e=>?_⟩;rcases A_.mp c with z | z
 ·exact a.2.2 p z y e
 exact f p z y e
theorem MI.le {O X Y T:List Keyed}{x:Keyed}(h:MI O (x::X) Y T):∀z∈x::X,nu x<=nu z:=by
 have:=(Yk.mp h.x).2.1;intro z a;rcases o_.mp a with rfl | a
 ·exact Xo _
 exact (Z5.mp this).1 z a
def gh (a b r:Array Keyed):Prop:=SL r.toList/\r.toList.Perm (a.toList++b.toList)
def SSt (st a:SortSt):Prop:=kdO a=kdO st/\arrOf a=arrOf st/\pendingOf a=pendingOf st/\failedOf a=failedOf st
section
variable {prog:Program}{w:World}{A:Around}{E:Value->Shared->Prop}{s:Shared}{a b:Array Keyed}
theorem jV (xs:Array Keyed) (i:Nat):(xs.extract i xs.size).toList=xs.toList.drop i:=by
 simp only[Array.toList_extract,YL];exact Xk (by simp)
theorem Dl (xs:Array Keyed) (i k:Nat):(xs.extract i (i+k)).toList=(xs.toList.drop i).take k:=by
 simp [YL]
structure LiL (a b o:Array Keyed) (i j:Nat):Prop where
 hi:i+1<a.size
 hj:j<b.size
 hn:o.size=i+j
 hm:MI o.toList (a.toList.drop i) (b.toList.drop j) (a.toList++b.toList)
structure TwL (a b:Array Keyed):Prop where
 a1:1<=a.size
 b1:1<=b.size
 ia:∀i (h:i<a.size),Iny a[i]
 ib:∀i (h:i<b.size),Iny b[i]
 sa:SL a.toList
 sb:SL b.toList
 hd:∀x∈a.toList,∀(h:0<b.size),nu b[0]<=nu x
 tl:∀y∈b.toList,∀(h:a.size - 1<a.size),nu y<=nu a[a.size - 1]
theorem iV {xs:Array Keyed}{i:Nat}(h:i<xs.size):xs.toList.drop i=xs[i]::xs.toList.drop (i+1):=by
 rw[Yd (by simpa using h),Yl]
theorem xR {o:Array Keyed}{i j:Nat}(h:MI o.toList (a.toList.drop i) (b.toList.drop j) (a.toList++b.toList)) (c:j=b.size):gh a b (dnL a b o i j):=by
 have e:(dnL a b o i j).toList=o.toList++a.toList.drop i++b.toList.drop j:=by unfold dnL;rw[Xl,Xl,jV,jV]
 refine⟨?_,by rw[e];exact h.p⟩;rw[e,XJ (l:=b.toList) (by simp;omega),J_];exact h.x
theorem Uu {o:Array Keyed}{i j:Nat}(h:MI o.toList (a.toList.drop i) (b.toList.drop j) (a.toList++b.toList)) (c:i=a.size):gh a b (dnL a b o i j):=by
 have e:(dnL a b o i j).toList=o.toList++a.toList.drop i++b.toList.drop j:=by unfold dnL;rw[Xl,Xl,jV,jV]
 refine⟨?_,by rw[e];exact h.p⟩;rw[e,XJ (l:=a.toList) (by simp;omega),J_];exact h.y
theorem xT (t:TwL a b) {o:Array Keyed}{i j:Nat}(h:MI o.toList (a.toList.drop i) (b.toList.drop j) (a.toList++b.toList)) (k:i+1=a.size):gh a b (laL a b o i j):=by
 have e:(laL a b o i j).toList=o.toList++b.toList.drop j++a.toList.drop i:=by unfold laL;rw[Xl,Xl,jV,jV]
 refine⟨?_,by rw[e];exact h.symm.p⟩;have c:=h.x;have f:a.toList.drop i=[a[i]'(by omega)]:=by rw[iV (by omega),XJ (by simp;omega)]
 rw[e,f];rw[f] at c;unfold SL at *;rw[Yk] at c ⊢;refine⟨h.y,by simp,fun z g u d=>?_⟩;rcases A_.mp g with q | q
 ·exact c.2.2 z q u d
 rw[g_.mp d];have:=t.tl z (List.mem_of_mem_drop q) (by omega);simpa only[show a.size - 1=i by omega] using this
theorem LiL.pushB {o:Array Keyed}{i j:Nat}(h:LiL a b o i j) (c:∀x∈a.toList.drop i,nu (b[j]'h.hj)<=nu x):MI (o.push (b[j]'h.hj)).toList (a.toList.drop i) (b.toList.drop (j+1)) (a.toList++b.toList):=by
 have m:=h.hm.symm;rw[iV h.hj] at m;rw[Zu];exact (MI.mv (P:=[b[j]'h.hj]) m fun p e y d=>by rw[g_.mp e];exact c y d).symm
theorem LiL.pushA {o:Array Keyed}{i j:Nat}(h:LiL a b o i j) (c:∀y∈b.toList.drop j,nu (a[i]'(aad h.hi))<=nu y):MI (o.push (a[i]'(aad h.hi))).toList (a.toList.drop (i+1)) (b.toList.drop j) (a.toList++b.toList):=by
 have m:=h.hm;rw[iV (aad h.hi)] at m;rw[Zu];exact MI.mv (P:=[a[i]'_]) m fun p e y d=>by rw[g_.mp e];exact c y d
theorem Hw (t:TwL a b) {st:SortSt}{v:Nat}{o:Array Keyed}{i j q n:Nat}{Q:ForInStep LS->SortSt->Prop}(u:kdO st=oneType') (h:LiL a b o i j)
  (p:∀z c,gh a b z->Q (.done (some z,c)) st) (l:∀o' i' j' c,LiL a b o' i' j'->o'.size=o.size+1->Q (.done (none,o',i',j',c)) st/\Q (.yield (none,o',i',j',c)) st):wpS (model prog w) A E s (stL a b v o i j q n) Q st:=by
 have g:=aad h.hi;unfold stL;refine B_ (bx h.hj (B_ (bx g (B_ (mJ u (t.ib _ _) (t.ia _ _) ?_)))));dsimp only;by_cases c:nu (b[j]'h.hj)<nu a[i]
 ·rw[if_pos (q_ c)];refine B_ (bx h.hj ?_);have m:=h.pushB fun x r=>by have f:=h.hm;rw[iV g] at f r;exact X3 (Xz c) (f.le x r)
  by_cases e:j+1=b.size
  ·rw[if_pos (by simp [e])];exact L_ (p _ _ (xR m e))
  rw[if_neg (by simp [e])];have d:=l (o.push (b[j]'h.hj)) i (j+1) (0,n+1) ⟨h.hi,by have:=h.hj;omega,by rw[Xg,h.hn];omega,m⟩ (Xg _);split
  ·exact L_ d.1
  exact L_ d.2
 rw[if_neg (Hj c)];refine B_ (bx g ?_);have m:=h.pushA fun y k=>by have f:=h.hm.symm;rw[iV h.hj] at f k;exact X3 (Int.not_lt.mp c) (f.le y k)
 by_cases e:i+1+1=a.size
 ·rw[if_pos (by simp [e])];exact L_ (p _ _ (xT t m e))
 rw[if_neg (by simp [e])];have d:=l (o.push a[i]) (i+1) j (q+1,0) ⟨by have:=h.hi;omega,h.hj,by rw[Xg,h.hn];omega,m⟩ (Xg _);split
 ·exact L_ d.1
 exact L_ d.2
theorem SSt.refl {st:SortSt}:SSt st st:=⟨rfl,rfl,rfl,rfl⟩
theorem SSt.trans {st a b:SortSt}(h:SSt st a) (g:SSt a b):SSt st b:=⟨g.1.trans h.1,g.2.1.trans h.2.1,g.2.2.1.trans h.2.2.1,g.2.2.2.trans h.2.2.2⟩
theorem jD {st:SortSt}{g:Nat}{Q:Unit->SortSt->Prop}(h:∀st',SSt st st'->Q () st'):wpS (model prog w) A E s (Dk g) Q st:=wpS_modify (h _ ⟨rfl,rfl,rfl,rfl⟩)
theorem mK {xs:Array Keyed}(h:SL xs.toList) {i j:Nat}(a:i<=j) (b:j<xs.size):nu (xs[i]'(Nat.lt_of_le_of_lt a b))<=nu xs[j]:=by
 rcases Z6 a with z | z
 ·have:=XH.mp h i j (by simp;omega) (by simpa using b) z;simpa using this
 subst z;exact Xo _
theorem mL {st:SortSt}{xs:Array Keyed}{c:Keyed}{b n l:Nat}{Q:Option Nat->SortSt->Prop}(t:kdO st=oneType') (q:∀i j (d:i<=j) (m:b+j<xs.size),j<n->nu (xs[b+i]'(by omega))<=nu xs[b+j]) (v:∀i (h:i<xs.size),Iny xs[i]) (o:Iny c) (u:b+n<=xs.size) (x:l<n)
  (h:∀k,k<=n->(∀i (a:b+i<xs.size),i<k->nu xs[b+i]<=nu c)->(∀i (a:b+i<xs.size),k<=i->i<n->nu c<nu xs[b+i])->Q (some k) st):wpS (model prog w) A E s (gal false c xs b n l) Q st:=by
 refine xQ t v o u x (fun i=>if h:b+i<xs.size then !decide (nu c<nu xs[b+i]) else false) (fun i a=>by rw[dif_pos a];rfl) (fun i j d m e=>?_) fun k g=>h k g.1 (fun i a f=>?_) fun i a r p=>?_
 ·rw[dif_pos (by omega)] at e ⊢;have:=q i j d (by omega) m;have y:=Z7 (Zv _▸e);rw[p_ (by omega)];rfl
 ·have:=g.2.1 i f;dsimp only at this;rw[dif_pos a] at this;have:=Z7 (Zv _▸this);omega
 have:=g.2.2 i r p;dsimp only at this;rw[dif_pos a] at this;rw[Bool.not_eq_false'] at this;exact Xa this
theorem mO {st:SortSt}{xs:Array Keyed}{c:Keyed}{b n l:Nat}{Q:Option Nat->SortSt->Prop}(t:kdO st=oneType') (q:∀i j (d:i<=j) (m:b+j<xs.size),j<n->nu (xs[b+i]'(by omega))<=nu xs[b+j]) (v:∀i (h:i<xs.size),Iny xs[i]) (o:Iny c) (u:b+n<=xs.size) (x:l<n)
  (h:∀k,k<=n->(∀i (a:b+i<xs.size),i<k->nu xs[b+i]<nu c)->(∀i (a:b+i<xs.size),k<=i->i<n->nu c<=nu xs[b+i])->Q (some k) st):wpS (model prog w) A E s (gal true c xs b n l) Q st:=by
 refine xQ t v o u x (fun i=>if h:b+i<xs.size then decide (nu xs[b+i]<nu c) else false) (fun i a=>by rw[dif_pos a];rfl) (fun i j d m e=>?_) fun k g=>h k g.1 (fun i a f=>?_) fun i a r p=>?_
 ·rw[dif_pos (by omega)] at e ⊢;have:=q i j d (by omega) m;have:=Xa e;exact q_ (by omega)
 ·have:=g.2.1 i f;dsimp only at this;rw[dif_pos a] at this;exact Xa this
 have:=g.2.2 i r p;dsimp only at this;rw[dif_pos a] at this;exact Int.not_lt.mp (Z7 this)
theorem dz {xs:Array Keyed}{i:Nat}{z:Keyed}(h:z∈xs.toList.drop i):∃k,∃a:i+k<xs.size,z=xs[i+k]:=by
 obtain⟨k,a,rfl⟩:=XS h;rw[Xe,P_] at a;exact⟨k,by omega,by rw[Zw,Yl]⟩
theorem mem_mid {xs:Array Keyed}{i n:Nat}{z:Keyed}(h:z∈(xs.toList.drop i).take n):∃k,k<n/\∃a:i+k<xs.size,z=xs[i+k]:=by
 obtain⟨k,a,rfl⟩:=XS h;rw[Xc,Xe,P_] at a;exact⟨k,by omega,by omega,by rw[Zx,Zw,Yl]⟩
theorem tO (xs:List Keyed) (i k:Nat):xs.drop i=(xs.drop i).take k++xs.drop (i+k):=by rw[<- List.drop_drop,W_]
def StG (a b:Array Keyed) (n:Nat) (Q:ForInStep LG->SortSt->Prop) (st:SortSt):Prop:=(∀z c d,SSt st d->gh a b z->Q (.done (some z,c)) d)/\∀o i j c d,SSt st d->LiL a b o i j->n<=o.size->Q (.done (none,o,i,j,c)) d/\Q (.yield (none,o,i,j,c)) d
theorem StG.next {n:Nat}{Q:ForInStep LG->SortSt->Prop}{st e:SortSt}(h:StG a b n Q st) (g:SSt st e) {m:Nat}(p:n<=m):StG a b m Q e:=⟨fun z c d f q=>h.1 z c d (g.trans f) q,fun o i j c d f k l=>h.2 o i j c d (g.trans f) k (W6 p l)⟩
theorem xU (t:TwL a b) {st:SortSt}{o:Array Keyed}{i j p k g n:Nat}{Q:ForInStep LG->SortSt->Prop}(q:i+1<a.size) (l:j<b.size) (f:o.size=i+j) (r:MI o.toList (a.toList.drop i) (b.toList.drop j) (a.toList++b.toList)) (c:∀y∈b.toList.drop j,nu a[i]<=nu y) (u:n<=o.size) (h:StG a b n Q st):wpS (model prog w) A E s (enL a b o i j p k g) Q st:=by
 unfold enL;refine B_ (bx (by omega) ?_);have m:=LiL.pushA ⟨q,l,f,r⟩ c;by_cases e:i+1+1=a.size
 ·rw[if_pos (by simp [e])];exact L_ (h.1 _ _ _ .refl (xT t m e))
 rw[if_neg (by simp [e])];have d:=h.2 (o.push a[i]) (i+1) j (p,k,g) st .refl ⟨by omega,l,by rw[Xg,f];omega,m⟩ (by rw[Xg];omega);split
 ·exact L_ d.1
 exact L_ d.2
theorem xV (t:TwL a b) {st:SortSt}{o:Array Keyed}{i j M k J n:Nat}{Q:ForInStep LG->SortSt->Prop}(L:kdO st=oneType') (l:LiL a b o i j) (v:∀x∈a.toList.drop i,nu (b[j]'l.hj)<=nu x) (P:n<=o.size) (h:StG a b n Q st):wpS (model prog w) A E s (hfL a b o i j M k J) Q st:=by
 have G:=l.hi;have C:=l.hj;unfold hfL;refine B_ (bx l.hj ?_);have m:=l.pushB v;by_cases e:j+1=b.size
 ·rw[if_pos (by simp [e])];exact L_ (h.1 _ _ _ .refl (xR m e))
 rw[if_neg (by simp [e])];refine B_ (bx (by omega) (B_ (mO L (fun i j N C _=>mK t.sb (by omega) C) t.ib (t.ia _ _) (by omega) (by omega) fun f O I D=>?_)));dsimp only;have H:∀x∈a.toList.drop i,nu a[i]<=nu x:=fun x B=>by obtain⟨q,d,rfl⟩:=dz B;exact mK t.sa (by omega) d
 by_cases c:f>0
 ·rw[if_pos c];have F:=m.symm;rw[tO b.toList (j+1) f] at F;have g:=(F.mv fun p K x B=>by
   obtain⟨q,d,u,rfl⟩:=mem_mid K
   exact X3 (Xz (I q u d)) (H x B)).symm
  rw[<- Dl,<- Xl] at g;by_cases r:j+1+f=b.size
  ·rw[if_pos (by simp [r])];exact L_ (h.1 _ _ _ .refl (xR g r))
  rw[if_neg (by simp [r])];refine xU t G (by omega) ?_ g (fun y z=>?_) ?_ h
  ·rw[Yp,Xg,Z8,l.hn];omega
  ·obtain⟨q,d,rfl⟩:=dz z;simpa only[aah] using D (f+q) (by omega) (by omega) (by omega)
  rw[Yp,Xg];omega
 rw[if_neg c];refine xU t G (by omega) (by rw[Xg,l.hn];omega) m (fun y z=>?_) (by rw[Xg];omega) h;obtain⟨q,d,rfl⟩:=dz z;exact D q d (by omega) (by omega)
theorem Hx (t:TwL a b) {st:SortSt}{o:Array Keyed}{i j J I G:Nat}{Q:ForInStep LG->SortSt->Prop}(u:kdO st=oneType') (l:LiL a b o i j) (h:StG a b o.size Q st):wpS (model prog w) A E s (gaL a b o i j J I G) Q st:=by
 have N:=l.hi;have n:=l.hj;unfold gaL;refine B_ (jD fun D g=>B_ (bx l.hj (B_ (mL (g.1.trans u) (fun i j L n _=>mK t.sa (by omega) n) t.ia (t.ib _ _) (by omega) (by omega) fun k M F C=>?_))));dsimp only;have h':=h.next g (j_ _);by_cases c:k>0
 ·rw[if_pos c];have m:=l.hm;rw[tO a.toList i k] at m;have f:=m.mv fun p H y K=>by obtain⟨q,d,B,rfl⟩:=mem_mid H;obtain⟨O,z,rfl⟩:=dz K;exact X3 (F q B d) (mK t.sb (by omega) z)
  rw[<- Dl,<- Xl] at f;by_cases e:i+k+1=a.size
  ·rw[if_pos (by simp [e])];exact L_ (h'.1 _ _ _ .refl (xT t f e))
  rw[if_neg (by simp [e])];by_cases v:i+k=a.size
  ·rw[if_pos (by simp [v])];exact L_ (h'.1 _ _ _ .refl (Uu f v))
  rw[if_neg (by simp [v])];refine xV t (g.1.trans u) ⟨by omega,n,by rw[Yp,Z8,l.hn];omega,f⟩ (fun x r=>?_) (by rw[Yp];omega) h';obtain⟨q,d,rfl⟩:=dz r;exact Xz (by simpa only[aah] using C (k+q) (by omega) (by omega) (by omega))
 rw[if_neg c];refine xV t (g.1.trans u) l (fun x r=>?_) (j_ _) h';obtain⟨q,d,rfl⟩:=dz r;exact Xz (C q d (by omega) (by omega))
theorem Hy (t:TwL a b) {st:SortSt}{c:LO}{Q:ForInStep LO->SortSt->Prop}(M:kdO st=oneType') (J:LiL a b c.2.1 c.2.2.1 c.2.2.2.1)
  (G:∀z c d,SSt st d->gh a b z->Q (.done (some z,c)) d) (K:∀o i j N d,SSt st d->LiL a b o i j->c.2.1.size+1<=o.size->Q (.yield (none,o,i,j,N)) d):wpS (model prog w) A E s (ouL a b c) Q st:=by
 obtain⟨T,o,i,j,N⟩:=c;dsimp only at J K;have U:=t.a1;unfold ouL;dsimp only;refine B_ (Zb (XM (I:=fun x r d=>d=st/\∃k u p q,r=(none,k,u,p,q)/\LiL a b k u p/\o.size+x<=k.size)
  (Q:=fun r d=>d=st/\((∃z q,r=(some z,q)/\gh a b z)\/∃k u p q,r=(none,k,u,p,q)/\LiL a b k u p/\o.size+1<=k.size)) ?_ ?_ ⟨rfl,o,i,j,_,rfl,J,j_ _⟩) ?_)
 ·rintro x r d _ S ⟨rfl,k,u,p,q,rfl,l,F⟩;dsimp only;exact Hw t M l (fun z c B=>⟨rfl,.inl ⟨z,c,rfl,B⟩⟩) fun f m n c y e=>⟨⟨rfl,.inr ⟨f,m,n,c,rfl,y,by omega⟩⟩,rfl,f,m,n,c,rfl,y,by omega⟩
 ·rintro r d ⟨rfl,k,u,p,q,rfl,l,F⟩;exact⟨rfl,.inr ⟨k,u,p,q,rfl,l,by omega⟩⟩
 rintro r d ⟨rfl,⟨z,q,rfl,B⟩ | ⟨k,u,p,q,rfl,l,F⟩⟩
 ·exact L_ (G _ _ _ .refl B)
 dsimp only;refine B_ (wpS_lift (Z3 ⟨rfl,?_⟩));refine B_ (Zb (XM (I:=fun x r h=>SSt d h/\∃f m n q,r=(none,f,m,n,q)/\LiL a b f m n/\o.size+1<=f.size)
  (Q:=fun r h=>SSt d h/\((∃z q,r=(some z,q)/\gh a b z)\/∃f m n q,r=(none,f,m,n,q)/\LiL a b f m n/\o.size+1<=f.size)) ?_ ?_ ⟨.refl,k,u,p,_,rfl,l,F⟩) ?_)
 ·rintro x r h _ S ⟨g,f,m,n,q,rfl,y,v⟩;dsimp only;split <;> exact Hx t (g.1.trans M) y ⟨fun z c D C B=>⟨g.trans C,.inl ⟨z,c,rfl,B⟩⟩,fun O L H c D C P R=>⟨⟨g.trans C,.inr ⟨O,L,H,c,rfl,P,by omega⟩⟩,g.trans C,O,L,H,c,rfl,P,by omega⟩⟩
 ·rintro r h ⟨g,f,m,n,q,rfl,y,v⟩;exact⟨g,.inr ⟨f,m,n,q,rfl,y,v⟩⟩
 rintro r h ⟨g,⟨z,q,rfl,B⟩ | ⟨f,m,n,q,rfl,y,v⟩⟩
 ·exact L_ (G _ _ _ g B)
 exact B_ (jD fun D C=>L_ (K _ _ _ _ _ (g.trans C) y v))
theorem Hz (t:TwL a b) {st:SortSt}{Q:Array Keyed->SortSt->Prop}(H:kdO st=oneType') (h:∀z d,SSt st d->gh a b z->Q z d):wpS (model prog w) A E s (mlo a b) Q st:=by
 have N:=t.a1;have M:=t.b1;rw[Ph];refine B_ (wpS_lift (Z3 ⟨rfl,?_⟩));refine B_ (bx (by omega) ?_);have D:MI [] (b[0]::b.toList.drop 1) (a.toList.drop 0) (a.toList++b.toList):=by have:=iV (xs:=b) (i:=0) (by omega);rw[aac] at this;rw[aac,<- this];exact⟨t.sb,t.sa,Zm⟩
 have m:MI (#[b[0]]:Array Keyed).toList (a.toList.drop 0) (b.toList.drop 1) (a.toList++b.toList):=(MI.mv (P:=[b[0]]) D fun p F x B=>by rw[g_.mp F];exact t.hd x B (by omega)).symm;by_cases e:1=b.size
 ·rw[if_pos (by simp [<- e])];exact L_ (h _ _ .refl (xR m e))
 rw[if_neg (by simpa using e)];by_cases n:0+1=a.size
 ·rw[if_pos (by simp [<- n])];exact L_ (h _ _ .refl (xT t m n))
 rw[if_neg (by simpa using n)];refine B_ (wpS_get (B_ (Zb (XM (I:=fun x c d=>SSt st d/\∃o i j u,c=(none,o,i,j,u)/\LiL a b o i j/\x<o.size)
  (Q:=fun c d=>SSt st d/\∃z q,c=(some z,q)/\gh a b z) ?_ ?_ ⟨.refl,_,0,1,_,rfl,⟨by omega,by omega,rfl,m⟩,by show 0<1;omega⟩) ?_)))
 ·rintro x c d _ B ⟨g,o,i,j,u,rfl,l,J⟩;exact Hy t (g.1.trans H) l (fun z c y f r=>⟨g.trans f,z,c,rfl,r⟩) fun C G L v y f K k=>⟨g.trans f,C,G,L,v,rfl,K,by dsimp only at k;omega⟩
 ·rintro c d ⟨g,o,i,j,u,rfl,l,J⟩;have:=l.hn;have:=l.hi;have:=l.hj;omega
 rintro c d ⟨g,z,q,rfl,r⟩;exact L_ (h z d g r)
end
def mhi:Array Keyed->Array Keyed->StateT SortSt Sem (Array Keyed):=sortPriv% PySem.Builtin.mergeHi
abbrev RS:=Option (Array Keyed) × Nat × Nat × Array Keyed × Nat × Nat
abbrev RG:=Option (Array Keyed) × Nat × Nat × Array Keyed × Nat × Nat × Nat
abbrev RO:=Option (Array Keyed) × Nat × Nat × Array Keyed × Nat
section
variable (a b:Array Keyed)
def dnR (o:Array Keyed) (i j:Nat):Array Keyed:=a.extract 0 i++b.extract 0 j++o.reverse
def fbR (o:Array Keyed) (i j:Nat):Array Keyed:=b.extract 0 j++a.extract 0 i++o.reverse
def stR (e i j:Nat) (o:Array Keyed) (c d:Nat):StateT SortSt Sem (ForInStep RS):=do
 let y <- elem' b (j - 1)
 let x <- elem' a (i - 1)
 match <- lt' y x with
 |some f =>
  if f then do
   let x <- elem' a (i - 1)
   if i - 1==0 then pure (.done (some (dnR a b (o.push x) (i - 1) j),i - 1,j,o.push x,c+1,0))
   else if c+1 ≥ e then pure (.done (none,i - 1,j,o.push x,c+1,0)) else pure (.yield (none,i - 1,j,o.push x,c+1,0))
  else do
   let y <- elem' b (j - 1)
   if j - 1==1 then pure (.done (some (fbR a b (o.push y) i (j - 1)),i,j - 1,o.push y,0,d+1))
   else if d+1 ≥ e then pure (.done (none,i,j - 1,o.push y,0,d+1)) else pure (.yield (none,i,j - 1,o.push y,0,d+1))
 |_=>pure (.done (some (dnR a b o i j),i,j,o,c,d))
def enR (i j:Nat) (o:Array Keyed) (d k c:Nat):StateT SortSt Sem (ForInStep RG):=do
 let x <- elem' a (i - 1)
 if i - 1==0 then pure (.done (some (dnR a b (o.push x) (i - 1) j),i - 1,j,o.push x,d,k,c))
 else if decide (k<7)&&decide (c<7) then pure (.done (none,i - 1,j,o.push x,d,k,c)) else pure (.yield (none,i - 1,j,o.push x,d,k,c))
def hfR (i j:Nat) (o:Array Keyed) (c k d:Nat):StateT SortSt Sem (ForInStep RG):=do
 let y <- elem' b (j - 1)
 if j - 1==1 then pure (.done (some (fbR a b (o.push y) i (j - 1)),i,j - 1,o.push y,c,k,d))
 else do
  let x <- elem' a (i - 1)
  match <- gal true x b 0 (j - 1) (j - 1 - 1) with
  |some t =>
   if j - 1 - t>0 then
    if t==1 then pure (.done (some (fbR a b (o.push y++(b.extract t (j - 1)).reverse) i t),i,t,o.push y++(b.extract t (j - 1)).reverse,c,k,j - 1 - t))
    else if t==0 then pure (.done (some (dnR a b (o.push y++(b.extract t (j - 1)).reverse) i t),i,t,o.push y++(b.extract t (j - 1)).reverse,c,k,j - 1 - t))
    else enR a b i t (o.push y++(b.extract t (j - 1)).reverse) c k (j - 1 - t)
   else enR a b i (j - 1) (o.push y) c k (j - 1 - t)
  |_=>pure (.done (some (dnR a b (o.push y) i (j - 1)),i,j - 1,o.push y,c,k,d))
def gaR (i j:Nat) (o:Array Keyed) (c e d:Nat):StateT SortSt Sem (ForInStep RG):=do
 Dk c
 let y <- elem' b (j - 1)
 match <- gal false y a 0 i (i - 1) with
 |some t =>
  if i - t>0 then
   if t==0 then pure (.done (some (dnR a b (o++(a.extract t i).reverse) t j),t,j,o++(a.extract t i).reverse,c,i - t,d))
   else hfR a b t j (o++(a.extract t i).reverse) c (i - t) d
  else hfR a b i j o c (i - t) d
 |_=>pure (.done (some (dnR a b o i j),i,j,o,c,e,d))
def ouR (c:RO):StateT SortSt Sem (ForInStep RO):=do
 let r <- forIn [0:a.size+b.size] ((none,c.2.1,c.2.2.1,c.2.2.2.1,0,0):RS) fun _ r=>stR a b c.2.2.2.2 r.2.1 r.2.2.1 r.2.2.2.1 r.2.2.2.2.1 r.2.2.2.2.2
 match r.1 with
 |some z=>pure (.done (some z,r.2.1,r.2.2.1,r.2.2.2.1,c.2.2.2.2))
 |none=>do
  rule "list.sort.gallop"
  let q <- forIn [0:a.size+b.size] ((none,r.2.1,r.2.2.1,r.2.2.2.1,c.2.2.2.2+1,r.2.2.2.2.1,r.2.2.2.2.2):RG) fun _ q =>
   if q.2.2.2.2.1>1 then gaR a b q.2.1 q.2.2.1 q.2.2.2.1 (q.2.2.2.2.1 - 1) q.2.2.2.2.2.1 q.2.2.2.2.2.2 else gaR a b q.2.1 q.2.2.1 q.2.2.2.1 q.2.2.2.2.1 q.2.2.2.2.2.1 q.2.2.2.2.2.2
  match q.1 with
  |some z=>pure (.done (some z,q.2.1,q.2.2.1,q.2.2.2.1,q.2.2.2.2.1))
  |none=>do
   Dk (q.2.2.2.2.1+1)
   pure (.yield (none,q.2.1,q.2.2.1,q.2.2.2.1,q.2.2.2.2.1+1))
theorem Pj:mhi a b=(do
 rule "list.sort.merge-hi"
 let y <- elem' a (a.size - 1)
 if a.size - 1==0 then pure (dnR a b #[y] (a.size - 1) b.size)
 else if b.size==1 then pure (fbR a b #[y] (a.size - 1) b.size)
 else do
  let g <- get
  let c <- forIn [0:a.size+b.size] ((none,a.size - 1,b.size,#[y],gallopOf g):RO) fun _ c=>ouR a b c
  match c.1 with
  |some z=>pure z
  |none=>unsupported "internal:list.sort.merge-bound"):=by
 refine aM rfl fun _=>aM rfl fun y=>?_
 refine O_ (fun z=>ite ((a.size - 1==0)=true) (pure (dnR a b #[y] (a.size - 1) b.size)) z) ?_
 refine O_ (fun z=>ite ((b.size==1)=true) (pure (fbR a b #[y] (a.size - 1) b.size)) z) ?_
 refine aM rfl fun g=>aM (O_ (fun f=>forIn [0:a.size+b.size] ((none,a.size - 1,b.size,#[y],gallopOf g):RO) f) ?_) ?_
 ·
  funext x c
  refine aM rfl fun r=>?_
  cases e:r.1 with
  |some z=>rfl
  |none=>exact aM rfl fun _=>aM rfl fun q=>by cases q.1 <;> rfl
 ·
  intro c
  cases c.1 <;> rfl
end
structure MR (O X Y T:List Keyed):Prop where
 x:SL (X++O)
 y:SL (Y++O)
 p:(X++Y++O).Perm T
theorem MR.symm {O X Y T:List Keyed}(h:MR O X Y T):MR O Y X T:=⟨h.y,h.x,(Zm.append_right _).trans h.p⟩
theorem MR.mv {O P X Y T:List Keyed}(h:MR O (X++P) Y T) (e:∀p∈P,∀y∈Y,nu y<=nu p):MR (P++O) X Y T:=by
 obtain⟨b,a,d⟩:=h;refine⟨by rw[<- x_];exact b,?_,List.Perm.trans ?_ d⟩
 ·unfold SL at *;rw[x_,Yk] at b;rw[Yk] at a ⊢;refine⟨a.1,b.2.1,fun y c z f=>?_⟩;rcases A_.mp f with q | q
  ·exact e z q y c
  exact a.2.2 y c z q
 rw[x_,x_,x_];refine List.Perm.append_left _ ?_;rw[<- x_,<- x_];exact Zm.append_right _
section
variable {prog:Program}{w:World}{A:Around}{E:Value->Shared->Prop}{s:Shared}{a b:Array Keyed}
theorem HB (xs:Array Keyed) (i:Nat):(xs.extract 0 i).toList=xs.toList.take i:=by simp [YL]
theorem HD (xs:Array Keyed) (i j:Nat):(xs.extract i j).toList=(xs.toList.drop i).take (j - i):=by simp [YL]
theorem take_at {xs:Array Keyed}{i:Nat}(h:i<xs.size):xs.toList.take (i+1)=xs.toList.take i++[xs[i]]:=by
 rw[List.take_succ_eq_append_getElem (by simpa using h),Yl]
theorem tQ (xs:List Keyed) {i j:Nat}(h:i<=j):xs.take j=xs.take i++(xs.drop i).take (j - i):=by
 have:=List.take_add (l:=xs) (i:=i) (j:=j - i)
 rwa [show i+(j - i)=j by omega] at this
theorem d7 {xs:Array Keyed}{i:Nat}{z:Keyed}(h:z∈xs.toList.take i):∃k,k<i/\∃a:k<xs.size,z=xs[k]:=by
 obtain⟨k,a,rfl⟩:=XS h;rw[Xc,P_] at a;exact⟨k,by omega,by omega,by rw[Zx,Yl]⟩
structure LiR (a b o:Array Keyed) (i j:Nat):Prop where
 i1:1<=i
 ia:i<=a.size
 j2:2<=j
 jb:j<=b.size
 hn:o.size+i+j=a.size+b.size
 hm:MR o.toList.reverse (a.toList.take i) (b.toList.take j) (a.toList++b.toList)
abbrev MRo (a b o:Array Keyed) (i j:Nat):Prop:=MR o.toList.reverse (a.toList.take i) (b.toList.take j) (a.toList++b.toList)
theorem xW {o:Array Keyed}{i j:Nat}:(dnR a b o i j).toList=a.toList.take i++b.toList.take j++o.toList.reverse:=by unfold dnR;rw[Xl,Xl,HB,HB,ZD]
theorem qN {o:Array Keyed}{i j:Nat}(h:MRo a b o i j) (c:i=0):gh a b (dnR a b o i j):=by
 refine⟨?_,by rw[xW];exact h.p⟩;rw[xW,c,aae,YC];exact h.y
theorem Pk {o:Array Keyed}{i j:Nat}(h:MRo a b o i j) (c:j=0):gh a b (dnR a b o i j):=by
 refine⟨?_,by rw[xW];exact h.p⟩;rw[xW,c,aae,J_];exact h.x
theorem qO (t:TwL a b) {o:Array Keyed}{i j:Nat}(h:MRo a b o i j) (g:j=1):gh a b (fbR a b o i j):=by
 have k:=t.b1;have e:(fbR a b o i j).toList=b.toList.take j++a.toList.take i++o.toList.reverse:=by unfold fbR;rw[Xl,Xl,HB,HB,ZD]
 refine⟨?_,by rw[e];exact h.symm.p⟩;have c:=h.y;have d:b.toList.take j=[b[0]'(by omega)]:=by rw[g,take_at (i:=0) (by omega)];rfl
 rw[e,d,x_,Zn];rw[d,Zn] at c;unfold SL at *;refine Z5.mpr ⟨fun z f=>?_,h.x⟩;rcases A_.mp f with q | q
 ·exact t.hd z (YX q) (by omega)
 exact (Z5.mp c).1 z q
theorem qP {o:Array Keyed}{i j:Nat}(h:MRo a b o (i+1) j) (f:i<a.size) (c:∀y∈b.toList.take j,nu y<=nu a[i]):MRo a b (o.push a[i]) i j:=by
 have m:=h;unfold MRo at m ⊢;rw[take_at f] at m;rw[Zu,ZS];exact m.mv fun p e y d=>by rw[g_.mp e];exact c y d
theorem xX {o:Array Keyed}{i j:Nat}(h:MRo a b o i (j+1)) (f:j<b.size) (c:∀x∈a.toList.take i,nu x<=nu b[j]):MRo a b (o.push b[j]) i j:=by
 have m:=h.symm;unfold MRo;rw[take_at f] at m;rw[Zu,ZS];exact (m.mv fun p e y d=>by rw[g_.mp e];exact c y d).symm
theorem HF {o:Array Keyed}{i j k:Nat}(h:MRo a b o i j) (l:k<=i) (n:i<=a.size) (d:∀q (f:q<a.size),k<=q->q<i->∀y∈b.toList.take j,nu y<=nu a[q]):MRo a b (o++(a.extract k i).reverse) k j:=by
 have m:=h;unfold MRo at m ⊢;rw[tQ _ l] at m;rw[Xl,ZS,ZD,List.reverse_reverse,HD];refine m.mv fun p g y e=>?_;obtain⟨q,f,c,rfl⟩:=mem_mid g;exact d _ c (by omega) (by omega) y e
theorem HH {o:Array Keyed}{i j k:Nat}(h:MRo a b o i j) (l:k<=j) (n:j<=b.size) (d:∀q (f:q<b.size),k<=q->q<j->∀x∈a.toList.take i,nu x<=nu b[q]):MRo a b (o++(b.extract k j).reverse) i k:=by
 have m:=h.symm;unfold MRo;rw[tQ _ l] at m;rw[Xl,ZS,ZD,List.reverse_reverse,HD];refine (m.mv fun p g y e=>?_).symm;obtain⟨q,f,c,rfl⟩:=mem_mid g;exact d _ c (by omega) (by omega) y e
theorem upto {xs:Array Keyed}(h:SL xs.toList) {i:Nat}(a:i<xs.size) {z:Keyed}(b:z∈xs.toList.take (i+1)):nu z<=nu xs[i]:=by
 obtain⟨k,d,c,rfl⟩:=d7 b;exact mK h (by omega) a
theorem HJ (t:TwL a b) {st:SortSt}{v:Nat}{o:Array Keyed}{i j q n:Nat}{Q:ForInStep RS->SortSt->Prop}(u:kdO st=oneType') (h:LiR a b o (i+1) (j+1))
  (p:∀z c,gh a b z->Q (.done (some z,c)) st) (l:∀o' i' j' c,LiR a b o' i' j'->o'.size=o.size+1->Q (.done (none,i',j',o',c)) st/\Q (.yield (none,i',j',o',c)) st):wpS (model prog w) A E s (stR a b v (i+1) (j+1) o q n) Q st:=by
 have f:i<a.size:=h.ia;have g:j<b.size:=h.jb;have k:=h.j2;have C:=h.hn;unfold stR;simp only[Z9];refine B_ (bx g (B_ (bx f (B_ (mJ u (t.ib _ _) (t.ia _ _) ?_)))));dsimp only;by_cases c:nu b[j]<nu a[i]
 ·rw[if_pos (q_ c)];refine B_ (bx f ?_);have m:=qP h.hm f fun y r=>X3 (upto t.sb g r) (Xz c);by_cases e:i=0
  ·rw[if_pos (by simp [e])];exact L_ (p _ _ (qN m e))
  rw[if_neg (by simp [e])];have d:=l (o.push a[i]) i (j+1) (q+1,0) ⟨by omega,by omega,k,h.jb,by rw[Xg];omega,m⟩ (Xg _);split
  ·exact L_ d.1
  exact L_ d.2
 rw[if_neg (Hj c)];refine B_ (bx g ?_);have m:=xX h.hm g fun x B=>X3 (upto t.sa f B) (Int.not_lt.mp c);by_cases e:j=1
 ·rw[if_pos (by simp [e])];exact L_ (p _ _ (qO t m e))
 rw[if_neg (by simp [e])];have d:=l (o.push b[j]) (i+1) j (0,n+1) ⟨h.i1,h.ia,by omega,by omega,by rw[Xg];omega,m⟩ (Xg _);split
 ·exact L_ d.1
 exact L_ d.2
def StR (a b:Array Keyed) (n:Nat) (Q:ForInStep RG->SortSt->Prop) (st:SortSt):Prop:=(∀z c d,SSt st d->gh a b z->Q (.done (some z,c)) d)/\∀o i j c d,SSt st d->LiR a b o i j->n<=o.size->Q (.done (none,i,j,o,c)) d/\Q (.yield (none,i,j,o,c)) d
theorem xY (t:TwL a b) {st:SortSt}{o:Array Keyed}{i j l k g n:Nat}{Q:ForInStep RG->SortSt->Prop}(f:i<a.size) (q:2<=j) (r:j<=b.size) (u:o.size+(i+1)+j=a.size+b.size) (p:MRo a b o (i+1) j) (c:∀y∈b.toList.take j,nu y<=nu a[i]) (v:n<=o.size) (h:StR a b n Q st):wpS (model prog w) A E s (enR a b (i+1) j o l k g) Q st:=by
 unfold enR;simp only[Z9];refine B_ (bx f ?_);have m:=qP p f c;by_cases e:i=0
 ·rw[if_pos (by simp [e])];exact L_ (h.1 _ _ _ .refl (qN m e))
 rw[if_neg (by simp [e])];have d:=h.2 (o.push a[i]) i j (l,k,g) st .refl ⟨by omega,by omega,q,r,by rw[Xg];omega,m⟩ (by rw[Xg];omega);split
 ·exact L_ d.1
 exact L_ d.2
theorem xZ (t:TwL a b) {st:SortSt}{o:Array Keyed}{i j M k H n:Nat}{Q:ForInStep RG->SortSt->Prop}(I:kdO st=oneType') (l:i<a.size) (g:j<b.size) (P:1<=j) (R:o.size+(i+1)+(j+1)=a.size+b.size) (G:MRo a b o (i+1) (j+1)) (z:∀x∈a.toList.take (i+1),nu x<=nu b[j]) (S:n<=o.size) (h:StR a b n Q st):wpS (model prog w) A E s (hfR a b (i+1) (j+1) o M k H) Q st:=by
 unfold hfR;simp only[Z9];refine B_ (bx g ?_);have m:=xX G g z;by_cases e:j=1
 ·rw[if_pos (by simp [e])];exact L_ (h.1 _ _ _ .refl (qO t m e))
 rw[if_neg (by simp [e])];refine B_ (bx l (B_ (mO I (fun i j O g _=>mK t.sb (by omega) g) t.ib (t.ia _ _) (by omega) (by omega) fun u F p D=>?_)));dsimp only;simp only[Nat.zero_add] at p D;by_cases c:j - u>0
 ·rw[if_pos c];have r:=HH m F (by omega) fun q f L K x N=>X3 (upto t.sa l N) (D q f L K);have J:(o.push b[j]++(b.extract u j).reverse).size+(i+1)+u=a.size+b.size:=by rw[Yp,Xg,Array.size_reverse,Z8];omega
  by_cases v:u=1
  ·rw[if_pos (by simp [v])];exact L_ (h.1 _ _ _ .refl (qO t r v))
  rw[if_neg (by simp [v])];by_cases C:u=0
  ·rw[if_pos (by simp [C])];exact L_ (h.1 _ _ _ .refl (Pk r C))
  rw[if_neg (by simp [C])];refine xY t l (by omega) (by omega) J r (fun y B=>?_) (by rw[Yp,Xg];omega) h;obtain⟨q,f,d,rfl⟩:=d7 B;exact Xz (p q d f)
 rw[if_neg c];refine xY t l (by omega) (by omega) (by rw[Xg];omega) m (fun y B=>?_) (by rw[Xg];omega) h;obtain⟨q,f,d,rfl⟩:=d7 B;exact Xz (p q d (by omega))
theorem HN (t:TwL a b) {st:SortSt}{o:Array Keyed}{i j R J I:Nat}{Q:ForInStep RG->SortSt->Prop}(C:kdO st=oneType') (l:LiR a b o (i+1) (j+1)) (h:StR a b o.size Q st):wpS (model prog w) A E s (gaR a b (i+1) (j+1) o R J I) Q st:=by
 have L:i<a.size:=l.ia;have g:j<b.size:=l.jb;have N:=l.j2;have D:=l.hn;unfold gaR;simp only[Z9];refine B_ (jD fun r k=>B_ (bx g (B_ (mL (k.1.trans C) (fun i j T g _=>mK t.sa (by omega) g) t.ia (t.ib _ _) (by omega) (by omega) fun u H B G=>?_))));dsimp only;simp only[Nat.zero_add] at B G;have h':StR a b o.size Q r:=⟨fun z c f p O=>h.1 z c f (k.trans p) O,fun o i j c f p K D=>h.2 o i j c f (k.trans p) K D⟩;by_cases c:i+1 - u>0
 ·rw[if_pos c];have m:=HF l.hm H (by omega) fun q n P M y S=>X3 (upto t.sb g S) (Xz (G q n P M));by_cases e:u=0
  ·rw[if_pos (by simp [e])];exact L_ (h'.1 _ _ _ .refl (qN m e))
  rw[if_neg (by simp [e])];obtain⟨v,rfl⟩:∃v,u=v+1:=⟨u - 1,by omega⟩;refine xZ t (k.1.trans C) (by omega) g (by omega) (by rw[Yp,Array.size_reverse,Z8];omega) m (fun x F=>?_) (by rw[Yp];omega) h';obtain⟨q,n,d,rfl⟩:=d7 F;exact B q d n
 rw[if_neg c];refine xZ t (k.1.trans C) L g (by omega) D l.hm (fun x F=>?_) (j_ _) h';obtain⟨q,n,d,rfl⟩:=d7 F;exact B q d (by omega)
theorem LiR.dest {o:Array Keyed}{i j:Nat}(h:LiR a b o i j):∃d c,i=d+1/\j=c+1:=⟨i - 1,j - 1,by have:=h.i1;omega,by have:=h.j2;omega⟩
theorem HQ (t:TwL a b) {st:SortSt}{c:RO}{Q:ForInStep RO->SortSt->Prop}(M:kdO st=oneType') (J:LiR a b c.2.2.2.1 c.2.1 c.2.2.1)
  (G:∀z c d,SSt st d->gh a b z->Q (.done (some z,c)) d) (K:∀o i j N d,SSt st d->LiR a b o i j->c.2.2.2.1.size+1<=o.size->Q (.yield (none,i,j,o,N)) d):wpS (model prog w) A E s (ouR a b c) Q st:=by
 obtain⟨T,i,j,o,N⟩:=c;dsimp only at J K;have U:=t.a1;unfold ouR;dsimp only;refine B_ (Zb (XM (I:=fun x r d=>d=st/\∃u p n q,r=(none,u,p,n,q)/\LiR a b n u p/\o.size+x<=n.size)
  (Q:=fun r d=>d=st/\((∃z q,r=(some z,q)/\gh a b z)\/∃u p n q,r=(none,u,p,n,q)/\LiR a b n u p/\o.size+1<=n.size)) ?_ ?_ ⟨rfl,i,j,o,_,rfl,J,j_ _⟩) ?_)
 ·rintro x r d _ S ⟨rfl,u,p,n,q,rfl,l,F⟩;dsimp only;obtain⟨u,p,rfl,rfl⟩:=l.dest;exact HJ t M l (fun z c B=>⟨rfl,.inl ⟨z,c,rfl,B⟩⟩) fun f h m c y e=>⟨⟨rfl,.inr ⟨h,m,f,c,rfl,y,by omega⟩⟩,rfl,h,m,f,c,rfl,y,by omega⟩
 ·rintro r d ⟨rfl,u,p,n,q,rfl,l,F⟩;exact⟨rfl,.inr ⟨u,p,n,q,rfl,l,by omega⟩⟩
 rintro r d ⟨rfl,⟨z,q,rfl,B⟩ | ⟨u,p,n,q,rfl,l,F⟩⟩
 ·exact L_ (G _ _ _ .refl B)
 dsimp only;refine B_ (wpS_lift (Z3 ⟨rfl,?_⟩));refine B_ (Zb (XM (I:=fun x r k=>SSt d k/\∃h m f q,r=(none,h,m,f,q)/\LiR a b f h m/\o.size+1<=f.size)
  (Q:=fun r k=>SSt d k/\((∃z q,r=(some z,q)/\gh a b z)\/∃h m f q,r=(none,h,m,f,q)/\LiR a b f h m/\o.size+1<=f.size)) ?_ ?_ ⟨.refl,u,p,n,_,rfl,l,F⟩) ?_)
 ·rintro x r k _ S ⟨g,h,m,f,q,rfl,y,v⟩;dsimp only;obtain⟨h,m,rfl,rfl⟩:=y.dest;split <;> exact HN t (g.1.trans M) y ⟨fun z c D C B=>⟨g.trans C,.inl ⟨z,c,rfl,B⟩⟩,fun O L H c D C P R=>⟨⟨g.trans C,.inr ⟨L,H,O,c,rfl,P,by omega⟩⟩,g.trans C,L,H,O,c,rfl,P,by omega⟩⟩
 ·rintro r k ⟨g,h,m,f,q,rfl,y,v⟩;exact⟨g,.inr ⟨h,m,f,q,rfl,y,v⟩⟩
 rintro r k ⟨g,⟨z,q,rfl,B⟩ | ⟨h,m,f,q,rfl,y,v⟩⟩
 ·exact L_ (G _ _ _ g B)
 exact B_ (jD fun D C=>L_ (K _ _ _ _ _ (g.trans C) y v))
theorem HR (t:TwL a b) {st:SortSt}{Q:Array Keyed->SortSt->Prop}(F:kdO st=oneType') (h:∀z d,SSt st d->gh a b z->Q z d):wpS (model prog w) A E s (mhi a b) Q st:=by
 have M:=t.a1;have L:=t.b1;rw[Pj];refine B_ (wpS_lift (Z3 ⟨rfl,?_⟩));refine B_ (bx (by omega) ?_);have C:MRo a b #[] (a.size - 1+1) b.size:=by unfold MRo;rw[Xk (by simp;omega),Xk (by simp)];simp only[List.reverse_nil];exact⟨by rw[J_];exact t.sa,by rw[J_];exact t.sb,by rw[J_]⟩
 have m:MRo a b #[a[a.size - 1]] (a.size - 1) b.size:=qP C (by omega) fun y J=>t.tl y (YX J) (by omega);by_cases e:a.size - 1=0
 ·rw[if_pos (by simp [e])];exact L_ (h _ _ .refl (qN m e))
 rw[if_neg (by simp;omega)];by_cases n:b.size=1
 ·rw[if_pos (by simp [n])];exact L_ (h _ _ .refl (qO t m n))
 rw[if_neg (by simp [n])];refine B_ (wpS_get (B_ (Zb (XM (I:=fun x c d=>SSt st d/\∃i j o r,c=(none,i,j,o,r)/\LiR a b o i j/\x<o.size)
  (Q:=fun c d=>SSt st d/\∃z q,c=(some z,q)/\gh a b z) ?_ ?_ ⟨.refl,_,_,_,_,rfl,⟨by omega,by omega,by omega,by omega,by show 1+(a.size - 1)+b.size=_;omega,m⟩,by show 0<1;omega⟩) ?_)))
 ·rintro x c d _ N ⟨g,i,j,o,r,rfl,l,G⟩;exact HQ t (g.1.trans F) l (fun z c v f p=>⟨g.trans f,z,c,rfl,p⟩) fun B D K u v f H k=>⟨g.trans f,D,K,B,u,rfl,H,by dsimp only at k;omega⟩
 ·rintro c d ⟨g,i,j,o,r,rfl,l,G⟩;have:=l.hn;have:=l.i1;have:=l.j2;omega
 rintro c d ⟨g,z,q,rfl,p⟩;exact L_ (h z d g p)
end
def Sg (xs:Array Keyed) (s n:Nat):Prop:=∀i j,s<=i->i<=j->j<s+n->K xs i<=K xs j
theorem Uv {xs:Array Keyed}{i:Nat}(h:i<xs.size):K xs i=nu xs[i]:=by unfold K nu;rw[YK h]
theorem Pn {xs:Array Keyed}{i:Nat}{z:Keyed}(h:xs.toList[i]?=some z):K xs i=nu z:=by unfold K nu;rw[<- Xv,h]
theorem Dm {xs:Array Keyed}{P X S:List Keyed}(e:xs.toList=P++X++S):Sg xs P.length X.length↔SL X:=by
 have a:∀i (h:i<X.length),K xs (P.length+i)=nu X[i]:=fun i h=>Pn (by
  rw[e,x_,E_ (by omega),show P.length+i - P.length=i by omega,U_ h,e_ h])
 constructor
 ·intro h;refine XH.mpr fun i j b c g=>?_;have:=h (P.length+i) (P.length+j) (by omega) (by omega) (by omega)
  rwa [a i b,a j c] at this
 intro h i j m l k;have b:i - P.length<X.length:=by omega
 have c:j - P.length<X.length:=by omega
 have f:=a _ b;have d:=a _ c;rw[show P.length+(i - P.length)=i by omega] at f;rw[show P.length+(j - P.length)=j by omega] at d;rw[f,d];rcases Z6 (show i - P.length<=j - P.length by omega) with z | z
 ·exact XH.mp h _ _ b c z
 simp only[z];exact Xo _
theorem yc (u:Nat):∀(l:List Keyed) (n:Nat) (xs:Array Keyed) (P M S:List Keyed),xs.toList=P++M++S->M.length=l.length->P.length=u+n->((l.zipIdx n).foldl (fun xs (q:Keyed × Nat)=>xs.setIfInBounds (u+q.2) q.1) xs).toList=P++l++S
 |[],n,xs,P,M,S,e,hm,hp=>by
  rw[X6.mp hm] at e
  exact e
 |z::l,n,xs,P,M,S,e,hm,hp=>by
  cases M with
  |nil=>cases hm
  |cons m M =>
   rw[List.zipIdx_cons,List.foldl_cons]
   have a:(xs.setIfInBounds (u+n) z).toList=(P++[z])++M++S:=by
    rw[Array.toList_setIfInBounds,e,<- hp]
    simp
   rw[yc u l (n+1) _ (P++[z]) M S a (by simpa using hm) (by rw[a_,hp];rfl)]
   simp
section
variable {prog:Program}{w:World}{A:Around}{E:Value->Shared->Prop}{s:Shared}
def HS (st:SortSt) (u:Nat) (z:Array Keyed):SortSt:=setArr st ((z.toList.zipIdx 0).foldl (fun xs (q:Keyed × Nat)=>xs.setIfInBounds (u+q.2) q.1) (arrOf st))
def mgB (xs:Array Keyed) (sa na sb nb:Nat):StateT SortSt Sem Bool:=do
 let y <- elem' xs sb
 match <- gal false y xs sa na 0 with
 |some k =>
  if na - k==0 then pure true
  else do
   let x <- elem' xs (sa+k+(na - k) - 1)
   match <- gal true x xs sb nb (nb - 1) with
   |some m =>
    if m==0 then pure true
    else if na - k<=m then do
     let z <- mlo (xs.extract (sa+k) sb) (xs.extract sb (sb+m))
     modify fun st=>HS st (sa+k) z
     let st <- get
     pure (failedOf st).isNone
    else do
     let z <- mhi (xs.extract (sa+k) sb) (xs.extract sb (sb+m))
     modify fun st=>HS st (sa+k) z
     let st <- get
     pure (failedOf st).isNone
   |_=>pure false
 |_=>pure false
theorem HW {x:SortSt}{Q:PUnit->SortSt->Prop}{st:SortSt}(h:Q ⟨⟩ x):wpS (model prog w) A E s (set x:StateT SortSt Sem PUnit) Q st:=by
 unfold wpS;rw[StateT.run_set];exact C_ ⟨rfl,h⟩
theorem HX (i:Nat) {st:SortSt}{sa na p sb nb q:Nat}(b:(pendingOf st)[i]?=some (sa,na,p)) (a:(pendingOf st)[i+1]?=some (sb,nb,q)) {Q:Bool->SortSt->Prop}(h:wpS (model prog w) A E s (mgB (arrOf st) sa na sb nb) Q (setPending st (((pendingOf st).setIfInBounds i (sa,na+nb,p)).eraseIdxIfInBounds (i+1)))):wpS (model prog w) A E s (mergeAt' i) Q st:=by
 refine B_ (wpS_get ?_);dsimp only;rw[b,a];exact B_ (HW h)
structure Chg (xs ys:Array Keyed) (u v:Nat):Prop where
 pm:ys.toList.Perm xs.toList
 ot:∀i,i<u\/v<=i->ys[i]?=xs[i]?
theorem Chg.refl {xs:Array Keyed}{u v:Nat}:Chg xs xs u v:=⟨.refl _,fun _ _=>rfl⟩
theorem Pq {xs c:Array Keyed}{P X Z S:List Keyed}(e:xs.toList=P++X++S) (b:c.toList=P++Z++S) (h:Z.Perm X):Chg xs c P.length (P.length+X.length):=by
 refine⟨by rw[e,b];exact (h.append_left _).append_right _,fun i a=>?_⟩;rw[<- Xv,<- Xv,e,b];have d:=h.length_eq;rcases a with a | a
 ·rw[x_,x_,U_ a,U_ a]
 rw[E_ (by rw[a_];omega),E_ (by rw[a_];omega),a_,a_,d]
theorem Uw {xs:List Keyed}{u v t:Nat}(f:u<=v) (e:v<=t) (d:t<=xs.length):∃P X Y S,xs=P++(X++Y)++S/\P.length=u/\X.length=v - u/\Y.length=t - v:=by
 refine⟨xs.take u,(xs.drop u).take (v - u),(xs.drop v).take (t - v),xs.drop t,?_,by rw[Xc];omega,by rw[Xc,Xe];omega,by rw[Xc,Xe];omega⟩;have c:=W_ u xs;have b:=W_ (v - u) (xs.drop u);rw[List.drop_drop,show u+(v - u)=v by omega] at b;have a:=W_ (t - v) (xs.drop v);rw[List.drop_drop,show v+(t - v)=t by omega] at a;rw[x_,x_,a,b,c]
theorem slA_ {X Y:List Keyed}:SL (X++Y)↔SL X/\SL Y/\∀x∈X,∀y∈Y,nu x<=nu y:=Yk
theorem Do {xs:Array Keyed}{P X S:List Keyed}(e:xs.toList=P++X++S) {i:Nat}(h:i<X.length):∃b:P.length+i<xs.size,xs[P.length+i]=X[i]:=by
 have a:xs.size=(P++X++S).length:=by rw[<- e,P_]
 rw[a_,a_] at a;refine⟨by omega,?_⟩;have:xs.toList[P.length+i]?=some X[i]:=by rw[e,x_,E_ (by omega),show P.length+i - P.length=i by omega,U_ h,e_ h]
 rw[Xv,YK (by omega)] at this;exact Q_ this
theorem HY {st:SortSt}{P X Y S:List Keyed}{Q:Bool->SortSt->Prop}(p:kdO st=oneType') (V:failedOf st=none) (B:∀i (h:i<(arrOf st).size),Iny (arrOf st)[i]) (e:(arrOf st).toList=P++(X++Y)++S) (x1:1<=X.length) (y1:1<=Y.length) (N:SL X) (K:SL Y)
  (h:∀a Z,kdO a=oneType'->failedOf a=none->pendingOf a=pendingOf st->(arrOf a).toList=P++Z++S->Z.Perm (X++Y)->SL Z->Q true a):wpS (model prog w) A E s (mgB (arrOf st) P.length X.length (P.length+X.length) Y.length) Q st:=by
 have eX:(arrOf st).toList=P++X++(Y++S):=by rw[e];simp
 have eY:(arrOf st).toList=(P++X)++Y++S:=by rw[e];simp
 have hl:(arrOf st).size=P.length+X.length+Y.length+S.length:=by rw[<- P_,e];simp;omega
 have D:∀i (h:i<X.length) (p:P.length+i<(arrOf st).size),nu (arrOf st)[P.length+i]=nu X[i]:=fun i h p=>by rw[(Do eX h).2]
 have C:∀i (h:i<Y.length) (p:P.length+X.length+i<(arrOf st).size),nu (arrOf st)[P.length+X.length+i]=nu Y[i]:=fun i h p=>by obtain⟨_,q⟩:=Do eY h;simp only[a_] at q;rw[q]
 have W:∀i j (d:i<=j) (f:j<X.length),nu (X[i]'(by omega))<=nu X[j]:=fun i j d f=>by
  rcases Z6 d with z | z
  ·exact XH.mp N i j (by omega) f z
  subst z;exact Xo _
 have T:∀i j (d:i<=j) (f:j<Y.length),nu (Y[i]'(by omega))<=nu Y[j]:=fun i j d f=>by
  rcases Z6 d with z | z
  ·exact XH.mp K i j (by omega) f z
  subst z;exact Xo _
 have o:∀{z:Keyed},z∈X->∃i,∃h:i<X.length,z=X[i]:=fun t=>by obtain⟨i,h,e⟩:=XS t;exact⟨i,h,e.symm⟩
 have r:∀{z:Keyed},z∈Y->∃i,∃h:i<Y.length,z=Y[i]:=fun t=>by obtain⟨i,h,e⟩:=XS t;exact⟨i,h,e.symm⟩
 unfold mgB;refine B_ (bx (by omega) (B_ (mL p (fun i j d f I=>?_) B (B _ _) (by omega) (by omega) fun k k1 O k3=>?_)))
 ·rw[D i (by omega),D j I];exact W i j d I
 dsimp only;have y0:nu ((arrOf st)[P.length+X.length]'(by omega))=nu (Y[0]'(by omega)):=C 0 (by omega) (by omega);rw[y0] at O k3;by_cases c:X.length - k=0
 ·rw[if_pos (by simp [c])];refine L_ (h st (X++Y) p V rfl e (.refl _) (slA_.mpr ⟨N,K,fun x B y l=>?_⟩));obtain⟨i,n,rfl⟩:=o B;obtain⟨j,f,rfl⟩:=r l;have:=O i (by omega) (by omega);rw[D i n] at this;exact X3 this (T 0 j (by omega) f)
 rw[if_neg (by simpa using c)];have xl:nu ((arrOf st)[P.length+k+(X.length - k) - 1]'(by omega))=nu (X[X.length - 1]'(by omega)):=by simpa only[show P.length+k+(X.length - k) - 1=P.length+(X.length - 1) by omega] using D (X.length - 1) (by omega) (by omega)
 refine B_ (bx (by omega) (B_ (mO p (fun i j d f I=>?_) B (B _ _) (by omega) (by omega) fun m m1 m2 U=>?_)))
 ·rw[C i (by omega),C j I];exact T i j d I
 dsimp only;rw[xl] at m2 U;by_cases c2:m=0
 ·rw[if_pos (by simp [c2])];refine L_ (h st (X++Y) p V rfl e (.refl _) (slA_.mpr ⟨N,K,fun x B y l=>?_⟩));obtain⟨i,n,rfl⟩:=o B;obtain⟨j,f,rfl⟩:=r l;have:=U j (by omega) (by omega) f;rw[C j f] at this;exact X3 (W i (X.length - 1) (by omega) (by omega)) this
 rw[if_neg (by simpa using c2)];have F:((arrOf st).extract (P.length+k) (P.length+X.length)).toList=X.drop k:=by rw[HD,eX,x_,List.drop_append,XJ (by omega),YC,show P.length+k - P.length=k by omega,List.drop_append,List.take_append,Xe,show P.length+X.length - (P.length+k) - (X.length - k)=0 by omega,aae,J_,Xk (by rw[Xe];omega)]
 have G:((arrOf st).extract (P.length+X.length) (P.length+X.length+m)).toList=Y.take m:=by rw[HD,eY,x_,List.drop_append,XJ (by rw[a_];omega),YC,a_,Nat.sub_self,aac,show P.length+X.length+m - (P.length+X.length)=m by omega,List.take_append,show m - Y.length=0 by omega,aae,J_]
 have M:∀(u v:Nat) i (h:i<((arrOf st).extract u v).size),Iny ((arrOf st).extract u v)[i]:=fun u v i h=>by rw[Array.getElem_extract];exact B _ _
 have gx:∀i (h:i<((arrOf st).extract (P.length+k) (P.length+X.length)).size),∃n:k+i<X.length,((arrOf st).extract (P.length+k) (P.length+X.length))[i]=X[k+i]:=fun i h=>by
  have n:k+i<X.length:=by rw[<- P_,F,Xe] at h;omega
  refine⟨n,?_⟩;rw[<- Yl];simp only[F,Zw]
 have gy:∀i (h:i<((arrOf st).extract (P.length+X.length) (P.length+X.length+m)).size),∃n:i<Y.length,((arrOf st).extract (P.length+X.length) (P.length+X.length+m))[i]=Y[i]:=fun i h=>by
  have n:i<m/\i<Y.length:=by rw[<- P_,G,Xc] at h;omega
  refine⟨n.2,?_⟩;rw[<- Yl];simp only[G,Zx]
 have zx:((arrOf st).extract (P.length+k) (P.length+X.length)).size=X.length - k:=by rw[<- P_,F,Xe]
 have zy:((arrOf st).extract (P.length+X.length) (P.length+X.length+m)).size=m:=by rw[<- P_,G,Xc];omega
 have tw:TwL ((arrOf st).extract (P.length+k) (P.length+X.length)) ((arrOf st).extract (P.length+X.length) (P.length+X.length+m)):=by
  refine⟨by omega,by omega,M _ _,M _ _,by rw[F];exact N.sublist (List.drop_sublist ..),by rw[G];exact K.sublist (List.take_sublist ..),fun x b R=>?_,fun y l R=>?_⟩
  ·rw[(gy 0 R).2];rw[F] at b;obtain⟨i,n,rfl⟩:=XS b;rw[Xe] at n;rw[Zw];have:=k3 (k+i) (by omega) (by omega) (by omega);rw[D _ (by omega)] at this;exact Xz this
  rw[(gx _ R).2];rw[G] at l;obtain⟨i,n,rfl⟩:=XS l;rw[Xc] at n;rw[Zx];have:=m2 i (by omega) (by omega);rw[C i (by omega)] at this;simpa only[zx,show k+(X.length - k - 1)=X.length - 1 by omega] using Xz this
 have L:∀(z:Array Keyed) (a:SortSt),SSt st a->gh ((arrOf st).extract (P.length+k) (P.length+X.length)) ((arrOf st).extract (P.length+X.length) (P.length+X.length+m)) z->wpS (model prog w) A E s ((modify fun st=>HS st (P.length+k) z) >>= fun _=>get >>= fun st=>pure (failedOf st).isNone) Q a:=by
  rintro z a ⟨g1,g2,g3,g4⟩ ⟨t,H⟩;rw[F,G] at H;refine B_ (wpS_modify (B_ (wpS_get (L_ ?_))));have J:failedOf a=none:=g4.trans V;show Q (failedOf a).isNone (HS a (P.length+k) z);rw[J];refine h _ (X.take k++z.toList++Y.drop m) (g1.trans p) J g3 ?_ ?_ ?_
  ·have:=yc (P.length+k) z.toList 0 (arrOf a) (P++X.take k) (X.drop k++Y.take m) (Y.drop m++S) (by rw[g2,e];simp only[x_];rw[<- x_ (Y.take m),W_,<- x_ (X.take k),W_]) H.length_eq.symm (by rw[a_,Xc];omega);show ((z.toList.zipIdx 0).foldl (fun xs (q:Keyed × Nat)=>xs.setIfInBounds (P.length+k+q.2) q.1) (arrOf a)).toList=_;rw[this];simp only[x_]
  ·refine ((H.append_left _).append_right _).trans ?_;rw[<- x_ (X.take k),W_,x_,W_]
  have sX:=slA_.mp (show SL (X.take k++X.drop k) by rw[W_];exact N);have sY:=slA_.mp (show SL (Y.take m++Y.drop m) by rw[W_];exact K);have xy:∀x∈X.take k,∀y∈Y,nu x<=nu y:=fun x b y l=>by obtain⟨i,n,rfl⟩:=XS b;rw[Xc] at n;rw[Zx];obtain⟨j,f,rfl⟩:=r l;have:=O i (by omega) (by omega);rw[D i (by omega)] at this;exact X3 this (T 0 j (by omega) f)
  have yx:∀x∈X,∀y∈Y.drop m,nu x<=nu y:=fun x b y l=>by obtain⟨j,f,rfl⟩:=XS l;rw[Xe] at f;rw[Zw];obtain⟨i,n,rfl⟩:=o b;have:=U (m+j) (by omega) (by omega) (by omega);rw[C _ (by omega)] at this;exact X3 (W i (X.length - 1) (by omega) (by omega)) this
  refine slA_.mpr ⟨slA_.mpr ⟨sX.1,t,fun x b y l=>?_⟩,sY.2.1,fun x b y l=>?_⟩
  ·rcases A_.mp (H.mem_iff.mp l) with q | q
   ·exact sX.2.2 x b y q
   exact xy x b y (YX q)
  rcases A_.mp b with q | q
  ·exact yx x (YX q) y l
  rcases A_.mp (H.mem_iff.mp q) with q | q
  ·exact yx x (List.mem_of_mem_drop q) y l
  exact sY.2.2 x q y l
 split
 ·exact B_ (Hz tw p fun z a g t=>L z a g t)
 exact B_ (HR tw p fun z a g t=>L z a g t)
end
def asL (d a n:Nat):StateT SortSt Sem AscSt:=forIn [a:n] ((none,a):AscSt) fun _ c=>do
 match <- ltAt' (d+c.2) (d+c.2 - 1) with
 |some b=>if b=true then pure (.done (none,c.2)) else pure (.yield (none,c.2+1))
 |_=>pure (.done (some none,c.2))
def tlL (a m n:Nat):StateT SortSt Sem (Option Nat):=do
 reverseSlice' a (a+m)
 let c <- asL a m n
 match c.1 with
 |some r=>pure r
 |none=>pure (some c.2)
def deL (a m n:Nat):StateT SortSt Sem DescSt:=forIn [m:n] ((none,m,0):DescSt) fun _ c=>do
 match <- ltAt' (a+c.2.1) (a+c.2.1 - 1) with
 |some b =>
  if b=true then
   if c.2.2>0 then do
    reverseSlice' (a+c.2.1 - (c.2.2+1)) (a+c.2.1)
    pure (.yield (none,c.2.1+1,0))
   else pure (.yield (none,c.2.1+1,0))
  else do
   match <- ltAt' (a+c.2.1 - 1) (a+c.2.1) with
   |some b=>if b=true then pure (.done (none,c.2.1,c.2.2)) else pure (.yield (none,c.2.1+1,c.2.2+1))
   |_=>pure (.done (some none,c.2.1,c.2.2))
 |_=>pure (.done (some none,c.2.1,c.2.2))
def dpL (a m n:Nat):StateT SortSt Sem (Option Nat):=do
 liftM (rule "list.sort.descending-run")
 let c <- deL a (m+1) n
 match c.1 with
 |some r=>pure r
 |none =>
  if c.2.2>0 then do
   reverseSlice' (a+c.2.1 - (c.2.2+1)) (a+c.2.1)
   tlL a c.2.1 n
  else tlL a c.2.1 n
theorem Ux (a n:Nat):countRun' a n=(do
  let c <- asL a 1 n
  match c.1 with
  |some r=>pure r
  |none =>
   if (c.2==n)=true then pure (some c.2)
   else if c.2>1 then do
    match <- ltAt' a (a+c.2 - 1) with
    |some b=>if b=true then pure (some c.2) else do
      reverseSlice' a (a+c.2)
      dpL a c.2 n
    |_=>pure none
   else dpL a c.2 n):=by
 rw[countRun'_eq]
 have d:∀m,(do
   reverseSlice' a (a+m)
   let mut n':=m
   for _ in [n':n] do
    let some smaller <- ltAt' (a+n') (a+n' - 1) | return none
    if smaller then break
    n':=n'+1
   return some n')=tlL a m n:=fun m=>by
  unfold tlL asL
  refine aM rfl fun _=>aM rfl fun ⟨r,k⟩=>?_
  cases r <;> rfl
 have e:∀m,(do
   rule "list.sort.descending-run"
   let mut n':=m+1
   let mut neq:=0
   for _ in [n':n] do
    let some smaller <- ltAt' (a+n') (a+n' - 1) | return none
    if smaller then
     if neq>0 then reverseSlice' (a+n' - (neq+1)) (a+n')
     neq:=0
    else
     let some larger <- ltAt' (a+n' - 1) (a+n') | return none
     if larger then break
     neq:=neq+1
    n':=n'+1
   if neq>0 then reverseSlice' (a+n' - (neq+1)) (a+n')
   reverseSlice' a (a+n')
   for _ in [n':n] do
    let some smaller <- ltAt' (a+n') (a+n' - 1) | return none
    if smaller then break
    n':=n'+1
   return some n')=dpL a m n:=fun m=>by
  unfold dpL
  refine aM rfl fun _=>aM rfl fun ⟨r,k,q⟩=>?_
  cases r with
  |some r=>rfl
  |none =>
   dsimp only
   split
   ·
    exact aM rfl fun _=>d _
   ·
    exact d _
 unfold asL
 refine aM rfl fun ⟨r,k⟩=>?_
 cases r with
 |some r=>rfl
 |none =>
  dsimp only
  split
  ·
   rfl
  ·
   split
   ·
    refine aM rfl fun x=>?_
    cases x with
    |none=>rfl
    |some b =>
     dsimp only
     split
     ·
      rfl
     ·
      exact aM rfl fun _=>e _
   ·
    exact e _
section
variable {prog:Program}{w:World}{A:Around}{E:Value->Shared->Prop}{s:Shared}{a₀:Array Keyed}{ps:Array (Nat × Nat × Nat)}
structure LB (a₀:Array Keyed) (ps:Array (Nat × Nat × Nat)) (st:SortSt):Prop where
 pm:(arrOf st).Perm a₀
 kd:kdO st=oneType'
 fl:failedOf st=none
 pd:pendingOf st=ps
theorem LB.sz {st:SortSt}(h:LB a₀ ps st):(arrOf st).size=a₀.size:=h.pm.size_eq
theorem LB.set {st:SortSt}(h:LB a₀ ps st) {xs:Array Keyed}(q:xs.Perm (arrOf st)):LB a₀ ps (setArr st xs):=⟨q.trans h.pm,h.kd,h.fl,h.pd⟩
theorem LB.iny {st:SortSt}(h:LB a₀ ps st) (a:IntKeys a₀) (i:Nat) (b:i<(arrOf st).size):Iny (arrOf st)[i]:=a _ ((Array.perm_iff_toList_perm.mp h.pm).mem_iff.mp (by simp))
theorem LB.lt {st:SortSt}(h:LB a₀ ps st) (c:IntKeys a₀) {i j:Nat}(d:i<a₀.size) (e:j<a₀.size) {Q:Option Bool->SortSt->Prop}(q:Q (some (decide (K (arrOf st) i<K (arrOf st) j))) st):wpS (model prog w) A E s (ltAt' i j) Q st:=by
 have a:i<(arrOf st).size:=by rw[h.sz];exact d
 have b:j<(arrOf st).size:=by rw[h.sz];exact e
 rw[ltAt'_eq];refine B_ (wpS_get (B_ (bx a (B_ (bx b (mJ h.kd (h.iny c _ _) (h.iny c _ _) ?_))))))
 rwa [Uv a,Uv b] at q
def Dc (xs:Array Keyed) (s n:Nat):Prop:=∀i j,s<=i->i<=j->j<s+n->K xs j<=K xs i
def Lf (b:Nat) (xs a:Array Keyed):Prop:=∀i,i<b->K a i=K xs i
theorem Lf.refl {a:Nat}{xs:Array Keyed}:Lf a xs xs:=fun _ _=>rfl
theorem Lf.trans {a:Nat}{xs b c:Array Keyed}(h:Lf a xs b) (g:Lf a b c):Lf a xs c:=fun i d=>(g i d).trans (h i d)
theorem qQ {a u v:Nat}{xs:Array Keyed}(d:a<=u) (b:v<=xs.size):Lf a xs (mirror xs u v ((v - u) / 2)):=fun i c=>by rw[K_mirror b,if_neg (by omega)]
theorem Sg.more {xs:Array Keyed}{a x:Nat}(k:1<=x) (h:Sg xs a x) (e:K xs (a+x - 1)<=K xs (a+x)):Sg xs a (x+1):=fun i j b c g=>by
 by_cases f:j<a+x
 ·exact h i j b c f
 obtain rfl:j=a+x:=by omega
 by_cases d:i=a+x
 ·subst d;exact Xo _
 exact X3 (h i (a+x - 1) b (by omega) (by omega)) e
theorem Dc.more {xs:Array Keyed}{a x:Nat}(k:1<=x) (h:Dc xs a x) (e:K xs (a+x)<=K xs (a+x - 1)):Dc xs a (x+1):=fun i j b c g=>by
 by_cases f:j<a+x
 ·exact h i j b c f
 obtain rfl:j=a+x:=by omega
 by_cases d:i=a+x
 ·subst d;exact Xo _
 exact X3 e (h i (a+x - 1) b (by omega) (by omega))
theorem Pu {xs:Array Keyed}{a:Nat}:Sg xs a 1:=fun i j d c b=>by
 obtain rfl:i=j:=by omega
 exact Xo _
theorem yd {st:SortSt}{e a n:Nat}{Q:AscSt->SortSt->Prop}(k:IntKeys a₀) (p:e+n<=a₀.size) (o:1<=a) (g:a<=n) (B:LB a₀ ps st) (l:Sg (arrOf st) e a)
  (h:∀m,a<=m->m<=n->Sg (arrOf st) e m->(m=n\/K (arrOf st) (e+m)<K (arrOf st) (e+m - 1))->Q (none,m) st):wpS (model prog w) A E s (asL e a n) Q st:=by
 unfold asL;refine XM (I:=fun x c d=>d=st/\c=(none,x)/\Sg (arrOf st) e x) ?_ ?_ ⟨rfl,rfl,l⟩
 ·rintro x c d i j ⟨rfl,rfl,b⟩;dsimp only;refine B_ (B.lt k (by omega) (by omega) ?_);dsimp only;by_cases f:K (arrOf d) (e+x)<K (arrOf d) (e+x - 1)
  ·rw[if_pos (q_ f)];exact L_ (h x i (by omega) b (.inr f))
  rw[if_neg (by simpa using f)];exact L_ ⟨rfl,rfl,b.more (by omega) (Int.not_lt.mp f)⟩
 rintro c d ⟨rfl,rfl,b⟩;rw[show max a n=n by omega] at b ⊢;exact h n g (j_ _) b (.inl rfl)
def Fd (a₀:Array Keyed) (ps:Array (Nat × Nat × Nat)) (st:SortSt) (b n:Nat) (Q:Option Nat->SortSt->Prop):Prop:=∀m a,LB a₀ ps a->Lf b (arrOf st) (arrOf a)->1<=m->m<=n->Sg (arrOf a) b m->Q (some m) a
theorem Fd.by {st a:SortSt}{d n:Nat}{Q:Option Nat->SortSt->Prop}(h:Fd a₀ ps st d n Q) (g:Lf d (arrOf st) (arrOf a)):Fd a₀ ps a d n Q:=fun m c b l=>h m c b (g.trans l)
theorem ye {st:SortSt}{a m n:Nat}{Q:Option Nat->SortSt->Prop}(o:IntKeys a₀) (e:a+n<=a₀.size) (l:1<=m) (f:m<=n) (B:LB a₀ ps st) (p:Dc (arrOf st) a m) (h:Fd a₀ ps st a n Q):wpS (model prog w) A E s (tlL a m n) Q st:=by
 unfold tlL;have b:a+m<=(arrOf st).size:=by rw[B.sz];omega
 refine B_ (wpS_reverse ?_);have c:=B.set (mirror_perm (arrOf st) a (a+m) ((a+m - a) / 2));refine B_ (yd o e l f c (fun i j u t q=>?_) fun k r g d _=>L_ (h k _ c (qQ (j_ _) b) (by omega) g d));show K (mirror (arrOf st) _ _ _) i<=K (mirror (arrOf st) _ _ _) j;rw[K_mirror b,K_mirror b,if_pos (by omega),if_pos (by omega)];exact p _ _ (by omega) (by omega) (by omega)
theorem Ia {st:SortSt}{b m n:Nat}{Q:DescSt->SortSt->Prop}(y:IntKeys a₀) (O:b+n<=a₀.size) (N:1<=m) (G:m<=n) (B:LB a₀ ps st) (H:Dc (arrOf st) b m)
  (h:∀k q a,LB a₀ ps a->Lf b (arrOf st) (arrOf a)->m<=k->k<=n->Dc (arrOf a) b k->q+1<=k->(∀i,b+k - (q+1)<=i->i<b+k->K (arrOf a) i=K (arrOf a) (b+k - 1))->Q (none,k,q) a):wpS (model prog w) A E s (deL b m n) Q st:=by
 unfold deL;have l:∀(xs:Array Keyed) x i,b+(x+1) - (0+1)<=i->i<b+(x+1)->K xs i=K xs (b+(x+1) - 1):=fun xs x i t p=>by rw[show i=b+(x+1) - 1 by omega]
 refine XM (I:=fun x c a=>∃q,c=(none,x,q)/\LB a₀ ps a/\Lf b (arrOf st) (arrOf a)/\Dc (arrOf a) b x/\q+1<=x/\∀i,b+x - (q+1)<=i->i<b+x->K (arrOf a) i=K (arrOf a) (b+x - 1)) ?_ ?_ ⟨0,rfl,B,.refl,H,by omega,fun i t p=>by rw[show i=b+m - 1 by omega]⟩
 ·rintro x c a v M ⟨q,rfl,e,g,d,o,f⟩;dsimp only;have D:b+x<=(arrOf a).size:=by rw[e.sz];omega
  refine B_ (e.lt y (by omega) (by omega) ?_);dsimp only;by_cases r:K (arrOf a) (b+x)<K (arrOf a) (b+x - 1)
  ·rw[if_pos (q_ r)];by_cases C:q>0
   ·rw[if_pos C];have u:=K_mirror_equal D f;refine B_ (wpS_reverse (L_ ⟨0,rfl,e.set (mirror_perm _ _ _ _),g.trans (qQ (by omega) D),Dc.more (by omega) (fun i j t p L=>?_) ?_,by omega,l _ x⟩))
    ·show K (mirror _ _ _ _) j<=K (mirror _ _ _ _) i;rw[u,u];exact d i j t p L
    show K (mirror _ _ _ _) _<=K (mirror _ _ _ _) _;rw[u,u];exact Xz r
   rw[if_neg C];exact L_ ⟨0,rfl,e,g,d.more (by omega) (Xz r),by omega,l _ x⟩
  rw[if_neg (by simpa using r)];refine B_ (e.lt y (by omega) (by omega) ?_);dsimp only;by_cases z:K (arrOf a) (b+x - 1)<K (arrOf a) (b+x)
  ·rw[if_pos (q_ z)];exact L_ (h x q a e g v (by omega) d o f)
  rw[if_neg (by simpa using z)];have F:K (arrOf a) (b+x)=K (arrOf a) (b+x - 1):=by omega
  refine L_ ⟨q+1,rfl,e,g,d.more (by omega) (by rw[F];exact Xo _),by omega,fun i t p=>?_⟩;rw[show b+(x+1) - 1=b+x by omega];by_cases J:i=b+x
  ·rw[J]
  rw[F];exact f i (by omega) (by omega)
 rintro c a ⟨q,rfl,e,g,d,o,f⟩;rw[show max m n=n by omega] at d o f ⊢;exact h n q a e g G (j_ _) d o f
theorem yf {st:SortSt}{b m n:Nat}{Q:Option Nat->SortSt->Prop}(d:IntKeys a₀) (e:b+n<=a₀.size) (u:m+1<=n) (B:LB a₀ ps st) (v:Dc (arrOf st) b (m+1)) (h:Fd a₀ ps st b n Q):wpS (model prog w) A E s (dpL b m n) Q st:=by
 unfold dpL;refine B_ (wpS_lift (Z3 ⟨rfl,?_⟩));refine B_ (Ia d e (by omega) u B v fun k q f c o D g a C x=>?_);dsimp only;have p:b+k<=(arrOf f).size:=by rw[c.sz];omega
 by_cases l:q>0
 ·rw[if_pos l];have r:=K_mirror_equal p x;refine B_ (wpS_reverse (ye d e (by omega) g (c.set (mirror_perm _ _ _ _)) (fun i j y t z=>?_) (h.by (o.trans (qQ (by omega) p)))));show K (mirror _ _ _ _) j<=K (mirror _ _ _ _) i;rw[r,r];exact a i j y t z
 rw[if_neg l];exact ye d e (by omega) g c a (h.by o)
theorem Px {st:SortSt}{a n:Nat}{Q:Option Nat->SortSt->Prop}(d:IntKeys a₀) (l:a+n<=a₀.size) (y:1<=n) (B:LB a₀ ps st) (h:Fd a₀ ps st a n Q):wpS (model prog w) A E s (countRun' a n) Q st:=by
 rw[Ux];refine B_ (yd d l (j_ 1) y B Pu fun m o u f z=>?_);dsimp only;by_cases e:m=n
 ·rw[if_pos (by simpa using e)];exact L_ (h m st B .refl o u f)
 rw[if_neg (by simpa using e)];have t:=z.resolve_left e;by_cases g:m>1
 ·rw[if_pos g];refine B_ (B.lt d (by omega) (by omega) ?_);dsimp only;by_cases v:K (arrOf st) a<K (arrOf st) (a+m - 1)
  ·rw[if_pos (q_ v)];exact L_ (h m st B .refl o u f)
  rw[if_neg (by simpa using v)];have x:a+m<=(arrOf st).size:=by rw[B.sz];omega
  have q:∀k,a<=k->k<a+m->K (arrOf st) k=K (arrOf st) (a+m - 1):=fun k b p=>by have D:=f a k (j_ _) b p;have C:=f k (a+m - 1) b (by omega) (by omega);omega
  have c:=K_mirror_equal x q;refine B_ (wpS_reverse (yf d l (by omega) (B.set (mirror_perm _ _ _ _)) (Dc.more o (fun i j b p r=>?_) ?_) (h.by (qQ (j_ _) x))))
  ·show K (mirror _ _ _ _) j<=K (mirror _ _ _ _) i;rw[c,c,q i b (by omega),q j (by omega) r];exact Xo _
  show K (mirror _ _ _ _) _<=K (mirror _ _ _ _) _;rw[c,c];exact Xz t
 rw[if_neg g];obtain rfl:m=1:=by omega
 exact yf d l (by omega) B (Dc.more (j_ 1) (fun i j b p r=>by
  obtain rfl:i=j:=by omega
  exact Xo _) (Xz t)) h
theorem Py {st:SortSt}{b n o:Nat}{Q:Bool->SortSt->Prop}(D:IntKeys a₀) (U:b+n<=a₀.size) (F:1<=o) (M:o<=n) (B:LB a₀ ps st) (L:Sg (arrOf st) b o)
  (h:∀a,LB a₀ ps a->Lf b (arrOf st) (arrOf a)->Sg (arrOf a) b n->Q true a):wpS (model prog w) A E s (binarySort' b n o) Q st:=by
 rw[binarySort'_eq];refine B_ (Zb (XM (I:=fun k c a=>c=(none,())/\LB a₀ ps a/\Lf b (arrOf st) (arrOf a)/\Sg (arrOf a) b (min k n)) (Q:=fun c a=>c=(none,())/\LB a₀ ps a/\Lf b (arrOf st) (arrOf a)/\Sg (arrOf a) b n) ?_ ?_ ⟨rfl,B,.refl,by rw[show min (max o 1) n=o by omega];exact L⟩) ?_)
 ·rintro k c a J P ⟨rfl,m,t,e⟩;rw[show min k n=k by omega] at e;refine B_ (Zb (XM (I:=fun x c f=>f=a/\∃l r,c=(none,l,r)/\l<=r/\r<=k/\r - l<=k - x/\(∀i,b<=i->i<b+l->K (arrOf a) i<=K (arrOf a) (b+k))/\∀i,b+r<=i->i<b+k->K (arrOf a) (b+k)<K (arrOf a) i)
   (Q:=fun c f=>f=a/\∃l r,c=(none,l,r)/\l<=k/\(∀i,b<=i->i<b+l->K (arrOf a) i<=K (arrOf a) (b+k))/\∀i,b+l<=i->i<b+k->K (arrOf a) (b+k)<K (arrOf a) i) ?_ ?_ ⟨rfl,0,k,rfl,by omega,by omega,by omega,fun i _ _=>by omega,fun i _ _=>by omega⟩) ?_)
  ·rintro x c f _ R ⟨rfl,l,r,rfl,N,u,O,p,q⟩;dsimp only;by_cases g:l ≥ r
   ·rw[if_pos g];obtain rfl:l=r:=by omega
    exact L_ ⟨rfl,l,l,rfl,u,p,q⟩
   rw[if_neg g];refine B_ (m.lt D (by omega) (by omega) ?_);dsimp only;by_cases y:K (arrOf f) (b+k)<K (arrOf f) (b+(l+r) / 2)
   ·rw[if_pos (q_ y)];exact L_ ⟨rfl,l,(l+r) / 2,rfl,by omega,by omega,by omega,p,fun i v z=>Int.lt_of_lt_of_le y (e _ _ (by omega) v z)⟩
   rw[if_neg (by simpa using y)];exact L_ ⟨rfl,(l+r) / 2+1,r,rfl,by omega,by omega,by omega,fun i v z=>X3 (e i (b+(l+r) / 2) v (by omega) (by omega)) (Int.not_lt.mp y),q⟩
  ·rintro c f ⟨rfl,l,r,rfl,N,u,O,p,q⟩;obtain rfl:l=r:=by omega
   exact⟨rfl,l,l,rfl,u,p,q⟩
  rintro c f ⟨rfl,l,r,rfl,u,p,q⟩;show wpS _ _ _ _ (moveDown' (b+k) (b+l) >>= fun _=>pure (ForInStep.yield (none,()))) _ _;rw[moveDown'_eq];have H:b+k<(arrOf f).size:=by rw[m.sz];omega
  have C:=fun i=>K_bubble H (d:=b+k - (b+l)) (by omega) i;refine B_ (wpS_modify (L_ ⟨rfl,m.set (bubble_perm _ _ _),t.trans fun i T=>?_,?_⟩))
  ·show K (bubble _ _ _) i=_;rw[C,if_neg (by omega),if_neg (by omega)]
  rw[show min (k+1) n=k+1 by omega];intro i j v z S;show K (bubble _ _ _) i<=K (bubble _ _ _) j;rw[C,C,show b+k - (b+k - (b+l))=b+l by omega]
  repeat' split
  all_goals first
   | (exfalso;omega)
   |exact Xo _
   |exact p _ (by omega) (by omega)
   |exact Xz (q _ (by omega) (by omega))
   |exact e _ _ (by omega) (by omega) (by omega)
 ·rintro c a ⟨G,m,t,e⟩;rw[show min (max (max o 1) n) n=n by omega] at e;exact⟨G,m,t,e⟩
 rintro c a ⟨rfl,m,t,e⟩;exact L_ (h a m t e)
end
def Rns (xs:Array Keyed):Nat->List (Nat × Nat × Nat)->Nat->Prop
 |u,[],v=>u=v
 |u,p::ps,v=>p.1=u/\1<=p.2.1/\Sg xs u p.2.1/\Rns xs (u+p.2.1) ps v
theorem Rns.le {xs:Array Keyed}:∀{ps:List (Nat × Nat × Nat)}{u v:Nat},Rns xs u ps v->u+ps.length<=v
 |[],_,_,h=>Zd h
 |p::ps,u,v,h=>by
  have:=h.2.2.2.le
  have:=h.2.1
  rw[d_]
  omega
theorem Rns.by {xs c:Array Keyed}:∀{ps:List (Nat × Nat × Nat)}{u v:Nat},Rns xs u ps v->(∀i,u<=i->i<v->K c i=K xs i)->Rns c u ps v
 |[],_,_,h,_=>h
 |p::ps,u,v,h,k=>by
  have e:=h.2.2.2.le
  exact⟨h.1,h.2.1,fun i j b a d=>by rw[k i b (by omega),k j (by omega) (by omega)];exact h.2.2.1 i j b a d,h.2.2.2.by fun i b a=>k i (by omega) a⟩
theorem Rns.app {xs:Array Keyed}:∀{A B:List (Nat × Nat × Nat)}{u v:Nat},Rns xs u (A++B) v↔∃m,Rns xs u A m/\Rns xs m B v
 |[],B,u,v=>⟨fun h=>⟨u,rfl,h⟩,fun ⟨m,e,h⟩=>by rw[show u=m from e];exact h⟩
 |p::A,B,u,v=>by
  show (_/\_/\_/\Rns xs _ (A++B) v)↔_
  rw[Rns.app (A:=A)]
  exact⟨fun ⟨a,b,c,m,d,e⟩=>⟨m,⟨a,b,c,d⟩,e⟩,fun ⟨m,⟨a,b,c,d⟩,e⟩=>⟨a,b,c,m,d,e⟩⟩
section
variable {prog:Program}{w:World}{A:Around}{E:Value->Shared->Prop}{s:Shared}{a₀:Array Keyed}{ps:Array (Nat × Nat × Nat)}
theorem tR {st:SortSt}{i v:Nat}{U B:List (Nat × Nat × Nat)}{x y:Nat × Nat × Nat}{Q:Bool->SortSt->Prop}(N:IntKeys a₀) (b:LB a₀ ps st) (e:ps.toList=U++x::y::B) (g:U.length=i) (R:Rns (arrOf st) 0 ps.toList v) (hv:v<=a₀.size)
  (h:∀c ps',LB a₀ ps' c->ps'.toList=U++(x.1,x.2.1+y.2.1,x.2.2)::B->Rns (arrOf c) 0 ps'.toList v->(∀i,v<=i->K (arrOf c) i=K (arrOf st) i)->Q true c):wpS (model prog w) A E s (mergeAt' i) Q st:=by
 obtain⟨sa,na,p⟩:=x;obtain⟨sb,nb,q⟩:=y;subst g;have j:(pendingOf st).toList=U++(sa,na,p)::(sb,nb,q)::B:=by rw[b.pd,e]
 refine HX _ (sa:=sa) (na:=na) (p:=p) (sb:=sb) (nb:=nb) (q:=q) (by rw[<- Xv,j];simp) (by rw[<- Xv,j,E_ (by omega)];simp) ?_;rw[e] at R;obtain⟨m,W,o,G,H,z,C,F,f⟩:=Rns.app.mp R;dsimp only at o G H z C F f;subst o z;have lB:=f.le;obtain⟨P,X,Y,S,d,lp,lx,ly⟩:=Uw (xs:=(arrOf st).toList) (u:=sa) (v:=sa+na) (t:=sa+na+nb) (by omega) (by omega) (by rw[P_,b.sz];omega);have n:X.length=na:=by omega
 have l:Y.length=nb:=by omega
 subst lp n l;have M:(arrOf st).toList=P++X++(Y++S):=by rw[d];simp
 have eY:(arrOf st).toList=(P++X)++Y++S:=by rw[d];simp
 refine HY (st:=setPending st (((pendingOf st).setIfInBounds U.length (P.length,X.length+Y.length,p)).eraseIdxIfInBounds (U.length+1))) b.kd b.fl (b.iny N) d G C ((Dm M).mp H) ((Dm eY).mp (by rw[a_];exact F)) fun c Z O L J I r V=>?_;have ch:=Pq d I r;have T:Z.length=X.length+Y.length:=by rw[r.length_eq,a_]
 rw[a_] at ch;have k:∀i,i<P.length\/P.length+(X.length+Y.length)<=i->K (arrOf c) i=K (arrOf st) i:=fun i g=>K_congr (ch.ot i g);have D:(pendingOf c).toList=U++(P.length,X.length+Y.length,p)::B:=by rw[J];show (((pendingOf st).setIfInBounds U.length (P.length,X.length+Y.length,p)).eraseIdxIfInBounds (U.length+1)).toList=_;rw[Array.toList_eraseIdxIfInBounds,Array.toList_setIfInBounds,j];simp only[List.set_append_right,j_,Nat.sub_self,List.set_cons_zero];rw[List.eraseIdx_append_of_length_le (by omega),show U.length+1 - U.length=1 by omega];rfl
 refine h c (pendingOf c) ⟨(Array.perm_iff_toList_perm.mpr ch.pm).trans b.pm,O,L,rfl⟩ D ?_ fun i a=>k i (.inr (by omega));rw[D];refine Rns.app.mpr ⟨P.length,W.by fun i _ a=>k i (.inl a),rfl,by dsimp only;omega,?_,?_⟩
 ·have:=(Dm I).mpr V
  rwa [T] at this
 dsimp only;rw[<- aah];exact f.by fun i a _=>k i (.inr (by omega))
theorem Rns.pw {xs:Array Keyed}{f:Nat × Nat × Nat->Nat × Nat × Nat}(a:∀x,(f x).1=x.1/\(f x).2.1=x.2.1):∀{ps:List (Nat × Nat × Nat)}{u v k:Nat},Rns xs u ps v->Rns xs u (ps.modify k f) v
 |[],_,_,0,h=>h
 |[],_,_,_+1,h=>h
 |p::ps,u,v,0,h=>by
  show (f p).1=u/\1<=(f p).2.1/\Sg xs u (f p).2.1/\Rns xs (u+(f p).2.1) ps v
  rw[(a p).1,(a p).2]
  exact h
 |p::ps,u,v,k+1,h=>⟨h.1,h.2.1,h.2.2.1,h.2.2.2.pw a⟩
def rsL (N a n:Nat):StateT SortSt Sem (ForInStep (Option Unit × Nat)):=do
 let q <- get
 match (pendingOf q).back? with
 |some (s1,n1,_)=>do
  let c <- forIn [:N] ((none,()):Option Unit × Unit) fun _ _=>do
   let q <- get
   match if (pendingOf q).size>1 then (pendingOf q)[(pendingOf q).size - 2]? else none with
   |some (_,_,older) =>
    if older<=power' N (2*s1+n1) (2*s1+n1+n1+n) N then pure (.done (none,()))
    else do
     let r <- mergeAt' ((pendingOf q).size - 2)
     if (!r)=true then pure (.done (some (),())) else pure (.yield (none,()))
   |_=>pure (.done (none,()))
  match c.1 with
  |some r=>pure (.done (some r,a))
  |none=>do
   modify fun s=>setPending s ((pendingOf s).modify ((pendingOf s).size - 1) fun x=>(x.1,x.2.1,power' N (2*s1+n1) (2*s1+n1+n1+n) N))
   modify fun s=>setPending s ((pendingOf s).push (a,n,0))
   pure (.yield (none,a+n))
 |_=>do
  modify fun s=>setPending s ((pendingOf s).push (a,n,0))
  pure (.yield (none,a+n))
theorem Uy {a:Type}{ps:Array a}{i:Nat}(h:i+2<=ps.size):∃x y,ps.toList=ps.toList.take i++x::y::ps.toList.drop (i+2)/\(ps.toList.take i).length=i:=by
 refine⟨ps.toList[i]'(by rw[P_];omega),ps.toList[i+1]'(by rw[P_];omega),?_,by rw[Xc,P_];omega⟩;rw[<- Yd,<- Yd,W_]
theorem yg {st:SortSt}{f n:Nat}{Q:ForInStep (Option Unit × Nat)->SortSt->Prop}{z:StateT SortSt Sem (ForInStep (Option Unit × Nat))}(G:z=rsL a₀.size f n) (F:IntKeys a₀) (b:LB a₀ ps st) (R:Rns (arrOf st) 0 ps.toList f) (K:1<=n) (O:f+n<=a₀.size) (t:Sg (arrOf st) f n)
  (h:∀d ps',LB a₀ ps' d->Rns (arrOf d) 0 ps'.toList (f+n)->Q (.yield (none,f+n)) d):wpS (model prog w) A E s z Q st:=by
 subst G;have o:∀st ps,LB a₀ ps st->Rns (arrOf st) 0 ps.toList f->Sg (arrOf st) f n->Q (.yield (none,f+n)) (setPending st ((pendingOf st).push (f,n,0))):=fun st ps b R t=>by refine h _ (ps.push (f,n,0)) ⟨b.pm,b.kd,b.fl,by show (pendingOf st).push _=_;rw[b.pd]⟩ ?_;rw[Zu];exact Rns.app.mpr ⟨f,R,rfl,K,t,rfl⟩
 unfold rsL;refine B_ (wpS_get ?_);cases (pendingOf st).back? with
 |none=>exact B_ (wpS_modify (L_ (o st ps b R t)))
 |some p =>
 obtain⟨P,N,p⟩:=p;dsimp only;refine B_ (Zb (XM (I:=fun _ c d=>∃ps,c=(none,())/\LB a₀ ps d/\Rns (arrOf d) 0 ps.toList f/\Sg (arrOf d) f n) (Q:=fun c d=>∃ps,c=(none,())/\LB a₀ ps d/\Rns (arrOf d) 0 ps.toList f/\Sg (arrOf d) f n) ?_ (fun _ _ z=>z) ⟨ps,rfl,b,R,t⟩) ?_)
 ·rintro x c g _ _ ⟨ps,rfl,k,R2,q⟩;refine B_ (wpS_get ?_);rw[k.pd];have m:=L_ (M:=model prog w) (A:=A) (E:=E) (s:=s) (Q:=fun r d=>match r with | .done c'=>∃ps,c'=(none,())/\LB a₀ ps d/\Rns (arrOf d) 0 ps.toList f/\Sg (arrOf d) f n | .yield c'=>∃ps,c'=(none,())/\LB a₀ ps d/\Rns (arrOf d) 0 ps.toList f/\Sg (arrOf d) f n) (a:=ForInStep.done ((none,()):Option Unit × Unit)) (st:=g) ⟨ps,rfl,k,R2,q⟩;by_cases v:ps.size>1
  ·rw[if_pos v];obtain⟨x,y,e,l⟩:=Uy (i:=ps.size - 2) (ps:=ps) (by omega);split
   ·split
    ·exact m
    refine B_ (tR F k e l R2 (by omega) fun H u J _ R3 B=>?_);rw[Xw,if_neg t_];exact L_ ⟨u,rfl,J,R3,fun i j C D L=>by rw[B i C,B j (by omega)];exact q i j C D L⟩
   exact m
  rw[if_neg v];exact m
 rintro c g ⟨ps,rfl,k,R2,q⟩;refine B_ (wpS_modify (B_ (wpS_modify (L_ (o _ _ ⟨k.pm,k.kd,k.fl,rfl⟩ ?_ q)))));show Rns (arrOf g) 0 ((pendingOf g).modify _ _).toList f;rw[Array.toList_modify,k.pd];refine Rns.pw ?_ R2;exact fun _=>⟨rfl,rfl⟩
theorem Dp {st:SortSt}{Q:Unit->SortSt->Prop}(t:IntKeys a₀) (b:LB a₀ #[] st) (Y:1<=a₀.size) (h:∀d,(arrOf d).Perm a₀->failedOf d=none->SortedTo (arrOf d) a₀.size->Q () d):wpS (model prog w) A E s sortRuns' Q st:=by
 rw[sortRuns'_eq];refine B_ (wpS_get ?_);dsimp only;rw[b.sz];generalize minRun' a₀.size a₀.size 0=mr;refine B_ (Zb (XM (I:=fun x c d=>∃g ps,c=(none,g)/\LB a₀ ps d/\Rns (arrOf d) 0 ps.toList g/\g<=a₀.size/\(x<=g\/g=a₀.size))
  (Q:=fun c d=>∃ps,c=(none,a₀.size)/\LB a₀ ps d/\Rns (arrOf d) 0 ps.toList a₀.size) ?step ?fin ⟨0,#[],rfl,b,rfl,by omega,.inl (j_ _)⟩) ?post)
 case fin =>
  rintro c d ⟨g,ps,rfl,r,R,S,L⟩
  obtain rfl:g=a₀.size:=by omega
  exact⟨ps,rfl,r,R⟩
 case step =>
  rintro x c d _ X ⟨g,ps,rfl,r,R,S,L⟩
  dsimp only
  by_cases o:g ≥ a₀.size
  ·
   rw[if_pos o]
   obtain rfl:g=a₀.size:=by omega
   exact L_ ⟨ps,rfl,r,R⟩
  rw[if_neg o]
  refine B_ (Px t (by omega) (by omega) r fun m k f K G m2 J=>?_)
  dsimp only
  split
  rotate_left
  refine yg ?_ t f (R.by fun i _ a=>K i a) G (by omega) J fun F n C u=>⟨_,n,rfl,C,u,by omega,by omega⟩
  rotate_left
  refine B_ (wpS_lift (Z3 ⟨rfl,?_⟩))
  refine B_ (Py t (by omega) G (by omega) f J fun v B W T=>?_)
  rw[Xw,if_neg t_]
  refine yg ?_ t B (R.by fun i _ a=>K.trans W i a) (by omega) (by omega) T fun F n C u=>⟨_,n,rfl,C,u,by omega,by omega⟩
  all_goals
   unfold rsL
   refine aM rfl fun q=>?_
   cases (pendingOf q).back? with
   |none=>rfl
   |some p =>
    refine aM (by congr 1) fun ⟨c,_⟩=>?_
    cases c <;> rfl
 case post =>
  rintro c d ⟨ps,rfl,r,R⟩
  dsimp only
  refine B_ (Zb (XM (I:=fun x c d=>∃ps,c=(none,())/\LB a₀ ps d/\Rns (arrOf d) 0 ps.toList a₀.size/\(ps.size<=1\/ps.size+x<=a₀.size))
   (Q:=fun c d=>∃ps,c=(none,())/\LB a₀ ps d/\Rns (arrOf d) 0 ps.toList a₀.size/\ps.size<=1) ?_ ?_ ⟨ps,rfl,r,R,.inr (by have:=R.le;rw[P_] at this;omega)⟩) ?_)
  ·
   rintro x c k _ X ⟨ps,rfl,f,R,a⟩
   refine B_ (wpS_get ?_)
   rw[f.pd]
   by_cases o:ps.size<=1
   ·
    rw[if_pos o]
    exact L_ ⟨ps,rfl,f,R,o⟩
   rw[if_neg o]
   generalize U:(if Option.any _ _=true then ps.size - 2 - 1 else ps.size - 2)=i
   obtain⟨y,z,e,l⟩:=Uy (ps:=ps) (i:=i) (by rw[<- U];(repeat' split) <;> omega)
   refine B_ (tR t f e l R (j_ _) fun v D B V R3 _=>?_)
   rw[Xw,if_neg t_]
   refine L_ ⟨D,rfl,B,R3,.inr ?_⟩
   have:=O_ List.length V
   have H:=O_ List.length e
   rw[P_,a_,d_,l] at this H
   rw[d_] at H
   omega
  ·
   rintro c k ⟨ps,rfl,f,R,a⟩
   exact⟨ps,rfl,f,R,by omega⟩
  ·
   rintro c k ⟨ps,rfl,f,R,a⟩
   refine L_ (h k f.pm f.fl ?_)
   cases e:ps.toList with
   |nil=>rw[e] at R;have:0=a₀.size:=R;omega
   |cons p l =>
    have P:=O_ List.length e
    rw[P_,d_] at P
    have:=X6.mp (show l.length=0 by omega)
    subst this
    rw[e] at R
    obtain⟨Z,r2,O,N⟩:=R
    have r5:0+p.2.1=a₀.size:=N
    intro i j M i2
    exact O i j (by omega) M (by omega)
theorem vH {a:Addr}{vs:List Value}{ns:List Int}{n:Nat}{R:PySem.Fin->Shared->Prop}(i:s.heap.get? a=some (seqObj "list" vs.toArray n)) (k:IntsAre vs ns) (m:vs.length<=sizeLine)
  (h:∀(out:Array Value) (g:List Int),IntsAre out.toList g->g.Perm ns->g.Pairwise (·<=·)->R (.done (.ret .none)) { s with heap:=sortedHeap s.heap a vs out}):wpAny (model prog w) A (Builtin.«list.sort» ⟨[.ref a],[]⟩) R E s:=by
 by_cases b:vs.length<64
 ·exact list_sort_tree i k b h
 have C:a<s.heap.objs.size:=R_ i;rw[list_sort_plain];refine h_ (listItems_at i rfl (h_ (listUpdate_at i rfl ?_ (by rw[n_];omega) (Yy _))));obtain⟨c,f⟩:∃c,(s.heap.update a (Obj.mapSeq fun _=>(#[]:Array Value))).get? a=some (seqObj "list" #[] c):=⟨_,get?_update_seq i fun _=>#[]⟩;refine h_ (seqEpoch_at f rfl (h_ (wpAny_newTuple (h_ (wpAny_newList (Zi ?_) (Yy _))) m)));have j:(((s.heap.update a (Obj.mapSeq fun _=>(#[]:Array Value))).push (seqObj "tuple" vs.toArray 0)).push (seqObj "list" #[] 0)).get? a=some (seqObj "list" #[] c):=l_ _ (l_ _ f);show wpAny (model prog w) A _ R E { s with heap:=((s.heap.update a (Obj.mapSeq fun _=>(#[]:Array Value))).push (seqObj "tuple" vs.toArray 0)).push (seqObj "list" #[] 0)};dsimp only;rw[n_,if_neg (by omega),if_neg (by omega)]
 match vs,b with
 |[],b=>exact absurd (by decide) b
 |[_],b=>exact absurd (show 1<64 by decide) b
 |u::v::r,_ =>
 rw[keyKind_ints k];refine h_ (C_ (h_ (Yg (Dp (a₀:=pairsOf (u::v::r)) (Q:=fun _ d=>(arrOf d).Perm (pairsOf (u::v::r))/\failedOf d=none/\SortedTo (arrOf d) (pairsOf (u::v::r)).size) k.intKeys ⟨.refl _,rfl,rfl,rfl⟩ (by rw[pairsOf_size];simp) fun d y x p=>⟨y,x,p⟩) ?_ fun _ _ e=>e)));rintro⟨⟨⟩,d⟩ s' ⟨rfl,l,z,B⟩;dsimp only;refine h_ (seqEpoch_at j rfl (h_ (listUpdate_at j rfl ?_ (Yy _) (W6 (Zd ((Array.size_map ..).trans (l.size_eq.trans (pairsOf_size _)))) (Nat.le_succ_of_le m)))));rw[z];simp only[bne_self_eq_false,K_,Xd];obtain⟨g,t,q,o⟩:=sorted_out k l B;exact C_ (h _ g t q o)
end
theorem yh:∀{a:List Value}{ns:List Int},IntsAre a ns->Vals (ns.map V.int) a
 |_,_,.nil=>.nil
 |_,_,.cons n t h=>.cons ⟨t,rfl⟩ (yh h)
section
variable {P:Program}{w:World}{A:Around}{E:Value->Shared->Prop}{s:Shared}
theorem Ib {x:Value}{Q:Value->Shared->Prop}(n:∀A' E',A'.handled=A.handled->wpAny (model P w) A' (collect x) (fun vs s1=>∃ns,IntsAre vs ns/\vs.length<=sizeLine /\
   ∀out a h' c,IntsAre out.toList a->a.Perm ns->a.Pairwise (·<=·)->Kpt s1.heap h'->h'.get? s1.heap.objs.size=some (seqObj "list" out c)->Q (.ref s1.heap.objs.size) { s1 with heap:=h'}) E' s):wpAny (model P w) A (call (.builtin "sorted") [x]) Q E s:=by
 refine Calls.call_function_entry kind_sorted plain_sorted entry_sorted (args_sorted1 _) ?_;unfold Builtin.«sorted»;refine h_ (m:=checkCount "sorted" 1 1 _) (C_ ?_);refine h_ (Yg (n _ _ rfl) (fun vs s1 j=>?_) fun _ _ e=>e);obtain⟨ns,g,d,h⟩:=j;refine h_ (wpAny_newList ?_ d);have b:(s1.heap.push (seqObj "list" vs.toArray 0)).get? s1.heap.objs.size=some (seqObj "list" vs.toArray 0):=V_ _ rfl;refine h_ (Zi (ZL slot_list_sort ⟨_,b,rfl⟩ entry_list_sort (vH b g d fun out a i f k=>⟨_,rfl,?_⟩) (args_list_sort _)));obtain⟨l,c,o⟩:=Hu (h:=s1.heap) (vs:=vs) (out:=out);exact C_ ⟨_,rfl,h out a _ c i f k l o⟩
variable {X:Cx}{e:Expr}{te:TE}{p1 p2 pos pos':Pos}
end
theorem mQ {K:Frag}{H:Hp}:∀{ns:List Int},Reps K H (ns.map T.int) (ns.map V.int)
 |[]=>.nil
 |_::_=>.cons .ofInt mQ
section
variable {X:Cx}{e:Expr}{p1 p2 pos pos':Pos}
variable {pins:List (Addr × Obj)}{σ:L2.St}{H:Hp}{s:Shared}{H3:Hp3}{Q3:VK3}{Q:VK}
theorem pK (I:Inv X pins σ H s) (x:SimH X.K H3 H) (k:KV3 X.K H Q3 Q) (R:X.A.handled=none) {kvs:List (Int × T)}{a:Addr}{vs:List (Key × V)}(N:Rd H a (.dK vs)) (r:RepI X.K H kvs vs) (S:kvs.length<=1024)
  (h:∀us:List Int,us.Perm (kvs.map (·.1))->us.Pairwise (·<=·)->∀p,H3 p=none->Q3 (.ref p) (up3 H3 p (.lst (us.map T.int)))):wpAny (model X.prog X.w) X.A (call (.builtin "sorted") [.ref a]) (EP X pins σ Q) X.xe s:=by
 obtain⟨z,hd,i,g,M⟩:=lM I.hok N;obtain⟨o,L,ep,B,J,G,W,F,y⟩:=M;have hl:=g.length;have D:=Yx r;have hz:sizeLine=16777216:=rfl;refine Ib fun A' E' U=>?_;refine tL (kdl_dict (knd:=bC X.prog X.w) (kvs:=i) (ep:=ep) hd) (U.trans R) ⟨o,L,B,J,G,W,F,y⟩ (by omega) fun h' tk n kp f d=>?_;have m:=zK (P:=X.prog) (w:=X.w) g n.toList (by rw[P_];exact d.1) fun j v e=>d.2 j v (by rw[<- Xv];exact e);have C:Reps X.K H ((kvs.map (·.1)).map T.int) (vs.map fun q=>kV q.1):=by rw[N_];exact zL r
 have u:=xP C m;have l3:=Dj u;rw[b_] at l3;refine⟨_,u,by omega,fun out us g' c Y t Z kq E=>?_⟩;have O:=t.length_eq;rw[b_] at O;have l:H h'.objs.size=none:=I.hok.fresh (Yn f);refine⟨.ref h'.objs.size,upd H h'.objs.size (.lst (us.map V.int)),I.laid (t':=tk) (fun b o e=>kq b o (kp b o e)) (Yn f) ⟨by rw[b_];omega,out.toList,c,yh Y,E⟩,rfl,?_⟩;exact k _ _ _ _ (aN l) (x.newLst l mQ) .ofRef (h us t Z _ (x.fresh l))
def siL (o:Option O3) (H:Hp3) (Q:VK3):Prop:=match o with
 |some (.dci kvs)=>kvs.length<=1024/\∀us:List Int,us.Perm (kvs.map (·.1))->us.Pairwise (·<=·)->∀p,H p=none->Q (.ref p) (up3 H p (.lst (us.map T.int)))
 |some (.dif _ kvs)=>kvs.length<=1024/\∀us:List Int,us.Perm (kvs.map (·.1))->us.Pairwise (·<=·)->∀p,H p=none->Q (.ref p) (up3 H p (.lst (us.map T.int)))
 |_=>False
def Dq:List T->Hp3->VK3->Prop:=fun ts H Q=>match ts with
 |[.ref a]=>siL (H a) H Q
 |_=>False
theorem Pz (a:Addr) (H:Hp3) (Q:VK3):Dq [.ref a] H Q=siL (H a) H Q:=rfl
theorem Uz (kvs:List (Int × T)) (H:Hp3) (Q:VK3):siL (some (.dci kvs)) H Q=(kvs.length<=1024/\∀us:List Int,us.Perm (kvs.map (·.1))->us.Pairwise (·<=·)->∀p,H p=none->Q (.ref p) (up3 H p (.lst (us.map T.int)))):=rfl
theorem PB (o:Obj) (kvs:List (Int × T)) (H:Hp3) (Q:VK3):siL (some (.dif o kvs)) H Q=(kvs.length<=1024/\∀us:List Int,us.Perm (kvs.map (·.1))->us.Pairwise (·<=·)->∀p,H p=none->Q (.ref p) (up3 H p (.lst (us.map T.int)))):=rfl
theorem Ie {n:Nat}(i:Room n X.A):fX X (.builtin "sorted") Dq:=by
 intro g s m H xs us Q I l h;obtain⟨ts,H3,Q3,r,b,h,k⟩:=h
 match ts,h,r with
 |[.ref a],h,r =>
 obtain⟨v,rfl,c⟩:=r.one';obtain⟨u,rfl,j⟩:=vals1 l;rw[c.ref] at j;cases j;have h':siL (H3 a) H3 Q3:=h;unfold siL at h';split at h'
 ·rename_i kvs e;obtain⟨vs,f,d⟩:=b a _ e;exact pK I b k i.hd (.inl f) d h'.1 h'.2
 ·rename_i o kvs e;obtain⟨vs,f,d⟩:=b a _ e;exact pK I b k i.hd (.inr ⟨o,f⟩) d h'.1 h'.2
 exact h'.elim
end
end L3
namespace L2
section
variable {X:Cx}{o i e f value:Expr}{pos pos' apos cpos:Pos}{td ty tv tx:TE}
def UG (w:World):TE:=fun _ H Q=>∀p,H p=none->Q (.ref p) (upd H p (dnO w p []))
theorem Ig:PE X (.Dict [] [] pos) (UG X.w):=fun a s b H Q I h=>wpAny_Dict_empty ⟨.ref s.heap.objs.size,_,Sq I,rfl,h _ (I.hok.fresh (j_ _))⟩
def NAt (X:Cx) (H:Hp) (x y:V) (a b:Addr) (k:NK) (ks:List (NK × Addr × V)):Prop:=x=.ref a/\y=.ref b/\H a=some (dnO X.w a ks)/\rZ X.K H ks/\NKt X.K H k b
def WL (X:Cx) (neg:Bool) (g e:TE):TE:=fun d H Q=>g d H fun y f=>e d f fun x c=>∃a b k ks,NAt X c x y a b k ks/\Q (.bl (if neg then !(eN ks k).isSome else (eN ks k).isSome)) c
theorem PJ (e:X.A.units+30<cLine) (m:PE X i ty) (F:PE X o td):PC X .In i o (WL X false ty td):=by
 intro c s d H Q I h;refine thn (m c s d H _ I h) fun p w ⟨y,l,D,g,r⟩=>thn (F c w d l _ D r) fun u G ⟨x,C,z,B,a,b,k,ks,⟨q,v,f,j,E⟩,n⟩=>?_;subst q v;obtain rfl:u=Value.ref a:=B;obtain rfl:p=Value.ref b:=g;exact Wh e z f j E fun J t=>⟨.bl (eN ks k).isSome,C,t,rfl,n⟩
def UJ (X:Cx) (f h e:TE):TS:=fun D c H=>e c H fun v g=>f c g fun x d=>h c d fun y H3=>∃a b k ks,NAt X H3 x y a b k ks/\ks.length<sizeLine/\D.nx c (upd H3 a (dnO X.w a (qj ks k b v)))
theorem Ih (e:X.A.units+30<cLine) (Q:PE X o td) (t:PE X i ty) (N:PE X value tv) (n:swapsWith value (some (.Subscript o i pos')) pos.line X.env=pure false):PS X (.Assign [.Subscript o i pos'] value pos) (UJ X td ty tv):=by
 intro c s d H D I h;refine wpAny_Assign_Subscript (thn (N c s d H _ I h) fun r G ⟨v,m,O,R,C⟩=>thn (Q c G d m _ O C) fun u p ⟨x,M,J,L,w⟩=>thn (t c p d M _ J w) fun z T ⟨y,H3,E,j,a,b,k,ks,⟨B,F,g,l,P⟩,q,K⟩=>?_) n;subst B F;obtain rfl:u=Value.ref a:=L;obtain rfl:z=Value.ref b:=j;exact Sh e E g l P q R fun S f=>⟨d,_,f,K⟩
def PK (X:Cx) (g h e:TE):TE:=fun c H Q=>g c H fun x d=>(∃a ks,x=.ref a/\d a=some (dnO X.w a ks)/\rZ X.K d ks)/\h c d fun y f=>e c f fun z H3=>∃a b k ks,NAt X H3 x y a b k ks/\Q ((eN ks k).getD z) H3
theorem Dr (r:X.A.units+30<cLine) (ho:PE X o td) (K:PE X e ty) (E:PE X f tx) (m:M2 X o "get" apos e f cpos):PE X (.Call (.Attribute o "get" apos) [e,f] [] cpos) (PK X td ty tx):=by
 intro c s d H Q I h;refine wpAny_Call_method m.base m.few m.line PySem.F.plainAttrs_dict PySem.F.slot_dict_get PySem.F.type_dict_get (thn (ho c s d H _ I h) fun u T ⟨x,G,l,W,⟨a,ks,g,n,na⟩,O⟩=>?_);subst g;obtain rfl:u=Value.ref a:=W;obtain⟨_,_,xs,_,j⟩:=wK l n na;refine⟨j.typeIs,fun b q=>(by cases q;obtain⟨C,_,_,p,B,_⟩:=j;exact⟨C,p,B.2.1⟩),?_⟩;rw[m.trees];refine Ze rfl (Calls.evalArgs_plain (YJ (thn (K c T d G _ l O) fun N L ⟨y,Y,U,w,M⟩ =>
  YJ (thn (E c L d Y _ U M) fun fv s3 ⟨z,H3,R,P,a',b,k,J,⟨g,S,v,D,Z⟩,V⟩=>Zo ?_))))
 cases g;subst S;obtain rfl:N=Value.ref b:=w;exact Nj r R v D Z P fun w' s4 t i=>⟨_,H3,t,i,V⟩
end
end L2
namespace L3
open L2
theorem tU:∀{ts:List T}{ns:List Str},mq ts=some ns->ts=ns.map T.str
 |[],_,h=>by cases h;rfl
 |t::r,ns,h=>by
  cases t with
  |str x =>
   obtain⟨l,e,rfl⟩:=Option.map_eq_some_iff.mp (show (mq r).map (x::·)=some ns from h)
   rw[tU e];rfl
  |_=>cases h
def nk3:T->Option NK
 |.tup [.int i,.tup ts]=>(mq ts).map fun ns=>(i,ns)
 |_=>none
theorem PL (i:Int) (ns:List Str):nk3 (.tup [.int i,.tup (ns.map T.str)])=some (i,ns):=by
 show (mq (ns.map T.str)).map _=_;rw[ph];rfl
theorem tV {K:Frag}{H:Hp}:∀{ns:List Str}{xs:List V},Reps K H (ns.map T.str) xs->xs=ns.map V.str
 |[],_,r=>r.inv0
 |n::ns,xs,r=>by
  obtain⟨v,a,rfl,q,b⟩:=r.inv
  rw[y_,<- tV b,q.str]
theorem Ii {K:Frag}{H:Hp}{t:T}{k:NK}{v:V}(e:nk3 t=some k) (r:Rep K H t v):∃a,v=.ref a/\NKt K H k a:=by
 unfold nk3 at e;split at e
 ·rename_i i ts;obtain⟨ns,g,rfl⟩:=Option.map_eq_some_iff.mp e;rw[tU g] at r;obtain⟨a,xs,rfl,d,f⟩:=r.tup;obtain⟨o,p,rfl,j,n⟩:=f.inv;obtain⟨q,s,rfl,m,h⟩:=n.inv;obtain⟨b,u,rfl,c,l⟩:=m.tup;rw[h.inv0,j.int] at d;rw[tV l] at c;exact⟨a,rfl,b,d,c⟩
 cases e
def cj (k:NK):List (NK × T)->Option T
 |[]=>none
 | (k',v)::r=>if k'=k then some v else cj k r
def tW (k:NK) (v:T) (kvs:List (NK × T)):List (NK × T):=if (cj k kvs).isSome then kvs.map (fun x=>if x.1=k then (x.1,v) else x) else kvs++[(k,v)]
section
variable {K:Frag}{H:Hp}{kvs:List (NK × T)}{ks:List (NK × Addr × V)}{k:NK}
theorem RepN.look (r:RepN K H kvs ks) (k:NK):(cj k kvs=none/\eN ks k=none)\/∃t v,cj k kvs=some t/\eN ks k=some v/\Rep K H t v:=by
 induction r with
 |nil=>exact .inl ⟨rfl,rfl⟩
 |@cons p q l m h _ b =>
 obtain⟨j,f⟩:=p;obtain⟨g,i,d⟩:=q;obtain⟨e,_,a⟩:=h;dsimp only at e a;subst e;unfold cj;unfold eN at b ⊢;rw[X8];by_cases c:g=k
 ·rw[if_pos c,q_ (by exact c)];exact .inr ⟨f,d,rfl,rfl,a⟩
 rw[if_neg c,p_ (by exact c)];exact b
theorem RepN.put (r:RepN K H kvs ks) {b:Addr}{t:T}{v:V}(g:NKt K H k b) (i:Rep K H t v):RepN K H (tW k t kvs) (qj ks k b v):=by
 have e:(cj k kvs).isSome=(eN ks k).isSome:=by rcases r.look k with ⟨a,b⟩ | ⟨t,v,a,b,_⟩ <;> rw[a,b] <;> rfl
 unfold tW qj;rw[e];split
 ·rename_i c;clear e c;induction r with
  |nil=>exact .nil
  |@cons p q l m h _ j =>
  obtain⟨s,u⟩:=p;obtain⟨w,o,n⟩:=q;obtain⟨e,d,f⟩:=h;dsimp only at e f d;subst e;refine .cons ?_ j;dsimp only;split <;> exact⟨rfl,d,by assumption⟩
 exact aaj r ⟨rfl,g,i⟩
theorem RepN.all (r:RepN K H kvs ks):rZ K H ks:=by
 induction r with
 |nil=>intro x a;exact nomatch a
 |cons h _ b =>
 intro x a;rcases o_.mp a with rfl | a
 ·exact h.2.1
 exact b x a
end
def nqO (u:Option O3) (w:World) (Q:List (NK × T)->Prop):Prop:=match u with
 |some (.dcn w' kvs)=>w'=w/\Q kvs
 |_=>False
def nq (w:World) (x y:T) (H:Hp3) (Q:Addr->NK->List (NK × T)->Prop):Prop:=match x with
 |.ref a=>oq (nk3 y) fun k=>nqO (H a) w (Q a k)
 |_=>False
theorem WM (w:World) (a:Addr) (i:Int) (ns:List Str) {H:Hp3}{Q:Addr->NK->List (NK × T)->Prop}:nq w (.ref a) (.tup [.int i,.tup (ns.map T.str)]) H Q=nqO (H a) w (Q a (i,ns)):=by
 unfold nq;rw[PL];rfl
theorem UL (w:World) (kvs:List (NK × T)) {Q:List (NK × T)->Prop}:nqO (some (.dcn w kvs)) w Q=Q kvs:=by
 show (w=w/\Q kvs)=Q kvs;rw[eq_self,true_and]
theorem vI {w:World}{K:Frag}{H:Hp}{H3:Hp3}{x y:V}{f g:T}{Q:Addr->NK->List (NK × T)->Prop}(l:SimH K H3 H) (j:Rep K H f x) (r:Rep K H g y) (q:nq w f g H3 Q) :
  ∃a b k kvs ks,x=.ref a/\y=.ref b/\H a=some (dnO w a ks)/\H3 a=some (.dcn w kvs)/\RepN K H kvs ks/\NKt K H k b/\Q a k kvs:=by
 cases f with
 |ref a =>
  cases e:nk3 g with
  |none=>unfold nq at q;rw[e] at q;exact q.elim
  |some k =>
  unfold nq at q;rw[e] at q;have c:nqO (H3 a) w (Q a k):=q;cases d:H3 a with
  |none=>rw[d] at c;exact c.elim
  |some n =>
  rw[d] at c;cases n with
  |dcn s kvs=>obtain⟨rfl,m⟩:=c;obtain⟨ks,p,i⟩:=l a _ d;obtain⟨b,h,o⟩:=Ii e r;exact⟨a,b,k,kvs,ks,j.ref,h,p,d,i,o,m⟩
  |_=>exact c.elim
 |_=>exact q.elim
section
variable {X:Cx}{o i e f value:Expr}{pos pos' apos cpos:Pos}{td ti tv tx:TE3}
def yj (w:World):TE3:=fun _ H Q=>∀p,H p=none->Q (.ref p) (up3 H p (.dcn w []))
theorem SimH.newN {w:World}{K:Frag}{H:Hp}{H3:Hp3}{p:Addr}(s:SimH K H3 H) (c:H p=none):SimH K (up3 H3 p (.dcn w [])) (upd H p (dnO w p [])):=fun a o e=>by
 by_cases b:a=p
 ·subst b;rw[au] at e;cases e;exact⟨[],bT,.nil⟩
 rw[aD b] at e;exact s.new c a o e
theorem Ds {w:World}(d:X.w=w):PE3 X (.Dict [] [] pos) (yj w):=by
 subst d;refine PE.imp Ig ?_;rintro e H Q ⟨c,H3,Q3,f,b,h,k⟩ p a;exact k _ _ _ _ (aN a) (b.newN a) .ofRef (h p (b.fresh a))
def Dt (w:World) (neg:Bool) (c e:TE3):TE3:=fun b H Q=>c b H fun y d=>e b d fun x a=>nq w x y a fun _ k kvs=>Q (.bl (if neg then !(cj k kvs).isSome else (cj k kvs).isSome)) a
theorem Ij {neg:Bool}{w:World}{K:Frag}{H:Hp}{H3:Hp3}{x y:V}{d g:T}{Q3:VK3}(l:SimH K H3 H) (j:Rep K H d x) (p:Rep K H g y) (q:nq w d g H3 fun _ k kvs=>Q3 (.bl (if neg then !(cj k kvs).isSome else (cj k kvs).isSome)) H3) :
  ∃a b k ks c,(x=.ref a/\y=.ref b/\H a=some (dnO w a ks)/\rZ K H ks/\NKt K H k b)/\(if neg then !(eN ks k).isSome else (eN ks k).isSome)=c/\Q3 (.bl c) H3:=by
 obtain⟨a,b,k,kvs,ks,n,i,h,_,f,o,m⟩:=vI l j p q;refine⟨a,b,k,ks,_,⟨n,i,h,f.all,o⟩,rfl,?_⟩;have e:(cj k kvs).isSome=(eN ks k).isSome:=by rcases f.look k with ⟨a,b⟩ | ⟨t,v,a,b,_⟩ <;> rw[a,b] <;> rfl
 rwa [e] at m
def ym (w:World) (g f e:TE3):TE3:=fun b H Q=>g b H fun x c=>(∃a kvs,x=.ref a/\c a=some (.dcn w kvs))/\f b c fun y d=>e b d fun z H3=>nq w x y H3 fun _ k kvs=>Q ((cj k kvs).getD z) H3
theorem tX {w:World}(Y:X.w=w) (J:X.A.units+30<cLine) (Z:PE3 X o td) (R:PE3 X e ti) (P:PE3 X f tv) (m:M2 X o "get" apos e f cpos:=by exact⟨rfl,rfl,rfl,rfl⟩):PE3 X (.Call (.Attribute o "get" apos) [e,f] [] cpos) (ym w td ti tv):=by
 subst Y;refine PE.imp (Dr J Z R P m) ?_;rintro σ H Q ⟨c,H3,Q3,u,W,h,k⟩;refine⟨c,H3,_,u,W,h,fun x H1 tx n d l G ⟨⟨a,kvs,K,O⟩,U⟩=>⟨?_,c,n,_,u.mono d,l,U,fun y H2 ty q i B L S=>⟨c,q,_,u.mono (d.trans i),B,S,fun z H4 tz I g j V q4=>?_⟩⟩⟩
 ·obtain⟨ks,p,s⟩:=l a _ O;subst K;exact⟨a,ks,G.ref,p,s.all⟩
 obtain⟨a,b,F,kvs,ks,p,s,N,_,E,M,T⟩:=vI j (G.mono (i.trans g)) (L.mono g) q4;refine⟨a,b,F,ks,⟨p,s,N,E.all,M⟩,k _ _ _ _ (d.trans (i.trans g)) j ?_ T⟩;rcases E.look F with ⟨D,C⟩ | ⟨t,v,D,C,r⟩ <;> rw[D,C]
 ·exact V
 exact r
def yo (w:World) (g e d:TE3):TS3:=fun D b H=>d b H fun v f=>g b f fun x c=>e b c fun y H3=>nq w x y H3 fun a k kvs=>kvs.length<sizeLine/\D.nx b (up3 H3 a (.dcn w (tW k v kvs)))
theorem Du {w:World}(hw:X.w=w) (M:X.A.units+30<cLine) (ho:PE3 X o td) (S:PE3 X i ti) (Z:PE3 X value F) (Q:swapsWith value (some (.Subscript o i pos')) pos.line X.env=pure false:=by rfl):PS3 X (.Assign [.Subscript o i pos'] value pos) (yo w td ti F):=by
 subst hw;refine PS.imp (Ih M ho S Z Q) ?_;rintro D σ H ⟨d,H3,D3,m,W,h,P,_⟩;refine⟨d,H3,_,m,W,h,fun v H1 F n e B rv V=>⟨d,n,_,m.mono e,B,V,fun x H2 tx p j t Y T=>⟨d,p,_,m.mono (e.trans j),t,T,fun y I ty J g k N q4=>?_⟩⟩⟩;obtain⟨a,b,G,kvs,ks,L,O,E,h0,s,C,R,U⟩:=vI k (Y.mono g) N q4;have f:TupLe X.K I (upd I a (dnO X.w a (qj ks G b v))):=bH (by rw[E];exact trivial);have l:=e.trans (j.trans (g.trans f));refine⟨a,b,G,ks,⟨L,O,E,s.all,C⟩,by rw[<- Yx s];exact R,P _ _ _ _ l (m.mono l) (fun c u z=>?_) U⟩;by_cases r:c=a
 ·subst r;rw[au] at z;cases z;exact⟨_,bT,(s.put C (rv.mono (j.trans g))).mono f⟩
 rw[aD r] at z;exact (k c u z).stay f fun u' q=>by rw[aU r];exact q
end
end L3
namespace L2
section
variable {prog:Program}{w:World}
end
end L2
namespace L3
open L2
section
variable {X:Cx}
variable {o i:Expr}{pos:Pos}{td ti:TE3}
theorem Ik {w:World}(F:X.w=w) (r:X.A.units+30<cLine) (v:PE3 X i ti) (G:PE3 X o td) (u:behindInMarks .In o=false:=by rfl):PT3 X (.Compare i [.In] [o] pos) (jk (Dt w false ti td)):=by
 subst F;refine PT.imp (pY (PJ r v G) u) ?_;rintro L H Q ⟨d,H3,Q3,p,D,h,k⟩;refine⟨d,H3,_,p,D,h,fun y J I m f n t C=>⟨d,m,_,p.mono f,n,C,fun x M K s l j E z=>?_⟩⟩;obtain⟨a,b,B,ks,c,g,e,q⟩:=Ij (neg:=false) (w:=X.w) (Q3:=fun x H'=>match x with | .bl k=>Q3 k H' | _=>False) j E (t.mono l) z;exact⟨a,b,B,ks,g,c,by rw[e],k _ _ _ (f.trans l) j q⟩
end
end L3
namespace M
open L2 L3
local macro_rules | `(tactic| walk_at "c") => `(tactic| try dsimp only [sS,List.replicate,y_,Xy,Y8,YC,XC,Yj,ZQ])
local macro_rules | `(tactic| walk_at "n") => `(tactic| (obtain ⟨e⟩:=‹Shut (_ = _)›; subst e; try dsimp only))
def nm0 : String := "ne_eq not_false_eq_true aD wQ wV tC3 fB JT qp wN JN Np sH JP JG Sx JH Nu SM Bg Bf JR qu JM wO Wn Sy tD wW Ws BJ jq Nx Ny SN gQ q_I Wu BK Nz NB BL my SX S5 S6 S7 J2 J3 J4 S8 J5 J6 S9 Tc Td Te NP Tf Wv NQ Tg J7 NT Th Ti q_D Tn NZ Tp Tr N5 Tt N6 N7 G4 Tu G5 N8 Tv Oa Ob Oc Od Tw Tz TF TJ TQ J8 TV J9 TX TY G6 T3 T4 T5 T6 Oe T7 G7 BP pB Og G8 Oh au Nt Bp o4 xx decide_true decide_false Bool.not_true Bool.not_false at0 at1 at2 List.eraseIdx_cons_zero Int.toNat_natCast wM List.length_map List.length_cons List.length_nil Nat.zero_add Bool.false_eq_true if_false if_true List.getElem?_cons_zero List.getElem?_cons_succ List.set_cons_zero List.set_cons_succ Ub Uc List.map_cons List.map_nil Cj Oq Ot OJ Ug Uh Ou Ke Kf Kl Cq Cu Km DQ KR Kg KZ DR Hl Ko PP PQ PX P0 Wz Hn Ho Hq Hr O1 Uj Kq CJ T9 Ua Ce Qz Ha Hb BZ Hc Ca T8 Hd Kv Dg Pa Kw Kz Us Dh KD KH Di xK lr Ul WD Kr CT xM Uo CV CZ O7 Uq O8 De Ks Ku Ut Pz Uz PB yj Dt ym yo WM UL"
local macro_rules | `(tactic| walk_at "") => do
 let ls <- ((nm0.splitOn " ").toArray.map String.toName).filterM fun n => do return !(<- Lean.Macro.resolveGlobalName n).isEmpty
 let ls <- ls.mapM fun n => let i:=Lean.mkIdent n; `(Lean.Parser.Tactic.simpLemma| $i:ident)
 `(tactic| ((try dsimp only [$[$ls:simpLemma],*]); try simp only [*,$[$ls:simpLemma],*]))
structure isNm (x:Str):Prop where
 lo:1<=x.length
 hi:x.length<=8
 az:∀c∈x.cps.toList,97<=c/\c<=122
structure Nms (ws:List Str):Prop where
 nm:∀x∈ws,isNm x
 nd:ws.Nodup
theorem Nms.nil:Nms []:=⟨fun _ h=>(nomatch h),Y7⟩
theorem Nms.snoc {ws:List Str}{x:Str}(n:Nms ws) (h:isNm x) (a:x∉ws):Nms (ws++[x]) :=
 ⟨fun y b=>(A_.mp b).elim (n.nm y) fun z=>by rw[g_.mp z];exact h,kY n.nd a⟩
structure Wk where
 tasks:List (Str × Int × List Str)
 orders:List (Str × Str)
 pairs:List (Str × Str × Str)
 row:List Str
def sT (xs:List Str):T:=.tup (xs.map T.str)
def tkT (t:Str × Int × List Str):T:=.tup [.str t.1,.int t.2.1,sT t.2.2]
def orT (o:Str × Str):T:=.tup [.str o.1,.str o.2]
def prT (p:Str × Str × Str):T:=.tup [.str p.1,.str p.2.1,.str p.2.2]
def Wk.enc (W:Wk):T:=.tup [.tup (W.tasks.map tkT),.tup (W.orders.map orT),.tup (W.pairs.map prT),sT W.row]
structure tkOk (t:Str × Int × List Str):Prop where
 nm:isNm t.1
 lo:1<=t.2.1
 hi:t.2.1<10^60
 ks:Nms t.2.2
 kl:t.2.2.length<=4
structure WkOk (W:Wk):Prop where
 t1:1<=W.tasks.length
 t8:W.tasks.length<=8
 tk:∀t∈W.tasks,tkOk t
 nd:(W.tasks.map (·.1)).Nodup
 os:W.orders.length<=28
 od:W.orders.Nodup
 oo:∀o∈W.orders,o.1≠o.2/\o.1∈W.tasks.map (·.1)/\o.2∈W.tasks.map (·.1)
 ps:W.pairs.length<=12
 pd:W.pairs.Nodup
 pp:∀p∈W.pairs,(p.1="with"\/p.1="apart")/\p.2.1≠p.2.2/\p.2.1∈W.tasks.map (·.1)/\p.2.2∈W.tasks.map (·.1)
 r1:1<=W.row.length
 r8:W.row.length<=8
 rn:∀x∈W.row,isNm x
theorem fK {c:Type}{f:c->T}(g:∀{a b},f a=f b->a=b) {x:c}{xs:List c}:f x∈xs.map f↔x∈xs:=by
 rw[i_];exact⟨fun ⟨y,d,e⟩=>g e▸d,fun h=>⟨x,h,rfl⟩⟩
theorem gU {a b:Str}(h:T.str a=T.str b):a=b:=by injection h
theorem PN {c:Type}{f:c->T}(d:∀{a b},f a=f b->a=b) {x:c}{xs:List c}:dD true (f x) (xs.map f)=true↔x∉xs:=by
 unfold dD;simp [fK d]
theorem UT {c:Type}{f:c->T}(d:∀{a b},f a=f b->a=b) {x:c}{xs:List c}:dD false (f x) (xs.map f)=true↔x∈xs:=by
 unfold dD;simp [fK d]
theorem fL (xs:List Str):(xs.map T.str).all (pl 20)=true:=by rw[Xh];intro t a;obtain⟨x,_,rfl⟩:=i_.mp a;rfl
theorem PP (W:Wk) (H:Hp3) (Q:VK3):tu W.enc (.int 0) H Q=Q (.tup (W.tasks.map tkT)) H:=rfl
theorem PQ (W:Wk) (H:Hp3) (Q:VK3):tu W.enc (.int 1) H Q=Q (.tup (W.orders.map orT)) H:=rfl
theorem PX (W:Wk) (H:Hp3) (Q:VK3):tu W.enc (.int 2) H Q=Q (.tup (W.pairs.map prT)) H:=rfl
theorem P0 (W:Wk) (H:Hp3) (Q:VK3):tu W.enc (.int 3) H Q=Q (.tup (W.row.map T.str)) H:=rfl
def pick:List Str->Int->List Str
 |[],_=>[]
 |x::r,b=>if b%2=1 then x::pick r (b / 2) else pick r (b / 2)
def tot:List Str->Int->Int
 |[],_=>0
 |_::r,b=>(if b%2=1 then 1 else 0)+2*tot r (b / 2)
def numOf:List Str->List Str->Int
 |[],_=>0
 |x::r,ss=>(if x∈ss then 1 else 0)+2*numOf r ss
theorem gF:∀(ws:List Str) (b:Int),∀x∈pick ws b,x∈ws
 |[],_,x,h=>by cases h
 |y::r,b,x,h=>by
  unfold pick at h
  split at h
  ·
   rcases o_.mp h with rfl | h
   ·
    exact m_
   ·
    exact F_ _ (gF r _ x h)
  ·
   exact F_ _ (gF r _ x h)
theorem j9:∀(ws b a:List Str),(∀x∈ws,x∈b↔x∈a)->numOf ws b=numOf ws a
 |[],_,_,_=>rfl
 |y::r,b,a,h=>by
  have d:=h y m_
  have c:=j9 r b a fun x e=>h x (F_ _ e)
  simp only[numOf,c,d]
theorem mR:∀(ws:List Str) (b:Int),ws.Nodup->numOf ws (pick ws b)=tot ws b
 |[],_,_=>rfl
 |y::r,b,nd=>by
  rw[Xn] at nd
  have c:=mR r (b / 2) nd.2
  have f:y∉pick r (b / 2):=fun h=>nd.1 (gF r _ y h)
  by_cases a:b%2=1
  ·
   have e:numOf r (y::pick r (b / 2))=numOf r (pick r (b / 2)):=j9 r _ _ fun x d=>by
    have:x≠y:=fun e=>nd.1 (e▸d)
    simp [this]
   simp only[numOf,tot,pick,a,if_true,e,c,o_,true_or]
  ·
   simp only[numOf,tot,pick,a,Xd,f,c]
theorem Dv:∀(ws:List Str) (b:Int),0<=b->b<2^ws.length->tot ws b=b
 |[],b,h0,h1=>by simp at h1;simp only[tot];omega
 |y::r,b,h0,h1=>by
  have a:b / 2<2^r.length:=by
   rw[d_,X4] at h1
   omega
  have c:=Dv r (b / 2) (by omega) a
  simp only[tot,c]
  split <;> omega
theorem mU:∀(A:List Str) (y:Str) (a:List Str),numOf (A++[y]) a=numOf A a+2^A.length*(if y∈a then 1 else 0)
 |[],y,a=>by simp [numOf]
 |x::A,y,a=>by
  have b:=mU A y a
  simp only[Y8,numOf,d_,b,X4]
  generalize (2:Int)^A.length=w
  generalize (if y∈a then (1:Int) else 0)=z
  rw[Int.mul_add,<- Int.mul_assoc,Int.mul_comm 2 w]
  omega
theorem tY:∀(A B:List Str) (b:Int),pick (A++B) b=pick A b++pick B (b / 2^A.length)
 |[],B,b=>by simp [pick]
 |y::A,B,b=>by
  have a:=tY A B (b / 2)
  have e:b / 2 / 2^A.length=b / 2^(A.length+1):=by
   rw[X4,Int.mul_comm,Int.ediv_ediv_of_nonneg (by decide)]
  simp only[Y8,pick,d_,a,e]
  split <;> simp
theorem jE (m n:Nat):Builtin.bitAnd (m:Int) (n:Int)=((m &&& n:Nat):Int):=by
 unfold Builtin.bitAnd;rfl
theorem Qa (m n:Nat):Builtin.bitOr (m:Int) (n:Int)=((m ||| n:Nat):Int):=by
 have h:∀z:Nat,decide ((0:Int)<=Builtin.bitNot (z:Int))=false:=fun z=>p_ (by unfold Builtin.bitNot;omega);have g:∀z:Int,Builtin.bitNot (Builtin.bitNot z)=z:=fun z=>by unfold Builtin.bitNot;omega
 unfold Builtin.bitOr Builtin.bitAnd;rw[h,h];simp only[g,Zq]
def bV:List Str->List Str->Nat
 |[],_=>0
 |x::r,ss=>(if x∈ss then 1 else 0)+2*bV r ss
theorem cH:∀(ns a:List Str),numOf ns a=((bV ns a:Nat):Int)
 |[],_=>rfl
 |x::r,a=>by
  have:=cH r a
  simp only[numOf,bV,this]
  by_cases h:x∈a <;> simp [h]
theorem Il (b c a d:Nat) (j:b<2) (k:c<2):(b+2*a) &&& (c+2*d)=(if b=1/\c=1 then 1 else 0)+2*(a &&& d):=by
 have f:((b+2*a) &&& (c+2*d)) / 2=(b+2*a) / 2 &&& (c+2*d) / 2:=Nat.and_div_two;have i:(b+2*a) / 2=a:=by omega
 have g:(c+2*d) / 2=d:=by omega
 rw[i,g] at f;have e:((b+2*a) &&& (c+2*d))%2=1↔(b+2*a)%2=1/\(c+2*d)%2=1:=Nat.and_mod_two_eq_one;by_cases h:b=1/\c=1
 ·rw[if_pos h];have:=e.mpr ⟨by omega,by omega⟩;omega
 rw[if_neg h];have:¬((b+2*a) &&& (c+2*d))%2=1:=fun z=>h (by have:=e.mp z;omega);omega
theorem Qc (b c a d:Nat) (j:b<2) (k:c<2):(b+2*a) ||| (c+2*d)=(if b=1\/c=1 then 1 else 0)+2*(a ||| d):=by
 have f:((b+2*a) ||| (c+2*d)) / 2=(b+2*a) / 2 ||| (c+2*d) / 2:=Nat.or_div_two;have i:(b+2*a) / 2=a:=by omega
 have g:(c+2*d) / 2=d:=by omega
 rw[i,g] at f;have e:((b+2*a) ||| (c+2*d))%2=1↔(b+2*a)%2=1\/(c+2*d)%2=1:=Nat.or_mod_two_eq_one;by_cases h:b=1\/c=1
 ·rw[if_pos h];have:=e.mpr (by omega);omega
 rw[if_neg h];have:¬((b+2*a) ||| (c+2*d))%2=1:=fun z=>h (by have:=e.mp z;omega);omega
theorem lC (p:Prop) [Decidable p]:(if p then 1 else 0)<2:=by split <;> decide
theorem mV:∀(ns A B:List Str),bV ns A &&& bV ns B=bV ns (A.filter fun x=>decide (x∈B))
 |[],_,_=>by simp [bV]
 |x::r,A,B=>by
  simp only[bV]
  rw[Il _ _ _ _ (lC _) (lC _),mV r A B]
  by_cases b:x∈A <;> by_cases a:x∈B <;> simp [b,a]
theorem yp:∀(ns A B:List Str),bV ns A ||| bV ns B=bV ns (A++B)
 |[],_,_=>by simp [bV]
 |x::r,A,B=>by
  simp only[bV]
  rw[Qc _ _ _ _ (lC _) (lC _),yp r A B]
  by_cases b:x∈A <;> by_cases a:x∈B <;> simp [b,a]
theorem jF:∀(ns A B:List Str),bV ns A=bV ns B↔∀x∈ns,x∈A↔x∈B
 |[],_,_=>by simp [bV]
 |y::r,A,B=>by
  have c:=jF r A B
  simp only[bV,o_,forall_eq_or_imp]
  rw[<- c]
  by_cases b:y∈A <;> by_cases a:y∈B <;> simp only[b,a,if_true,Xd,iff_true,iff_false,true_iff,false_iff,true_and,not_true,not_false_eq_true,false_and] <;> omega
theorem iG:∀ns:List Str,bV ns []=0
 |[]=>rfl
 |x::r=>by simp only[bV,Xu,Xd,iG r]
theorem zM (ns A:List Str):bV ns A=0↔∀x∈ns,x∉A:=by
 have:=jF ns A [];rw[iG] at this;rw[this];simp
theorem fM (ns A B:List Str):(Builtin.bitAnd (numOf ns A) (numOf ns B)=numOf ns B)↔∀x∈ns,x∈B->x∈A:=by
 rw[cH,cH,jE,mV];constructor
 ·intro h x a b;have:=(jF ns _ _).mp (Int.ofNat.inj h) x a;exact (D_.mp (this.mpr b)).1
 intro h;refine O_ Int.ofNat ((jF ns _ _).mpr fun x a=>?_);rw[D_,v_];exact⟨fun z=>z.2,fun z=>⟨h x a z,z⟩⟩
theorem qR (ns A B:List Str):(Builtin.bitAnd (numOf ns A) (numOf ns B)=0)↔∀x∈ns,¬(x∈A/\x∈B):=by
 rw[cH,cH,jE,mV];have e:((bV ns (A.filter fun x=>decide (x∈B)):Nat):Int)=0↔bV ns (A.filter fun x=>decide (x∈B))=0:=by omega
 rw[e,zM];constructor
 ·intro h x a z;exact h x a (D_.mpr ⟨z.1,q_ z.2⟩)
 intro h x a z;have:=D_.mp z;exact h x a ⟨this.1,Xa this.2⟩
theorem Qd (ns A B:List Str):Builtin.bitOr (numOf ns A) (numOf ns B)=numOf ns (A++B):=by
 rw[cH,cH,cH,Qa,yp]
theorem Dw (ns A:List Str):0<=numOf ns A:=by rw[cH];exact Yh _
theorem tZ:∀(ns A:List Str),numOf ns A<2^ns.length
 |[],_=>by simp [numOf]
 |x::r,A=>by
  have:=tZ r A
  simp only[numOf,d_,X4]
  split <;> omega
theorem t6:∀(ns:List Str) (A:List Str),ns.Nodup->pick ns (numOf ns A)=ns.filter fun x=>decide (x∈A)
 |[],_,_=>rfl
 |x::r,A,nd=>by
  rw[Xn] at nd
  have c:=t6 r A nd.2
  have n0:=Dw r A
  by_cases h:x∈A
  ·
   have a:(1+2*numOf r A)%2=1:=by omega
   have b:(1+2*numOf r A) / 2=numOf r A:=by omega
   simp only[numOf,h,if_true,pick,a,b,c,Ym,Yu]
  ·
   have a:¬(0+2*numOf r A)%2=1:=by omega
   have b:(0+2*numOf r A) / 2=numOf r A:=by omega
   simp only[numOf,h,Xd,pick,a,b,c,Ym,Yb,K_]
theorem Dy {ns:List Str}{n:Int}(a:ns.Nodup) (c:0<=n) (b:n<2^ns.length):numOf ns (pick ns n)=n:=by rw[mR ns n a,Dv ns n c b]
universe u
variable {α:Type u}
inductive RT (R:α->α->Prop):α->α->Prop
 |refl {a:α}:RT R a a
 |step {a b c:α}:RT R a b->R b c->RT R a c
theorem RT.trans {R:α->α->Prop}{a b c:α}(h:RT R a b) (g:RT R b c):RT R a c:=by
 induction g with
 |refl=>exact h
 |step _ r d=>exact .step d r
theorem RT.flip {R:α->α->Prop}{a b:α}(h:RT R a b):RT (fun x y=>R y x) b a:=by
 induction h with
 |refl=>exact .refl
 |step _ r c=>exact (RT.step (R:=fun x y=>R y x) .refl r).trans c
theorem Im {R:α->α->Prop}{a b:α}:RT (fun x y=>R y x) a b↔RT R b a:=⟨fun h=>h.flip,fun h=>h.flip⟩
theorem UV {L:List (α × α)}{F:List α}{s x:α}(c:s∈F) (e:∀a b,(a,b)∈L->a∈F->b∈F) (h:RT (fun a b=>(a,b)∈L) s x):x∈F:=by
 induction h with
 |refl=>exact c
 |step _ r d=>exact e _ _ r d
theorem Dz [DecidableEq α]:∀{l m:List α},l.Nodup->(∀x∈l,x∈m)->l.length<=m.length:=by
 intro l;induction l with
 |nil=>intro m _ _;exact Yy _
 |cons a l j =>
 intro m c i;rw[Xn] at c;have f:=i a m_;have h:=j (m:=m.erase a) c.2 fun x g=>by have d:=i x (F_ _ g);have b:x≠a:=fun e=>c.1 (e▸g);exact (List.mem_erase_of_ne b).mpr d
 have e:=List.length_erase_of_mem f;have p:0<m.length:=List.length_pos_of_mem f;simp only[d_];omega
def mkS (l:List Nat):Str:=⟨l.toArray⟩
theorem eQ (l:List Nat):(mkS l).cps.toList=l:=rfl
theorem dY (l:List Nat):(mkS l).length=l.length:=by show (l.toArray).size=_;simp
theorem Qe (x:Str):∃l,x=mkS l:=⟨x.cps.toList,by cases x;rfl⟩
theorem yq {a b:List Nat}(h:mkS a=mkS b):a=b:=by have:=O_ (fun x=>x.cps.toList) h;exact this
theorem qT (a b:List Nat):mkS a++mkS b=mkS (a++b):=by
 show (⟨a.toArray++b.toArray⟩:Str)=⟨(a++b).toArray⟩;simp
theorem UW (l:List Nat) (k:Nat) (h:k<=l.length):Txt.slice (mkS l) none (some (k:Int))=mkS (l.take k):=by
 have e:=StrLaws.sliceText_to (x:=mkS l) (j:=(k:Int)) ⟨Yh k,by rw[eQ];omega⟩;rw[eQ,aac,Int.sub_zero,Zq] at e;exact e
theorem Io (l:List Nat) (k:Nat) (h:k<=l.length):Txt.slice (mkS l) (some (k:Int)) none=mkS (l.drop k):=by
 have e:=StrLaws.sliceText_from (x:=mkS l) (i:=(k:Int)) ⟨Yh k,by rw[eQ];omega⟩;rw[eQ,Zq,Xk (by rw[Xe];omega)] at e;exact e
def kJ:List Nat:=[97,98,99,100,101,102,103,104,105,106,107,108,109,110,111,112,113,114,115,116,117,118,119,120,121,122]
theorem DG:("abcdefghijklmnopqrstuvwxyz":Str)=mkS kJ:=by decide +kernel
theorem Ip:∀i:_root_.Fin 26,kJ[i.val]?=some (97+i.val):=by decide
theorem DK (i:Int) (a:0<=i) (c:i<26):atI kJ i=some (97+i.toNat):=by
 obtain⟨j,rfl⟩:=Int.eq_ofNat_of_zero_le a;have b:j<26:=by omega
 have:=Ip ⟨j,b⟩;exact bN (by simpa using this)
theorem Ir:∀i:_root_.Fin 26,Builtin.Str.occurrences (mkS kJ) (mkS [97+i.val]) 0 26 1=[i.val]:=by decide +kernel
theorem Qf (c:Nat) (b:97<=c) (a:c<=122):Builtin.Str.occurrences (mkS kJ) (mkS [c]) 0 (mkS kJ).length 1=[c - 97]:=by
 have:=Ir ⟨c - 97,by omega⟩;rw[show 97+(c - 97)=c by omega] at this;exact this
theorem KQ {l:List Nat}(a:1<=l.length) (b:l.length<=8) (h:∀c∈l,97<=c/\c<=122):isNm (mkS l):=⟨by rw[dY];exact a,by rw[dY];exact b,by rw[eQ];exact h⟩
def tkW (t:Str × Int × List Str):List Str:=([("task":Str),t.1,(toString t.2.1:String)]:List Str)++t.2.2
end M
namespace L3
open L2
structure Shut (p:Prop):Prop where
 out:p
theorem aB {t u:TS3}{D:Ends3}{a:St3}{H:Hp3}(h:∀R,Shut (R=u)->(wQ t R) D a H):(wQ t u) D a H:=h u ⟨rfl⟩
theorem zN {c:TT3}{d:TS3}{D:Ends3}{a:St3}{H:Hp3}(W:Nat->St3->Hp3->Prop) (f:∃m,W m a H) (e:∀m a H,W m a H->∀(WI:Nat->St3->Hp3->Prop) (TB:TS3) (NX:St3->Hp3->Prop),Shut (WI=W)->Shut (TB=d)->Shut (NX=D.nx) ->
  c a H fun b H1=>if b=true then TB { D with nx:=fun σ' H'=>∃m',m'<m/\WI m' σ' H',ct:=fun σ' H'=>∃m',m'<m/\WI m' σ' H',bk:=D.nx} a H1 else NX a H1):qt c d D a H :=
 ⟨W,f,fun m a H w=>e m a H w W d D.nx ⟨rfl⟩ ⟨rfl⟩ ⟨rfl⟩⟩
theorem cU {m:Type}(c f:m->T) (p:m->Bool) (g:List m) (rest:St3) {tt:TT3}{te:TE3}{still:Hp3->Prop}{k:List T->Hp3->Prop}{v:Option T}{H:Hp3}(i:still H) (u:g.length<=sizeLine)
  (y:∀a∈g,∀Q:Bool->Hp3->Prop,Q (p a) H->tt (some (c a)::rest) H Q)
  (w:∀a∈g,p a=true->∀Q:VK3,Q (f a) H->te (some (c a)::rest) H Q) (l:k ((g.filter p).map f) H):cIter3 (fB 0) tt te still k (g.map c) [] (v::rest) H:=by
 refine iD (fun r q o H'=>∃(d h:List m) (v:Option T),o=v::rest/\r=d.map c/\q=(h.filter p).map f/\h++d=g/\H'=H) ⟨g,[],v,rfl,rfl,rfl,rfl,rfl⟩ ?_ ?_
 ·rintro q o H' ⟨d,h,v,rfl,e,rfl,b,rfl⟩;have j:d=[]:=YG.mp e.symm;subst j;rw[J_] at b;subst b;exact⟨i,by rw[b_];exact W6 (Xi _ _) u,l⟩
 rintro x r q o H' N ⟨d,h,v,rfl,e,rfl,b,rfl⟩ s;cases d with
 |nil=>cases e
 |cons t d =>
 injection e with e1 e2;subst e1 e2;refine⟨i,?_⟩;show tt (some (c t)::rest) H' _;refine y t (by rw[<- b];simp) _ ?_;cases n:p t with
 |true=>rw[if_pos rfl];refine w t (by rw[<- b];simp) n _ ⟨?_,s _ _ _ ⟨d,h++[t],_,rfl,rfl,by simp [n],by rw[<- b];simp,rfl⟩⟩;have:=O_ List.length b;simp only[a_,d_] at this;rw[b_];have:=Xi p h;omega
 |false =>
 rw[if_neg t_];exact s _ _ _ ⟨d,h++[t],_,rfl,rfl,by simp [n],by rw[<- b];simp,rfl⟩
end L3
namespace M
open L2 L3
local macro_rules | `(tactic| walk_at "c") => `(tactic| try dsimp only [sS,List.replicate,y_,Xy,Y8,YC,XC,Yj,ZQ])
local macro_rules | `(tactic| walk_at "n") => `(tactic| (obtain ⟨e⟩:=‹Shut (_ = _)›; subst e; try dsimp only))
local macro_rules | `(tactic| walk_at "") => do
 let ls <- ((nm0.splitOn " ").toArray.map String.toName).filterM fun n => do return !(<- Lean.Macro.resolveGlobalName n).isEmpty
 let ls <- ls.mapM fun n => let i:=Lean.mkIdent n; `(Lean.Parser.Tactic.simpLemma| $i:ident)
 `(tactic| ((try dsimp only [$[$ls:simpLemma],*]); try simp only [*,$[$ls:simpLemma],*]))
inductive Rw where
 |tk (t:Str × Int × List Str) | od (o:Str × Str) | pr (p:Str × Str × Str)
def Rw.words:Rw->List Str
 |.tk t=>tkW t
 |.od o=>["order",o.1,o.2]
 |.pr p=>[p.1,p.2.1,p.2.2]
def prs:List Rw->List (Str × Str × Str)
 |[]=>[]
 |.pr p::r=>p::prs r
 |_::r=>prs r
inductive RowW:List Str->Prop
 |tk {t:Str × Int × List Str} (h:tkOk t):RowW (tkW t)
 |od {a b:Str} (h1:isNm a) (h2:isNm b):RowW ["order",a,b]
 |pr {z a b:Str} (h0:z="with"\/z="apart") (h1:isNm a) (h2:isNm b):RowW [z,a,b]
 |row {xs:List Str} (h1:1<=xs.length) (h8:xs.length<=8) (h:∀x∈xs,isNm x):RowW (([("row":Str)]:List Str)++xs)
def lkP (ws:List Str) (p:Str × Str × Str):List (Str × Str):=if p.1∈ws then [(p.2.1,p.2.2),(p.2.2,p.2.1)] else []
def lkW (ws:List Str) (W:Wk):List (Str × Str):=W.orders++W.pairs.flatMap (lkP ws)
def lkR (ws:List Str) (W:Wk) (a b:Str):Prop:=(a,b)∈lkW ws W
theorem Iu (ws:List Str) (p:Str × Str × Str):(lkP ws p).length<=2:=by unfold lkP;split <;> simp
theorem qU (ws:List Str):∀ps:List (Str × Str × Str),(ps.flatMap (lkP ws)).length<=2*ps.length
 |[]=>j_ _
 |p::r=>by
  have b:=Iu ws p
  have a:=qU ws r
  simp only[Zy,a_,d_]
  omega
theorem yr {ws:List Str}{W:Wk}(h:WkOk W):(lkW ws W).length<=52:=by
 have c:=qU ws W.pairs;have b:=h.os;have a:=h.ps;unfold lkW;rw[a_];omega
def dF (F:List Str):List (Str × T):=F.map fun z=>(z,T.bl true)
theorem lD (z:Str):∀F:List Str,(aO z (dF F)).isSome=decide (z∈F)
 |[]=>rfl
 |y::r=>by
  have a:=lD z r
  unfold dF at a ⊢
  simp only[y_,aO]
  by_cases h:y=z
  ·
   simp [h]
  ·
   rw[if_neg h,a]
   have h':¬z=y:=fun e=>h e.symm
   simp [h']
theorem Qg (z:Str) (F:List Str):((dF F).any fun a=>decide (a.1=z))=decide (z∈F):=by
 unfold dF;rw[List.any_map];induction F with
 |nil=>rfl
 |cons y r b =>
 simp only[ZW,Function.comp_apply,b];by_cases h:y=z
 ·simp [h]
 have h':¬z=y:=fun e=>h e.symm;simp [h,h']
theorem Qh {z:Str}{F:List Str}(h:z∉F):put3 z (T.bl true) (dF F)=dF (F++[z]):=by
 unfold put3;rw[Qg,p_ h,if_neg t_];unfold dF;rw[u_];rfl
theorem Qi (F:List Str):(dF F).length=F.length:=b_ _
theorem Qj (z:Str):[(z,T.bl true)]=dF [z]:=rfl
theorem DN {x:T}{ts:List T}{H:Hp3}{R:List T->(Hp3->Prop)->Hp3->Prop}(b:(∃a,x=.ref a/\H a=some (.lst ts))\/x=.tup ts)
  (h:∀still:Hp3->Prop,(still=cP\/∃a,still=cF a ts/\H a=some (.lst ts))->R ts still H):zB x H R:=by
 rcases b with ⟨a,rfl,e⟩ | rfl
 ·rw[Oj,e,pB];exact h _ (.inr ⟨a,rfl,e⟩)
 rw[Oi];exact h _ (.inl rfl)
def jt (W:Wk) (t:Str):List Str:=(W.tasks.map (·.1)).filter fun x=>@decide (RT (lkR ["with"] W) t x/\RT (lkR ["with"] W) x t) (Classical.propDecidable _)
def ju (W:Wk) (t:Str):List Str:=(W.tasks.map (·.1)).filter fun x=>@decide (RT (lkR ["with"] W) x t/\¬RT (lkR ["with"] W) t x) (Classical.propDecidable _)
def swp (o:Str × Str):Str × Str:=(o.2,o.1)
theorem Qk {L:List (Str × Str)}{a b:Str}:RT (fun x y=>(x,y)∈L.map swp) a b↔RT (fun x y=>(x,y)∈L) b a:=by
 have e:(fun x y=>(x,y)∈L.map swp)=fun x y:Str=>(y,x)∈L:=by funext x y;refine propext ⟨fun h=>?_,fun h=>i_.mpr ⟨(y,x),h,rfl⟩⟩;obtain⟨o,c,d⟩:=i_.mp h;obtain⟨g,f⟩:=o;cases d;exact c
 rw[e];exact Im
structure Hs (H:Hp3) (fs:List (Addr × O3)):Prop where
 at':∀q∈fs,H q.1=some q.2
 nd:(fs.map (·.1)).Nodup
def U0 (H:Hp3) (x:T) (b:List Str):Prop:=x=sT b\/∃a,x=.ref a/\H a=some (.lst (b.map T.str))
theorem Iv {neg:Bool}{y:Str}{x:T}{b:List Str}{H:Hp3}{Q:VK3}(h:U0 H x b) (q:Q (.bl (if neg then !decide (y∈b) else decide (y∈b))) H):vf neg (.str y) x H Q:=by
 have e:dD neg (T.str y) (b.map T.str)=(if neg then !decide (y∈b) else decide (y∈b)):=by unfold dD;have:(T.str y∈b.map T.str)↔y∈b:=fK gU;simp only[this]
 rcases h with rfl | ⟨a,rfl,c⟩
 ·show vf neg (.str y) (.tup (b.map T.str)) H Q;rw[J4,e];exact⟨rfl,fL b,q⟩
 rw[J5,c,J6,e];exact⟨rfl,fL b,q⟩
def jG (ks:List Str) (k:Str):Bool:=decide (ks=[])||decide (k∈ks)
def jH (W:Wk) (t:Str):List Str:=(W.pairs.filter fun p=>decide (p.1=("apart":Str))&&decide (p.2.1=t)).map (·.2.2)
def okT (W:Wk) (a:Str) (D S:List Str) (t:Str × Int × List Str):Bool :=
 !decide (t.1∈D)&&jG t.2.2 a&&@decide (∀x∈jt W t.1,x∈S) (Classical.propDecidable _)&&@decide (∀x∈ju W t.1,x∈S++D) (Classical.propDecidable _)&&@decide (∀x∈jH W t.1,x∉S) (Classical.propDecidable _)
def cJ (ts:List (Str × Int × List Str)) (S:List Str):Int:=((ts.filter fun t=>decide (t.1∈S)).map (·.2.1)).sum
def vJ (W:Wk) (beat:Int) (a:Str) (D S:List Str):Bool:=(W.tasks.all fun t=>!decide (t.1∈S)||okT W a D S t)&&decide (cJ W.tasks S<=beat)
def ruT (W:Wk) (ns:List Str) (t:Str × Int × List Str):T:=.tup [.int (numOf ns [t.1]),.int t.2.1,sT t.2.2,.int (numOf ns (jt W t.1)),.int (numOf ns (ju W t.1)),.int (numOf ns (jH W t.1))]
theorem vK (A:List (Str × Int × List Str)) (t:Str × Int × List Str) (S:List Str):cJ (A++[t]) S=cJ A S+if t.1∈S then t.2.1 else 0:=by
 unfold cJ;rw[Yi,u_,Zf];by_cases h:t.1∈S <;> simp [h]
theorem qW {ns A:List Str}{x:Str}(a:x∈ns):(Builtin.bitAnd (numOf ns A) (numOf ns [x])=numOf ns [x])↔x∈A:=by
 rw[fM];constructor
 ·intro h;exact h x a (by simp)
 intro h y _ b;rw[g_.mp b];exact h
end M
namespace L3
open L2
section
variable {X:Cx}
def ppH (o:Option O3) (a:Addr) (H:Hp3) (Q:VK3):Prop:=match o with
 |some (.lst xs)=>oq (xs[xs.length - 1]?) fun t=>Q t (up3 H a (.lst xs.dropLast))
 |_=>False
def DP:T->List T->Hp3->VK3->Prop:=fun x ts H Q=>match x,ts with
 |.ref a,[]=>ppH (H a) a H Q
 |_,_=>False
theorem DQ (a:Addr) (H:Hp3) (Q:VK3):DP (.ref a) [] H Q=ppH (H a) a H Q:=rfl
theorem KR (xs:List T) (a:Addr) (H:Hp3) (Q:VK3):ppH (some (.lst xs)) a H Q=oq (xs[xs.length - 1]?) fun t=>Q t (up3 H a (.lst xs.dropLast)):=rfl
theorem Reps.dropLast {K:Frag}{H:Hp}{ts:List T}{vs:List V}(r:Reps K H ts vs):Reps K H ts.dropLast vs.dropLast:=by
 rw[List.dropLast_eq_take,List.dropLast_eq_take,r.length];exact r.take _
theorem Ql:sE X "list.pop" DP:=by
 refine MtR.imp M6 ?_;rintro x xs H Q ⟨g,ts,H3,Q3,i,l,f,h,k⟩;cases g with
 |ref a =>
  cases ts with
  |cons _ _=>exact h.elim
  |nil =>
  rw[DQ] at h;cases e:H3 a with
  |none=>rw[e] at h;exact h.elim
  |some o =>
  rw[e] at h;cases o with
  |lst d =>
   rw[KR] at h;obtain⟨n,b,r⟩:=f a _ e;cases c:d[d.length - 1]? with
   |none=>rw[c] at h;exact h.elim
   |some t =>
   rw[c,gQ] at h;obtain⟨v,j,m⟩:=r.get c;refine⟨a,n,v,i.ref,l.inv0,b,by rw[<- r.length];exact j,k _ _ _ _ (bH (by rw[b];exact trivial)) (f.wrL b r.dropLast) (m.mono (bH (by rw[b];exact trivial))) h⟩
  |_=>exact h.elim
 |_=>exact h.elim
def eqR (a b:Addr) (o u:Option O3) (H:Hp3) (Q:VK3):Prop:=match o,u with
 |some (.rol xs),some (.lst ys)=>a≠b/\xs.all (pl 20)=true/\ys.all (pl 20)=true/\Q (.bl (decide (xs=ys))) H
 |_,_=>False
def KY:R3:=fun x y H Q=>match x,y with
 |.ref a,.ref b=>eqR a b (H a) (H b) H Q
 |_,_=>False
theorem KZ (a b:Addr) (H:Hp3) (Q:VK3):KY (.ref a) (.ref b) H Q=eqR a b (H a) (H b) H Q:=rfl
theorem DR (a b:Addr) (xs c:List T) (H:Hp3) (Q:VK3):eqR a b (some (.rol xs)) (some (.lst c)) H Q=(a≠b/\xs.all (pl 20)=true/\c.all (pl 20)=true/\Q (.bl (decide (xs=c))) H):=rfl
theorem Qm (C:X.A.units+30<cLine):dB X (compareOp .Eq) KY:=by
 intro n s P H x y v u Q I M N h;obtain⟨J,E,H3,Q3,L,D,i,h,k⟩:=h;cases J with
 |ref a =>
  cases E with
  |ref b =>
   rw[KZ] at h;cases g:H3 a with
   |none=>rw[g] at h;exact h.elim
   |some o =>
   cases l:H3 b with
   |none=>rw[g,l] at h;cases o <;> exact h.elim
   |some p =>
   rw[g,l] at h;cases o with
   |rol ts =>
    cases p with
    |lst us =>
     rw[DR] at h;obtain⟨xs,K,r⟩:=i.sqL (.inr g);obtain⟨O,B,t⟩:=i b _ l;cases L.ref;cases D.ref;cases M;cases N;obtain⟨m,d,w,_⟩:=I.list (X:=X) K;obtain⟨its',c,f,_⟩:=I.list (X:=X) (.of B);have G:m.length=ts.length:=by rw[<- d.length,<- r.length]
     have F:its'.length=us.length:=by rw[<- c.length,<- t.length]
     by_cases hsz:ts.length=us.length
     ·refine SeqAt.eq_listAt (e:=fun j=>decide (ts[j]?=us[j]?)) w.isList f.isList (by simp;omega) (by omega) (gB I C h.2.1 h.2.2.1 r t d c) ⟨.bl _,H,I,rfl,?_⟩;have e:=gC (ts:=ts) (us:=us);rw[<- hsz,Nat.min_self,ZP,Zj] at e;rw[n_,G,e];exact k _ _ _ _ .refl i .ofBl h.2.2.2
     refine SeqAt.eq_list_lengthsAt w.isList f.isList (by simp;omega) (by omega) ⟨.bl false,H,I,rfl,?_⟩;have e:decide (ts=us)=false:=p_ fun z=>hsz (by rw[z]);have q:=h.2.2.2;rw[e] at q;exact k _ _ _ _ .refl i .ofBl q
    |_=>exact h.elim
   |_=>cases p <;> exact h.elim
  |_=>exact h.elim
 |_=>exact h.elim
end
end L3
namespace M
open L2 L3
local macro_rules | `(tactic| walk_at "c") => `(tactic| try dsimp only [sS,List.replicate,y_,Xy,Y8,YC,XC,Yj,ZQ])
local macro_rules | `(tactic| walk_at "n") => `(tactic| (obtain ⟨e⟩:=‹Shut (_ = _)›; subst e; try dsimp only))
local macro_rules | `(tactic| walk_at "") => do
 let ls <- ((nm0.splitOn " ").toArray.map String.toName).filterM fun n => do return !(<- Lean.Macro.resolveGlobalName n).isEmpty
 let ls <- ls.mapM fun n => let i:=Lean.mkIdent n; `(Lean.Parser.Tactic.simpLemma| $i:ident)
 `(tactic| ((try dsimp only [$[$ls:simpLemma],*]); try simp only [*,$[$ls:simpLemma],*]))
structure Box (p:Prop):Prop where
 out:p
structure Cl (H:Hp3) (a:Addr):Prop where
 ex:∃ns:List Int,H a=some (.lst (ns.map T.int))/\ns.length<=504
structure Drw (a:Addr) (H H':Hp3):Prop where
 cl:Cl H' a
 off:∀b,b≠a->H' b=H b
theorem Cl.refl {a:Addr}{H:Hp3}(D:Cl H a):Drw a H H:=⟨D,fun _ _=>rfl⟩
theorem Cl.ne {a p:Addr}{H:Hp3}(D:Cl H a) (b:H p=none):p≠a:=fun e=>by obtain⟨ns,h,_⟩:=D.ex;rw[<- e,b] at h;cases h
theorem Cl.new {a p:Addr}{H:Hp3}{u:O3}(D:Cl H a) (h:p≠a):Cl (up3 H p u) a:=by
 obtain⟨ns,e,r⟩:=D.ex;exact⟨ns,by rw[aD (Ne.symm h)];exact e,r⟩
def Kep (a:Addr) (H H':Hp3):Prop:=∀b o,H b=some o->b≠a->H' b=some o
theorem Kep.refl {a:Addr}{H:Hp3}:Kep a H H:=fun _ _ h _=>h
theorem Kep.drw {a:Addr}{H c e:Hp3}(x:Kep a H c) (y:Drw a c e):Kep a H e:=fun b o h d=>by rw[y.off b d];exact x b o h d
theorem Kep.new {a p:Addr}{H c:Hp3}{u:O3}(x:Kep a H c) (d:c p=none):Kep a H (up3 c p u):=fun b o h e=>by
 have:=x b o h e;rw[aD (aZ this d)];exact this
theorem Kep.at {a p:Addr}{H c:Hp3}{u:O3}(x:Kep a H c) (d:H p=none):Kep a H (up3 c p u):=fun b o h e=>by
 rw[aD (aZ h d)];exact x b o h e
theorem Kep.sub {a:Addr}{H c d:Hp3}(x:Kep a H c) (s:Sub3 c d):Kep a H d:=fun b o h e=>s b o (x b o h e)
theorem iW {a:Addr}{H H':Hp3}{Q:VK3}{v:T}(D:Cl H' a) (k:Kep a H H') (q:∀H'',Drw a H H''->Q v H''):Fin3 Q v H':=by
 refine⟨fun b=>if b=a then H' b else H b,fun b o c=>?_,q _ ⟨?_,fun b d=>?_⟩⟩
 ·by_cases h:b=a
  ·simp only[h,if_true] at c ⊢;exact c
  simp only[h,Xd] at c;exact k b o c h
 ·obtain⟨ns,e,r⟩:=D.ex;exact⟨ns,by simp only[if_true];exact e,r⟩
 simp only[d,Xd]
structure Wt (c:Addr) (H0 H:Hp3) (fs:List (Addr × O3)):Prop where
 cl:Cl H c
 kp:Kep c H0 H
 at':∀p∈fs,H p.1=some p.2/\p.1≠c
theorem Wt.drw {c:Addr}{b H H':Hp3}{e:List (Addr × O3)}(w:Wt c b H e) (d:Drw c H H'):Wt c b H' e:=⟨d.cl,w.kp.drw d,fun p a=>⟨by rw[d.off _ (w.at' p a).2];exact (w.at' p a).1,(w.at' p a).2⟩⟩
theorem Wt.new {c p:Addr}{d H:Hp3}{e:List (Addr × O3)}{o:O3}(w:Wt c d H e) (b:H p=none):Wt c d (up3 H p o) ((p,o)::e):=⟨w.cl.new (w.cl.ne b),w.kp.new b,fun q a=>by
 rcases o_.mp a with rfl | a
 ·exact⟨au,w.cl.ne b⟩
 exact⟨by rw[aD (aZ (w.at' q a).1 b)];exact (w.at' q a).1,(w.at' q a).2⟩⟩
theorem Wt.hd {c p:Addr}{a H:Hp3}{o:O3}{b:List (Addr × O3)}(w:Wt c a H ((p,o)::b)):H p=some o:=(w.at' (p,o) m_).1
theorem Wt.tl {c:Addr}{q:Addr × O3}{a H:Hp3}{b:List (Addr × O3)}(w:Wt c a H (q::b)):Wt c a H b:=⟨w.cl,w.kp,fun p d=>w.at' p (F_ _ d)⟩
theorem Wt.set {c p:Addr}{e H:Hp3}{o:O3}{b:List (Addr × O3)}(w:Wt c e H ((p,o)::b)) (d:e p=none) (h:∀q∈b,q.1≠p) (f:O3):Wt c e (up3 H p f) ((p,f)::b) :=
 have g:=(w.at' (p,o) m_).2
 ⟨w.cl.new g,w.kp.at d,fun q a=>by
  rcases o_.mp a with rfl | a
  ·
   exact⟨au,g⟩
  ·
   exact⟨by rw[aD (h q a)];exact (w.at' q (F_ _ a)).1,(w.at' q (F_ _ a)).2⟩⟩
theorem Wt.fresh {c p:Addr}{b H:Hp3}{d:List (Addr × O3)}(w:Wt c b H d) (a:H p=none):b p=none:=by
 cases e:b p with
 |none=>rfl
 |some o=>rw[w.kp p o e (w.cl.ne a)] at a;cases a
def K1:Sp3:=fun ts H Q=>∃(a:Addr) (ns:List Int),ts=[.ref a]/\H a=some (.rol (ns.map T.int))/\ns.length<=63/\∀(p:Addr) (H':Hp3),Sub3 H H'->H p=none->Cl H' p->Q (.ref p) H'
def mW:Sp3:=fun ts H Q=>∃(d:Addr) (m:Int),ts=[.ref d,.int m]/\0<m/\Cl H d/\∀(n:Int) (H':Hp3),0<=n->n<m->Drw d H H'->Q (.int n) H'
def Qn:Sp3:=fun ts H Q=>∃(d:Addr) (m:Int),ts=[.ref d,.int m]/\0<m/\Cl H d/\∀(n:Int) (H':Hp3),0<=n->n<m->Drw d H H'->Q (.int n) H'
theorem gG {d p:Addr}{H H':Hp3}{Q:VK3}{o:O3}(D:Cl H' d) (k:Kep d H H') (c:H' p=some o) (g:H p=none) (i:p≠d) (q:∀H1,Drw d H H1->H1 p=none->Q (.ref p) (up3 H1 p o)):Fin3 Q (.ref p) H':=by
 refine⟨up3 (fun b=>if b=d then H' b else H b) p o,fun b u a=>?_,q _ ⟨?_,fun b f=>?_⟩ ?_⟩
 ·by_cases e:b=p
  ·subst e;rw[au] at a;rw[c];exact a
  rw[aD e] at a;by_cases h:b=d
  ·simp only[h,if_true] at a ⊢;exact a
  simp only[h,Xd] at a;exact k b u a h
 ·obtain⟨ns,e,r⟩:=D.ex;exact⟨ns,by simp only[if_true];exact e,r⟩
 ·simp only[f,Xd]
 simp only[i,Xd];exact g
theorem Wt.swap {c p q:Addr}{b H:Hp3}{o u:O3}(w:Wt c b H [(p,o),(q,u)]):Wt c b H [(q,u),(p,o)]:=⟨w.cl,w.kp,fun x a=>w.at' x (by
 rcases o_.mp a with rfl | a
 ·
  simp
 ·
  rw[g_.mp a];simp)⟩
def Iw:Sp3:=fun ts H Q=>∃(d a:Addr) (xs:List T),ts=[.ref d,.ref a]/\a≠d/\H a=some (.lst xs)/\xs.all (pl 20)=true/\xs.length<=60/\Cl H d/\∀(c:List T) (b:Hp3) (p:Addr),c.Perm xs->Drw d H b->b p=none->Q (.ref p) (up3 b p (.lst c))
theorem Iz {a:Type}{xs:List a}{j:Nat}(h:j<xs.length):(xs[j]::xs.eraseIdx j).Perm xs:=by
 have e:xs=xs.take j++xs[j]::xs.drop (j+1):=by rw[<- Yd h];exact (W_ j xs).symm
 rw[List.eraseIdx_eq_take_drop_succ];exact List.perm_middle.symm.trans (by rw[<- e])
theorem Qo {xs:List T}(h:xs.all (pl 20)=true) (j:Nat):(xs.eraseIdx j).all (pl 20)=true:=by
 rw[Xh] at h ⊢;exact fun t a=>h t (List.mem_of_mem_eraseIdx a)
theorem fP (n:Nat):dC 0 n=(List.range n).map fun (i:Nat)=>T.int (i:Int):=by
 unfold dC;exact Xq fun i _=>by rw[Int.zero_add]
theorem d9 {H H':Hp3}{p:Addr}(s:Sub3 H H') (a:H' p=none):H p=none:=by
 cases e:H p with
 |none=>rfl
 |some o=>rw[s _ _ e] at a;cases a
theorem DW (ns:List Int) (b:ns.length<=63):∃a:List Int,1<=a.length/\a.length<=63/\fH (ns.map T.int) none (some 63)++(List.replicate (if decide (ns.map T.int=[])=true then (1:Int) else 0).toNat [T.int 0]).flatten=a.map T.int:=by
 have e:fH (ns.map T.int) none (some 63)=ns.map T.int:=by rw[show (63:Int)=((63:Nat):Int) from rfl,BR,Xk (by rw[b_];exact b)]
 rw[e];cases ns with
 |nil=>exact⟨[0],by decide,by decide,rfl⟩
 |cons n r=>exact⟨n::r,by simp,b,by simp⟩
theorem IK (ns:List Int):(ns.map T.int).all (pl 20)=true:=by rw[Xh];intro t a;obtain⟨x,_,rfl⟩:=i_.mp a;rfl
structure Nb (H0 H:Hp3) (pc pf:Addr) (cs fs:List Int):Prop where
 sb:Sub3 H0 H
 c:H pc=some (.lst (cs.map T.int))
 f:H pf=some (.lst (fs.map T.int))
 f0:H0 pf=none
 ne:pc≠pf
theorem Nb.new {e H:Hp3}{h d p:Addr}{g b:List Int}{o:O3}(x:Nb e H h d g b) (a:H p=none):Nb e (up3 H p o) h d g b :=
 ⟨x.sb.trans (Sub3.new a),by rw[aD (aZ x.c a)];exact x.c,by rw[aD (aZ x.f a)];exact x.f,x.f0,x.ne⟩
theorem Nb.put {f H:Hp3}{h d:Addr}{g b:List Int}(x:Nb f H h d g b) (z:Int):Nb f (up3 H d (.lst (b.map T.int++[T.int z]))) h d g (b++[z]) :=
 ⟨fun a u e=>by rw[aD (aZ e x.f0)];exact x.sb a u e,by rw[aD x.ne];exact x.c,by rw[au,u_];rfl,x.f0,x.ne⟩
theorem DX (ns:List Int) (n:Int):((ns++[n]).map T.int)[((ns++[n]).map T.int).length - 1]?=some (T.int n):=by simp
theorem zO (ns:List Int) (n:Int):((ns++[n]).map T.int).dropLast=ns.map T.int:=by simp
def U3:Sp3:=fun ts H Q=>∃(d:Addr) (m:Nat),ts=[.ref d,.int (m:Int)]/\m<=8/\Cl H d/\∀(b:List Int) (a:Hp3) (p:Addr),b.length=m->(∀l∈b,1<=l/\l<10^60)->Drw d H a->a p=none->Q (.ref p) (up3 a p (.lst (b.map T.int)))
theorem t60:(10:Int)^Int.toNat 60=1000000000000000000000000000000000000000000000000000000000000:=by decide
theorem t58:(10:Int)^Int.toNat 58=10000000000000000000000000000000000000000000000000000000000:=by decide
theorem U4:(10:Int)^60=1000000000000000000000000000000000000000000000000000000000000:=by decide
theorem pig:∀(ws:List Str) (f:Nat->Str),(∀i j,i<=ws.length->j<=ws.length->f i=f j->i=j)->(∀i,i<=ws.length->f i∈ws)->False
 |[],f,_,h=>by have:=h 0 (j_ _);simp at this
 |w::ws,f,inj,h=>by
  rw[d_] at inj h
  by_cases q:∃j,j<=ws.length+1/\f j=w
  ·
   obtain⟨j,g,e⟩:=q
   refine pig ws (fun i=>if i<j then f i else f (i+1)) (fun a b k m c=>?_) (fun i l=>?_)
   ·
    try dsimp only at c
    split at c <;> split at c
    ·
     exact inj a b (by omega) (by omega) c
    ·
     have:=inj a (b+1) (by omega) (by omega) c;omega
    ·
     have:=inj (a+1) b (by omega) (by omega) c;omega
    ·
     have:=inj (a+1) (b+1) (by omega) (by omega) c;omega
   ·
    show (if i<j then f i else f (i+1))∈ws
    split
    ·
     exact (o_.mp (h i (by omega))).resolve_left fun d=>by have:=inj i j (by omega) g (d.trans e.symm);omega
    ·
     exact (o_.mp (h (i+1) (by omega))).resolve_left fun d=>by have:=inj (i+1) j (by omega) g (d.trans e.symm);omega
  ·
   exact pig ws f (fun a b k m=>inj a b (by omega) (by omega)) fun i l=>(o_.mp (h i (by omega))).resolve_left fun e=>q ⟨i,by omega,e⟩
def dg:Nat->Int->List Nat
 |0,_=>[]
 |n+1,l=>(97+(l%26).toNat)::dg n (l / 26)
theorem vL:∀(n:Nat) (l:Int),(dg n l).length=n
 |0,_=>rfl
 |n+1,l=>by rw[dg,d_,vL n]
theorem K3:∀(n:Nat) (l:Int),∀c∈dg n l,97<=c/\c<=122
 |0,_,_,h=>nomatch h
 |n+1,l,c,h=>by
  rw[dg] at h
  have:=XN l (show (0:Int)<26 by decide)
  rcases o_.mp h with rfl | h
  ·
   omega
  ·
   exact K3 n _ c h
theorem Qp {n:Nat}{a:Int}{i j:Nat}(b:i<=25) (f:j<=25) (h:mkS (dg (n+1) (a+i))=mkS (dg (n+1) (a+j))):i=j:=by
 have e:=yq h;rw[dg,dg,YQ] at e;have g:=e.1;have d:=XQ (a+i) (show (26:Int)≠0 by decide);have c:=XQ (a+j) (show (26:Int)≠0 by decide);omega
def U5:Sp3:=fun ts H Q=>∃(c:Nat) (b:Int) (a:Addr) (ws:List Str),ts=[.int (c:Int),.int b,.ref a]/\1<=c/\c<=8/\H a=some (.lst (ws.map T.str))/\ws.length<=8/\∀x,isNm x->x∉ws->Q (.str x) H
def nmK (l:List Nat) (a s i:Nat):Str:=mkS (l.take a++[97+(((s:Int)+(i:Int))%26).toNat]++l.drop (a+1))
theorem Qq {l:List Nat}{a s i:Nat}(f:l.length<=8) (g:a<l.length) (e:∀c∈l,97<=c/\c<=122):isNm (nmK l a s i):=by
 have d:(l.take a++[97+(((s:Int)+(i:Int))%26).toNat]++l.drop (a+1)).length=l.length:=by rw[a_,a_,Xc,Xe,z_];omega
 refine KQ (by rw[d];omega) (by rw[d];exact f) fun c b=>?_;rcases A_.mp b with b | b
 ·rcases A_.mp b with b | b
  ·exact e c (YX b)
  rw[g_.mp b];have:=XN ((s:Int)+(i:Int)) (show (0:Int)<26 by decide);omega
 exact e c (List.mem_of_mem_drop b)
theorem IV {l:List Nat}{a s i j:Nat}(b:i<26) (f:j<26) (h:nmK l a s i=nmK l a s j):i=j:=by
 have e:=yq h;rw[x_,x_,List.append_cancel_left_eq,Zn,Zn,YQ] at e;have g:=e.1;have d:=XQ ((s:Int)+(i:Int)) (show (26:Int)≠0 by decide);have c:=XQ ((s:Int)+(j:Int)) (show (26:Int)≠0 by decide);omega
theorem IW {l:List Nat}{a s m:Nat}(j:l.length<=8) (h:a<l.length) (g:∀c∈l,97<=c/\c<=122) (o:m<=8):Nms ((List.range m).map (nmK l a s)):=by
 refine⟨fun x d=>?_,?_⟩
 ·obtain⟨i,_,rfl⟩:=i_.mp d;exact Qq j h g
 rw[List.Nodup,List.pairwise_map];refine YZ (fun {x y} d f b e=>?_) (List.nodup_range (n:=m));have p:=I_.mp d;have k:=I_.mp f;exact b (IV (by omega) (by omega) e)
def U6:Sp3:=fun ts H Q=>∃(d:Addr) (m:Nat),ts=[.ref d,.int (m:Int)]/\1<=m/\m<=8/\Cl H d/\∀(ws:List Str) (a:Hp3) (p:Addr),ws.length=m->Nms ws->Drw d H a->a p=none->Q (.ref p) (up3 a p (.lst (ws.map T.str)))
structure Tb (H0 H:Hp3) (p:Addr) (m:Nat) (as:List Addr):Prop where
 sb:Sub3 H0 H
 l:as.length=m
 t:H p=some (.lst (as.map T.ref))
 r:∀a∈as,∃bs:List Bool,bs.length=m/\H a=some (.lst (bs.map T.bl))
 np:p∉as
 f0:H0 p=none
 fa:∀a∈as,H0 a=none
structure Rws (H0 H:Hp3) (m:Nat) (as:List Addr):Prop where
 sb:Sub3 H0 H
 r:∀a∈as,∃bs:List Bool,bs.length=m/\H a=some (.lst (bs.map T.bl))
 fa:∀a∈as,H0 a=none
theorem Rws.grow {g H:Hp3}{m:Nat}{e:List Addr}{q:Addr}{c:List Bool}(x:Rws g H m e) (k:c.length=m) (d:H q=none):Rws g (up3 H q (.lst (c.map T.bl))) m (e++[q]):=by
 refine⟨x.sb.trans (Sub3.new d),fun a b=>?_,fun a b=>?_⟩
 ·rcases A_.mp b with h | h
  ·obtain⟨i,j,f⟩:=x.r a h;exact⟨i,j,by rw[aD (aZ f d)];exact f⟩
  rw[g_.mp h];exact⟨c,k,au⟩
 rcases A_.mp b with h | h
 ·exact x.fa a h
 rw[g_.mp h];exact d9 x.sb d
theorem Tb.put {i H:Hp3}{p a:Addr}{m:Nat}{c:List Addr}{d:List Bool}(x:Tb i H p m c) (h:a∈c) (o:d.length=m):Tb i (up3 H a (.lst (d.map T.bl))) p m c:=by
 have g:p≠a:=fun e=>x.np (e▸h);refine⟨fun b u e=>by rw[aD (aZ e (x.fa a h))];exact x.sb b u e,x.l,by rw[aD g];exact x.t,fun b f=>?_,x.np,x.f0,x.fa⟩;by_cases e:b=a
 ·subst e;exact⟨d,o,au⟩
 obtain⟨k,n,j⟩:=x.r b f;exact⟨k,n,by rw[aD e];exact j⟩
theorem Tb.at' {g H:Hp3}{p:Addr}{m:Nat}{b:List Addr}(x:Tb g H p m b) {i:Nat}(f:i<m):∃(a:Addr) (c:List Bool),atI (b.map T.ref) (i:Int)=some (.ref a)/\a∈b/\c.length=m/\H a=some (.lst (c.map T.bl)):=by
 have d:i<b.length:=by rw[x.l];exact f
 obtain⟨c,h,e⟩:=x.r _ (Xx d);exact⟨b[i],c,bN (by rw[H_,e_ d];rfl),Xx d,h,e⟩
theorem mZ {a:List Bool}{j:Nat}(h:j<a.length):∃b,atI (a.map T.bl) (j:Int)=some (.bl b):=⟨a[j],bN (by rw[H_,e_ h];rfl)⟩
def U7:Sp3:=fun ts H Q=>∃(m:Nat) (a:Addr) (b:List T),ts=[.int (m:Int),.ref a]/\m<=8/\H a=some (.lst b)/\b.all (pl 20)=true/\∀(p:Addr) (c:List Addr) (H':Hp3),Tb H H' p m c->Q (.ref p) H'
def bw (b:Bool):Str:=if b then "with" else "apart"
def pT3 (x:Bool × Nat × Nat):T:=.tup [.str (bw x.1),.int (x.2.1:Int),.int (x.2.2:Int)]
def row2 (b:Bool) (m i:Nat):List (Bool × Nat × Nat):=(List.range m).map fun j=>(b,i,j)
def enm (b:Bool) (m:Nat) (A:List Nat):List (Bool × Nat × Nat):=A.flatMap (row2 b m)
def full (m:Nat):List (Bool × Nat × Nat):=enm true m (List.range m)++enm false m (List.range m)
theorem Ja:∀m:_root_.Fin 9,(full m.val).Nodup:=by decide +kernel
theorem t7 (b:Bool) (m:Nat) (A:List Nat) (i:Nat):enm b m (A++[i])=enm b m A++row2 b m i:=by simp [enm]
structure Tq (d:Addr) (H0 H:Hp3) (p:Addr) (m:Nat) (as:List Addr):Prop where
 l:as.length=m
 t:H p=some (.lst (as.map T.ref))
 r:∀a∈as,∃bs:List Bool,bs.length=m/\H a=some (.lst (bs.map T.bl))
 f0:H0 p=none
 fa:∀a∈as,H0 a=none
 nd:p≠d
 na:∀a∈as,a≠d
theorem Tq.drw {d:Addr}{e H H':Hp3}{p:Addr}{m:Nat}{b:List Addr}(x:Tq d e H p m b) (D:Drw d H H'):Tq d e H' p m b :=
 ⟨x.l,by rw[D.off _ x.nd];exact x.t,fun a c=>by obtain⟨g,h,f⟩:=x.r a c;exact⟨g,h,by rw[D.off _ (x.na a c)];exact f⟩,x.f0,x.fa,x.nd,x.na⟩
theorem Tq.new {d q:Addr}{f H:Hp3}{p:Addr}{m:Nat}{b:List Addr}{o:O3}(x:Tq d f H p m b) (e:H q=none):Tq d f (up3 H q o) p m b :=
 ⟨x.l,by rw[aD (aZ x.t e)];exact x.t,fun a g=>by obtain⟨h,i,c⟩:=x.r a g;exact⟨h,i,by rw[aD (aZ c e)];exact c⟩,x.f0,x.fa,x.nd,x.na⟩
theorem Tq.at' {d:Addr}{h H:Hp3}{p:Addr}{m:Nat}{b:List Addr}(x:Tq d h H p m b) {i:Nat}(g:i<m):∃(a:Addr) (c:List Bool),atI (b.map T.ref) (i:Int)=some (.ref a)/\a∈b/\c.length=m/\H a=some (.lst (c.map T.bl)):=by
 have e:i<b.length:=by rw[x.l];exact g
 obtain⟨c,j,f⟩:=x.r _ (Xx e);exact⟨b[i],c,bN (by rw[H_,e_ e];rfl),Xx e,j,f⟩
structure PI (d:Addr) (H0 H:Hp3) (pp pe a:Addr) (ws:List Str) (ps:List (Bool × Nat × Nat)) (es:List T):Prop where
 w:Wt d H0 H [(pp,.lst (ps.map pT3)),(pe,.lst es),(a,.lst (ws.map T.str))]
 ne:pe≠pp
 na:a≠pp
 l12:ps.length<=12
 ea:es.all (pl 20)=true
 el:es.length<=28+2*ps.length
 ok:∀x∈ps,x.2.1≠x.2.2/\x.2.1<ws.length/\x.2.2<ws.length
theorem PI.drw {d:Addr}{c H H':Hp3}{e f a:Addr}{ws:List Str}{ps:List (Bool × Nat × Nat)}{b:List T}(x:PI d c H e f a ws ps b) (D:Drw d H H'):PI d c H' e f a ws ps b:={ x with w:=x.w.drw D}
theorem PI.add {d:Addr}{j H:Hp3}{b s a q:Addr}{ws:List Str}{ps:List (Bool × Nat × Nat)}{f e:List T}{y:Bool × Nat × Nat}(x:PI d j H b s a ws ps f) (t:j b=none) (v:ps.length<12) (n:y.2.1≠y.2.2/\y.2.1<ws.length/\y.2.2<ws.length) {o:O3}{k:Addr}
  (g:up3 H b (.lst ((ps++[y]).map pT3)) k=none) (l:up3 (up3 H b (.lst ((ps++[y]).map pT3))) k o q=none) (B:e.all (pl 20)=true) (u:e.length=2):PI d j (up3 (up3 (up3 H b (.lst ((ps++[y]).map pT3))) k o) q (.lst (f++e))) b q a ws (ps++[y]) (f++e):=by
 have p:=x.w.set t (fun r c=>by
  rcases o_.mp c with rfl | c
  ·
   exact x.ne
  ·
   rw[g_.mp c];exact x.na) (.lst ((ps++[y]).map pT3))
 have m:=(p.new (o:=o) g).tl;have i:=m.new (o:=.lst (f++e)) l;refine⟨⟨i.cl,i.kp,fun r c=>i.at' r ?_⟩,Ne.symm (aZ m.hd l),x.na,by rw[a_,z_];omega,by rw[List.all_append,x.ea,B];rfl,by have:=x.el;rw[a_,a_,z_,u];omega,fun z A=>?_⟩
 ·simp only[o_,Xu,Za] at c ⊢;rcases c with h | h | h
  ·exact .inr (.inl h)
  ·exact .inl h
  exact .inr (.inr (.inr h))
 rcases A_.mp A with h | h
 ·exact x.ok z h
 rw[g_.mp h];exact n
theorem PI.add1 {d:Addr}{c H:Hp3}{b g a:Addr}{ws:List Str}{ps:List (Bool × Nat × Nat)}{f:List T}{y:Bool × Nat × Nat}(x:PI d c H b g a ws ps f) (j:c b=none) (k:ps.length<12) (i:y.2.1≠y.2.2/\y.2.1<ws.length/\y.2.2<ws.length):PI d c (up3 H b (.lst ((ps++[y]).map pT3))) b g a ws (ps++[y]) f:=by
 refine⟨x.w.set j (fun r e=>by
  rcases o_.mp e with rfl | e
  ·
   exact x.ne
  ·
   rw[g_.mp e];exact x.na) _,x.ne,x.na,by rw[a_,z_];omega,x.ea,by have:=x.el;rw[a_,z_];omega,fun z l=>?_⟩
 rcases A_.mp l with h | h
 ·exact x.ok z h
 rw[g_.mp h];exact i
theorem PI.sub {d:Addr}{f H H':Hp3}{c g a:Addr}{ws:List Str}{ps:List (Bool × Nat × Nat)}{e:List T}(x:PI d f H c g a ws ps e) (s:Sub3 H H'):PI d f H' c g a ws ps e:=by
 refine { x with w:=⟨?_,x.w.kp.sub s,fun q b=>⟨s _ _ (x.w.at' q b).1,(x.w.at' q b).2⟩⟩};obtain⟨ns,i,h⟩:=x.w.cl.ex;exact⟨ns,s _ _ i,h⟩
theorem Tb.tq {d:Addr}{g H H':Hp3}{p:Addr}{m:Nat}{j:List Addr}(x:Tb H H' p m j) (c:Cl H d) (k:Kep d g H):Tq d g H' p m j:=by
 have i:∀b,H b=none->b≠d:=fun b f=>c.ne f;have n:∀b,H b=none->g b=none:=fun b f=>by
  cases e:g b with
  |none=>rfl
  |some o=>rw[k b o e (i b f)] at f;cases f
 exact⟨x.l,x.t,x.r,n _ x.f0,fun a h=>n a (x.fa a h),i _ x.f0,fun a h=>i a (x.fa a h)⟩
theorem Tq.set {d q:Addr}{e H:Hp3}{p:Addr}{m:Nat}{b:List Addr}{o:O3}(x:Tq d e H p m b) (i:p≠q) (g:∀a∈b,a≠q):Tq d e (up3 H q o) p m b :=
 ⟨x.l,by rw[aD i];exact x.t,fun a c=>by obtain⟨h,j,f⟩:=x.r a c;exact⟨h,j,by rw[aD (g a c)];exact f⟩,x.f0,x.fa,x.nd,x.na⟩
theorem jJ {g k:Type}{f:g->k}:∀{i xs:List k},i.Perm xs->∀l:List g,xs=l.map f->∃c:List g,c.Perm l/\i=c.map f:=by
 intro i xs h;induction h with
 |nil=>intro l e;rw[YG.mp e.symm];exact⟨[],ZF _,rfl⟩
 |cons x _ u =>
  intro l e;cases l with
  |nil=>cases e
  |cons a r =>
  rw[y_,YQ] at e;obtain⟨c,o,m⟩:=u r e.2;exact⟨a::c,o.cons a,by rw[y_,m,e.1]⟩
 |swap x y t =>
  intro l e;cases l with
  |nil=>cases e
  |cons a r =>
  cases r with
  |nil=>rw[y_,YQ] at e;cases e.2
  |cons b r =>
  rw[y_,y_,YQ,YQ] at e;exact⟨b::a::r,List.Perm.swap a b r,by rw[y_,y_,<- e.1,<- e.2.1,<- e.2.2]⟩
 |trans _ _ d j =>
 intro l e;obtain⟨q,p,s⟩:=j l e;obtain⟨w,n,v⟩:=d q s;exact⟨w,n.trans p,v⟩
def nmP (ws:List Str) (x:Bool × Nat × Nat):Str × Str × Str:=(bw x.1,ws.getD x.2.1 "",ws.getD x.2.2 "")
theorem gH {ws:List Str}(h:ws.Nodup) {i j:Nat}(a:i<ws.length) (b:j<ws.length) (e:ws.getD i ""=ws.getD j ""):i=j:=by
 rw[W8,W8,e_ a,e_ b] at e;have d:ws[i]=ws[j]:=e;have c:=XH.mp h;rcases Nat.lt_trichotomy i j with q | q | q
 ·exact absurd d (c i j a b q)
 ·exact q
 exact absurd d.symm (c j i b a q)
theorem Qs {ws:List Str}(h:ws.Nodup) {ps:List (Bool × Nat × Nat)}(k:ps.Nodup) (e:∀x∈ps,x.2.1≠x.2.2/\x.2.1<ws.length/\x.2.2<ws.length):(ps.map (nmP ws)).Nodup:=by
 rw[List.Nodup,List.pairwise_map];refine YZ (fun {x y} q j b a=>b ?_) k;have g:=e x q;have f:=e y j;obtain⟨d,n,i⟩:=x;obtain⟨c,l,m⟩:=y;simp only[nmP,Prod.mk.injEq] at a;have r:n=l:=gH h g.2.1 f.2.1 a.2.1;have p:i=m:=gH h g.2.2 f.2.2 a.2.2;have o:d=c:=by have:=a.1;cases d <;> cases c <;> first | rfl | (exact absurd this (by decide +kernel))
 rw[r,p,o]
theorem Qt {ws:List Str}(h:ws.Nodup) {x:Bool × Nat × Nat}(o:x.2.1≠x.2.2/\x.2.1<ws.length/\x.2.2<ws.length):((nmP ws x).1="with"\/(nmP ws x).1="apart")/\(nmP ws x).2.1≠(nmP ws x).2.2/\(nmP ws x).2.1∈ws/\(nmP ws x).2.2∈ws:=by
 have a:∀i,i<ws.length->ws.getD i ""∈ws:=fun i c=>by rw[W8,e_ c];exact Xx c
 refine⟨?_,fun e=>o.1 (gH h o.2.1 o.2.2 e),a _ o.2.1,a _ o.2.2⟩;obtain⟨b,i,j⟩:=x;cases b
 ·exact .inr rfl
 exact .inl rfl
theorem getD_at {ws:List Str}{i:Nat}(h:i<ws.length):atI (ws.map T.str) (i:Int)=some (.str (ws.getD i "")):=bN (by rw[H_,e_ h,W8,e_ h];rfl)
theorem vM {a:Type}{ps E:List a}{y:a}(h:ps.Sublist E):(ps++[y]).Sublist (E++[y]):=h.append (aaf _)
theorem vN {a:Type}{ps E:List a}{y:a}(h:ps.Sublist E):ps.Sublist (E++[y]):=h.trans (List.sublist_append_left _ _)
def U8:Sp3:=fun ts H Q=>∃(d a o:Addr) (ws:List Str) (c:List T) (b:Int),ts=[.ref d,.ref a,.ref o,.int b]/\1<=b/\b<=100/\a≠d/\o≠d/\H a=some (.lst (ws.map T.str))/\Nms ws/\ws.length<=8/\H o=some (.lst c)/\c.all (pl 20)=true/\c.length<=28/\Cl H d /\
 ∀(prs:List (Str × Str × Str)) (p:Addr) (e:List Addr) (H':Hp3),prs.length<=12->prs.Nodup->(∀x∈prs,(x.1="with"\/x.1="apart")/\x.2.1≠x.2.2/\x.2.1∈ws/\x.2.2∈ws)->Cl H' d->Kep d H H'->Tq d H H' p ws.length e->Q (.tup [.tup (prs.map prT),.ref p]) H'
theorem U9 (ps:List (Bool × Nat × Nat)):(ps.map pT3).all (pl 20)=true:=by rw[Xh];intro t a;obtain⟨x,_,rfl⟩:=i_.mp a;rfl
def Va:Sp3:=fun ts H Q=>∃(d a:Addr) (b:Str) (ws:List Str),ts=[.ref d,.str b,.ref a]/\a≠d/\H a=some (.lst (ws.map T.str))/\Nms ws/\ws.length<=8/\isNm b/\Cl H d/\∀(ks:List Str) (H':Hp3),Nms ks->ks.length<=4->Drw d H H'->Q (.tup (ks.map T.str)) H'
theorem Nms.ins {ws:List Str}{i:Nat}{x:Str}(h:Nms ws) (b:isNm x) (d:x∉ws):Nms (ws.take i++x::ws.drop i):=by
 have a:(ws.take i++x::ws.drop i).Perm (x::ws):=List.perm_middle.trans (by rw[W_]);refine⟨fun y c=>?_,a.nodup_iff.mpr (Xn.mpr ⟨d,h.nd⟩)⟩;rcases o_.mp (a.mem_iff.mp c) with rfl | h'
 ·exact b
 exact h.nm y h'
theorem DY {ws:List Str}{i:Nat}{x y:Str}(h:y∈ws.take i++x::ws.drop i):y=x\/y∈ws:=by
 have a:(ws.take i++x::ws.drop i).Perm (x::ws):=List.perm_middle.trans (by rw[W_]);exact o_.mp (a.mem_iff.mp h)
theorem ud {m i:Nat}{A B:List Nat}(e:List.range m=A++i::B):i=A.length:=by
 have h:=O_ (fun l=>l[A.length]?) e;simp only[E_ (j_ _),Nat.sub_self,XC] at h;have a:A.length<m:=by have:=O_ List.length e;simp only[k_,a_,d_] at this;omega
 rw[Xp a] at h;exact (Q_ h).symm
theorem pL {m:Nat}{A B:List Nat}(e:List.range m=A++B):A=List.range A.length:=by
 have h:=O_ (List.take A.length) e;rw[List.take_left',List.take_range] at h
 ·have a:A.length<=m:=by have:=O_ List.length e;simp only[k_,a_] at this;omega
  rw[Nat.min_eq_left a] at h;exact h.symm
 rfl
structure KI (d:Addr) (H3 H0 H:Hp3) (pf pc r a t:Addr) (row ws:List Str) (m:Nat) (as:List Addr) (cs:List Str) (ks:List (List Str)):Prop where
 w:Wt d H3 H [(pf,.lst (ks.map sT)),(pc,.lst (cs.map T.str)),(r,.lst (row.map T.str)),(a,.lst (ws.map T.str))]
 tq:Tq d H0 H t m as
 nfc:pf≠pc
 nr:r≠pc/\r≠pf
 na:a≠pc/\a≠pf
 nt:t≠pc/\t≠pf
 ns:∀x∈as,x≠pc/\x≠pf
 c0:H3 pc=none
 f0:H3 pf=none
theorem KI.drw {d:Addr}{H3 f H H':Hp3}{e h r a t:Addr}{b ws:List Str}{m:Nat}{c:List Addr}{g:List Str}{ks:List (List Str)}(x:KI d H3 f H e h r a t b ws m c g ks) (D:Drw d H H'):KI d H3 f H' e h r a t b ws m c g ks:={ x with w:=x.w.drw D,tq:=x.tq.drw D}
theorem KI.new {d q:Addr}{H3 g H:Hp3}{f i r a t:Addr}{b ws:List Str}{m:Nat}{c:List Addr}{h:List Str}{ks:List (List Str)}{o:O3}(x:KI d H3 g H f i r a t b ws m c h ks) (e:H q=none):KI d H3 g (up3 H q o) f i r a t b ws m c h ks:={ x with w:=(x.w.new e).tl,tq:=x.tq.new e}
theorem KI.putf {d:Addr}{H3 h H:Hp3}{e j r a t:Addr}{b ws:List Str}{m:Nat}{f:List Addr}{i:List Str}{ks:List (List Str)}(x:KI d H3 h H e j r a t b ws m f i ks) (c:List (List Str)):KI d H3 h (up3 H e (.lst (c.map sT))) e j r a t b ws m f i c :=
 { x with
  w:=x.w.set x.f0 (fun q g=>by
   simp only[o_,Xu,Za] at g
   rcases g with rfl | rfl | rfl
   ·
    exact Ne.symm x.nfc
   ·
    exact x.nr.2
   ·
    exact x.na.2) _
  tq:=x.tq.set x.nt.2 fun y k=>(x.ns y k).2}
theorem KI.putc {d:Addr}{H3 j H:Hp3}{f c r a t:Addr}{b ws:List Str}{m:Nat}{h:List Addr}{g:List Str}{ks:List (List Str)}(x:KI d H3 j H f c r a t b ws m h g ks) (e:List Str):KI d H3 j (up3 H c (.lst (e.map T.str))) f c r a t b ws m h e ks:=by
 refine { x with
  w:=⟨x.w.cl.new (x.w.at' (c,.lst (g.map T.str)) (by simp)).2,x.w.kp.at x.c0,fun q i=>?_⟩
  tq:=x.tq.set x.nt.1 fun y k=>(x.ns y k).1}
 simp only[o_,Xu,Za] at i;rcases i with rfl | rfl | rfl | rfl
 ·exact⟨by rw[aD x.nfc];exact (x.w.at' (f,.lst (ks.map sT)) (by simp)).1,(x.w.at' (f,.lst (ks.map sT)) (by simp)).2⟩
 ·exact⟨au,(x.w.at' (c,.lst (g.map T.str)) (by simp)).2⟩
 ·exact⟨by rw[aD x.nr.1];exact (x.w.at' (r,.lst (b.map T.str)) (by simp)).1,(x.w.at' (r,.lst (b.map T.str)) (by simp)).2⟩
 exact⟨by rw[aD x.na.1];exact (x.w.at' (a,.lst (ws.map T.str)) (by simp)).1,(x.w.at' (a,.lst (ws.map T.str)) (by simp)).2⟩
def Vb:Sp3:=fun ts H Q=>∃(d r a t:Addr) (b ws:List Str) (m:Nat) (f:Hp3) (e:List Addr),ts=[.ref d,.ref r,.ref a,.ref t]/\r≠d/\a≠d/\H r=some (.lst (b.map T.str))/\1<=b.length/\b.length<=8/\(∀x∈b,isNm x)/\H a=some (.lst (ws.map T.str))/\Nms ws/\ws.length<=8/\Tq d f H t m e/\m<=8/\Cl H d /\
 ∀(ks:List (List Str)) (c:Hp3) (p:Addr),ks.length=m->(∀k∈ks,Nms k/\k.length<=4)->Drw d H c->c p=none->Q (.ref p) (up3 c p (.lst (ks.map sT)))
def tkD (ws:List Str) (b:List Int) (a:List (List Str)) (k:Nat):Str × Int × List Str:=(ws.getD k "",b.getD k 0,a.getD k [])
def oD (ws:List Str) (a:List Nat) (x:Nat × Nat):Str × Str:=(ws.getD (a.getD x.1 0) "",ws.getD (a.getD x.2 0) "")
theorem getD_mem {a:Type}{l:List a}{d:a}{i:Nat}(h:i<l.length):l.getD i d∈l:=by
 rw[W8,e_ h];exact Xx h
theorem m5 {a:List Nat}(h:a.Nodup) {i j:Nat}(b:i<a.length) (c:j<a.length) (e:a.getD i 0=a.getD j 0):i=j:=by
 rw[W8,W8,e_ b,e_ c] at e;have d:a[i]=a[j]:=e;have f:=XH.mp h;rcases Nat.lt_trichotomy i j with q | q | q
 ·exact absurd d (f i j b c q)
 ·exact q
 exact absurd d.symm (f j i c b q)
theorem Jb (ws:List Str) (b:List Int) (a:List (List Str)):((List.range ws.length).map (tkD ws b a)).map (·.1)=ws:=by
 apply aab;intro i;rw[H_,H_];by_cases h:i<ws.length
 ·rw[Xp h,e_ h];simp [tkD,W8,e_ h]
 rw[Xb (by simp;omega),Xb (by omega)];rfl
theorem Vc {ws:List Str}{a:List Int}{b:List (List Str)}{m:List Nat}{p:List (Nat × Nat)}{prs:List (Str × Str × Str)}{f:List Str}(c:Nms ws) (N:1<=ws.length) (L:ws.length<=8) (J:a.length=ws.length) (E:∀l∈a,1<=l/\l<10^60) (U:b.length=ws.length) (A:∀k∈b,Nms k/\k.length<=4)
  (S:m.length=ws.length) (n:m.Nodup) (u:∀x∈m,x<ws.length) (W:p.length<=28) (w:p.Nodup) (j:∀x∈p,x.1<x.2/\x.2<ws.length) (C:prs.length<=12) (v:prs.Nodup) (B:∀x∈prs,(x.1="with"\/x.1="apart")/\x.2.1≠x.2.2/\x.2.1∈ws/\x.2.2∈ws)
  (O:1<=f.length) (R:f.length<=8) (X:∀x∈f,isNm x):WkOk ⟨(List.range ws.length).map (tkD ws a b),p.map (oD ws m),prs,f⟩:=by
 have e:=Jb ws a b;have g:∀i,i<ws.length->m.getD i 0<ws.length:=fun i hi=>u _ (getD_mem (by omega));refine⟨by show 1<=((List.range ws.length).map (tkD ws a b)).length;rw[b_,k_];exact N,by show ((List.range ws.length).map (tkD ws a b)).length<=8;rw[b_,k_];exact L,fun t Y=>?_,by show (((List.range ws.length).map (tkD ws a b)).map (·.1)).Nodup;rw[e];exact c.nd,by show (p.map (oD ws m)).length<=28;rw[b_];exact W,?_,fun o ho=>?_,C,v,fun q I=>?_,O,R,X⟩
 ·obtain⟨k,Q,rfl⟩:=i_.mp Y;have s:=I_.mp Q;have H:=E _ (getD_mem (d:=0) (show k<a.length by omega));have r:=A _ (getD_mem (d:=[]) (show k<b.length by omega));exact⟨c.nm _ (getD_mem s),H.1,H.2,r.1,r.2⟩
 ·show (p.map (oD ws m)).Nodup;rw[List.Nodup,List.pairwise_map];refine YZ (fun {x y} F Z D z=>D ?_) w;have G:=j x F;have oy:=j y Z;obtain⟨K,M⟩:=x;obtain⟨P,j2⟩:=y;simp only at G oy;simp only[oD,Prod.mk.injEq] at z;have V:=gH c.nd (g K (by omega)) (g P (by omega)) z.1;have T:=gH c.nd (g M (by omega)) (g j2 (by omega)) z.2;rw[m5 n (by omega) (by omega) V,m5 n (by omega) (by omega) T]
 ·show _/\o.1∈((List.range ws.length).map (tkD ws a b)).map (·.1)/\o.2∈((List.range ws.length).map (tkD ws a b)).map (·.1);rw[e];obtain⟨x,F,rfl⟩:=i_.mp ho;have G:=j x F;refine⟨fun h=>?_,getD_mem (g _ (by omega)),getD_mem (g _ (by omega))⟩;have:=m5 n (by omega) (by omega) (gH c.nd (g _ (by omega)) (g _ (by omega)) h);omega
 show _/\_/\q.2.1∈((List.range ws.length).map (tkD ws a b)).map (·.1)/\q.2.2∈((List.range ws.length).map (tkD ws a b)).map (·.1);rw[e];exact B q I
theorem K4 {a:List Int}{i:Nat}(h:i<a.length):atI (a.map T.int) (i:Int)=some (.int (a.getD i 0)):=bN (by rw[H_,e_ h,W8,e_ h];rfl)
theorem Vd {a:List (List Str)}{i:Nat}(h:i<a.length):atI (a.map sT) (i:Int)=some (sT (a.getD i [])):=bN (by rw[H_,e_ h,W8,e_ h];rfl)
theorem Wt.kep {c:Addr}{e H H':Hp3}{d:List (Addr × O3)}(w:Wt c e H d) (i:Cl H' c) (g:Kep c H H'):Wt c e H' d:=⟨i,fun b o h f=>g b o (w.kp b o h f) f,fun p a=>⟨g _ _ (w.at' p a).1 (w.at' p a).2,(w.at' p a).2⟩⟩
def tri (m:Nat) (A:List Nat):List (Nat × Nat):=A.flatMap fun i=>(List.range' (i+1) (m - (i+1))).map fun j=>(i,j)
theorem Qu:∀m:_root_.Fin 9,(tri m.val (List.range m.val)).Nodup:=by decide +kernel
theorem yt:∀m:_root_.Fin 9,(tri m.val (List.range m.val)).length<=28:=by decide +kernel
theorem Ea (m:Nat) (A:List Nat) (i:Nat):tri m (A++[i])=tri m A++(List.range' (i+1) (m - (i+1))).map fun j=>(i,j):=by simp [tri]
def oT (a:List Nat) (x:Nat × Nat):T:=.tup [.int ((a.getD x.1 0:Nat):Int),.int ((a.getD x.2 0:Nat):Int)]
theorem Ve (i m:Nat):dC ((i:Int)+1) ((m:Int) - ((i:Int)+1)).toNat=(List.range' (i+1) (m - (i+1))).map fun (j:Nat)=>T.int (j:Int):=by
 rw[show ((m:Int) - ((i:Int)+1)).toNat=m - (i+1) by omega];generalize m - (i+1)=n;unfold dC;rw[List.range'_eq_map_range,N_];exact Xq fun k _=>by show T.int _=T.int _;congr 1
theorem K5 {a:List Nat}{i:Nat}(h:i<a.length):atI (a.map fun (k:Nat)=>T.int (k:Int)) (i:Int)=some (.int ((a.getD i 0:Nat):Int)):=bN (by rw[H_,e_ h,W8,e_ h];rfl)
theorem K6 (b:List Nat) (ps:List (Nat × Nat)):(ps.map (oT b)).all (pl 20)=true:=by rw[Xh];intro t a;obtain⟨x,_,rfl⟩:=i_.mp a;rfl
theorem Vf (ks:List Nat):(ks.map fun (k:Nat)=>T.int (k:Int)).all (pl 20)=true:=by rw[Xh];intro t a;obtain⟨x,_,rfl⟩:=i_.mp a;rfl
theorem Jc {m:Nat}{x:Nat × Nat}{A:List Nat}(c:∀i∈A,i<m) (h:x∈tri m A):x.1<x.2/\x.2<m:=by
 obtain⟨i,d,a⟩:=ZR.mp h;obtain⟨j,b,rfl⟩:=i_.mp a;have:=List.mem_range'_1.mp b;exact⟨by omega,by omega⟩
def dN (ns:List Str) (f:Str->Nat):List (Str × T):=ns.map fun n=>(n,T.int (f n:Int))
def fu (f:Str->Nat) (n:Str) (v:Nat):Str->Nat:=fun x=>if x=n then v else f x
theorem iY {f:Str->Nat}{n:Str}:∀{ns:List Str},n∈ns->aO n (dN ns f)=some (T.int (f n:Int))
 |x::r,h=>by
  unfold dN
  rw[y_]
  unfold aO
  by_cases e:x=n
  ·
   rw[if_pos e,e]
  ·
   rw[if_neg e]
   exact iY (ns:=r) ((o_.mp h).resolve_left (Ne.symm e))
theorem Qv {ns:List Str}{f:Str->Nat}{n:Str}{v:Nat}(h:n∉ns):put3 n (T.int (v:Int)) (dN ns f)=dN (ns++[n]) (fu f n v):=by
 unfold put3 dN;rw[if_neg (by
  intro e
  rw[Y9] at e
  obtain⟨x,a,e⟩:=e
  obtain⟨y,b,rfl⟩:=i_.mp a
  exact h (Xa e▸b)),u_]
 congr 1
 ·refine Xq fun x a=>?_;unfold fu;rw[if_neg (fun (e:x=n)=>h (e▸a))]
 unfold fu;rw[List.map_singleton,if_pos rfl]
theorem Qw (ns:List Str) (f:Str->Nat):(dN ns f).length=ns.length:=b_ _
def mu (m:Nat) (ns:List Str) (f:Str->Nat):Nat:=(ns.map fun n=>m - f n).sum
def fU (ns:List Str) (f:Str->Nat) (m:Nat):List (List Str):=(List.range m).map fun k=>ns.filter fun n=>decide (f n=k)
def iN (ts:List (Str × Int × List Str)):List (Str × T):=ts.map fun t=>(t.1,T.int t.2.1)
def lnOf (ts:List (Str × Int × List Str)) (n:Str):Int:=match ts.find? (fun t=>decide (t.1=n)) with
 |some t=>t.2.1
 |none=>0
theorem yu {n:Str}:∀{ts:List (Str × Int × List Str)},n∈ts.map (·.1)->aO n (iN ts)=some (T.int (lnOf ts n))
 |t::r,h=>by
  unfold iN lnOf
  rw[y_,X8]
  unfold aO
  by_cases e:t.1=n
  ·
   rw[if_pos e,q_ e]
  ·
   rw[if_neg e,p_ e]
   exact yu (ts:=r) ((o_.mp (show n∈t.1::r.map (·.1) from h)).resolve_left (Ne.symm e))
theorem Qx {ts:List (Str × Int × List Str)}{t:Str × Int × List Str}(h:t.1∉ts.map (·.1)):put3 t.1 (T.int t.2.1) (iN ts)=iN (ts++[t]):=by
 unfold put3 iN;rw[if_neg (by
  intro e
  rw[Y9] at e
  obtain⟨x,a,e⟩:=e
  obtain⟨y,b,rfl⟩:=i_.mp a
  exact h (Xa e▸i_.mpr ⟨y,b,rfl⟩)),u_]
 rfl
theorem Qy (ts:List (Str × Int × List Str)):(iN ts).length=ts.length:=b_ _
def smL (tk:List (Str × Int × List Str)) (ns:List Str):Int:=(ns.map (lnOf tk)).sum
def Vg:Sp3:=fun ts H Q=>∃(W:Wk) (D:List (List Str)),ts=[W.enc,.tup (D.map sT)]/\WkOk W/\D.length<=8/\(∀ns∈D,ns.length<=8/\∀n∈ns,n∈W.tasks.map (·.1))/\∀p,H p=none->Q (.ref p) (up3 H p (.lst ((D.map (smL W.tasks)).map T.int)))
def ld (tk:List (Str × Int × List Str)) (ns:List Str):Int:=((tk.filter (fun t=>dD false (.str t.1) (ns.map T.str))).map (·.2.1)).sum
theorem yw {t:Str × Int × List Str}:∀{tk:List (Str × Int × List Str)},(tk.map (·.1)).Nodup->t∈tk->lnOf tk t.1=t.2.1
 |u::r,hn,h=>by
  rw[y_,Xn] at hn
  unfold lnOf
  rw[X8]
  rcases o_.mp h with rfl | h
  ·
   rw[q_ rfl]
  ·
   rw[p_ (fun e=>hn.1 (by rw[e];exact i_.mpr ⟨t,h,rfl⟩))]
   exact yw hn.2 h
theorem Eb {a b:List Int}(h:a.Perm b):a.sum=b.sum:=by
 induction h with
 |nil=>rfl
 |cons x _ e=>rw[XD,XD,e]
 |swap x y l=>rw[XD,XD,XD,XD];omega
 |trans _ _ d c=>exact d.trans c
theorem Vh {tk:List (Str × Int × List Str)}{ns:List Str}(b:(tk.map (·.1)).Nodup) (f:ns.Nodup) (d:∀n∈ns,n∈tk.map (·.1)):smL tk ns=ld tk ns:=by
 have c:∀t:Str × Int × List Str,dD false (.str t.1) (ns.map T.str)=true↔t.1∈ns:=fun t=>UT gU;have e:(tk.filter (fun t=>dD false (.str t.1) (ns.map T.str))).map (·.2.1)=((tk.filter (fun t=>dD false (.str t.1) (ns.map T.str))).map (·.1)).map (lnOf tk):=by rw[N_];refine Xq fun t a=>?_;exact (yw b (D_.mp a).1).symm
 unfold smL ld;rw[e];refine Eb (List.Perm.map _ ?_);refine (List.perm_ext_iff_of_nodup f ((List.filter_sublist.map _).nodup b)).mpr fun n=>⟨fun h=>?_,fun h=>?_⟩
 ·obtain⟨t,a,rfl⟩:=i_.mp (d n h);exact i_.mpr ⟨t,D_.mpr ⟨a,(c t).mpr h⟩,rfl⟩
 obtain⟨t,a,rfl⟩:=i_.mp h;exact (c t).mp (D_.mp a).2
theorem pM (ns:List Str) (f:Str->Nat) (m:Nat):(fU ns f m).length=m:=by unfold fU;rw[b_,k_]
def zP (k:Nat) (f:Str->Nat) (xs:List Str):Str->Nat:=xs.foldl (fun f n=>fu f n k) f
def fD (D:List (List Str)):Str->Nat:=D.zipIdx.foldl (fun f p=>zP p.2 f p.1) (fun _=>0)
theorem Jd (A:List (List Str)) (s:List Str):fD (A++[s])=zP A.length (fD A) s:=by
 unfold fD;rw[List.zipIdx_append,List.foldl_append];simp
def kdOf (ts:List (Str × Int × List Str)) (n:Str):List Str:=match ts.find? (fun t=>decide (t.1=n)) with
 |some t=>t.2.2
 |none=>[]
def WN (a:List Str) (D:List (List Str)):Option T:=if D.length>a.length then some (.tup [.str "stands",.int (D.length:Int)]) else none
def WP (ns xs:List Str):Option T:=(xs.find? fun x=>!decide (x∈ns)).map fun x=>.tup [.str "strange",.str x]
def twG:List Str->List Str->Option Str
 |_,[]=>none
 |sn,x::r=>if x∈sn then some x else twG (sn++[x]) r
def twF (xs:List Str):Option T:=(twG [] xs).map fun x=>.tup [.str "twice",.str x]
def WQ (ns xs:List Str):Option T:=(ns.find? fun n=>!decide (n∈xs)).map fun n=>.tup [.str "lost",.str n]
def WR (f:Str->Nat) (a:List (Str × Str)):Option T:=(a.find? fun o=>decide (f o.2<f o.1)).map fun o=>.tup [.str "order",.str o.1,.str o.2]
def WT (f:Str->Nat) (ps:List (Str × Str × Str)):Option T:=(ps.find? fun p=>decide (f p.2.1=f p.2.2) != decide (p.1=("with":Str))).map fun p=>.tup [.str p.1,.str p.2.1,.str p.2.2]
def okK (ks:List Str) (k:Str):Bool:=decide (ks=[])||decide (k∈ks)
def Vi (b:Str->List Str) (a:List Str):Nat->List (List Str)->Option T
 |_,[]=>none
 |k,s::r=>match s.find? fun n=>!okK (b n) (a.getD k "") with
  |some n=>some (.tup [.str "kind",.str n,.int (k:Int)])
  |none=>Vi b a (k+1) r
def Vj (g:List Str->Int) (beat:Int):Nat->List (List Str)->Option T
 |_,[]=>none
 |k,s::r=>if g s>beat then some (.tup [.str "beat",.int (k:Int)]) else Vj g beat (k+1) r
def WW (W:Wk) (D:List (List Str)):Option T:=(WN W.row D).or ((WP (W.tasks.map (·.1)) D.flatten).or ((twF D.flatten).or (WQ (W.tasks.map (·.1)) D.flatten)))
def WX (W:Wk) (beat:Int) (D:List (List Str)):Option T:=(WR (fD D) W.orders).or ((WT (fD D) W.pairs).or ((Vi (kdOf W.tasks) W.row 0 D).or (Vj (ld W.tasks) beat 0 D)))
def flt (W:Wk) (beat:Int) (D:List (List Str)):Option T:=(WW W D).or (WX W beat D)
structure Dok (W:Wk) (D:List (List Str)):Prop where
 rw:D.length<=W.row.length
 st:∀x∈D.flatten,x∈W.tasks.map (·.1)
 nd:D.flatten.Nodup
 al:∀n∈W.tasks.map (·.1),n∈D.flatten
theorem Dok.in {W:Wk}{D:List (List Str)}(h:Dok W D) {s:List Str}(a:s∈D):s.Nodup/\∀n∈s,n∈W.tasks.map (·.1) :=
 ⟨(List.sublist_flatten_of_mem a).nodup h.nd,fun n b=>h.st n (Yw.mpr ⟨s,a,b⟩)⟩
theorem WY {x:Str}{xs:List Str}:dD true (T.str x) (xs.map T.str)=!decide (x∈xs):=by
 rw[Xf,PN gU];simp
theorem Ec {x:Str}{xs:List Str}:dD false (T.str x) (xs.map T.str)=decide (x∈xs):=by
 rw[Xf,UT gU];simp
theorem zQ {d:Type}(c:d->T) (xs:List d) {g:TG3}{f:TS3}{D:Ends3}{still:Hp3->Prop}{a:St3}{H:Hp3}(I:List d->St3->Hp3->Prop) (j:I [] a H) (i:∀a H,I xs a H->still H/\D.nx a H)
  (l:∀A x B a H (N:St3->Hp3->Prop),xs=A++x::B->I A a H->(∀b H',I (A++[x]) b H'->N b H')->still H/\g (.tup [.int (A.length:Int),c x]) a H fun σ2 H2=>f { D with nx:=N,ct:=N,bk:=D.nx} σ2 H2):iter3 g f D still (iu 0 (xs.map c)) a H:=by
 have:∀(B A:List d) (a:St3) (H:Hp3),xs=A++B->I A a H->iter3 g f D still (iu (A.length:Int) (B.map c)) a H:=by
  intro B;induction B with
  |nil=>intro A a H e h;rw[J_] at e;subst e;exact i a H h
  |cons x B k =>
  intro A a H e h;refine l A x B a H _ e h fun b H' h'=>?_;have q:=k (A++[x]) b H' (by rw[e,x_];rfl) h';rw[a_,z_,Int.natCast_add] at q;exact q
 exact this xs [] a H rfl j
theorem Qz (ts:List T) (i:Int) (H:Hp3) (Q:VK3):ixH (some (.rol ts)) i H Q=oq (atI ts i) fun t=>Q t H:=rfl
def Vk:Sp3:=fun ts H Q=>∃tk:List (Str × Int × List Str),ts=[.tup (tk.map tkT)]/\tk.length<=8/\∀p,H p=none->Q (.ref p) (up3 H p (.lst ((tk.map (·.1)).map T.str)))
structure Fil (W:Wk) (beat:Int) (kind:Str) (D S:List Str):Prop where
 one:∀t∈W.tasks,t.1∈S->t.1∉D/\jG t.2.2 kind=true/\(∀x∈jt W t.1,x∈S)/\(∀x∈ju W t.1,x∈S\/x∈D)/\∀x∈jH W t.1,x∉S
 ld:cJ W.tasks S<=beat
theorem fil_iff {W:Wk}{beat:Int}{c:Str}{D S:List Str}:vJ W beat c D S=true↔Fil W beat c D S:=by
 unfold vJ;rw[Xm,v_,Xh];have d:∀t:Str × Int × List Str,(!decide (t.1∈S)||okT W c D S t)=true↔(t.1∈S->t.1∉D/\jG t.2.2 c=true/\(∀x∈jt W t.1,x∈S)/\(∀x∈ju W t.1,x∈S\/x∈D)/\∀x∈jH W t.1,x∉S):=fun t=>by
  unfold okT;rw[Bool.or_eq_true,Zv,decide_eq_false_iff_not,Xm,Xm,Xm,Xm,Zv,decide_eq_false_iff_not,@v_ _ (Classical.propDecidable _),@v_ _ (Classical.propDecidable _),@v_ _ (Classical.propDecidable _)];constructor
  ·intro h e;obtain⟨⟨⟨⟨k,i⟩,f⟩,j⟩,m⟩:=h.resolve_left (fun z=>z e);exact⟨k,i,f,fun x l=>A_.mp (j x l),m⟩
  intro h;by_cases e:t.1∈S
  ·obtain⟨k,i,f,j,m⟩:=h e;exact .inr ⟨⟨⟨⟨k,i⟩,f⟩,fun x l=>A_.mpr (j x l)⟩,m⟩
  exact .inl e
 exact⟨fun ⟨a,b⟩=>⟨fun t g=>(d t).mp (a t g),b⟩,fun h=>⟨fun t g=>(d t).mpr (h.one t g),h.ld⟩⟩
theorem iH {ts:List (Str × Int × List Str)}{S a:List Str}(h:∀x,x∈S↔x∈a):cJ ts S=cJ ts a:=by
 have e:(ts.filter fun t=>decide (t.1∈S))=ts.filter fun t=>decide (t.1∈a):=X5 fun t _=>by rw[Zc];exact h t.1
 unfold cJ;rw[e]
theorem Fil.congr {W:Wk}{beat:Int}{a:Str}{D S e g:List Str}(f:Fil W beat a D S) (d:∀x,x∈D↔x∈e) (b:∀x,x∈S↔x∈g):Fil W beat a e g :=
 ⟨fun t i m=>by
  obtain⟨l,j,h,k,n⟩:=f.one t i ((b _).mpr m)
  exact⟨fun z=>l ((d _).mpr z),j,fun x c=>(b x).mp (h x c),fun x c=>(k x c).imp (b x).mp (d x).mp,fun x c z=>n x c ((b x).mpr z)⟩,by rw[<- iH b];exact f.ld⟩
def Fils (W:Wk) (beat:Int) (D:List (List Str)):Prop:=∀k s,D[k]?=some s->Fil W beat (W.row.getD k "") (D.take k).flatten s
theorem Fils.snoc {W:Wk}{beat:Int}{D:List (List Str)}{s:List Str}(h:Fils W beat D) (f:Fil W beat (W.row.getD D.length "") D.flatten s):Fils W beat (D++[s]):=fun k s' e=>by
 by_cases b:k<D.length
 ·rw[U_ b] at e;rw[YB (by omega)];exact h k s' e
 rw[E_ (by omega)] at e;have d:k - D.length=0:=by
  cases c:k - D.length with
  |zero=>rfl
  |succ n=>rw[c] at e;simp at e
 have a:k=D.length:=by omega
 subst a;rw[d] at e;simp only[XC,aag] at e;subst e;rw[List.take_left']
 ·exact f
 rfl
theorem Fils.nil {W:Wk}{beat:Int}:Fils W beat []:=fun k s e=>by simp at e
theorem vO {k:Nat}{n:Str}:∀{xs:List Str}{f:Str->Nat},n∉xs->zP k f xs n=f n
 |[],_,_=>rfl
 |x::r,f,h=>by
  rw[o_,not_or] at h
  show zP k (fu f x k) r n=f n
  rw[vO h.2]
  unfold fu
  rw[if_neg h.1]
theorem Ed {k:Nat}{n:Str}:∀{xs:List Str}{f:Str->Nat},n∈xs->zP k f xs n=k
 |x::r,f,h=>by
  show zP k (fu f x k) r n=k
  by_cases a:n∈r
  ·
   exact Ed a
  ·
   rw[vO a]
   unfold fu
   rw[if_pos ((o_.mp h).resolve_right a)]
theorem fV {D:List (List Str)}(b:D.flatten.Nodup):∀{k:Nat}{s:List Str}{n:Str},D[k]?=some s->n∈s->fD D n=k:=by
 induction hl:D.length generalizing D with
 |zero=>intro k s n e;rw[X6.mp hl] at e;simp at e
 |succ m i =>
 intro k s n e a;obtain⟨A,l,rfl⟩:∃A l,D=A++[l]:=by refine⟨D.dropLast,D.getLast (by intro z;rw[z] at hl;cases hl),(Zg _).symm⟩
 have c:A.length=m:=by simp at hl;exact hl
 rw[Jd];rw[Y5,List.flatten_singleton,Yq] at b;by_cases d:k<A.length
 ·rw[U_ d] at e;have h:n∈A.flatten:=Yw.mpr ⟨s,XF e,a⟩;rw[vO fun z=>b.2.2 n h n z rfl];exact i b.1 c e a
 rw[E_ (by omega)] at e;have g:k - A.length=0:=by
  cases f:k - A.length with
  |zero=>rfl
  |succ n=>rw[f] at e;simp at e
 rw[g] at e;simp only[XC,aag] at e;subst e;rw[Ed a];omega
theorem jK {D:List (List Str)}{n:Str}(h:n∈D.flatten):∃(k:Nat) (s:List Str),D[k]?=some s/\n∈s:=by
 obtain⟨s,b,c⟩:=Yw.mp h;obtain⟨k,a⟩:=List.getElem?_of_mem b;exact⟨k,s,a,c⟩
theorem take_at {D:List (List Str)}{k:Nat}{n:Str}:n∈(D.take k).flatten↔∃(j:Nat) (s:List Str),j<k/\D[j]?=some s/\n∈s:=by
 constructor
 ·intro h;obtain⟨j,s,e,a⟩:=jK h;rw[List.getElem?_take] at e;split at e
  ·exact⟨j,s,by assumption,e,a⟩
  cases e
 rintro⟨j,s,b,e,a⟩;refine Yw.mpr ⟨s,?_,a⟩;refine XF (i:=j) ?_;rw[List.getElem?_take,if_pos b];exact e
theorem Ef {W:Wk}{a b:Str}(h:lkR ["with"] W a b):(a,b)∈W.orders\/∃p∈W.pairs,p.1="with"/\(p.2=(a,b)\/p.2=(b,a)):=by
 unfold lkR lkW at h;rcases A_.mp h with h | h
 ·exact .inl h
 obtain⟨p,d,c⟩:=ZR.mp h;unfold lkP at c;split at c
 ·rename_i e;refine .inr ⟨p,d,by simpa using e,?_⟩;simp only[o_,Prod.mk.injEq,Xu,Za] at c;rcases c with ⟨rfl,rfl⟩ | ⟨rfl,rfl⟩
  ·exact .inl rfl
  exact .inr rfl
 cases c
theorem QB {W:Wk}{a b:Str}(h:(a,b)∈W.orders):lkR ["with"] W a b:=Xr _ h
theorem Je {W:Wk}{a b:Str}(h:(("with":Str),a,b)∈W.pairs):lkR ["with"] W a b/\lkR ["with"] W b a:=by
 have:∀q,q∈lkP ["with"] ("with",a,b)->q∈lkW ["with"] W:=fun q c=>W9 _ (ZR.mpr ⟨_,h,c⟩);constructor
 ·exact this _ (by unfold lkP;simp)
 exact this _ (by unfold lkP;simp)
structure Rgt (W:Wk) (beat:Int) (D:List (List Str)) (f:Str->Nat):Prop where
 ord:∀o∈W.orders,f o.1<=f o.2
 pai:∀p∈W.pairs,f p.2.1=f p.2.2↔p.1="with"
 kin:∀k s,D[k]?=some s->∀t∈W.tasks,t.1∈s->jG t.2.2 (W.row.getD k "")=true
 bea:∀s∈D,cJ W.tasks s<=beat
theorem ue {W:Wk}{beat:Int}{D:List (List Str)}(N:WkOk W) (h:Dok W D):Rgt W beat D (fD D)↔Fils W beat D:=by
 have u:∀{n:Str},n∈W.tasks.map (·.1)->∃s,D[fD D n]?=some s/\n∈s:=fun g=>by obtain⟨k,s,e,c⟩:=jK (h.al _ g);rw[fV h.nd e c];exact⟨s,e,c⟩
 constructor
 ·intro r k s e;have w:∀{a b:Str},RT (lkR ["with"] W) a b->fD D a<=fD D b:=fun z=>by
   induction z with
   |refl=>exact j_ _
   |step _ l Q =>
   refine W6 Q ?_;rcases Ef l with o | ⟨p,m,v,e | e⟩
   ·exact r.ord _ o
   ·have:=(r.pai p m).mpr v;rw[e] at this;exact Zd this
   have:=(r.pai p m).mpr v;rw[e] at this;exact Zd this.symm
  refine⟨fun t i c=>?_,r.bea s (XF e)⟩;have Z:=fV h.nd e c;refine⟨fun z=>?_,r.kin k s e t i c,fun x H=>?_,fun x H=>?_,fun x H J=>?_⟩
  ·obtain⟨j,s',P,d,g⟩:=take_at.mp z;have:=fV h.nd d g;omega
  ·obtain⟨A,B⟩:=D_.mp H;rw[@v_ _ (Classical.propDecidable _)] at B;have C:=w B.1;have e2:=w B.2;obtain⟨s',d,g⟩:=u A;rw[show fD D x=k by omega,e] at d;cases d;exact g
  ·obtain⟨A,B⟩:=D_.mp H;rw[@v_ _ (Classical.propDecidable _)] at B;have C:=w B.1;obtain⟨s',d,g⟩:=u A;by_cases z:fD D x=k
   ·rw[z,e] at d;cases d;exact .inl g
   exact .inr (take_at.mpr ⟨_,s',by omega,d,g⟩)
  obtain⟨p,m,rfl⟩:=i_.mp H;obtain⟨m,v⟩:=D_.mp m;rw[Xm,v_,v_] at v;have C:=(r.pai p m).mp (by rw[v.2,Z,fV h.nd e J]);rw[v.1] at C;exact absurd C (by decide)
 intro F;have fil:∀{t:Str × Int × List Str},t∈W.tasks->∃s,D[fD D t.1]?=some s/\t.1∈s/\Fil W beat (W.row.getD (fD D t.1) "") (D.take (fD D t.1)).flatten s:=fun i=>by obtain⟨s,e,c⟩:=u (i_.mpr ⟨_,i,rfl⟩);exact⟨s,e,c,F _ _ e⟩
 have w:∀{a b:Str},a∈W.tasks.map (·.1)->b∈W.tasks.map (·.1)->RT (lkR ["with"] W) a b->fD D a<=fD D b:=fun {a b} I Y z=>by
  obtain⟨t,i,rfl⟩:=i_.mp Y;obtain⟨s,e,c,f⟩:=fil i;obtain⟨_,_,U,S,_⟩:=f.one t i c;by_cases y:RT (lkR ["with"] W) t.1 a
  ·have:=U a (D_.mpr ⟨I,@q_ _ (Classical.propDecidable _) ⟨y,z⟩⟩);exact Zd (fV h.nd e this)
  rcases S a (D_.mpr ⟨I,@q_ _ (Classical.propDecidable _) ⟨z,y⟩⟩) with q | q
  ·exact Zd (fV h.nd e q)
  obtain⟨j,s',P,d,g⟩:=take_at.mp q;rw[fV h.nd d g];omega
 refine⟨fun o O=>?_,fun p m=>?_,fun k s e t i c=>((F k s e).one t i c).2.1,fun s c=>?_⟩
 ·obtain⟨_,E,G⟩:=N.oo o O;exact w E G (.step .refl (QB O))
 ·obtain⟨v,_,E,G⟩:=N.pp p m;constructor
  ·intro e;refine v.resolve_right fun I=>?_;obtain⟨t,i,M⟩:=i_.mp E;obtain⟨s,C,c,f⟩:=fil i;obtain⟨_,_,_,_,f5⟩:=f.one t i c;refine f5 p.2.2 (i_.mpr ⟨p,D_.mpr ⟨m,by rw[Xm,v_,v_];exact⟨I,M.symm⟩⟩,rfl⟩) ?_;obtain⟨s',d,g⟩:=u G;have R:fD D p.2.2=fD D t.1:=by rw[M];exact e.symm
   rw[R,C] at d;cases d;exact g
  intro L;have K:(("with":Str),p.2.1,p.2.2)∈W.pairs:=by rw[<- L];exact m
  obtain⟨X,V⟩:=Je K;exact Nat.le_antisymm (w E G (.step .refl X)) (w G E (.step .refl V))
 obtain⟨k,T⟩:=List.getElem?_of_mem c;exact (F k s T).ld
theorem Jf {W:Wk}{beat:Int}:∀{D:List (List Str)},Fils W beat D->(∀s∈D,s.Nodup/\∀n∈s,n∈W.tasks.map (·.1))->D.flatten.Nodup:=by
 intro D;induction hl:D.length generalizing D with
 |zero=>intro _ _;rw[X6.mp hl];exact Y7
 |succ m r =>
 intro F g;obtain⟨A,l,rfl⟩:∃A l,D=A++[l]:=by refine⟨D.dropLast,D.getLast (by intro z;rw[z] at hl;cases hl),(Zg _).symm⟩
 have j:A.length=m:=by simp at hl;exact hl
 have p:Fils W beat A:=fun k s e=>by
  have q:k<A.length:=by
   rcases Nat.lt_or_ge k A.length with z | z
   ·exact z
   rw[Xb z] at e;cases e
  have:=F k s (by rw[U_ q];exact e)
  rwa [YB (by omega)] at this
 rw[Y5,List.flatten_singleton,Yq];have c:=g l (by simp);refine⟨r j p fun s h=>g s (Xr _ h),c.1,fun a o b d e=>?_⟩;subst e;obtain⟨t,i,rfl⟩:=i_.mp (c.2 a d);have f:=F A.length l (by rw[E_ (j_ _)];simp);rw[List.take_left' rfl] at f;exact (f.one t i d).1 o
def Vl:Sp3:=fun ts H Q=>∃(d:Addr) (W:Wk),ts=[.ref d,W.enc]/\WkOk W/\Cl H d/\∀(n:Int) (H':Hp3),0<=n->Drw d H H'->Q (.int n) H'
theorem vP:∀{l:List Int},(∀x∈l,0<=x)->0<=l.sum
 |[],_=>Xo _
 |x::r,h=>by
  have c:=h x m_
  have b:=vP fun y a=>h y (F_ _ a)
  rw[XD]
  omega
theorem Jg {l:List Int}(h:∀x∈l,0<=x) (i:Nat):0<=l.getD i 0:=by
 rw[W8];cases e:l[i]? with
 |none=>exact Xo _
 |some x=>exact h x (XF e)
theorem Eg {a:List Str}{k:Nat}(h:k<a.length):atI (a.map T.str) (k:Int)=some (.str (a.getD k "")):=bN (by rw[H_,e_ h,W8,e_ h];rfl)
theorem pN:∀ns:List Str,pick ns 0=[]
 |[]=>rfl
 |n::r=>by
  have:=pN r
  unfold pick
  simpa using this
theorem yz:∀(ns:List Str) (b:Int),(pick ns b).Sublist ns
 |[],_=>aaf _
 |n::r,b=>by
  have:=yz r (b / 2)
  unfold pick
  split
  ·
   exact this.cons₂ n
  ·
   exact this.cons n
theorem jW {W:Wk}{ns:List Str}{f:Str->Nat}{m:Nat}(u:WkOk W) (h:ns.Perm (W.tasks.map (·.1))) (q:m<=W.row.length) (w:∀n,f n<m):Dok W (fU ns f m):=by
 have d:∀x,x∈(fU ns f m).flatten↔x∈ns:=fun x=>by
  rw[Yw];constructor
  ·rintro⟨s,o,c⟩;obtain⟨k,_,rfl⟩:=i_.mp o;exact (D_.mp c).1
  intro c;exact⟨_,i_.mpr ⟨f x,I_.mpr (w x),rfl⟩,D_.mpr ⟨c,q_ rfl⟩⟩
 refine⟨by rw[pM];exact q,fun x c=>h.mem_iff.mp ((d x).mp c),?_,fun x c=>(d x).mpr (h.mem_iff.mpr c)⟩;have t:=h.nodup_iff.mpr u.nd;unfold fU;have:∀l:List Nat,l.Nodup->((l.map fun k=>ns.filter fun n=>decide (f n=k)).flatten).Nodup:=by
  intro l;induction l with
  |nil=>intro _;exact Y7
  |cons k r z =>
  intro g;rw[Xn] at g;rw[y_,Yo,Yq];refine⟨List.filter_sublist.nodup t,z g.2,fun a p b i e=>?_⟩;subst e;obtain⟨s,o,i⟩:=Yw.mp i;obtain⟨j,y,rfl⟩:=i_.mp o;have A:=Xa (D_.mp p).2;have v:=Xa (D_.mp i).2;exact g.1 (by rw[<- A,v];exact y)
 exact this _ List.nodup_range
theorem zR (m:Nat):List.range (m+m)=List.range m++(List.range m).map (·+m):=by
 rw[List.range_add];congr 1;exact Xq fun a _=>Nat.add_comm _ _
theorem yC:∀(ws:List Str) (b:Int),(pick ws b).length<=ws.length
 |[],_=>j_ _
 |x::r,b=>by
  unfold pick
  have:=yC r (b / 2)
  split
  ·
   rw[d_,d_];omega
  ·
   rw[d_];omega
def dH (b a:Nat):Bool:=decide (Builtin.bitAnd (b:Int) (a:Int)=(a:Int))
theorem iI (b a:Nat):dH b a=true↔b &&& a=a:=by
 unfold dH;rw[v_,jE];exact Int.ofNat_inj
def nm (W:Wk):List Str:=W.tasks.map (·.1)
def pk (W:Wk) (i:Nat):List Str:=pick (nm W) (i:Int)
def top2 (W:Wk):Nat:=2^W.tasks.length
theorem jw (W:Wk):(nm W).length=W.tasks.length:=b_ _
theorem fG {W:Wk}(a:WkOk W) {i:Nat}(h:i<top2 W):bV (nm W) (pk W i)=i:=by
 have b:((i:Int))<2^(nm W).length:=by
  have e:((2^W.tasks.length:Nat):Int)=(2:Int)^W.tasks.length:=by push_cast;rfl
  rw[jw,<- e];exact Int.ofNat_lt.mpr h
 have:=Dy (ns:=nm W) a.nd (Yh i) b;rw[cH] at this;exact Int.ofNat.inj this
theorem lE {W:Wk}(A:List Str):bV (nm W) A<top2 W:=by
 have:=tZ (nm W) A;rw[cH,jw] at this;have e:((2^W.tasks.length:Nat):Int)=(2:Int)^W.tasks.length:=by push_cast;rfl
 rw[<- e] at this;exact Int.ofNat_lt.mp this
theorem Vm {W:Wk}(a:WkOk W) (A:List Str):pk W (bV (nm W) A)=(nm W).filter fun x=>decide (x∈A):=by
 unfold pk;rw[<- cH];exact t6 _ _ a.nd
theorem iJ {W:Wk}(a:WkOk W) {A:List Str}{x:Str}:x∈pk W (bV (nm W) A)↔x∈nm W/\x∈A:=by
 rw[Vm a,D_,v_]
theorem gW {W:Wk}{i:Nat}{x:Str}(h:x∈pk W i):x∈nm W:=gF _ _ x h
theorem K7 {W:Wk}(a:WkOk W) (i:Nat):(pk W i).Nodup:=(yz _ _).nodup a.nd
theorem gY:∀(ns A B:List Str),(∀x∈ns,x∈B↔x∉A)->bV ns A+bV ns B+1=2^ns.length
 |[],_,_,_=>rfl
 |x::r,A,B,h=>by
  have d:=gY r A B fun y c=>h y (F_ _ c)
  have b:=h x m_
  simp only[bV,d_,Nat.pow_succ]
  by_cases a:x∈A
  ·
   rw[if_pos a,if_neg (fun z=>b.mp z a)];omega
  ·
   rw[if_neg a,if_pos (b.mpr a)];omega
theorem iK:∀(ns A B:List Str),(∀x∈ns,¬(x∈A/\x∈B))->bV ns A+bV ns B=bV ns (A++B)
 |[],_,_,_=>rfl
 |x::r,A,B,h=>by
  have e:=iK r A B fun y c=>h y (F_ _ c)
  have d:=h x m_
  simp only[bV,A_]
  by_cases a:x∈A
  ·
   have b:x∉B:=fun z=>d ⟨a,z⟩
   simp only[a,b,if_true,Xd,Za];omega
  ·
   by_cases b:x∈B
   ·
    simp only[a,b,if_true,Xd,or_true];omega
   ·
    simp only[a,b,Xd,or_self];omega
theorem Eh {W:Wk}{A B:List Str}:dH (bV (nm W) A) (bV (nm W) B)=true↔∀x∈nm W,x∈B->x∈A:=by
 unfold dH;rw[v_,<- cH,<- cH];exact fM _ _ _
def uf (N:Nat):List Nat:=(List.range (N+1)).filter (dH N)
theorem Jh {N i:Nat}(h:dH N i=true):i<=N:=by
 have:=(iI N i).mp h;have:=Nat.and_le_left (n:=N) (m:=i);omega
theorem yD {N M:Nat}(h:N<M):(List.range M).filter (dH N)=uf N:=by
 obtain⟨k,rfl⟩:∃k,M=(N+1)+k:=⟨M - (N+1),by omega⟩;unfold uf;rw[List.range_add,Yi];have:((List.range k).map fun x=>N+1+x).filter (dH N)=[]:=by rw[Yr];intro a b;obtain⟨x,_,rfl⟩:=i_.mp b;intro z;have:=Jh z;omega
 rw[this,J_]
theorem ug {N k i:Nat}(e:i<2^k):dH N (i+2^k)=(dH N (2^k)&&dH N i):=by
 have b:i+2^k=2^k ||| i:=by have:=Nat.two_pow_add_eq_or_of_lt e 1;rw[Nat.mul_one] at this;omega
 rw[Xf,Xm,iI,iI,iI,b];constructor
 ·intro h;have c:∀j,(N &&& (2^k ||| i)).testBit j=(2^k ||| i).testBit j:=fun j=>by rw[h]
  refine⟨Nat.eq_of_testBit_eq fun j=>?_,Nat.eq_of_testBit_eq fun j=>?_⟩
  ·have:=c j;rw[Nat.testBit_and,Nat.testBit_or] at this;rw[Nat.testBit_and];cases a:(2^k).testBit j <;> simp_all
  have:=c j;rw[Nat.testBit_and,Nat.testBit_or] at this;rw[Nat.testBit_and];cases a:i.testBit j <;> simp_all
 rintro⟨a,d⟩;rw[Nat.and_or_distrib_left,a,d]
theorem Ei {N k:Nat}:(List.range (2^(k+1))).filter (dH N)=(List.range (2^k)).filter (dH N)++if dH N (2^k)=true then ((List.range (2^k)).filter (dH N)).map (·+2^k) else []:=by
 rw[show 2^(k+1)=2^k+2^k by rw[Nat.pow_succ];omega,zR,Yi];congr 1;rw[List.filter_map];by_cases h:dH N (2^k)=true
 ·rw[if_pos h];congr 1;refine X5 fun i a=>?_;show dH N (i+2^k)=dH N i;rw[ug (I_.mp a),h,aai]
 rw[if_neg h,Yr.mpr,Xy];intro i a;show ¬dH N (i+2^k)=true;rw[ug (I_.mp a),Xm];exact fun z=>h z.1
def fil (W:Wk) (beat:Int) (k d i:Nat):Bool:=vJ W beat (W.row.getD k "") (pk W d) (pk W i)
def fls (W:Wk) (beat:Int) (k d:Nat):List Nat:=(List.range (top2 W)).filter (fil W beat k d)
theorem fls_mem {W:Wk}{beat:Int}{k d i:Nat}:i∈fls W beat k d↔i<top2 W/\Fil W beat (W.row.getD k "") (pk W d) (pk W i):=by
 unfold fls;rw[D_,I_];unfold fil;rw[fil_iff]
theorem Fil.apart {W:Wk}{beat:Int}{a:Str}{D S:List Str}(f:Fil W beat a D S) {x:Str}(b:x∈nm W) (d:x∈S):x∉D:=by
 obtain⟨t,c,rfl⟩:=i_.mp b;exact (f.one t c d).1
theorem zT {W:Wk}{beat:Int}{k d:Nat}(c:WkOk W) (m:d<top2 W):(uf (top2 W - 1 - d)).filter (fil W beat k d)=fls W beat k d:=by
 have e:top2 W - 1 - d<top2 W:=by omega
 rw[<- yD e];unfold fls;rw[List.filter_filter];refine X5 fun i g=>?_;have b:=I_.mp g;cases h:fil W beat k d i with
 |false=>rfl
 |true =>
 rw[aai];have f:Fil W beat (W.row.getD k "") (pk W d) (pk W i):=fil_iff.mp h;have j:top2 W - 1 - d=bV (nm W) ((nm W).filter fun x=>decide (x∉pk W d)):=by
  have:=gY (nm W) (pk W d) ((nm W).filter fun x=>decide (x∉pk W d)) fun x a=>by rw[D_,v_];exact⟨fun z=>z.2,fun z=>⟨a,z⟩⟩
  rw[fG c m,jw] at this;unfold top2;omega
 rw[j,show i=bV (nm W) (pk W i) from (fG c b).symm];rw[Eh];intro x a l;rw[D_,v_];exact⟨a,f.apart a l⟩
inductive Frw (W:Wk) (beat:Int):List Nat->Nat->Prop
 |nil:Frw W beat [] 0
 |snoc {fs:List Nat} {d f:Nat}:Frw W beat fs d->fs.length<W.row.length->f∈fls W beat fs.length d->Frw W beat (fs++[f]) (d+f)
theorem lF (W:Wk):pk W 0=[]:=pN _
theorem Frw.ok {W:Wk}{beat:Int}{a:List Nat}{d:Nat}(i:WkOk W) (r:Frw W beat a d):d<top2 W/\a.length<=W.row.length/\(∀x,x∈pk W d↔x∈(a.map (pk W)).flatten)/\Fils W beat (a.map (pk W))/\∀f∈a,f<top2 W:=by
 induction r with
 |nil=>exact⟨Nat.pow_pos (by decide),Yy _,fun x=>by rw[lF];rfl,Fils.nil,fun _ h=>(nomatch h)⟩
 |@snoc a d f r k o n =>
 obtain⟨q,_,j,l,m⟩:=n;obtain⟨c,F⟩:=fls_mem.mp o;have e:d+f=bV (nm W) (pk W d++pk W f):=by rw[<- iK _ _ _ fun x p z=>F.apart p z.2 z.1,fG i q,fG i c]
 refine⟨by rw[e];exact lE _,by rw[a_];exact k,fun x=>?_,?_,fun g b=>?_⟩
 ·rw[e,iJ i,u_,Y5,A_,A_,<- j x];simp only[y_,Xy,Yo,List.flatten_nil,J_];exact⟨fun z=>z.2,fun z=>⟨z.elim gW gW,z⟩⟩
 ·rw[u_];refine l.snoc ?_;rw[b_];exact F.congr j fun x=>Iff.rfl
 rcases A_.mp b with b | b
 ·exact m g b
 rw[g_.mp b];exact c
theorem Frw.of {W:Wk}{beat:Int}(g:WkOk W):∀{D:List (List Str)},D.length<=W.row.length->(∀s∈D,∀n∈s,n∈nm W)->Fils W beat D->Frw W beat (D.map (bV (nm W))) (bV (nm W) D.flatten):=by
 intro D;induction hl:D.length generalizing D with
 |zero=>intro _ _ _;rw[X6.mp hl,Xy,List.flatten_nil,iG];exact .nil
 |succ m p =>
 intro t d F;obtain⟨A,l,rfl⟩:∃A l,D=A++[l]:=⟨D.dropLast,D.getLast (by intro z;rw[z] at hl;cases hl),(Zg _).symm⟩;have i:A.length=m:=by simp at hl;exact hl
 have j:Fils W beat A:=fun k s e=>by
  have o:k<A.length:=by
   rcases Nat.lt_or_ge k A.length with z | z
   ·exact z
   rw[Xb z] at e;cases e
  have:=F k s (by rw[U_ o];exact e)
  rwa [YB (by omega)] at this
 have r:=p i (by omega) (fun s h=>d s (Xr _ h)) j;have f:=F A.length l (by rw[E_ (j_ _)];simp);rw[List.take_left' rfl] at f;have c:=d l (by simp);have b:∀n∈A.flatten,n∈nm W:=fun n a=>by obtain⟨s,h,a⟩:=Yw.mp a;exact d s (Xr _ h) n a
 have:=Frw.snoc r (by rw[b_];omega) (f:=bV (nm W) l) (fls_mem.mpr ⟨lE _,by
  rw[b_]
  exact f.congr (fun x=>by rw[iJ g];exact⟨fun z=>⟨b x z,z⟩,fun z=>z.2⟩) fun x=>by rw[iJ g];exact⟨fun z=>⟨c x z,z⟩,fun z=>z.2⟩⟩)
 rw[iK _ _ _ fun x q z=>f.apart q z.2 z.1] at this;rw[u_,Y5];simpa using this
theorem pO {W:Wk}(b:WkOk W):∀x∈nm W,x∈pk W (top2 W - 1):=fun x a=>by
 have c:bV (nm W) (nm W)=top2 W - 1:=by
  have:=gY (nm W) (nm W) [] fun y d=>by simp [d]
  rw[iG,jw] at this;unfold top2;omega
 rw[<- c,iJ b];exact⟨a,a⟩
theorem pP {W:Wk}{A:List Str}(h:∀x∈nm W,x∈A):bV (nm W) A=top2 W - 1:=by
 have:=gY (nm W) A [] fun y a=>by simp [h y a]
 rw[iG,jw] at this;unfold top2;omega
theorem Frw.dok {W:Wk}{beat:Int}{b:List Nat}(c:WkOk W) (r:Frw W beat b (top2 W - 1)):Dok W (b.map (pk W))/\Fils W beat (b.map (pk W)):=by
 obtain⟨_,f,g,d,_⟩:=r.ok c;have e:∀s∈b.map (pk W),s.Nodup/\∀n∈s,n∈W.tasks.map (·.1):=fun s h=>by obtain⟨i,_,rfl⟩:=i_.mp h;exact⟨K7 c i,fun n a=>gW a⟩
 refine⟨⟨by rw[b_];exact f,fun x j=>?_,Jf d e,fun n a=>(g n).mp (pO c n a)⟩,d⟩;obtain⟨s,h,a⟩:=Yw.mp j;exact (e s h).2 x a
theorem Frw.ofD {W:Wk}{beat:Int}{D:List (List Str)}(a:WkOk W) (h:Dok W D) (F:Fils W beat D):Frw W beat (D.map (bV (nm W))) (top2 W - 1):=by
 have:=Frw.of a h.rw (fun s b=>(h.in b).2) F
 rwa [pP h.al] at this
def cB (i:Nat):T:=.int (i:Int)
def wkF (W:Wk) (beat:Int) (p:Addr):List (Str × T):=[("works",W.enc),("beat",.int beat),("rules",.ref p),("whole",.int ((top2 W:Int) - 1))]
structure Wlk (C:Addr) (W:Wk) (beat:Int) (H:Hp3) (a:Addr):Prop where
 ex:∃p,H a=some (.ins C (wkF W beat p))/\H p=some (.lst (W.tasks.map (ruT W (W.tasks.map (·.1)))))
theorem Wlk.sub {C:Addr}{W:Wk}{beat:Int}{H H':Hp3}{a:Addr}(h:Wlk C W beat H a) (s:Sub3 H H'):Wlk C W beat H' a:=by
 obtain⟨p,c,b⟩:=h.ex;exact⟨p,s _ _ c,s _ _ b⟩
theorem uh {W:Wk}{beat:Int}{p:Addr}:aO "works" (wkF W beat p)=some W.enc:=rfl
theorem Ji {W:Wk}{beat:Int}{p:Addr}:aO "beat" (wkF W beat p)=some (.int beat):=by unfold wkF aO;rw[if_neg (by decide +kernel)];unfold aO;rw[if_pos rfl]
theorem ul {W:Wk}{beat:Int}{p:Addr}:aO "rules" (wkF W beat p)=some (.ref p):=by unfold wkF aO;rw[if_neg (by decide +kernel)];unfold aO;rw[if_neg (by decide +kernel)];unfold aO;rw[if_pos rfl]
theorem um {W:Wk}{beat:Int}{p:Addr}:aO "whole" (wkF W beat p)=some (.int ((top2 W:Int) - 1)):=by unfold wkF aO;rw[if_neg (by decide +kernel)];unfold aO;rw[if_neg (by decide +kernel)];unfold aO;rw[if_neg (by decide +kernel)];unfold aO;rw[if_pos rfl]
theorem Ej {W:Wk}{beat:Int}{p:Addr}{m:Str}(h:m∉(["works","beat","rules","whole"]:List Str)):aO m (wkF W beat p)=none:=by
 simp only[o_,Xu,Za,not_or] at h;unfold wkF;simp only[aO];rw[if_neg (Ne.symm h.1),if_neg (Ne.symm h.2.1),if_neg (Ne.symm h.2.2.1),if_neg (Ne.symm h.2.2.2)]
theorem QC {W:Wk}(a:WkOk W) {i:Nat}(h:i<top2 W):numOf (W.tasks.map (·.1)) (pk W i)=(i:Int):=by
 rw[cH];exact O_ Int.ofNat (fG a h)
theorem lG {W:Wk}(a:WkOk W):top2 W<=256:=ZG (n:=2) (by decide) a.t8
theorem m6 (W:Wk):0<top2 W:=Nat.pow_pos (by decide)
def K8:Sp3:=fun ts H Q=>∃N:Nat,ts=[.int (N:Int)]/\N<256/\∀p,H p=none->Q (.ref p) (up3 H p (.lst ((uf N).map cB)))
def QD (C:Addr):Sp3:=fun ts H Q=>∃(a:Addr) (W:Wk) (beat:Int),ts=[.ref a,W.enc,.int beat]/\WkOk W/\H a=some (.ins C [])/\∀H',(∀b o,b≠a->H b=some o->H' b=some o)->Wlk C W beat H' a->Q .non H'
def Vn (C:Addr):Sp3:=fun ts H Q=>∃(a:Addr) (W:Wk) (beat:Int) (k d:Nat),ts=[.ref a,.int (k:Int),.int (d:Int)]/\WkOk W/\Wlk C W beat H a/\k<W.row.length/\d<top2 W/\∀p,H p=none->Q (.ref p) (up3 H p (.lst ((fls W beat k d).map cB)))
def K9 (C:Addr):Sp3:=fun ts H Q=>∃(a:Addr) (W:Wk) (beat:Int) (i:Nat),ts=[.ref a,.int (i:Int)]/\WkOk W/\Wlk C W beat H a/\i<top2 W/\Q (.int (cJ W.tasks (pk W i))) H
def Vo (C:Addr):Sp3:=fun ts H Q=>∃(a:Addr) (W:Wk) (beat:Int) (b:List Nat),ts=[.ref a,.tup (b.map cB)]/\WkOk W/\Wlk C W beat H a/\b.length<=8/\(∀f∈b,f<top2 W)/\Q (.tup ((b.map (pk W)).map sT)) H
section
variable {α:Type}
def bK (k:Nat):List (Nat × α)->Option α
 |[]=>none
 | (k',v)::r=>if k'=k then some v else bK k r
def putN (k:Nat) (v:α) (E:List (Nat × α)):List (Nat × α) :=
 if (E.any fun e=>decide (e.1=k))=true then E.map (fun e=>if e.1=k then (e.1,v) else e) else E++[(k,v)]
def dI (a:α->T) (E:List (Nat × α)):List (Int × T):=E.map fun e=>((e.1:Int),a e.2)
theorem Ek (a:α->T) (E:List (Nat × α)):(dI a E).length=E.length:=b_ _
theorem lH (a:α->T) (k:Nat):∀E:List (Nat × α),dw (k:Int) (dI a E)=(bK k E).map a
 |[]=>rfl
 | (k',v)::r=>by
  have b:=lH a k r
  unfold dI at b ⊢
  rw[y_]
  unfold dw bK
  by_cases h:k'=k
  ·
   rw[if_pos h,if_pos (show ((k':Nat):Int)=(k:Int) by rw[h])];rfl
  ·
   rw[if_neg h,if_neg (show ¬((k':Nat):Int)=(k:Int) by omega),b]
theorem QF (a:α->T) (k:Nat) (v:α) (E:List (Nat × α)):qK (k:Int) (a v) (dI a E)=dI a (putN k v E):=by
 have b:((dI a E).any fun c=>decide (c.1=(k:Int)))=E.any fun e=>decide (e.1=k):=by unfold dI;rw[List.any_map];congr 1;funext e;show decide ((e.1:Int)=(k:Int))=decide (e.1=k);rw[Zc];omega
 unfold qK putN;rw[b];split
 ·unfold dI;rw[N_,N_];refine Xq fun e _=>?_;show (if (e.1:Int)=(k:Int) then ((e.1:Int),a v) else ((e.1:Int),a e.2))=_;show _=((((if e.1=k then (e.1,v) else e).1:Nat):Int),a (if e.1=k then (e.1,v) else e).2);by_cases h:e.1=k
  ·rw[if_pos h,if_pos (by rw[h])]
  rw[if_neg h,if_neg (by omega)]
 unfold dI;rw[u_];rfl
theorem cW {k:Nat}{v:α}:∀{E:List (Nat × α)},bK k E=some v->(k,v)∈E
 | (k',v')::r,h=>by
  unfold bK at h
  by_cases e:k'=k
  ·
   rw[if_pos e] at h;cases h;subst e;exact m_
  ·
   rw[if_neg e] at h;exact F_ _ (cW h)
theorem m7 {k:Nat}:∀{E:List (Nat × α)},bK k E=none->∀e∈E,e.1≠k
 | (k',v')::r,h,e,a=>by
  unfold bK at h
  by_cases z:k'=k
  ·
   rw[if_pos z] at h;cases h
  ·
   rw[if_neg z] at h
   rcases o_.mp a with rfl | a
   ·
    exact z
   ·
    exact m7 h e a
theorem zU (k:Nat) (v:α) (E:List (Nat × α)):(putN k v E).map (·.1)=if k∈E.map (·.1) then E.map (·.1) else E.map (·.1)++[k]:=by
 have a:(E.any fun e=>decide (e.1=k))=decide (k∈E.map (·.1)):=by rw[Xf,Y9,v_,i_];exact⟨fun ⟨e,h,z⟩=>⟨e,h,Xa z⟩,fun ⟨e,h,z⟩=>⟨e,h,q_ z⟩⟩
 unfold putN;rw[a];by_cases h:k∈E.map (·.1)
 ·rw[if_pos h,if_pos (q_ h),N_];refine Xq fun e _=>?_;show (if e.1=k then (e.1,v) else e).1=e.1;split <;> rfl
 rw[if_neg h,if_neg (Hj h),u_];rfl
theorem m9 {k:Nat}{v:α}{E:List (Nat × α)}{e:Nat × α}(h:e∈putN k v E):e=(k,v)\/(e∈E/\e.1≠k)\/(e∈E/\k∉E.map (·.1)):=by
 unfold putN at h;split at h
 ·obtain⟨x,a,rfl⟩:=i_.mp h;by_cases z:x.1=k
  ·rw[if_pos z,z];exact .inl rfl
  rw[if_neg z];exact .inr (.inl ⟨a,z⟩)
 rename_i b;rcases A_.mp h with h | h
 ·refine .inr (.inr ⟨h,fun z=>b ?_⟩);obtain⟨x,a,e⟩:=i_.mp z;exact Y9.mpr ⟨x,a,q_ e⟩
 exact .inl (g_.mp h)
theorem ni (k:Nat) (v:α) (E:List (Nat × α)):(k,v)∈putN k v E:=by
 unfold putN;split
 ·rename_i h;obtain⟨x,a,e⟩:=Y9.mp h;refine i_.mpr ⟨x,a,?_⟩;have:=Xa e;rw[if_pos this,this]
 exact W9 _ (g_.mpr rfl)
theorem uo {k:Nat}{v:α}{E:List (Nat × α)}{e:Nat × α}(h:e∈E) (a:e.1≠k):e∈putN k v E:=by
 unfold putN;split
 ·exact i_.mpr ⟨e,h,if_neg a⟩
 exact Xr _ h
theorem qX {k:Nat}{v:α}{E:List (Nat × α)}(h:(E.map (·.1)).Nodup):((putN k v E).map (·.1)).Nodup:=by
 rw[zU];split
 ·exact h
 rename_i z;exact kY h z
theorem gZ {k:Nat}{v:α}:∀{E:List (Nat × α)},(E.map (·.1)).Nodup->(k,v)∈E->bK k E=some v
 | (k',v')::r,nd,h=>by
  rw[y_,Xn] at nd
  unfold bK
  rcases o_.mp h with e | h
  ·
   cases e;rw[if_pos rfl]
  ·
   rw[if_neg (fun z=>nd.1 (by rw[z];exact i_.mpr ⟨_,h,rfl⟩))]
   exact gZ nd.2 h
end
def evT (v:Int × List Nat):T:=.tup [.int v.1,.tup (v.2.map cB)]
abbrev Ev:=List (Nat × Int × List Nat)
def ldN (W:Wk) (i:Nat):Int:=cJ W.tasks (pk W i)
def sqs (W:Wk) (a:List Nat):Int:=(a.map fun f=>ldN W f^2).sum
def stp (W:Wk) (d:Nat) (v:Int × List Nat) (B:Ev) (f:Nat):Ev:=match bK (d+f) B with
 |none=>putN (d+f) (v.1+ldN W f^2,v.2++[f]) B
 |some u=>if v.1+ldN W f^2<u.1 then putN (d+f) (v.1+ldN W f^2,v.2++[f]) B else B
def ebh (W:Wk) (beat:Int) (k:Nat) (E:Ev):Ev:=E.foldl (fun B e=>(fls W beat k e.1).foldl (stp W e.1 e.2) B) []
def evs (W:Wk) (beat:Int):Nat->Ev
 |0=>[(0,0,[])]
 |k+1=>ebh W beat k (evs W beat k)
structure Tbl (W:Wk) (beat:Int) (k:Nat) (E:Ev):Prop where
 nd:(E.map (·.1)).Nodup
 ok:∀e∈E,Frw W beat e.2.2 e.1/\e.2.2.length=k/\e.2.1=sqs W e.2.2
 al:∀fs d,Frw W beat fs d->fs.length=k->∃e∈E,e.1=d/\e.2.1<=sqs W fs
theorem uq (W:Wk) (a:List Nat) (f:Nat):sqs W (a++[f])=sqs W a+ldN W f^2:=by
 unfold sqs;rw[u_,Zf];simp
structure TbI (W:Wk) (beat:Int) (k:Nat) (sub:Nat->Int × List Nat->Nat->Prop) (B:Ev):Prop where
 nd:(B.map (·.1)).Nodup
 ok:∀e∈B,Frw W beat e.2.2 e.1/\e.2.2.length=k+1/\e.2.1=sqs W e.2.2
 al:∀d v f,sub d v f->∃e∈B,e.1=d+f/\e.2.1<=v.1+ldN W f^2
theorem TbI.step {W:Wk}{beat:Int}{k:Nat}{sub:Nat->Int × List Nat->Nat->Prop}{B:Ev}{d:Nat}{v:Int × List Nat}{f:Nat}(h:TbI W beat k sub B) (s:Frw W beat v.2 d) (o:v.2.length=k) (r:v.1=sqs W v.2) (w:k<W.row.length) (t:f∈fls W beat k d) :
  TbI W beat k (fun d' g i=>sub d' g i\/(d'=d/\g=v/\i=f)) (stp W d v B f):=by
 have j:Frw W beat (v.2++[f]) (d+f)/\(v.2++[f]).length=k+1/\v.1+ldN W f^2=sqs W (v.2++[f]) :=
  ⟨.snoc s (by omega) (by rw[o];exact t),by rw[a_,o];rfl,by rw[uq,r]⟩
 unfold stp;cases e:bK (d+f) B with
 |none =>
  refine⟨qX h.nd,fun x a=>?_,fun d' g i b=>?_⟩
  ·rcases m9 a with rfl | ⟨a,_⟩ | ⟨a,_⟩
   ·exact j
   ·exact h.ok x a
   exact h.ok x a
  rcases b with b | ⟨rfl,rfl,rfl⟩
  ·obtain⟨x,a,l,m⟩:=h.al d' g i b;exact⟨x,uo a (m7 e x a),l,m⟩
  exact⟨_,ni _ _ _,rfl,Xo _⟩
 |some u =>
  have p:=cW e
  show TbI W beat k _ (if v.1+ldN W f^2<u.1 then putN (d+f) (v.1+ldN W f^2,v.2++[f]) B else B)
  by_cases c:v.1+ldN W f^2<u.1
  ·
   rw[if_pos c]
   refine⟨qX h.nd,fun x a=>?_,fun d' g i b=>?_⟩
   ·
    rcases m9 a with rfl | ⟨a,_⟩ | ⟨a,_⟩
    ·
     exact j
    ·
     exact h.ok x a
    ·
     exact h.ok x a
   ·
    rcases b with b | ⟨rfl,rfl,rfl⟩
    ·
     obtain⟨x,a,l,m⟩:=h.al d' g i b
     by_cases z:x.1=d+f
     ·
      have n:x.2=u:=by
       have q:=gZ h.nd (show (x.1,x.2)∈B from a)
       rw[z,e] at q
       exact (Q_ q).symm
      exact⟨_,ni _ _ _,by rw[<- l,z],by rw[n] at m;show v.1+ldN W f^2<=_;omega⟩
     ·
      exact⟨x,uo a z,l,m⟩
    ·
     exact⟨_,ni _ _ _,rfl,Xo _⟩
  ·
   rw[if_neg c]
   refine⟨h.nd,h.ok,fun d' g i b=>?_⟩
   rcases b with b | ⟨rfl,rfl,rfl⟩
   ·
    exact h.al d' g i b
   ·
    exact⟨_,p,rfl,by show u.1<=_;omega⟩
theorem TbI.inner {W:Wk}{beat:Int}{k:Nat}{sub:Nat->Int × List Nat->Nat->Prop}{B:Ev}{d:Nat}{v:Int × List Nat}(s:Frw W beat v.2 d) (n:v.2.length=k) (p:v.1=sqs W v.2) (q:k<W.row.length) :
  ∀{xs:List Nat},(∀f∈xs,f∈fls W beat k d)->TbI W beat k sub B->TbI W beat k (fun d' a b=>sub d' a b\/(d'=d/\a=v/\b∈xs)) (xs.foldl (stp W d v) B):=by
 intro xs;induction xs generalizing sub B with
 |nil=>intro _ h;exact⟨h.nd,h.ok,fun d' a b e=>h.al d' a b (e.resolve_right fun z=>nomatch z.2.2)⟩
 |cons f r t =>
 intro l h;have i:=t (fun g o=>l g (F_ _ o)) (h.step s n p q (l f m_));refine⟨i.nd,i.ok,fun d' a b e=>i.al d' a b ?_⟩;rcases e with e | ⟨m,j,c⟩
 ·exact .inl (.inl e)
 rcases o_.mp c with c | c
 ·exact .inl (.inr ⟨m,j,c⟩)
 exact .inr ⟨m,j,c⟩
theorem TbI.outer {W:Wk}{beat:Int}{k:Nat}(c:k<W.row.length):∀{xs:Ev}{sub:Nat->Int × List Nat->Nat->Prop}{B:Ev},(∀e∈xs,Frw W beat e.2.2 e.1/\e.2.2.length=k/\e.2.1=sqs W e.2.2)->TbI W beat k sub B ->
  TbI W beat k (fun d v f=>sub d v f\/((d,v)∈xs/\f∈fls W beat k d)) (xs.foldl (fun B e=>(fls W beat k e.1).foldl (stp W e.1 e.2) B) B)
 |[],_,_,_,h=>⟨h.nd,h.ok,fun d v f a=>h.al d v f (a.resolve_right fun z=>nomatch z.1)⟩
 |e::r,sub,B,hx,h=>by
  obtain⟨l,j,i⟩:=hx e m_
  have q:=TbI.outer c (xs:=r) (fun x b=>hx x (F_ _ b)) (TbI.inner (xs:=fls W beat k e.1) l j i c (fun f m=>m) h)
  refine⟨q.nd,q.ok,fun d v f a=>q.al d v f ?_⟩
  rcases a with a | ⟨n,g⟩
  ·
   exact .inl (.inl a)
  ·
   rcases o_.mp n with z | z
   ·
    rw[<- z] at *
    exact .inl (.inr ⟨rfl,rfl,g⟩)
   ·
    exact .inr ⟨z,g⟩
theorem Frw.inv {W:Wk}{beat:Int}{c:List Nat}{d:Nat}(r:Frw W beat c d) {k:Nat}(b:c.length=k+1):∃a d' f,c=a++[f]/\d=d'+f/\Frw W beat a d'/\a.length=k/\f∈fls W beat k d':=by
 cases r with
 |nil=>cases b
 |@snoc a d' f r g e =>
  have:a.length=k:=by rw[a_] at b;simp at b;exact b
  exact⟨a,d',f,rfl,rfl,r,this,by rw[<- this];exact e⟩
theorem El {W:Wk}{beat:Int}{k:Nat}{E:Ev}(h:Tbl W beat k E) (i:k<W.row.length):Tbl W beat (k+1) (ebh W beat k E):=by
 have q:=TbI.outer (W:=W) (beat:=beat) i (xs:=E) (sub:=fun _ _ _=>False) (B:=[]) h.ok ⟨Y7,fun _ z=>(nomatch z),fun _ _ _ z=>z.elim⟩;refine⟨q.nd,q.ok,fun p d r g=>?_⟩;obtain⟨c,d',f,rfl,rfl,l,a,m⟩:=r.inv g;obtain⟨e,b,o,t⟩:=h.al c d' l a;obtain⟨x,n,j,s⟩:=q.al d' e.2 f (.inr ⟨by rw[<- o];exact b,m⟩);exact⟨x,n,j,by rw[uq];omega⟩
theorem Frw.nil0 {W:Wk}{beat:Int}{a:List Nat}{d:Nat}(r:Frw W beat a d) (h:a=[]):d=0:=by
 cases r with
 |nil=>rfl
 |@snoc c d' f r e b=>exact absurd h (by simp)
theorem dJ {W:Wk}{beat:Int}:∀{k:Nat},k<=W.row.length->Tbl W beat k (evs W beat k)
 |0,_=>⟨by simp [evs],fun e b=>by rw[g_.mp (show e∈[(0,0,[])] from b)];exact⟨.nil,rfl,rfl⟩,fun f d r c=>by
  have a:=X6.mp c
  exact⟨_,g_.mpr rfl,(r.nil0 a).symm,by rw[a];exact Xo _⟩⟩
 |k+1,h=>El (dJ (k:=k) (by omega)) h
structure EOk (W:Wk) (n:Nat) (E:Ev):Prop where
 nd:(E.map (·.1)).Nodup
 lt:∀e∈E,e.1<top2 W/\e.2.2.length<=n/\∀f∈e.2.2,f<top2 W
theorem EOk.len {W:Wk}{n:Nat}{E:Ev}(h:EOk W n E):E.length<=top2 W:=by
 have:=Dz (l:=E.map (·.1)) (m:=List.range (top2 W)) h.nd fun x b=>by obtain⟨e,a,rfl⟩:=i_.mp b;exact I_.mpr (h.lt e a).1
 rwa [b_,k_] at this
theorem yE {W:Wk}{beat:Int}{k d f:Nat}(b:WkOk W) (h:d<top2 W) (c:f∈fls W beat k d):d+f<top2 W:=by
 obtain⟨a,F⟩:=fls_mem.mp c;have e:d+f=bV (nm W) (pk W d++pk W f):=by rw[<- iK _ _ _ fun x g z=>F.apart g z.2 z.1,fG b h,fG b a]
 rw[e];exact lE _
theorem EOk.stp {W:Wk}{beat:Int}{k n d f:Nat}{v:Int × List Nat}{B:Ev}(l:WkOk W) (h:EOk W (n+1) B) (m:d<top2 W) (j:v.2.length<=n) (e:∀f∈v.2,f<top2 W) (i:f∈fls W beat k d):EOk W (n+1) (stp W d v B f):=by
 have c:EOk W (n+1) (putN (d+f) (v.1+ldN W f^2,v.2++[f]) B):=⟨qX h.nd,fun x b=>by
  rcases m9 b with rfl | ⟨b,_⟩ | ⟨b,_⟩
  ·
   refine⟨yE l m i,by rw[a_];simp;exact j,fun g a=>?_⟩
   rcases A_.mp a with a | a
   ·
    exact e g a
   ·
    rw[g_.mp a];exact (fls_mem.mp i).1
  ·
   exact h.lt x b
  ·
   exact h.lt x b⟩
 unfold M.stp;split
 ·exact c
 split
 ·exact c
 exact h
theorem Tbl.eok {W:Wk}{beat:Int}{k:Nat}{E:Ev}(c:WkOk W) (h:Tbl W beat k E):EOk W k E:=⟨h.nd,fun e a=>by
 obtain⟨r,f,_⟩:=h.ok e a;obtain⟨b,_,_,_,d⟩:=r.ok c;exact⟨b,by omega,d⟩⟩
theorem lJ {W:Wk}(c:WkOk W) (S:List Str):0<=cJ W.tasks S/\cJ W.tasks S<10^61:=by
 have h:∀l:List (Str × Int × List Str),(∀t∈l,tkOk t)->0<=(l.map (·.2.1)).sum/\(l.map (·.2.1)).sum<=l.length*10^60:=by
  intro l;induction l with
  |nil=>intro _;exact⟨Xo _,Xo _⟩
  |cons t r e =>
  intro a;obtain⟨b,d⟩:=e fun x f=>a x (F_ _ f);have q:=a t m_;have j:=q.lo;have i:=q.hi;rw[y_,XD,d_];constructor
  ·omega
  push_cast
  omega
 obtain⟨b,d⟩:=h (W.tasks.filter fun t=>decide (t.1∈S)) fun t a=>c.tk t (D_.mp a).1;have g:(W.tasks.filter fun t=>decide (t.1∈S)).length<=8:=W6 (Xi _ _) c.t8;unfold cJ;exact⟨b,by omega⟩
theorem dM {x:Int}(c:0<=x) (b:x<10^61):x.natAbs<2^1000:=by
 have a:x.natAbs<10^61:=by omega
 exact ZM a (by decide +kernel)
def evE (e:Nat × Int × List Nat):T:=.tup [.int (e.1:Int),evT e.2]
theorem Vp (E:Ev):(dI evT E).map itT=E.map evE:=by unfold dI;rw[N_];rfl
def ebF (W:Wk) (beat:Int) (k:Nat) (B:Ev) (e:Nat × Int × List Nat):Ev:=(fls W beat k e.1).foldl (stp W e.1 e.2) B
def Vq (C:Addr):Sp3:=fun ts H Q=>∃(a q:Addr) (W:Wk) (beat:Int) (k n:Nat) (E:Ev),ts=[.ref a,.int (k:Int),.ref q]/\WkOk W/\Wlk C W beat H a/\k<W.row.length/\n<=8/\EOk W n E/\H q=some (.dci (dI evT E))/\∀o p,H p=none->Q (.ref p) (up3 (up3 H q (.dif o (dI evT E))) p (.dci (dI evT (ebh W beat k E))))
def QG (W:Wk) (beat:Int) (H:Hp3) (b:List Addr):Prop:=∀(j:Nat) (a:Addr),b[j]?=some a->∃o,H a=some (.dif o (dI evT (evs W beat j)))
def QH (C:Addr):Sp3:=fun ts H Q=>∃(a:Addr) (W:Wk) (beat:Int) (m:Nat),ts=[.ref a,.int (m:Int)]/\WkOk W/\Wlk C W beat H a/\m<=W.row.length/\∀(H':Hp3) (p:Addr) (b:List Addr) (q:Addr),Sub3 H H'->b.length=m->H' p=some (.lst (b.map T.ref++[.ref q]))->QG W beat H' b->H' q=some (.dci (dI evT (evs W beat m)))->Q (.ref p) H'
def meT (W:Wk) (beat:Int) (m:Nat):T:=match bK (top2 W - 1) (evs W beat m) with
 |none=>.non
 |some v=>.tup [.int v.1,.tup ((v.2.map (pk W)).map sT)]
def Vr:Sp3:=fun ts H Q=>∃(W:Wk) (beat:Int) (m:Nat),ts=[W.enc,.int beat,.int (m:Int)]/\WkOk W/\m<=W.row.length/\Q (meT W beat m) H
theorem Wlk.frz {C:Addr}{W:Wk}{beat:Int}{H:Hp3}{a q:Addr}{o:O3}{E:List (Int × T)}(h:Wlk C W beat H a) (b:H q=some (.dci E)):Wlk C W beat (up3 H q o) a:=by
 obtain⟨p,d,c⟩:=h.ex;exact⟨p,by rw[aD (ne3 d b (by simp))];exact d,by rw[aD (ne3 c b (by simp))];exact c⟩
def Kb1 (a:Addr) (H H':Hp3):Prop:=∀b u,b≠a->H b=some u->H' b=some u
theorem Kb1.new {c p:Addr}{H H':Hp3}{o:O3}(k:Kb1 c H H') (d:H' p=none):Kb1 c H (up3 H' p o):=fun b u a h=>by rw[aD (aZ (k b u a h) d)];exact k b u a h
theorem Kb1.put {a:Addr}{H H':Hp3}{o:O3}(k:Kb1 a H H'):Kb1 a H (up3 H' a o):=fun b u c h=>by rw[aD c];exact k b u c h
theorem Kb1.wlk {C:Addr}{W:Wk}{beat:Int}{d a:Addr}{H H':Hp3}(k:Kb1 d H H') (b:H d=none) (h:Wlk C W beat H a):Wlk C W beat H' a:=by
 obtain⟨p,e,c⟩:=h.ex;exact⟨p,k _ _ (aZ e b) e,k _ _ (aZ c b) c⟩
structure Hol (W:Wk) (f:Str->Nat):Prop where
 ord:∀o∈W.orders,f o.1<=f o.2
 pai:∀p∈W.pairs,f p.2.1=f p.2.2↔p.1="with"
 kin:∀t∈W.tasks,jG t.2.2 (W.row.getD (f t.1) "")=true
theorem Hol.congr {W:Wk}{f g:Str->Nat}(a:WkOk W) (h:Hol W f) (e:∀n∈nm W,f n=g n):Hol W g :=
 ⟨fun o c=>by
  have q:=a.oo o c
  rw[<- e _ q.2.1,<- e _ q.2.2];exact h.ord o c,fun p b=>by
  have q:=a.pp p b
  rw[<- e _ q.2.2.1,<- e _ q.2.2.2];exact h.pai p b,fun t d=>by
  rw[<- e _ (i_.mpr ⟨t,d,rfl⟩)];exact h.kin t d⟩
def ldF (ts:List (Str × Int × List Str)) (f:Str->Nat) (k:Nat):Int:=((ts.filter fun t=>decide (f t.1=k)).map (·.2.1)).sum
def lds (W:Wk) (f:Str->Nat) (m:Nat):List Int:=(List.range m).map (ldF W.tasks f)
theorem zV {ts:List (Str × Int × List Str)}{f g:Str->Nat}(e:∀t∈ts,f t.1=g t.1) (k:Nat):ldF ts f k=ldF ts g k:=by
 have:(ts.filter fun t=>decide (f t.1=k))=ts.filter fun t=>decide (g t.1=k):=X5 fun t a=>by rw[e t a]
 unfold ldF;rw[this]
theorem jX {W:Wk}{f g:Str->Nat}(e:∀n∈nm W,f n=g n) (m:Nat):lds W f m=lds W g m :=
 Xq fun k _=>zV (fun t a=>e _ (i_.mpr ⟨t,a,rfl⟩)) k
theorem ur (A:List (Str × Int × List Str)) (t:Str × Int × List Str) (f:Str->Nat) (k:Nat):ldF (A++[t]) f k=ldF A f k+if f t.1=k then t.2.1 else 0:=by
 unfold ldF;rw[Yi,u_,Zf];by_cases h:f t.1=k <;> simp [h]
theorem Jj {A:List (Str × Int × List Str)}{t:Str × Int × List Str}{f:Str->Nat}{m:Nat}(h:f t.1<m):((List.range m).map (ldF A f)).set (f t.1) (ldF A f (f t.1)+t.2.1)=(List.range m).map (ldF (A++[t]) f):=by
 apply aab;intro i;by_cases a:i<m
 ·rw[H_,Xp a];by_cases e:i=f t.1
  ·subst e;rw[YH (by rw[b_,k_];exact a),Zh,ur,if_pos rfl]
  rw[YS (Ne.symm e),H_,Xp a,Zh,Zh,ur,if_neg (Ne.symm e),Int.add_zero]
 rw[Xb (by rw[List.length_set,b_,k_];omega),Xb (by rw[b_,k_];omega)]
theorem Em {ns:List Str}{f:Str->Nat}{m k:Nat}(a:k<m):(fU ns f m)[k]?=some (ns.filter fun n=>decide (f n=k)):=by
 unfold fU;rw[H_,Xp a];rfl
theorem En {W:Wk}{f:Str->Nat}{m:Nat}(b:WkOk W) (d:m<=W.row.length) (a:∀n,f n<m):∀n∈nm W,fD (fU (nm W) f m) n=f n:=fun n c =>
 fV (jW b (ZF _) d a).nd (Em (a n)) (D_.mpr ⟨c,q_ rfl⟩)
theorem ie {W:Wk}{f:Str->Nat}{k:Nat}:cJ W.tasks ((nm W).filter fun n=>decide (f n=k))=ldF W.tasks f k:=by
 have e:(W.tasks.filter fun t=>decide (t.1∈(nm W).filter fun n=>decide (f n=k)))=W.tasks.filter fun t=>decide (f t.1=k):=X5 fun t a=>by rw[Zc,D_,v_];exact⟨fun z=>z.2,fun z=>⟨i_.mpr ⟨t,a,rfl⟩,z⟩⟩
 unfold cJ ldF;rw[e]
theorem Eo {W:Wk}{beat:Int}{f:Str->Nat}{m:Nat}(a:WkOk W) (i:m<=W.row.length) (o:∀n,f n<m) (h:Hol W f) (r:∀l∈lds W f m,l<=beat):Fils W beat (fU (nm W) f m):=by
 have d:Dok W (fU (nm W) f m):=jW (W:=W) a (ZF _) i o;have e:=En a i o;have c:=h.congr a (g:=fD (fU (nm W) f m)) fun n q=>(e n q).symm;refine (ue a d).mp ⟨c.ord,c.pai,fun k s j t p b=>?_,fun s b=>?_⟩
 ·have:=fV d.nd j b;have:=c.kin t p
  rwa [fV d.nd j b] at this
 obtain⟨k,u,rfl⟩:=i_.mp b;show cJ W.tasks ((nm W).filter fun n=>decide (f n=k))<=beat
 rw[ie];exact r _ (i_.mpr ⟨k,u,rfl⟩)
def ssq (l:List Int):Int:=(l.map fun x=>x*x).sum
theorem zW {W:Wk}{f:Str->Nat}{m:Nat}(a:WkOk W):sqs W ((fU (nm W) f m).map (bV (nm W)))=ssq (lds W f m):=by
 unfold sqs ssq lds fU;rw[N_,N_,N_];refine O_ List.sum (Xq fun k _=>?_);show ldN W (bV (nm W) ((nm W).filter fun n=>decide (f n=k)))^2=ldF W.tasks f k*ldF W.tasks f k;have:ldN W (bV (nm W) ((nm W).filter fun n=>decide (f n=k)))=ldF W.tasks f k:=by unfold ldN;rw[<- ie];exact iH fun x=>by rw[iJ a];exact⟨fun z=>z.2,fun z=>⟨(D_.mp z).1,z⟩⟩
 rw[this,X4,X4,Int.pow_zero,Z_]
theorem yF {W:Wk}{beat:Int}{f:Str->Nat}{m:Nat}(b:WkOk W) (a:m<=W.row.length) (d:∀n,f n<m) (h:Hol W f) (j:∀l∈lds W f m,l<=beat):∃v,bK (top2 W - 1) (evs W beat m)=some v/\v.1<=ssq (lds W f m):=by
 have i:Dok W (fU (nm W) f m):=jW (W:=W) b (ZF _) a d;have r:=Frw.ofD b i (Eo b a d h j);obtain⟨e,g,k,c⟩:=(dJ (W:=W) (beat:=beat) a).al _ _ r (by rw[b_,pM]);rw[zW b] at c;exact⟨e.2,gZ (dJ a).nd (by rw[<- k];exact g),c⟩
theorem Jk {W:Wk}{beat:Int}{m:Nat}{v:Int × List Nat}(q:WkOk W) (G:m<=W.row.length) (h:bK (top2 W - 1) (evs W beat m)=some v):∃f:Str->Nat,(∀n,f n<m)/\Hol W f/\(∀l∈lds W f m,l<=beat)/\ssq (lds W f m)=v.1:=by
 obtain⟨r,I,L⟩:=(dJ (W:=W) (beat:=beat) G).ok _ (cW h);have j:v.2.length=m:=I;have y:v.1=sqs W v.2:=L;obtain⟨a,F⟩:=r.dok q;have R:=(ue q a).mpr F;have C:0<m:=by
  rcases Nat.eq_zero_or_pos m with z | z
  ·subst z;have A:v.2=[]:=X6.mp j;obtain⟨t,p⟩:∃t,t∈W.tasks:=List.exists_mem_of_length_pos (by have:=q.t1;omega);have:=a.al t.1 (i_.mpr ⟨t,p,rfl⟩);have E:((top2 W - 1,v):Nat × Int × List Nat).2.2=[]:=A;rw[E] at this;cases this
  exact z
 have M:((top2 W - 1,v):Nat × Int × List Nat).2.2=v.2:=rfl;rw[M] at a F R;have D:∀n∈nm W,fD (v.2.map (pk W)) n<m:=fun n c=>by
  obtain⟨k,s,e,b⟩:=jK (a.al n c);rw[fV a.nd e b];have:k<(v.2.map (pk W)).length:=by
   rcases Nat.lt_or_ge k (v.2.map (pk W)).length with z | z
   ·exact z
   rw[Xb z] at e;cases e
  rwa [b_,j] at this
 have K:Hol W (fD (v.2.map (pk W))):=⟨R.ord,R.pai,fun t p=>by
  obtain⟨k,s,e,b⟩:=jK (a.al t.1 (i_.mpr ⟨t,p,rfl⟩))
  rw[fV a.nd e b]
  exact R.kin k s e t p b⟩
 have o:lds W (fD (v.2.map (pk W))) m=(v.2.map (ldN W)):=by
  apply aab;intro k;by_cases H:k<m
  ·unfold lds;rw[H_,Xp H,H_,e_ (show k<v.2.length by omega)];show some (ldF W.tasks (fD (v.2.map (pk W))) k)=some (ldN W v.2[k]);congr 1;have e:(v.2.map (pk W))[k]?=some (pk W v.2[k]):=by rw[H_,e_ (show k<v.2.length by omega)];rfl
   unfold ldN;rw[<- ie];refine iH fun x=>?_;rw[D_,v_];constructor
   ·rintro⟨u,w⟩;obtain⟨N,s,B,b⟩:=jK (a.al x u);have:=fV a.nd B b;rw[w] at this;subst this;rw[e] at B;cases B;exact b
   intro u;exact⟨gW u,fV a.nd e u⟩
  unfold lds;rw[Xb (by rw[b_,k_];omega),Xb (by rw[b_];omega)]
 refine⟨fun n=>if n∈nm W then fD (v.2.map (pk W)) n else 0,fun n=>?_,K.congr q fun n c=>by rw[if_pos c],?_,?_⟩
 ·show (if n∈nm W then fD (v.2.map (pk W)) n else 0)<m;split
  ·exact D n (by assumption)
  exact C
 ·rw[jX (g:=fD (v.2.map (pk W))) (fun n c=>by rw[if_pos c]) m];intro l d;rw[o] at d;obtain⟨i,J,rfl⟩:=i_.mp d;exact R.bea _ (i_.mpr ⟨i,J,rfl⟩)
 rw[jX (g:=fD (v.2.map (pk W))) (fun n c=>by rw[if_pos c]) m,o,y];unfold ssq sqs;rw[N_];refine O_ List.sum (Xq fun i _=>?_);show ldN W i*ldN W i=ldN W i^2;rw[X4,X4,Int.pow_zero,Z_]
theorem Ep:∀{us vs:List Int},us.Pairwise (·<·)->vs.Pairwise (·<·)->(∀x,x∈us↔x∈vs)->us=vs
 |[],[],_,_,_=>rfl
 |[],v::_,_,_,h=>absurd ((h v).mpr m_) (fun z=>nomatch z)
 |u::_,[],_,_,h=>absurd ((h u).mp m_) (fun z=>nomatch z)
 |u::us,v::vs,hu,hv,h=>by
  rw[Z5] at hu hv
  have e:u=v:=by
   have f:=(h u).mp m_
   have d:=(h v).mpr m_
   rcases o_.mp f with e | f
   ·
    exact e
   ·
    rcases o_.mp d with e | d
    ·
     exact e.symm
    ·
     have a:=hv.1 u f
     have b:=hu.1 v d
     omega
  subst e
  rw[Ep hu.2 hv.2 fun x=>?_]
  have c:=h x
  rw[o_,o_] at c
  constructor
  ·
   intro z
   rcases c.mp (.inr z) with e | e
   ·
    have:=hu.1 x z;omega
   ·
    exact e
  ·
   intro z
   rcases c.mpr (.inr z) with e | e
   ·
    have:=hv.1 x z;omega
   ·
    exact e
def ksN (W:Wk) (ks:List Nat):List Nat:=(List.range (top2 W)).filter fun d=>decide (d∈ks)
theorem QJ {j:Type}{W:Wk}{c:j->T}{E:List (Nat × j)}(m:(E.map (·.1)).Nodup) (n:∀e∈E,e.1<top2 W) {us:List Int}(h:us.Perm ((dI c E).map (·.1))) (o:us.Pairwise (·<=·)):us=(ksN W (E.map (·.1))).map fun (d:Nat)=>(d:Int):=by
 have l:(dI c E).map (·.1)=(E.map (·.1)).map fun (d:Nat)=>(d:Int):=by unfold dI;rw[N_,N_];rfl
 rw[l] at h;have g:us.Nodup:=h.nodup_iff.mpr (List.Pairwise.map _ (fun a b (q:a≠b)=>by omega) m);have i:∀x y:Int,x<=y->x≠y->x<y:=fun x y a b=>by omega
 refine Ep ?_ ?_ fun x=>?_
 ·refine (o.and g).imp fun {x y} q=>?_;exact i _ _ q.1 q.2
 ·refine List.Pairwise.map _ (fun a b (q:a<b)=>by omega) ?_;exact List.Pairwise.filter _ (List.pairwise_lt_range)
 rw[h.mem_iff,i_,i_];unfold ksN;constructor
 ·rintro⟨d,f,rfl⟩;obtain⟨e,k,rfl⟩:=i_.mp f;exact⟨e.1,D_.mpr ⟨I_.mpr (n e k),q_ f⟩,rfl⟩
 rintro⟨d,f,rfl⟩;exact⟨d,Xa (D_.mp f).2,rfl⟩
theorem vQ (W:Wk) (ks:List Nat):(ksN W ks).length<=top2 W:=W6 (Xi _ _) (by rw[k_];exact j_ _)
def tbR (W:Wk) (k d:Nat) (v:Int):T:=.tup [.int (k:Int),sT (pk W d),.int v]
theorem pQ:∀{ns:List Str}{b:Int},ns.Nodup->ns.filter (fun x=>decide (x∈pick ns b))=pick ns b
 |[],_,_=>rfl
 |y::r,b,nd=>by
  rw[Xn] at nd
  have d:=pQ (b:=b / 2) nd.2
  have f:y∉pick r (b / 2):=fun z=>nd.1 (gF _ _ _ z)
  have e:∀x∈r,x≠y:=fun x a z=>nd.1 (z▸a)
  unfold pick
  by_cases c:b%2=1
  ·
   rw[if_pos c,Ym,if_pos (by simp)]
   congr 1
   rw[<- d]
   exact X5 fun x a=>by rw[d];simp [e x a]
  ·
   rw[if_neg c,Ym,if_neg (by simp [f])]
   exact d
theorem yG {W:Wk}(a:WkOk W) (d:Nat):(nm W).filter (fun x=>decide (x∈pk W d))=pk W d:=pQ a.nd
theorem qY (f:Nat->Nat) (c:Nat) (h:∀k,f k<=c):∀xs:List Nat,(xs.map f).sum<=c*xs.length
 |[]=>Yy _
 |x::r=>by
  have b:=qY f c h r
  have a:=h x
  rw[y_,XD,d_,Nat.mul_succ]
  omega
theorem QK (W:Wk) (d:Nat):(pk W d).length<=(nm W).length:=by
 have:∀(ns:List Str) (b:Int),(pick ns b).length<=ns.length:=fun ns=>by
  induction ns with
  |nil=>intro b;exact j_ _
  |cons y r a =>
  intro b;unfold pick;have:=a (b / 2);split <;> simp only[d_] <;> omega
 exact this _ _
def evR (W:Wk) (k:Nat) (E:Ev):List T:=(ksN W (E.map (·.1))).map fun d=>tbR W k d ((bK d E).getD (0,[])).1
def eG (W:Wk) (beat:Int) (m:Nat):List T:=(List.range m).flatMap fun k=>evR W k (evs W beat k)
def Vs:Sp3:=fun ts H Q=>∃(W:Wk) (beat:Int) (m:Nat),ts=[W.enc,.int beat,.int (m:Int)]/\WkOk W/\W.tasks.length<=8/\m<=W.row.length/\∀p,H p=none->Q (.ref p) (up3 H p (.lst (eG W beat (m+1))))
theorem atE {W:Wk}{beat:Int}{H:Hp3}{b:List Addr}{q:Addr}(f:QG W beat H b) (d:H q=some (.dci (dI evT (evs W beat b.length)))) {j:Nat}{a:Addr}(h:(b++[q])[j]?=some a):∃u,H a=some u/\(∀H Q,siL (some u) H Q=((dI evT (evs W beat j)).length<=1024/\∀us:List Int,us.Perm ((dI evT (evs W beat j)).map (·.1))->us.Pairwise (·<=·)->∀p,H p=none->Q (.ref p) (up3 H p (.lst (us.map T.int)))))/\(∀k H Q,dgI (some u) k H Q=oq (dw k (dI evT (evs W beat j))) fun t=>Q t H)/\∀ts,u≠.lst ts:=by
 by_cases e:j<b.length
 ·rw[U_ e] at h;obtain⟨o,g⟩:=f j a h;exact⟨_,g,fun _ _=>rfl,fun _ _ _=>rfl,fun _=>by simp⟩
 have c:j=b.length:=by have:=(Yc.mp h).1;rw[a_,z_] at this;omega
 rw[E_ (by omega),c,Nat.sub_self] at h;rw[c,<- Q_ (show some q=some a from h)];exact⟨_,d,fun _ _=>rfl,fun _ _ _=>rfl,fun _=>by simp⟩
theorem Frw.sum {W:Wk}{beat:Int}{a:List Nat}{D:Nat}(r:Frw W beat a D):D=a.sum:=by
 induction r with
 |nil=>rfl
 |@snoc e d f r g c b=>rw[Zf,<- b];simp
theorem Frw.cut {W:Wk}{beat:Int}{a:List Nat}{D:Nat}(r:Frw W beat a D):∀j,j<=a.length->Frw W beat (a.take j) (a.take j).sum/\∀b,Frw W beat b (a.take j).sum->b.length=j->Frw W beat (b++a.drop j) D:=by
 induction r with
 |nil=>intro j c;have:j=0:=Nat.le_zero.mp c;subst this;exact⟨.nil,fun b h _=>by simpa using h⟩
 |@snoc a d f r k i s =>
 intro j c;rw[a_,z_] at c;by_cases z:j<=a.length
 ·obtain⟨n,m⟩:=s j z;rw[YB z,List.drop_append_of_le_length z];refine⟨n,fun b g l=>?_⟩;rw[<- x_];have e:(b++a.drop j).length=a.length:=by rw[a_,Xe];omega
  exact .snoc (m b g l) (by rw[e];exact k) (by rw[e];exact i)
 have p:j=a.length+1:=by omega
 have t:(a++[f]).take j=a++[f]:=Xk (by rw[a_,z_];omega);have o:(a++[f]).drop j=[]:=XJ (by rw[a_,z_];omega);have q:=Frw.snoc r k i;rw[t,o,<- q.sum];exact⟨q,fun b g _=>by simpa using g⟩
theorem yH (W:Wk) (a b:List Nat):sqs W (a++b)=sqs W a+sqs W b:=by unfold sqs;rw[u_,Zf]
theorem QL {W:Wk}{beat:Int}{m D:Nat}{v:Int × List Nat}(p:m<=W.row.length) (h:bK D (evs W beat m)=some v) {j:Nat}(F:j<=m):∃x,bK (v.2.take j).sum (evs W beat j)=some x/\x.1=sqs W (v.2.take j):=by
 have T:=dJ (W:=W) (beat:=beat) p;obtain⟨r,z,B⟩:=T.ok _ (cW h);have w:v.2.length=m:=z;have u:v.1=sqs W v.2:=B;obtain⟨i,t⟩:=r.cut j (by show j<=v.2.length;omega);have c:=dJ (W:=W) (beat:=beat) (show j<=W.row.length by omega);obtain⟨e,f,l,y⟩:=c.al _ _ i (by show (v.2.take j).length=j;rw[Xc];omega);have a:e.1=(v.2.take j).sum:=l;have n:e.2.1<=sqs W (v.2.take j):=y;refine⟨e.2,gZ c.nd (by rw[<- a];exact f),?_⟩;obtain⟨g,A,E⟩:=c.ok e f;rw[a] at g;have o:=t _ g A;have b:Frw W beat (e.2.2++v.2.drop j) D:=o;obtain⟨x,C,k,s⟩:=T.al _ _ b (by rw[a_,Xe];omega);have d:x.2=v:=by have q:=gZ T.nd (show (x.1,x.2)∈evs W beat m from C);rw[k,h] at q;exact (Q_ q).symm
 rw[d,yH] at s;have G:sqs W v.2=sqs W (v.2.take j)+sqs W (v.2.drop j):=by rw[<- yH,W_]
 omega
theorem Er (ts:List (Str × Int × List Str)) (S A B:List Str) (h:∀x,x∈S↔x∈A\/x∈B) (d:∀x∈A,x∉B):cJ ts S=cJ ts A+cJ ts B:=by
 unfold cJ;induction ts with
 |nil=>rfl
 |cons t r e =>
 rw[Ym,Ym,Ym];have c:=h t.1;by_cases a:t.1∈A
 ·rw[if_pos (q_ (c.mpr (.inl a))),if_pos (q_ a),if_neg (by simpa using d _ a),y_,XD,y_,XD,e];omega
 by_cases b:t.1∈B
 ·rw[if_pos (q_ (c.mpr (.inr b))),if_neg (by simpa using a),if_pos (q_ b),y_,XD,y_,XD,e];omega
 rw[if_neg (by simpa using fun z=>(c.mp z).elim a b),if_neg (by simpa using a),if_neg (by simpa using b),e]
theorem Jl {W:Wk}{beat:Int}{k d f:Nat}(c:WkOk W) (i:d<top2 W) (h:f∈fls W beat k d):ldN W (d+f)=ldN W d+ldN W f:=by
 obtain⟨g,F⟩:=fls_mem.mp h;have e:d+f=bV (nm W) (pk W d++pk W f):=by rw[<- iK _ _ _ fun x a z=>F.apart a z.2 z.1,fG c i,fG c g]
 unfold ldN;refine Er _ _ _ _ (fun x=>?_) fun x a b=>F.apart (gW a) b a;rw[e,iJ c,A_];exact⟨fun z=>z.2,fun z=>⟨z.elim gW gW,z⟩⟩
theorem Frw.ld {W:Wk}{beat:Int}{a:List Nat}{D:Nat}(b:WkOk W) (r:Frw W beat a D):ldN W D=(a.map (ldN W)).sum:=by
 induction r with
 |nil=>unfold ldN cJ;rw[lF,Yr.mpr (fun t _=>by simp)];rfl
 |@snoc g d f r h c e=>rw[Jl b (r.ok b).1 c,e,u_,Zf];simp
theorem Es (x:Int):0<=x*x:=by
 rcases Int.le_total 0 x with h | h
 ·exact Int.mul_nonneg h h
 exact Int.mul_nonneg_of_nonpos_of_nonpos h h
theorem Jm {k S Q x:Int}(a:0<=k) (h:S*S<=k*Q) (i:0<=Q):(S+x)*(S+x)<=(k+1)*(Q+x*x):=by
 have l:(k+1)*(Q+x*x) - (S+x)*(S+x)=(k*Q - S*S)+(Q+k*(x*x) - 2*(S*x)):=by simp only[Int.add_mul,Int.mul_add,Z_,Int.mul_comm x S];omega
 have e:k*(Q+k*(x*x) - 2*(S*x))=(k*Q - S*S)+(S - k*x)*(S - k*x):=by
  have d:(k*x)*(k*x)=k*(k*(x*x)):=by rw[Int.mul_assoc,Int.mul_left_comm x k x]
  have b:S*(k*x)=k*(S*x):=Int.mul_left_comm _ _ _;have c:(k*x)*S=k*(S*x):=by rw[Int.mul_comm,b]
  rw[Int.mul_sub,Int.mul_add,Int.sub_mul,Int.mul_sub,Int.mul_sub,d,b,c,Int.mul_left_comm k 2 (S*x)];omega
 have j:0<=Q+k*(x*x) - 2*(S*x):=by
  rcases Int.lt_or_eq_of_le a with a | a
  ·have:=Es (S - k*x);exact Int.le_of_mul_le_mul_left (by rw[e,Int.mul_zero];omega) a
  subst a;have g:S=0:=by
   have:=Es S;rw[Int.zero_mul] at h;have f:S*S=0:=by omega
   exact (Int.mul_eq_zero.mp f).elim id id
  rw[g];simp only[Int.zero_mul,Int.mul_zero];omega
 omega
theorem Et:∀xs:List Int,0<=(xs.map fun x=>x^2).sum/\xs.sum*xs.sum<=(xs.length:Int)*(xs.map fun x=>x^2).sum
 |[]=>⟨Xo 0,Xo 0⟩
 |x::r=>by
  obtain⟨b,a⟩:=Et r
  have q:=Jm (x:=x) (Yh r.length) a b
  have e:x^2=x*x:=by rw[X4,X4,Int.pow_zero,Z_]
  have:=Es x
  rw[y_,XD,XD,d_,e,Int.add_comm x,Int.add_comm (x*x)]
  exact⟨by omega,q⟩
theorem Vt {W:Wk}{beat:Int}{k d:Nat}{v:Int × List Nat}(j:WkOk W) (l:k<=W.row.length) (h:bK d (evs W beat k)=some v):ldN W d*ldN W d<=(k:Int)*v.1:=by
 obtain⟨r,f,i⟩:=(dJ (W:=W) (beat:=beat) l).ok _ (cW h);have b:v.2.length=k:=f;have a:v.1=sqs W v.2:=i;have e:=r.ld j;have g:ldN W d=(v.2.map (ldN W)).sum:=e;have c:=(Et (v.2.map (ldN W))).2;rw[b_,b,N_] at c;rw[g,a];exact c
def W0 (k:Nat) (t:T):Prop:=∃x y,t=.tup [.int (k:Int),x,y]
theorem yI {W:Wk}{k:Nat}{E:Ev}{t:T}(h:t∈evR W k E):W0 k t:=by
 obtain⟨d,_,rfl⟩:=i_.mp h;exact⟨_,_,rfl⟩
def leK (f:Nat):T->Bool
 |.tup (.int k::_)=>decide (k<=(f:Int))
 |_=>false
theorem Jo {W:Wk}{beat:Int}{m f:Nat}(h:f<=m):(eG W beat (m+1)).filter (leK f)=eG W beat (f+1):=by
 have d:∀xs:List Nat,(xs.flatMap fun k=>evR W k (evs W beat k)).filter (leK f)=(xs.filter fun k=>decide (k<=f)).flatMap fun k=>evR W k (evs W beat k):=fun xs=>by
  induction xs with
  |nil=>rfl
  |cons k r g =>
  rw[Zy,Yi,g,Ym];by_cases c:k<=f
  ·rw[if_pos (q_ c),Zy];congr 1;refine Ye.mpr fun t a=>?_;obtain⟨x,y,rfl⟩:=yI a;exact q_ (by omega)
  rw[if_neg (by simpa using c)];have:(evR W k (evs W beat k)).filter (leK f)=[]:=Yr.mpr fun t a=>by obtain⟨x,y,rfl⟩:=yI a;show ¬decide ((k:Int)<=(f:Int))=true;simp only[v_];omega
  rw[this];rfl
 unfold eG;rw[d];congr 1;obtain⟨n,rfl⟩:∃n,m=f+n:=⟨m - f,by omega⟩;rw[show f+n+1=(f+1)+n by omega,List.range_add,Yi];have i:(List.range (f+1)).filter (fun k=>decide (k<=f))=List.range (f+1):=Ye.mpr fun k b=>q_ (by have:=I_.mp b;omega);have e:((List.range n).map fun k=>f+1+k).filter (fun k=>decide (k<=f))=[]:=Yr.mpr fun k b=>by obtain⟨j,_,rfl⟩:=i_.mp b;simp only[v_];omega
 rw[i,e,J_]
def sqD (W:Wk) (D:List (List Str)):Int:=(D.map fun s=>smL W.tasks s*smL W.tasks s).sum
structure GoD (W:Wk) (kvs:List (NK × T)) (D:List (List Str)) (don:Nat->List Str):Prop where
 z:don 0=[]
 l:∀j,j<=D.length->cj ((j:Int),don j) kvs=some (.int (sqD W (D.take j)))
 s:∀j s,D[j]?=some s->(W.tasks.map (·.1)).filter (fun x=>decide (x∈don j++s))=don (j+1)
 d8:D.length<=8
 n8:∀ns∈D,ns.length<=8/\∀n∈ns,n∈W.tasks.map (·.1)
 o8:∀j,(don j).length<=8
 b:∀ns∈D,0<=smL W.tasks ns/\smL W.tasks ns<10^61
def La (w:World):Sp3:=fun ts H Q=>∃(W:Wk) (q:Addr) (kvs:List (NK × T)) (D:List (List Str)) (a:Nat->List Str),ts=[W.enc,.ref q,.tup [.int (sqD W D),.tup (D.map sT)]]/\WkOk W/\H q=some (.dcn w kvs)/\GoD W kvs D a/\∀H',Sub3 H H'->Q (.bl true) H'
theorem jx {k:NK}{t:T}:∀{l:List (NK × T)},cj k l=some t->(k,t)∈l
 | (k',t')::r,h=>by
  unfold cj at h
  by_cases e:k'=k
  ·
   rw[if_pos e] at h;cases h;subst e;exact m_
  ·
   rw[if_neg e] at h;exact F_ _ (jx h)
theorem pR {k:NK}{t:T}:∀{l:List (NK × T)},(l.map (·.1)).Nodup->(k,t)∈l->cj k l=some t
 | (k',t')::r,nd,h=>by
  rw[y_,Xn] at nd
  unfold cj
  rcases o_.mp h with e | h
  ·
   cases e;rw[if_pos rfl]
  ·
   rw[if_neg (fun z=>nd.1 (by rw[z];exact i_.mpr ⟨_,h,rfl⟩))]
   exact pR nd.2 h
theorem zX {k:NK}{t:T}{l:List (NK × T)}(h:k∉l.map (·.1)):tW k t l=l++[(k,t)]:=by
 have:cj k l=none:=by
  cases e:cj k l with
  |none=>rfl
  |some t=>exact absurd (i_.mpr ⟨_,jx e,rfl⟩) h
 unfold tW;rw[this,if_neg (by decide)]
def evX (W:Wk) (beat:Int) (m:Nat):List (Nat × Nat × Int):=(List.range m).flatMap fun k=>(ksN W ((evs W beat k).map (·.1))).map fun d=>(k,d,((bK d (evs W beat k)).getD (0,[])).1)
def tbX (W:Wk) (x:Nat × Nat × Int):T:=tbR W x.1 x.2.1 x.2.2
def knX (W:Wk) (x:Nat × Nat × Int):NK × T:=(((x.1:Int),pk W x.2.1),.int x.2.2)
theorem jy (W:Wk) (beat:Int) (m:Nat):eG W beat m=(evX W beat m).map (tbX W):=by
 unfold eG evX;rw[List.map_flatMap];congr 1;funext k;unfold evR;rw[N_];rfl
theorem qZ {W:Wk}{beat:Int}{m k d:Nat}{x:Int}(i:WkOk W) (o:m<=W.row.length+1):(k,d,x)∈evX W beat m↔k<m/\∃v,bK d (evs W beat k)=some v/\v.1=x:=by
 unfold evX;rw[ZR];constructor
 ·rintro⟨n,c,h⟩;obtain⟨d',l,e⟩:=i_.mp h;cases e;obtain⟨e,a,j⟩:=i_.mp (Xa (D_.mp l).2);have b:=I_.mp c;have q:=gZ (dJ (W:=W) (beat:=beat) (show k<=W.row.length by omega)).nd (show (e.1,e.2)∈_ from a);rw[j] at q;exact⟨b,e.2,q,by rw[q];rfl⟩
 rintro⟨c,v,f,rfl⟩;have a:=cW f;have g:=((dJ (W:=W) (beat:=beat) (show k<=W.row.length by omega)).eok i).lt _ a;refine⟨k,I_.mpr c,i_.mpr ⟨d,D_.mpr ⟨I_.mpr g.1,q_ (i_.mpr ⟨_,a,rfl⟩)⟩,by rw[f];rfl⟩⟩
theorem Eu {W:Wk}(a:WkOk W) {i j:Nat}(b:i<top2 W) (c:j<top2 W) (h:pk W i=pk W j):i=j:=by
 rw[<- fG a b,<- fG a c,h]
theorem Ew {W:Wk}(i:WkOk W) (beat:Int) (m:Nat):(((evX W beat m).map (knX W)).map (·.1)).Nodup:=by
 rw[N_];unfold evX;induction m with
 |zero=>exact Y7
 |succ m l =>
 rw[Z0,List.flatMap_append,u_,Yq];refine⟨l,?_,?_⟩
 ·rw[Zy,List.flatMap_nil,J_,N_];refine List.Pairwise.map _ (fun a b (q:a∈List.range (top2 W)/\b∈List.range (top2 W)/\a≠b) z=>?_) (YZ (R:=fun a b=>a≠b) (fun {a b} c e h=>⟨(D_.mp c).1,(D_.mp e).1,h⟩) ((List.pairwise_lt_range (n:=top2 W)).imp (fun h=>Xj h) |>.filter _));exact q.2.2 (Eu i (I_.mp q.1) (I_.mp q.2.1) (O_ (fun x:NK=>x.2) z))
 intro a c b e z;obtain⟨x,f,rfl⟩:=i_.mp c;obtain⟨y,g,rfl⟩:=i_.mp e;obtain⟨k,j,f⟩:=ZR.mp f;obtain⟨d,_,rfl⟩:=i_.mp f;rw[Zy,List.flatMap_nil,J_] at g;obtain⟨p,_,rfl⟩:=i_.mp g;have r:((k:Nat):Int)=((m:Nat):Int):=O_ (fun x:NK=>x.1) z;have o:=I_.mp j;omega
theorem yJ {W:Wk}{beat:Int}{m k d:Nat}{v:Int × List Nat}(a:WkOk W) (b:m<=W.row.length+1) (c:k<m) (h:bK d (evs W beat k)=some v):cj ((k:Int),pk W d) ((evX W beat m).map (knX W))=some (.int v.1) :=
 pR (Ew a beat m) (i_.mpr ⟨(k,d,v.1),(qZ a b).mpr ⟨c,v,h,rfl⟩,rfl⟩)
theorem Jp {W:Wk}{beat:Int}{m k d:Nat}(c:WkOk W) (i:m<=W.row.length+1) (p:d<top2 W) (h:bK d (evs W beat k)=none):cj ((k:Int),pk W d) ((evX W beat m).map (knX W))=none:=by
 cases e:cj ((k:Int),pk W d) ((evX W beat m).map (knX W)) with
 |none=>rfl
 |some t =>
 obtain⟨⟨a,d',x⟩,g,z⟩:=i_.mp (jx e);obtain⟨l,v,b,_⟩:=(qZ c i).mp g;have f:=O_ Prod.fst z;have o:a=k:=by have:((a:Nat):Int)=((k:Nat):Int):=O_ (fun x:NK=>x.1) f;omega
 have j:=((dJ (W:=W) (beat:=beat) (show a<=W.row.length by omega)).eok c).lt _ (cW b);have n:d'=d:=Eu c j.1 p (O_ (fun x:NK=>x.2) f);rw[o,n,h] at b;cases b
def bF (W:Wk) (c:Nat) (n:Str):Nat:=if n∈pk W c then 1 else 0
theorem Ex (W:Wk) (c:Nat) (n:Str):bF W c n<2:=by unfold bF;split <;> omega
theorem q8 (W:Wk) (n:Str):bF W 0 n=0:=by unfold bF;rw[lF,if_neg (by simp)]
def mB (W:Wk) (m:Nat):Nat:=if m=1 then 1 else top2 W
theorem Lb {W:Wk}{m c:Nat}(d:1<=m) (b:m<=2) (a:c<mB W m) (n:Str):bF W c n<m:=by
 unfold mB at a;split at a
 ·have:c=0:=by omega
  rw[this,q8];omega
 have:=Ex W c n;omega
theorem QM {W:Wk}(b:WkOk W) {m:Nat}{f:Str->Nat}(h:1<=m) (g:m<=2) (d:∀n,f n<m):∃c,c<mB W m/\∀n∈nm W,bF W c n=f n:=by
 by_cases e:m=1
 ·subst e;exact⟨0,by unfold mB;rw[if_pos rfl];omega,fun n _=>by rw[q8];have:=d n;omega⟩
 refine⟨bV (nm W) ((nm W).filter fun n=>decide (f n=1)),by unfold mB;rw[if_neg e];exact lE _,fun n a=>?_⟩;unfold bF;have:=d n;by_cases z:f n=1
 ·rw[if_pos ((iJ b).mpr ⟨a,D_.mpr ⟨a,q_ z⟩⟩),z]
 rw[if_neg fun q=>z (Xa (D_.mp ((iJ b).mp q).2).2)];omega
def Vu:Sp3:=fun ts H Q=>∃(W:Wk) (q:Addr) (f:Str->Nat),ts=[W.enc,.ref q]/\WkOk W/\H q=some (.dct (dN (nm W) f))/\(∀n,f n<W.row.length)/\∀b:Bool,(b=true↔Hol W f)->Q (.bl b) H
theorem yK:∀{ns:List Str}{i:Nat}{x:Str}{b:Int},ns.Nodup->ns[i]?=some x->(x∈pick ns b↔b / 2^i%2=1)
 |[],_,_,_,_,e=>by simp at e
 |y::r,0,x,b,nd,e=>by
  rw[XC,aag] at e
  subst e
  rw[Xn] at nd
  have g:y∉pick r (b / 2):=fun z=>nd.1 (gF _ _ _ z)
  rw[Int.pow_zero,Int.ediv_one]
  unfold pick
  by_cases c:b%2=1 <;> simp [c,g]
 |y::r,i+1,x,b,nd,e=>by
  rw[Yj] at e
  rw[Xn] at nd
  have a:x≠y:=fun z=>nd.1 (by rw[<- z];exact XF e)
  have f:=yK (b:=b / 2) nd.2 e
  have d:b / 2^(i+1)=b / 2 / 2^i:=by rw[Int.ediv_ediv_of_nonneg (by decide),X4,Int.mul_comm]
  rw[d,<- f]
  show x∈(if b%2=1 then y::pick r (b / 2) else pick r (b / 2))↔_
  by_cases c:b%2=1
  ·
   rw[if_pos c,o_]
   exact⟨fun z=>z.resolve_left a,.inr⟩
  ·
   rw[if_neg c]
theorem QQ {W:Wk}{b i:Nat}{t:Str × Int × List Str}(d:WkOk W) (h:W.tasks[i]?=some t):decide (Builtin.bitAnd ((b:Int) / 2^i) 1=1)=decide (t.1∈pk W b):=by
 have e:(nm W)[i]?=some t.1:=by unfold nm;rw[H_,h];rfl
 have a:((b:Int) / 2^i)=((b / 2^i:Nat):Int):=by push_cast;rfl
 have c:Builtin.bitAnd ((b / 2^i:Nat):Int) 1=((b / 2^i%2:Nat):Int):=by have:=jE (b / 2^i) 1;rw[Nat.and_one_is_mod] at this;exact this
 rw[Zc,a,c];unfold pk;rw[yK (ns:=nm W) d.nd e,a];omega
theorem W2 (n i:Nat):Builtin.bitAnd ((n:Int) / 2^i) 1=((n / 2^i%2:Nat):Int):=by
 have a:((n:Int) / 2^i)=((n / 2^i:Nat):Int):=by push_cast;rfl
 rw[a];have:=jE (n / 2^i) 1;rw[Nat.and_one_is_mod] at this;exact this
def Sm (W:Wk) (beat:Int) (m:Nat) (s:Int):Prop:=∃f:Str->Nat,(∀n,f n<m)/\Hol W f/\(∀l∈lds W f m,l<=beat)/\s=ssq (lds W f m)
theorem Jq {W:Wk}{beat:Int}{m:Nat}(g:WkOk W) (c:m<=W.row.length) (h:bK (top2 W - 1) (evs W beat m)=none) (s:Int):¬Sm W beat m s:=by
 rintro⟨f,d,b,a,_⟩;obtain⟨v,e,_⟩:=yF g c d b a;rw[h] at e;cases e
theorem Jr {W:Wk}{beat:Int}{m:Nat}{v:Int × List Nat}(b:WkOk W) (a:m<=W.row.length) (h:bK (top2 W - 1) (evs W beat m)=some v):Sm W beat m v.1/\∀s,Sm W beat m s->v.1<=s:=by
 obtain⟨f,l,i,c,k⟩:=Jk b a h;refine⟨⟨f,l,i,c,k.symm⟩,?_⟩;rintro s ⟨g,n,d,j,rfl⟩;obtain⟨p,e,o⟩:=yF b a n d j;rw[h] at e;cases e;exact o
theorem QR {W:Wk}{c i:Nat}{t:Str × Int × List Str}(a:WkOk W) (h:W.tasks[i]?=some t):Builtin.bitAnd ((c:Int) / 2^i) 1=((bF W c t.1:Nat):Int):=by
 have e:=QQ (b:=c) a h;rw[W2] at e ⊢;unfold bF;have:=Nat.mod_lt (c / 2^i) (show 0<2 by decide);by_cases z:t.1∈pk W c
 ·rw[if_pos z];rw[q_ z] at e;have:=Xa e;exact this
 rw[if_neg z];rw[p_ z] at e;have:=Z7 e;omega
def okB (W:Wk) (beat:Int) (m c:Nat):Prop:=Hol W (bF W c)/\∀l∈lds W (bF W c) m,l<=beat
def toB (W:Wk) (m c:Nat):Int:=ssq (lds W (bF W c) m)
structure DuI (W:Wk) (beat:Int) (m n:Nat) (du:Option Int):Prop where
 no:du=none->∀c,c<n->¬okB W beat m c
 so:∀s,du=some s->(∃c,c<n/\okB W beat m c/\s=toB W m c)/\∀c,c<n->okB W beat m c->s<=toB W m c
def ut:Option Int->T
 |none=>.non
 |some s=>.int s
theorem DuI.zero (W:Wk) (beat:Int) (m:Nat):DuI W beat m 0 none:=⟨fun _ c h=>absurd h (Nat.not_lt_zero c),fun s h=>(nomatch h)⟩
theorem DuI.keep {W:Wk}{beat:Int}{m n:Nat}{d:Option Int}(h:DuI W beat m n d) (f:¬okB W beat m n\/∃s,d=some s/\s<=toB W m n):DuI W beat m (n+1) d:=by
 refine⟨fun e c b a=>?_,fun s e=>?_⟩
 ·rcases ZX.mp b with z | z
  ·exact h.no e c z a
  subst z;rcases f with q | ⟨s,q,_⟩
  ·exact q a
  rw[e] at q;cases q
 obtain⟨⟨c,b,k,i⟩,g⟩:=h.so s e;refine⟨⟨c,by omega,k,i⟩,fun c b a=>?_⟩;rcases ZX.mp b with z | z
 ·exact g c z a
 subst z;rcases f with q | ⟨s',q,j⟩
 ·exact absurd a q
 rw[e] at q;cases q;exact j
theorem DuI.new {W:Wk}{beat:Int}{m n:Nat}{b:Option Int}(h:DuI W beat m n b) (g:okB W beat m n) (f:∀s,b=some s->toB W m n<s):DuI W beat m (n+1) (some (toB W m n)):=by
 refine⟨fun e=>(nomatch e),fun s e=>?_⟩;cases e;refine⟨⟨n,by omega,g,rfl⟩,fun c i a=>?_⟩;rcases ZX.mp i with z | z
 ·cases d:b with
  |none=>exact absurd a (h.no d c z)
  |some s =>
   have k:=(h.so s d).2 c z a
   have j:=f s d
   omega
 subst z;exact Xo _
theorem vR {W:Wk}{beat:Int}{m:Nat}(i:WkOk W) (h:1<=m) (g:m<=2) (s:Int):Sm W beat m s↔∃c,c<mB W m/\okB W beat m c/\s=toB W m c:=by
 constructor
 ·rintro⟨f,l,b,a,rfl⟩;obtain⟨c,d,e⟩:=QM i h g l;have j:=jX e m;refine⟨c,d,⟨b.congr i fun n k=>(e n k).symm,?_⟩,?_⟩
  ·rw[j];exact a
  unfold toB;rw[j]
 rintro⟨c,d,⟨b,a⟩,rfl⟩;exact⟨bF W c,Lb h g d,b,a,rfl⟩
theorem DuI.fin {W:Wk}{beat:Int}{m:Nat}{b:Option Int}(a:WkOk W) (k:1<=m) (j:m<=2) (o:m<=W.row.length) (h:DuI W beat m (mB W m) b):b=(bK (top2 W - 1) (evs W beat m)).map (·.1):=by
 cases e:bK (top2 W - 1) (evs W beat m) with
 |none =>
  cases g:b with
  |none=>rfl
  |some s =>
  obtain⟨⟨c,f,d,p⟩,_⟩:=h.so s g;exact absurd ((vR a k j s).mpr ⟨c,f,d,p⟩) (Jq a o e s)
 |some v =>
 obtain⟨u,r⟩:=Jr a o e;obtain⟨c,f,d,p⟩:=(vR a k j v.1).mp u;cases g:b with
 |none=>exact absurd d (h.no g c f)
 |some s =>
 obtain⟨⟨t,l,n,i⟩,q⟩:=h.so s g;have x:=r s ((vR a k j s).mpr ⟨t,l,n,i⟩);have w:=q c f d;show some s=some v.1;congr 1;omega
theorem vU {W:Wk}(a:WkOk W) (f:Str->Nat) (k:Nat):0<=ldF W.tasks f k/\ldF W.tasks f k<10^61:=by rw[<- ie];exact lJ a _
theorem Js {W:Wk}{m c:Nat}(e:m=1) (a:c<mB W m):ldF W.tasks (bF W c) 1=0:=by
 have b:c=0:=by unfold mB at a;rw[if_pos e] at a;omega
 unfold ldF;rw[b,Yr.mpr fun t _=>by rw[q8];decide];rfl
theorem Jt {W:Wk}{m c:Nat}(b:WkOk W) (g:1<=m) (f:m<=2) (d:c<mB W m) {beat:Int}:((∀l∈lds W (bF W c) m,l<=beat)↔(ldF W.tasks (bF W c) 0<=beat/\ldF W.tasks (bF W c) 1<=beat))/\toB W m c=ldF W.tasks (bF W c) 0*ldF W.tasks (bF W c) 0+ldF W.tasks (bF W c) 1*ldF W.tasks (bF W c) 1:=by
 have n0:=(vU b (bF W c) 0).1;have a:m=1\/m=2:=by omega
 unfold toB ssq lds;rcases a with e | e
 ·rw[Js e d];subst e;refine⟨?_,by simp⟩;simp only[Z0,List.range_zero,YC,y_,Xy,g_,forall_eq];exact⟨fun h=>⟨h,by omega⟩,fun h=>h.1⟩
 subst e;refine⟨?_,?_⟩
 ·simp [Z0]
 simp [Z0]
def Ld:Sp3:=fun ts H Q=>∃(W:Wk) (beat:Int) (m:Nat),ts=[W.enc,.int beat,.int (m:Int),meT W beat m]/\WkOk W/\1<=m/\m<=2/\m<=W.row.length/\∀H',Sub3 H H'->Q (.bl true) H'
theorem Ey {W:Wk}(a:WkOk W) (d:Nat):smL W.tasks (pk W d)=ldN W d:=by
 rw[Vh a.nd (K7 a d) fun n b=>gW b];unfold ld ldN cJ;congr 2;exact X5 fun t _=>by rw[Ec]
theorem Ez {W:Wk}(b:WkOk W) (a:List Nat):sqD W (a.map (pk W))=sqs W a:=by
 unfold sqD sqs;rw[N_];refine O_ List.sum (Xq fun f _=>?_);show smL W.tasks (pk W f)*smL W.tasks (pk W f)=ldN W f^2;rw[Ey b,X4,X4,Int.pow_zero,Z_]
theorem god {W:Wk}{beat:Int}{m D:Nat}{v:Int × List Nat}(a:WkOk W) (q:m<=W.row.length) (h:bK D (evs W beat m)=some v):GoD W ((evX W beat (m+1)).map (knX W)) (v.2.map (pk W)) (fun j=>pk W (v.2.take j).sum)/\v.1=sqD W (v.2.map (pk W)):=by
 have T:=dJ (W:=W) (beat:=beat) q;obtain⟨r,u,B⟩:=T.ok _ (cW h);have o:v.2.length=m:=u;have l:v.1=sqs W v.2:=B;have F:=a.r8;have E:=a.t8;have p:∀d,(pk W d).length<=8:=fun d=>by have:=QK W d;rw[jw] at this;omega
 refine⟨⟨?_,fun j i=>?_,fun j s b=>?_,?_,fun ns c=>?_,fun j=>p _,fun ns c=>?_⟩,by rw[Ez a,l]⟩
 ·show pk W (v.2.take 0).sum=[];rw[aae];exact lF W
 ·rw[b_,o] at i;obtain⟨x,C,e⟩:=QL q h i;rw[<- List.map_take,Ez a,<- e];exact yJ a (by omega) (by omega) C
 ·rw[H_] at b;cases g:v.2[j]? with
  |none=>rw[g] at b;cases b
  |some f =>
  rw[g] at b;have k:pk W f=s:=Q_ b;have i:j<v.2.length:=by
   rcases Nat.lt_or_ge j v.2.length with z | z
   ·exact z
   rw[Xb z] at g;cases g
  have A:=((r.cut j (by show j<=v.2.length;omega)).1.ok a).2.2.1;have w:=((r.cut (j+1) (by show j+1<=v.2.length;omega)).1.ok a).2.2.1;show (nm W).filter (fun x=>decide (x∈pk W (v.2.take j).sum++s))=pk W (v.2.take (j+1)).sum;rw[<- yG a (v.2.take (j+1)).sum];refine X5 fun x _=>?_;rw[Zc,A_,<- k];have y:x∈pk W (v.2.take j).sum↔x∈((v.2.take j).map (pk W)).flatten:=A x;have t:x∈pk W (v.2.take (j+1)).sum↔x∈((v.2.take (j+1)).map (pk W)).flatten:=w x;rw[y,t,List.take_add_one,g,u_,Y5,A_];simp
 ·rw[b_];omega
 ·obtain⟨f,_,rfl⟩:=i_.mp c;exact⟨p f,fun n c=>gW c⟩
 obtain⟨f,_,rfl⟩:=i_.mp c;rw[Ey a];exact lJ a _
theorem yL {W:Wk}(a:WkOk W) (beat:Int) (m:Nat):(evX W beat m).length<=256*m:=by
 unfold evX;rw[List.length_flatMap];have:=qY (fun k=>((ksN W ((evs W beat k).map (·.1))).map fun d=>(k,d,((bK d (evs W beat k)).getD (0,[])).1)).length) 256 (fun k=>by rw[b_];exact W6 (vQ _ _) (lG a)) (List.range m)
 rwa [k_] at this
theorem Wt.put {c p:Addr}{d H:Hp3}{a:List (Addr × O3)}{o:O3}(w:Wt c d H a) (j:d p=none) (l:p≠c) (k:∀x∈a,x.1≠p):Wt c d (up3 H p o) a :=
 ⟨by obtain⟨ns,e,r⟩:=w.cl.ex;exact⟨ns,by rw[aD (Ne.symm l)];exact e,r⟩,fun b i h g=>by rw[aD (aZ h j)];exact w.kp b i h g,fun x f=>⟨by rw[aD (k x f)];exact (w.at' x f).1,(w.at' x f).2⟩⟩
section
variable {P:Program}{w:World}{K:Frag}{mg:Str->Option Value}{base:Heap}
abbrev pU:List Str:=["_law_script","_law_cells","_law_found","_law_cell","_law_k","_law_number"]
theorem sc_numbers:FnScope pU ["_law_script"] (aA (top 31)):=bB
theorem vV {f:Addr}{fd:FuncData}(g:G3 K mg "_law_numbers" (top 31) ["_law_script"] f fd) (B:Bl mg):Cal P w K mg base 1 "_law_numbers" (top 31) ["_law_script"] K1:=by
 refine⟨f,fd,g,?_⟩;refine fn3 g.fn sc_numbers (fun ts H Q h=>?_) (fun cdv A outer s H E ts H3 Q hr h=>?_)
 ·obtain⟨a,ns,rfl,_⟩:=h;rfl
 have U:=Room.u30 hr;obtain⟨a,ns,rfl,ha,hl,k⟩:=h;refine⟨_,(ak (aF (i:=1) sc_numbers.nd (aJ bh (iC (v3 0) iB (fC ao)) (aJ Ow (bI (aa ao aj)) (bG qF rfl B.int_ vh (aa (cZ (Qm U) (v3 0) (bI aj)) aj)))))
   (ak (aF (i:=2) sc_numbers.nd (bI aj))
   (ak (bM (aQ (cM U) (aJ dU (aH ix3 (v3 1) ao) ao) ao) (ak (bu G_ rfl (cz (aJ bh (bI (aa (aJ fJ (aH ix3 (v3 1) ao) ao) aj)) (iC (v3 1) (fC ao) iB))) (aC (i:=3) sc_numbers.nd) (aq (bu G_ rfl (aR rfl B.range_ (aa ao aj)) (aC (i:=4) sc_numbers.nd) (ak (cg (dq M_ S_ T_ bJ (v3 2) (aa (aJ dU (v3 3) (aJ gP ao ao)) aj)))
      (aq (aF (i:=3) sc_numbers.nd (aJ fJ (v3 3) (aJ gP ao ao))))))))
    (aq (aL (xJ (v3 2) (fC (vm ao)))))) bf)
   (ak (aF (i:=5) sc_numbers.nd (aJ dU (aJ fJ (aH ix3 (v3 1) ao) ao) ao))
   (ak (bu G_ rfl (aR rfl B.range_ (aa ao aj)) (aC (i:=4) sc_numbers.nd) (ak (aF (i:=3) sc_numbers.nd (aJ dU (aH ix3 (v3 1) (aJ dU (v3 4) (aP b7 rfl B.len_ b8 (aa (v3 1) aj)))) ao))
    (ak (aF (i:=5) sc_numbers.nd (aJ dU (aJ bh (aJ bh (aJ f9 (v3 5) (v3 5)) (aJ f9 ao (v3 3))) (v3 4)) ao))
    (aq (cg (dq M_ S_ T_ bJ (v3 2) (aa (aJ fJ (aJ dU (aJ f9 (v3 5) (aJ bh (v3 5) ao)) ao) ao) aj)))))))
   (aq (aL (xJ (v3 2) (fC (vm ao)))))))))),?_⟩
 rw[show aV pU [T.ref a]=[some (T.ref a),none,none,none,none,none] from rfl];have hsz:sizeLine=16777216:=rfl;have k':=Box.mk k;clear k;refine aB fun R0 hR0=>?_;walk_at "";refine fun p1 hp1=>⟨by decide,fun p2 Y=>⟨by omega,fun p3 hp3=>?_⟩⟩;have h2:=(cA Y);have h3:=(cA hp3);have h3':=(cA h3.2);have na1:a≠p1:=aZ ha hp1;have na2:a≠p2:=aZ ha h2.2;have na3:a≠p3:=aZ ha h3'.2;have hpl:(ns.map T.int).all (pl 20)=true:=by rw[Xh];intro t ht;obtain⟨x,_,rfl⟩:=i_.mp ht;rfl
 have n32:p2≠p3:=Ne.symm h3.1;have n31:p1≠p3:=Ne.symm h3'.1;have n21:p1≠p2:=Ne.symm h2.1;walk_at "";obtain⟨S,c1,c63,W⟩:=DW ns hl;refine⟨trivial,trivial,rfl,⟨by split <;> decide,by split <;> decide,by split <;> decide⟩,fun p4 hp4=>?_⟩;have h4:=cA hp4;have h4':=cA h4.2;have M:=cA h4'.2;rw[aD (Ne.symm M.1),aD n31,aD n21,au,my,W];have hcl:(fH (ns.map T.int) none (some 63)).length+(List.replicate (if decide (ns.map T.int=[])=true then (1:Int) else 0).toNat [T.int 0]).flatten.length<=16777216:=by have:=O_ List.length W;rw[a_,b_] at this;omega
 refine⟨hcl,fun C hpc=>?_⟩;have hS:Sub3 H3 (up3 (up3 (up3 (up3 H3 p1 (.lst (fH (ns.map T.int) none (some 63)))) p2 (.lst [T.int 0])) p3 (.lst [])) p4 (.lst (List.replicate (if decide (ns.map T.int=[])=true then (1:Int) else 0).toNat [T.int 0]).flatten)) :=
  (((Sub3.new hp1).trans (Sub3.new Y)).trans (Sub3.new hp3)).trans (Sub3.new hp4)
 have J:=hS.trans (Sub3.new (o:=.lst (S.map T.int)) hpc);have m:∀H:Hp3,up3 H C (.lst (S.map T.int)) C=some (.lst (S.map T.int)):=fun _=>au;have m:=m (up3 (up3 (up3 (up3 H3 p1 (.lst (fH (ns.map T.int) none (some 63)))) p2 (.lst [T.int 0])) p3 (.lst [])) p4 (.lst (List.replicate (if decide (ns.map T.int=[])=true then (1:Int) else 0).toNat [T.int 0]).flatten));generalize up3 (up3 (up3 (up3 (up3 H3 p1 (.lst (fH (ns.map T.int) none (some 63)))) p2 (.lst [T.int 0])) p3 (.lst [])) p4 (.lst (List.replicate (if decide (ns.map T.int=[])=true then (1:Int) else 0).toNat [T.int 0]).flatten)) C (.lst (S.map T.int))=H5 at J m;clear hS hcl W hpc hp4 h4 h4' M hp3 h3 h3' Y h2 hp1 n32 n31 n21 na1 na2 na3 hpl ha hl;walk_at "n";refine aB fun R1 hR1=>?_;walk_at "";refine⟨by omega,fun u n=>?_⟩;have nb:Nb H3 (up3 H5 u (.lst [])) C u S []:=⟨J.trans (Sub3.new n),by rw[aD (aZ m n)];exact m,au,by
  cases e:H3 u with
  |none=>rfl
  |some o=>exact absurd (n.symm.trans (J _ _ e)) (by simp),aZ m n⟩
 generalize up3 H5 u (.lst [])=H6 at nb;clear J m n;walk_at "n";cases S with
 |nil=>simp at c1
 |cons d j =>
 refine aB fun R2 hR2=>?_;have m:=nb.c;rw[y_] at m;walk_at "";refine⟨by decide,?_⟩;by_cases hev:d%2=0
 ·rw[q_ hev,if_pos rfl];clear hR2;refine⟨⟨by decide,by decide +kernel⟩,by decide,fun q1 hq1=>?_⟩;have G:=nb.new (o:=.lst [T.int (d / 2)]) hq1;have gq:up3 H6 q1 (.lst [T.int (d / 2)]) q1=some (.lst [T.int (d / 2)]):=au;have V:=G.c;generalize up3 H6 q1 (.lst [T.int (d / 2)])=H7 at G gq V;clear nb m hq1;rw[V,J7];intro q2 X;rw[show (1:Int)=((1:Nat):Int) from rfl,BV,y_,List.drop_one,List.tail_cons];have D:=G.new (o:=.lst (j.map T.int)) X;have gq1:up3 H7 q2 (.lst (j.map T.int)) q1=_ := upa gq X;have gq2:up3 H7 q2 (.lst (j.map T.int)) q2=some (.lst (j.map T.int)):=au;generalize up3 H7 q2 (.lst (j.map T.int))=H8 at D gq1 gq2;clear G gq V X;rw[d_] at c63;rw[BL,gq1,gq2,my];refine⟨by rw[b_,z_];omega,fun q3 Z=>?_⟩;have I:=D.new (o:=.lst ([T.int (d / 2)]++j.map T.int)) Z;have F:up3 H8 q3 (.lst ([T.int (d / 2)]++j.map T.int)) q3=some (.lst ([T.int (d / 2)]++j.map T.int)):=au;have n3f:q3≠u:=Ne.symm (aZ D.f Z);rw[show [T.int (d / 2)]++j.map T.int=((d / 2)::j).map T.int from rfl] at *;generalize up3 H8 q3 (.lst (((d / 2)::j).map T.int))=H9 at I F;clear D gq1 gq2 Z;have xl:((d / 2)::j).length<=63:=by rw[d_];exact c63
  generalize (d / 2)::j=xs at *;walk_at "";refine aW T.int xs (fun A v H=>∃(l:List Int) (v3 q:Option T),v=[some (.ref a),some (.ref C),some (.ref u),v3,q,none]/\Nb H3 H C u (d::j) l/\H q3=some (.lst (xs.map T.int))/\l.length=8*A.length) ⟨[],_,_,rfl,I,F,rfl⟩ ?_ ?_
  ·rintro v H ⟨l,v3,q,rfl,nb,R,O⟩;refine⟨.inl R,?_⟩;have gf:=nb.f;clear I F;walk_at "";refine⟨by first | trivial | rfl,fun p hp=>Fin3.of Sub3.refl (k'.out p _ (nb.sb.trans (Sub3.new hp)) (d9 nb.sb hp) ⟨l.reverse,by rw[au,List.map_reverse],by rw[List.length_reverse];omega⟩)⟩
  rintro A c B v H N e ⟨l,v3,q,rfl,nb,R,O⟩ hN;refine⟨.inl R,?_⟩;have hA:A.length+1<=63:=by have:=O_ List.length e;simp only[a_,d_] at this;omega
  have L:=Box.mk hN;clear hN e I F k';walk_at "";refine⟨trivial,by decide,by decide,?_⟩;have rl:(dC 0 (Int.toNat 8)).length=8:=by unfold dC;rw[b_,k_];rfl
  generalize dC 0 (Int.toNat 8)=ts0 at rl;refine lg (fun r v H=>∃(l:List Int) (c:Int) (q:Option T),v=[some (.ref a),some (.ref C),some (.ref u),some (.int c),q,none]/\Nb H3 H C u (d::j) l/\H q3=some (.lst (xs.map T.int))/\l.length+r.length=8*(A.length+1)) ⟨l,c,_,rfl,nb,R,by omega⟩ ?_ ?_
  ·rintro v H ⟨l,c,q,rfl,nb,R,O⟩;rw[YD] at O;exact⟨trivial,L.out _ _ ⟨l,_,_,rfl,nb,R,by rw[a_,z_];omega⟩⟩
  rintro x r v H N2 ⟨l,c,q,rfl,nb,R,O⟩ hN2;refine⟨trivial,?_⟩;rw[d_] at O;have hM:=Box.mk hN2;have gf:=nb.f;clear hN2 L;walk_at "";refine⟨⟨trivial,trivial⟩,⟨by decide,by decide,by decide⟩,by decide,by omega,⟨by decide,by decide,by decide⟩,⟨by decide,by decide +kernel⟩,?_⟩;exact hM.out _ _ ⟨_,_,_,rfl,nb.put _,by rw[aD n3f];exact R,by rw[a_,z_];omega⟩
 rw[p_ hev,if_neg t_];walk_at "n";refine aB fun R3 hR3=>?_;walk_at "";refine⟨⟨by decide,by decide +kernel⟩,by decide,?_⟩;have m0:=XQ (d / 2) (show (2147483629:Int)≠0 by decide);have m1:=XN (d / 2) (show (0:Int)<2147483629 by decide);generalize d / 2%2147483629=b at m0 m1;walk_at "n";refine aB fun R4 hR4=>?_;walk_at "";refine⟨by first | trivial | decide,by decide,by decide,?_⟩;rw[show dC 0 (Int.toNat 504)=(List.range 504).map (fun (i:Nat)=>T.int (i:Int)) from fP 504];refine aW (fun (i:Nat)=>T.int (i:Int)) (List.range 504) (fun A v H=>∃(l:List Int) (v3 q:Option T) (b:Int),v=[some (.ref a),some (.ref C),some (.ref u),v3,q,some (.int b)]/\Nb H3 H C u (d::j) l/\l.length=A.length/\0<=b/\b<2147483629) ⟨[],_,_,b,rfl,nb,rfl,m0,m1⟩ ?_ ?_
 ·rintro v H ⟨l,v3,q,b,rfl,nb,O,_,_⟩;refine⟨trivial,?_⟩;rw[k_] at O;walk_at "n";have gf:=nb.f;walk_at "";refine⟨by first | trivial | rfl,fun p hp=>Fin3.of Sub3.refl (k'.out p _ (nb.sb.trans (Sub3.new hp)) (d9 nb.sb hp) ⟨l.reverse,by rw[au,List.map_reverse],by rw[List.length_reverse];omega⟩)⟩
 rintro A c B v H N e ⟨l,v3,q,b,rfl,nb,O,m0,m1⟩ hN;refine⟨trivial,?_⟩;have hA:A.length+1<=504:=by have:=O_ List.length e;simp only[a_,d_,k_] at this;omega
 have L:=Box.mk hN;have m:=nb.c;obtain⟨z,_,hz⟩:=tG (d::j) ((c:Int)%((d::j).length:Int)) (XQ _ (by rw[d_];omega)) (XN _ (by rw[d_];omega));have hz':atI ((d::j).map T.int) ((c:Int)%((d::j).length:Int))=some (T.int z):=by rw[mC,hz];rfl
 generalize d::j=S at *;clear hN e hz hR4 k';refine aB fun R5 hR5=>?_;have cl:(0:Int)<(S.length:Int):=by omega
 walk_at "";refine⟨by first | trivial | omega,by decide,?_⟩;have z0:=XQ z (show (2147483647:Int)≠0 by decide);have z1:=XN z (show (0:Int)<2147483647 by decide);generalize z%2147483647=z' at z0 z1;walk_at "n";refine aB fun R6 hR6=>?_;walk_at "";refine⟨.inl ⟨by omega,by omega⟩,.inl ⟨by decide,by decide⟩,by decide,?_⟩;have y0:=XQ (b*b+69621*z'+(c:Int)) (show (2147483629:Int)≠0 by decide);have y1:=XN (b*b+69621*z'+(c:Int)) (show (0:Int)<2147483629 by decide);generalize (b*b+69621*z'+(c:Int))%2147483629=y at y0 y1;walk_at "n";have gf:=nb.f;walk_at "";refine⟨⟨trivial,trivial⟩,.inl ⟨by omega,by omega⟩,by decide,⟨by decide,by decide +kernel⟩,by omega,?_⟩;exact L.out _ _ ⟨_,_,_,_,rfl,nb.put _,by rw[a_,a_,z_,z_];omega,y0,y1⟩
abbrev nj:List Str:=["_law_deck","_law_most"]
theorem Ju:FnScope nj nj (aA (top 32)):=bB
theorem Jv {f:Addr}{C:FuncData}(g:G3 K mg "_law_draw" (top 32) nj f C) (B:Bl mg):Cal P w K mg base 1 "_law_draw" (top 32) nj mW:=by
 refine⟨f,C,g,?_⟩;refine fn3 g.fn Ju (fun ts H Q h=>?_) (fun N A u s H E ts H3 Q L h=>?_)
 ·obtain⟨d,m,rfl,_⟩:=h;rfl
 have i:=Room.u30 L;obtain⟨d,m,rfl,l,G,k⟩:=h;refine⟨_,(ak (bM (aQ (cM i) (v3 0) (bI aj)) (aq (aL ao)) bf)
   (aq (aL (aJ dU (Ox M_ PySem.F.slot_list_pop PySem.F.type_list_pop Ql (v3 0)) (v3 1))))),?_⟩
 rw[show aV nj [T.ref d,T.int m]=[some (T.ref d),some (T.int m)] from rfl];have hsz:sizeLine=16777216:=rfl;obtain⟨ns,I,O⟩:=G.ex;walk_at "";refine⟨by omega,fun p q=>?_⟩;have e:d≠p:=aZ I q;have j:(ns.map T.int).all (pl 20)=true:=by rw[Xh];intro t R;obtain⟨x,_,rfl⟩:=i_.mp R;rfl
 have z:=Box.mk k;clear k;walk_at "";refine⟨by first | trivial | exact e,by first | trivial | exact j,by first | trivial | rfl,?_⟩;rcases List.eq_nil_or_concat ns with rfl | ⟨r,n,rfl⟩
 ·simp only[Xy,xx,if_true];exact iW (a:=d) (H:=H3) (G.new (Ne.symm e)) (Kep.refl.new q) fun c y=>z.out 0 c (Xo _) l y
 rw[p_ (by simp),if_neg t_];rw[List.concat_eq_append] at *;have S:=DX r n;have U:=zO r n;have v:up3 H3 p (.lst []) d=some (.lst ((r++[n]).map T.int)):=by rw[aD e];exact I
 generalize M:up3 H3 p (.lst [])=V at v;clear j;walk_at "";refine⟨⟨trivial,trivial⟩,?_⟩;rw[show (List.map T.int (r++[n]))[(r++[n]).length - 1]?=some (T.int n) by simp,gQ];walk_at "";refine⟨by first | trivial | exact l,iW (a:=d) (H:=H3) ⟨r,au,by rw[a_,z_] at O;omega⟩ (fun b o D J=>?_) fun c y=>z.out _ c (XQ _ (by omega)) (XN _ l) y⟩;rw[aD J,<- M,aD (aZ D q)];exact D
abbrev yM:List Str:=["_law_deck","_law_most","_law_total","_law_k"]
theorem sc_great:FnScope yM ["_law_deck","_law_most"] (aA (top 33)):=bB
theorem EY {f:Addr}{z:FuncData}(g:G3 K mg "_law_great" (top 33) ["_law_deck","_law_most"] f z) (B:Bl mg) (a:Cal P w K mg base 1 "_law_draw" (top 32) ["_law_deck","_law_most"] mW):Cal P w K mg base 2 "_law_great" (top 33) ["_law_deck","_law_most"] Qn:=by
 refine⟨f,z,g,?_⟩;refine fn3 g.fn sc_great (fun ts H Q h=>?_) (fun D A o s H E ts H3 Q C h=>?_)
 ·obtain⟨d,m,rfl,_⟩:=h;rfl
 obtain⟨d,m,rfl,v,I,k⟩:=h;refine⟨_,(ak (aF (i:=2) sc_great.nd ao)
   (ak (bu G_ rfl (aR rfl B.range_ (aa ao aj)) (aC (i:=3) sc_great.nd) (aq (aF (i:=2) sc_great.nd (aJ bh (aJ f9 (v3 2) (aJ gP ao ao)) (aK a C rfl (aa (v3 0) (aa (aJ gP ao ao) aj)))))))
   (aq (aL (aJ dU (v3 2) (v3 1)))))),?_⟩
 rw[show aV yM [T.ref d,T.int m]=[some (T.ref d),some (T.int m),none,none] from rfl];have u:=Box.mk k;clear k;refine aB fun M G=>?_;walk_at "";walk_at "n";refine aB fun O p=>?_;walk_at "";refine⟨by first | trivial | decide,by decide,by decide,?_⟩;generalize dC 0 (Int.toNat 6)=F;refine lg (fun r l H=>∃(t:Int) (v3:Option T),l=[some (.ref d),some (.int m),some (.int t),v3]/\Cl H d/\Kep d H3 H) ⟨_,_,rfl,I,Kep.refl⟩ ?_ ?_
 ·rintro l H ⟨t,v3,rfl,c,e⟩;refine⟨trivial,?_⟩;walk_at "n";walk_at "";refine⟨by first | trivial | exact v,iW c e fun j b=>u.out _ j (XQ _ (by omega)) (XN _ v) b⟩
 rintro x r l H N ⟨t,v3,rfl,c,e⟩ y;refine⟨trivial,?_⟩;have q:=Box.mk y;clear y p u;walk_at "";refine⟨⟨by decide,by decide,by decide⟩,.inr ⟨by decide,by decide⟩,⟨by decide,by decide,by decide⟩,d,10^Int.toNat 12,rfl,by decide,c,fun n J n0 L b=>?_⟩;exact q.out _ _ ⟨_,_,rfl,b.cl,e.drw b⟩
abbrev Fb:List Str:=["_law_deck","_law_things","_law_left","_law_found"]
theorem sc_turn:FnScope Fb ["_law_deck","_law_things"] (aA (top 36)):=bB
theorem Jw {f:Addr}{fd:FuncData}(g:G3 K mg "_law_turn" (top 36) ["_law_deck","_law_things"] f fd) (B:Bl mg) (l:Cal P w K mg base 1 "_law_draw" (top 32) ["_law_deck","_law_most"] mW):Cal P w K mg base 2 "_law_turn" (top 36) ["_law_deck","_law_things"] Iw:=by
 refine⟨f,fd,g,?_⟩;refine fn3 g.fn sc_turn (fun ts H Q h=>?_) (fun cdv A outer s H E ts H3 Q hr h=>?_)
 ·obtain⟨d,a,xs,rfl,_⟩:=h;rfl
 have O:=Room.u30 hr;obtain⟨d,a,xs,rfl,nad,ha,U,hl,hC,k⟩:=h;refine⟨_,(ak (aF (i:=2) sc_turn.nd (bG qC rfl B.list_ kZ (aa (v3 1) aj)))
   (ak (aF (i:=3) sc_turn.nd (bI aj))
   (ak (lY G_ (aQ (j8 O) (v3 2) (bI aj)) (aq (cg (dq M_ S_ T_ bJ (v3 3) (aa (dq M_ PySem.F.slot_list_pop PySem.F.type_list_pop Bx (v3 2) (aa (aK l hr rfl (aa (v3 0) (aa (aP b7 rfl B.len_ b8 (aa (v3 2) aj)) aj))) aj)) aj)))))
   (aq (aL (v3 3)))))),?_⟩
 rw[show aV Fb [T.ref d,T.ref a]=[some (T.ref d),some (T.ref a),none,none] from rfl];have hsz:sizeLine=16777216:=rfl;have k':=Box.mk k;clear k;have w0:Wt d H3 H3 []:=⟨hC,Kep.refl,(fun _ h=>nomatch h)⟩;refine aB fun R0 hR0=>?_;walk_at "";intro e c;have l0:=w0.fresh c;have S:=w0.new (o:=.lst xs) c;generalize up3 H3 e (.lst xs)=H4 at S;clear w0 c;walk_at "n";refine aB fun R1 hR1=>?_;walk_at "";refine⟨by omega,fun M u=>?_⟩;have f0:=S.fresh u;have L:M≠e:=Ne.symm (aZ S.hd u);have w2:=S.new (o:=.lst []) u;generalize up3 H4 M (.lst [])=H5 at w2;clear S u;walk_at "n";refine aB fun R2 hR2=>?_;show qt _ _ _ _ _;refine zN (fun m σ H=>∃(z v:List T),m=z.length/\σ=[some (.ref d),some (.ref a),some (.ref e),some (.ref M)]/\Wt d H3 H [(M,.lst v),(e,.lst z)]/\(v++z).Perm xs/\z.all (pl 20)=true) ⟨_,xs,[],rfl,rfl,w2,ZF _,U⟩ ?_;intro m σ H hI WI TB NX R p y;obtain⟨z,v,rfl,rfl,w,b,V⟩:=hI;have C:=b.length_eq;rw[a_] at C;have gl:=w.tl.hd;have gf:=w.hd;clear w2;walk_at "";refine⟨by omega,fun N I=>?_⟩;have D:=w.new (o:=.lst []) I;have W:=D.tl.tl.hd;have nle:e≠N:=aZ gl I;walk_at "";refine⟨trivial,trivial,rfl,?_⟩;have npd:M≠d:=(w.at' _ m_).2;have G:=D.tl.hd;generalize up3 H N (.lst [])=H6 at D W G;clear w gl gf I nle;cases z with
 |nil=>rw[if_neg (by simp)];clear p R;obtain⟨y⟩:=y;subst y;walk_at "n";walk_at "";rw[J_] at b;exact gG D.cl D.kp G f0 npd fun H1 hD h1=>k'.out v H1 M b hD h1
 |cons t r =>
 rw[if_pos (by simp)];clear y hR2 k';obtain⟨p⟩:=p;subst p;have J:=D.tl;clear D;walk_at "";refine⟨⟨trivial,trivial⟩,⟨trivial,trivial⟩,d,_,rfl,by omega,J.cl,fun n H7 n0 n1 hD=>?_⟩;have Y:=J.drw hD;have gl4:=Y.tl.hd;have gf4:=Y.hd;clear J W G hD;obtain⟨j,rfl⟩:∃j:Nat,n=(j:Int):=⟨n.toNat,by omega⟩;have Z:j<(t::r).length:=by rw[d_];omega
 have ej:=qG Z;have ex:=e_ Z;have N:=Iz Z;have le:=List.length_eraseIdx_of_lt Z;generalize (t::r)[j]=x at ex N;have hal:=Qo V j;have w5:=(Y.swap.set l0 (fun q hq=>by rw[g_.mp hq];exact L) (.lst ((t::r).eraseIdx j))).swap.set f0 (fun q hq=>by rw[g_.mp hq];exact Ne.symm L) (.lst (v++[x]));have hfl:v.length<60:=by rw[d_] at C;omega
 have nfl':=Ne.symm L;have hpm:(v++[x]++(t::r).eraseIdx j).Perm xs:=by refine List.Perm.trans ?_ b;rw[x_];exact (ZF v).append N
 have hlr:=Box.mk (show (t::r).length=r.length+1 from rfl);have le':=Box.mk le;generalize X:(t::r)=z at *;clear Y V b N X le;walk_at "";exact⟨by omega,(z.eraseIdx j).length,by have:=hlr.out;have:=le'.out;omega,by rw[R.out];exact⟨_,v++[x],rfl,rfl,w5,hpm,hal⟩⟩
abbrev ig:List Str:=["_law_deck","_law_common","_law_names_here","_law_found","_law_name"]
theorem sc_some_kinds:FnScope ig ["_law_deck","_law_common","_law_names_here"] (aA (top 40)):=bB
theorem nY {f:Addr}{fd:FuncData}(g:G3 K mg "_law_some_kinds" (top 40) ["_law_deck","_law_common","_law_names_here"] f fd) (B:Bl mg) (u:Cal P w K mg base 2 "_law_turn" (top 36) ["_law_deck","_law_things"] Iw) (c:Cal P w K mg base 1 "_law_draw" (top 32) ["_law_deck","_law_most"] mW):Cal P w K mg base 3 "_law_some_kinds" (top 40) ["_law_deck","_law_common","_law_names_here"] Va:=by
 refine⟨f,fd,g,?_⟩;refine fn3 g.fn sc_some_kinds (fun ts H Q h=>?_) (fun cdv A outer s H E ts H3 Q hr h=>?_)
 ·obtain⟨d,a,b,ws,rfl,_⟩:=h;rfl
 have C:=Room.u30 hr;obtain⟨d,a,b,ws,rfl,nad,ha,U,w8,hcm,hC,k⟩:=h;refine⟨_,(ak (aF (i:=3) sc_some_kinds.nd (bI (aa (v3 1) aj)))
   (ak (bu G_ rfl (cz (aK u hr rfl (aa (v3 0) (aa (bA rfl (bD (n0:=(aA (top 40)).names) (N:=ig) (N':=["_law_name","_law_common"]) (nt:=1) (cap:=[1]) rfl rfl (by decide +kernel)) (cz (v3 2)) (fun cl pins s H C0 fp=>⟨(aC (i:=0) (show List.Nodup [("_law_name":Str),("_law_common":Str)] by decide +kernel)),(dG (aQ (j8 C) (v3 0) (v3 1))),(v3 0)⟩)) aj)))) (aC (i:=4) sc_some_kinds.nd) (aq (bM (PW3.pt (cN (aQ o5 (aP b7 rfl B.len_ b8 (aa (v3 3) aj)) ao) (cV (aQ (cM C) (aK c hr rfl (aa (v3 0) (aa ao aj))) ao)))) (aq (cg (dq M_ PySem.F.slot_list_insert PySem.F.type_list_insert zF (v3 3) (aa (aK c hr rfl (aa (v3 0) (aa (aJ bh (aP b7 rfl B.len_ b8 (aa (v3 3) aj)) ao) aj))) (aa (v3 4) aj))))) bf)))
   (aq (aL (bG cR rfl B.tuple_ cT (aa (v3 3) aj)))))),?_⟩
 rw[show aV ig [T.ref d,T.str b,T.ref a]=[some (T.ref d),some (T.str b),some (T.ref a),none,none] from rfl];have hsz:sizeLine=16777216:=rfl;have k':=Box.mk k;clear k;have w0:Wt d H3 H3 [(a,.lst (ws.map T.str))]:=⟨hC,Kep.refl,fun q n=>by rw[g_.mp n];exact⟨ha,nad⟩⟩;clear hC;refine aB fun R0 hR0=>?_;walk_at "";refine⟨by decide,fun D r=>?_⟩;have f0:=w0.fresh r;have nfa:a≠D:=aZ ha r;have w1:=w0.new (o:=.lst [T.str b]) r;generalize up3 H3 D (.lst [T.str b])=H4 at w1;clear w0 r ha;walk_at "n";refine aB fun R1 hR1=>?_;have gA:=w1.tl.hd;walk_at "";walk_at "c";refine cU T.str T.str (fun x=>!decide (x=b)) ws [some (.str b)] (.inl gA) (by omega) (fun x j Q' n=>?_) (fun x j _ Q' n=>n) (fun q n=>?_)
 ·have hq':=Box.mk n;clear k' n hR1;walk_at "";first | exact hq'.out | trivial
 have L:=w1.new (o:=.lst ((ws.filter fun x=>!decide (x=b)).map T.str)) n;have gq:=L.hd;generalize up3 H4 q (.lst ((ws.filter fun x=>!decide (x=b)).map T.str))=H5 at L gq;clear w1 n gA;refine⟨d,q,(ws.filter fun x=>!decide (x=b)).map T.str,rfl,(L.at' _ m_).2,gq,fL _,by rw[b_];have:=Xi (fun x=>!decide (x=b)) ws;omega,L.cl,fun ys R S p V I=>?_⟩;obtain⟨t,m,rfl⟩:=jJ p _ rfl;have X:Nms t:=⟨fun x j=>U.nm x (D_.mp (m.mem_iff.mp j)).1,m.nodup_iff.mpr (U.nd.filter _)⟩;have fcm:b∉t:=fun h=>by have:=(D_.mp (m.mem_iff.mp h)).2;simp at this
 have fl:t.length<=8:=by rw[m.length_eq];have:=Xi (fun x=>!decide (x=b)) ws;omega
 have J:=(L.drw V).tl.new (o:=.lst (t.map T.str)) I;have Z:=J.hd;have nfq:D≠S:=aZ (L.drw V).tl.hd I;generalize up3 R S (.lst (t.map T.str))=H7 at J Z;clear L V I gq p m;try dsimp only
 walk_at "";have w4:Wt d H3 H7 [(D,.lst ([b].map T.str)),(S,.lst (t.map T.str))]:=⟨J.cl,J.kp,fun x j=>by
  rcases o_.mp j with rfl | j
  ·
   exact J.at' _ (by simp)
  ·
   rw[g_.mp j];exact J.at' _ m_⟩
 clear J Z;refine aW T.str t (fun A σ H=>∃(ks:List Str) (v4:Option T),σ=[some (.ref d),some (.str b),some (.ref a),some (.ref D),v4]/\Nms ks/\ks.length<=4/\(∀x∈ks,x=b\/x∈A)/\Wt d H3 H [(D,.lst (ks.map T.str)),(S,.lst (t.map T.str))]) ⟨[b],_,rfl,⟨fun x j=>by rw[g_.mp j];exact hcm,by simp⟩,by simp,fun x j=>.inl (g_.mp j),w4⟩ ?_ ?_
 ·rintro σ H ⟨ks,v4,rfl,hk,k4,_,w⟩;refine⟨.inl w.tl.hd,?_⟩;have g:=w.hd;walk_at "n";clear w4;try dsimp only
  walk_at "";exact iW w.cl w.kp fun H'' V=>k'.out ks H'' hk k4 V
 rintro A x B σ H N e ⟨ks,v4,rfl,hk,k4,G,w⟩ hN;refine⟨.inl w.tl.hd,?_⟩;have j:isNm x:=X.nm x (by rw[e];simp);have hnx:x∉ks:=fun h=>by
  rcases G x h with h | h
  ·exact fcm (by rw[<- h,e];simp)
  have nd:=X.nd;rw[e,Yq] at nd;exact nd.2.2 x h x m_ rfl
 have hN':=Box.mk hN;have z:=Box.mk G;clear hN G e k' hR1 w4;have g:=w.hd;walk_at "";have v:∀R,Wt d H3 R [(D,.lst (ks.map T.str)),(S,.lst (t.map T.str))]->N [some (.ref d),some (.str b),some (.ref a),some (.ref D),some (.str x)] R:=fun R w'=>hN'.out _ _ ⟨ks,_,rfl,hk,k4,fun y hy=>(z.out y hy).imp id fun h=>Xr _ h,w'⟩;have l:=Box.mk v;clear v;split
 ·rename_i h4;have h4':ks.length<4:=by have:=Xa h4;omega
  refine⟨d,2,rfl,by decide,w.cl,fun n1 H8 p0 p1 Y=>?_⟩;have W:=w.drw Y;have g5:=W.hd;clear w g Y;walk_at "";split
  ·refine⟨⟨trivial,trivial⟩,d,_,rfl,by omega,W.cl,fun M H9 r0 r1 O=>?_⟩;have w6:=W.drw O;have g6:=w6.hd;clear W g5 O;walk_at "";have em:(ks.map T.str).take M.toNat++T.str x::(ks.map T.str).drop M.toNat=(ks.take M.toNat++x::ks.drop M.toNat).map T.str:=by rw[u_,y_,List.map_take,List.map_drop]
   rw[em];refine⟨⟨by first | trivial | omega,by first | trivial | omega,by first | trivial | omega⟩,hN'.out _ _ ⟨ks.take M.toNat++x::ks.drop M.toNat,_,rfl,hk.ins j hnx,?_,fun y hy=>?_,w6.set f0 (fun q n=>by rw[g_.mp n];exact Ne.symm nfq) _⟩⟩
   ·rw[a_,d_,Xc,Xe];omega
   rcases DY hy with rfl | h
   ·exact .inr (W9 _ (g_.mpr rfl))
   exact (z.out y h).imp id fun h=>Xr _ h
  exact l.out _ W
 exact l.out _ w
abbrev q9:List Str:=["_law_deck","_law_row","_law_names_here","_law_table","_law_many","_law_commons","_law_found","_law_i","_law_first"]
theorem sc_kinds:FnScope q9 ["_law_deck","_law_row","_law_names_here","_law_table"] (aA (top 41)):=bB
theorem Fe {f:Addr}{fd:FuncData}(g:G3 K mg "_law_kinds" (top 41) ["_law_deck","_law_row","_law_names_here","_law_table"] f fd) (B:Bl mg) (G:Cal P w K mg base 1 "_law_draw" (top 32) ["_law_deck","_law_most"] mW) (b:Cal P w K mg base 3 "_law_some_kinds" (top 40) ["_law_deck","_law_common","_law_names_here"] Va):Cal P w K mg base 4 "_law_kinds" (top 41) ["_law_deck","_law_row","_law_names_here","_law_table"] Vb:=by
 refine⟨f,fd,g,?_⟩;refine fn3 g.fn sc_kinds (fun ts H Q h=>?_) (fun cdv A outer s H E ts H3 Q hr h=>?_)
 ·obtain⟨d,r,a,t,F,ws,m,H0,as,rfl,_⟩:=h;rfl
 have S:=Room.u30 hr;obtain⟨d,r,a,t,F,ws,m,H0,as,rfl,nrd,nad,hr',r1,r8,hrow,ha,hws,w8,tq,m8,hC,k⟩:=h;refine⟨_,(ak (aF (i:=4) sc_kinds.nd (aP b7 rfl B.len_ b8 (aa (v3 3) aj)))
   (ak (aF (i:=5) sc_kinds.nd (bI aj))
   (ak (aF (i:=6) sc_kinds.nd (bI aj))
   (ak (bu G_ rfl (aR rfl B.range_ (aa (v3 4) aj)) (aC (i:=7) sc_kinds.nd) (ak (aF (i:=8) sc_kinds.nd (aH ix3 (bA rfl (bD (n0:=(aA (top 41)).names) (N:=q9) (N':=["_law_j","_law_i","_law_table"]) (nt:=1) (cap:=[7,3]) rfl rfl (by decide +kernel)) (aR rfl B.range_ (aa (v3 4) aj)) (fun cl pins s H C0 fp=>⟨(aC (i:=0) (show List.Nodup [("_law_j":Str),("_law_i":Str),("_law_table":Str)] by decide +kernel)),(dG (PW3.pt (j6 (aQ (cM S) (v3 0) (v3 1)) (iz (PW3.pt (cN (c7 (aH ix3 (aH ix3 (v3 2) (v3 1)) (v3 0))) (cV (c7 (aH ix3 (aH ix3 (v3 2) (v3 0)) (v3 1)))))))))),(v3 0)⟩)) ao))
    (ak (bM (aQ (cM S) (v3 8) (v3 7)) (aq (cg (dq M_ S_ T_ bJ (v3 5) (aa (aH ix3 (v3 1) (aK G hr rfl (aa (v3 0) (aa (aP b7 rfl B.len_ b8 (aa (v3 1) aj)) aj)))) aj)))) (aq (cg (dq M_ S_ T_ bJ (v3 5) (aa (aH ix3 (v3 5) (v3 8)) aj)))))
    (aq (bM (aQ (cM S) (aK G hr rfl (aa (v3 0) (aa ao aj))) ao) (aq (cg (dq M_ S_ T_ bJ (v3 6) (aa (aK b hr rfl (aa (v3 0) (aa (aH ix3 (v3 5) (v3 7)) (aa (v3 2) aj)))) aj)))) (aq (cg (dq M_ S_ T_ bJ (v3 6) (aa (bL aj) aj)))))))))
   (aq (aL (v3 6))))))),?_⟩
 rw[show aV q9 [T.ref d,T.ref r,T.ref a,T.ref t]=[some (T.ref d),some (T.ref r),some (T.ref a),some (T.ref t),none,none,none,none,none] from rfl];have hsz:sizeLine=16777216:=rfl;have k':=Box.mk k;clear k;have gt:=tq.t;have tl:as.length=m:=tq.l;have w0:Wt d H3 H3 [(r,.lst (F.map T.str)),(a,.lst (ws.map T.str))]:=⟨hC,Kep.refl,fun q hq=>by
  rcases o_.mp hq with rfl | hq
  ·
   exact⟨hr',nrd⟩
  ·
   rw[g_.mp hq];exact⟨ha,nad⟩⟩
 clear hC;have rg:dC 0 m=(List.range m).map fun (i:Nat)=>T.int (i:Int):=fP _;refine aB fun R0 hR0=>?_;walk_at "";walk_at "n";refine aB fun R1 hR1=>?_;walk_at "";refine⟨by omega,fun V y=>?_⟩;have c0:=w0.fresh y;have nrc:r≠V:=aZ hr' y;have nac:a≠V:=aZ ha y;have ntc:t≠V:=aZ gt y;have nsc:∀x∈as,x≠V:=fun x hx=>by obtain⟨bs,_,h2⟩:=tq.r x hx;exact aZ h2 y
 have w1:=w0.new (o:=.lst []) y;have M:=tq.new (o:=.lst []) y;generalize up3 H3 V (.lst [])=H4 at w1 M;clear y gt;walk_at "n";refine aB fun R2 hR2=>?_;walk_at "";refine⟨by omega,fun Z u=>?_⟩;have I:KI d H3 H0 (up3 H4 Z (.lst [])) Z V r a t F ws m as [] [] :=
  ⟨w1.new u,M.new u,Ne.symm (aZ w1.hd u),⟨nrc,aZ w1.tl.hd u⟩,⟨nac,aZ w1.tl.tl.hd u⟩,⟨ntc,aZ M.t u⟩,fun x hx=>⟨nsc x hx,by obtain⟨bs,_,h2⟩:=M.r x hx;exact aZ h2 u⟩,c0,w1.fresh u⟩
 generalize up3 H4 Z (.lst [])=H5 at I;clear w1 M u nrc nac ntc nsc c0 tq;walk_at "n";refine aB fun R3 hR3=>?_;walk_at "";refine⟨by first | trivial | omega,by omega,by omega,?_⟩;try rw[rg]
 refine aW (fun (i:Nat)=>T.int (i:Int)) (List.range m) (fun A σ H=>∃(p:List Str) (ks:List (List Str)) (v7 v8:Option T),σ=[some (.ref d),some (.ref r),some (.ref a),some (.ref t),some (.int (m:Int)),some (.ref V),some (.ref Z),v7,v8]/\KI d H3 H0 H Z V r a t F ws m as p ks/\p.length=A.length/\ks.length=A.length/\(∀c∈p,isNm c)/\(∀k∈ks,Nms k/\k.length<=4)) ⟨[],[],_,_,rfl,I,rfl,rfl,(fun _ h=>nomatch h),(fun _ h=>nomatch h)⟩ ?_ ?_
 ·rintro σ H ⟨p,ks,v7,v8,rfl,I,hcl,O,hc,hk⟩;refine⟨trivial,?_⟩;rw[k_] at O;walk_at "n";walk_at "";exact gG I.w.cl I.w.kp I.w.hd I.f0 (I.w.at' _ m_).2 fun H1 hD h1=>k'.out ks H1 Z O hk hD h1
 rintro A i B σ H N e ⟨p,ks,v7,v8,rfl,I,hcl,O,hc,hk⟩ hN;refine⟨trivial,?_⟩;have hi:i<m:=I_.mp (by rw[e];simp);have hiA:=Box.mk (ud e);have hN':=Box.mk hN;have R:=Box.mk hcl;have U:=Box.mk O;clear hN e k' hR3 hcl O;refine aB fun R4 hR4=>?_;walk_at "";refine⟨by first | trivial | omega,by omega,by omega,?_⟩;try rw[rg]
 walk_at "c";refine dW (fun (j:Nat)=>T.int (j:Int)) (List.range m) (fun A2 ys σ H'=>∃(L:List Nat) (v:Option T),σ=[v,some (.int (i:Int)),some (.ref t)]/\ys=L.map (fun (j:Nat)=>T.int (j:Int))/\L.length<=A2.length/\H=H'/\((L=[]/\i∉A2)\/∃f rest,L=f::rest/\f<=i)) ⟨[],_,rfl,rfl,j_ _,rfl,.inl ⟨rfl,by simp⟩⟩ ?_ ?_;rotate_left
 ·rintro A2 j B2 ys σ H' N2 e2 ⟨L,v,rfl,rfl,W,rfl,J⟩ hN2;refine⟨trivial,?_⟩;have hj:j<m:=I_.mp (by rw[e2];simp);have hjA:=ud e2;have hpr:=pL e2;have hA2:A2.length<8:=by omega
  have app:N2 (L.map (fun (j:Nat)=>T.int (j:Int))++[T.int (j:Int)]) [some (T.int (j:Int)),some (.int (i:Int)),some (.ref t)] H:=hN2 _ _ _ ⟨L++[j],_,rfl,by rw[u_];rfl,by rw[a_,a_];simp only[z_];omega,rfl,.inr (by
   rcases J with ⟨rfl,hni⟩ | ⟨f,rest,rfl,hf⟩
   ·
    refine⟨j,[],rfl,?_⟩
    rw[hpr,I_,<- hjA] at hni
    omega
   ·
    exact⟨f,rest++[j],rfl,hf⟩)⟩
  have skip:j≠i->N2 (L.map (fun (j:Nat)=>T.int (j:Int))) [some (T.int (j:Int)),some (.int (i:Int)),some (.ref t)] H:=fun hne=>hN2 _ _ _ ⟨L,_,rfl,rfl,by rw[a_];simp only[z_];omega,rfl,by
   rcases J with ⟨rfl,hni⟩ | h
   ·
    exact .inl ⟨rfl,fun h=>by
     rcases A_.mp h with h | h
     ·
      exact hni h
     ·
      exact hne (g_.mp h).symm⟩
   ·
    exact .inr h⟩
  have X:=Box.mk app;have skip':=Box.mk skip;have gt:=I.tq.t;obtain⟨ri,bi,gi,hri,li,gri⟩:=I.tq.at' hi;obtain⟨rj,bj,gj,hrj,lj,grj⟩:=I.tq.at' hj;obtain⟨x1,gx1⟩:=mZ (show j<bi.length by omega);obtain⟨x2,gx2⟩:=mZ (show i<bj.length by omega);have hjl':L.length<8:=by omega
  clear li lj app skip hN2 hN' J hjA hpr e2 hR4 W rg;walk_at "";by_cases hji:(j:Int)=(i:Int)
  ·rw[q_ hji,if_pos rfl];exact⟨by omega,X.out⟩
  rw[p_ hji,if_neg t_];have sk:=skip'.out (fun h=>hji (by rw[h]));split
  ·split
   ·exact⟨by omega,X.out⟩
   exact sk
  exact sk
 rintro ys σ H' ⟨L,v,rfl,rfl,W,rfl,J⟩;rw[k_] at W;refine⟨trivial,by rw[b_];omega,fun q hq=>?_⟩;obtain⟨f,rest,rfl,hf⟩:∃f rest,L=f::rest/\f<=i:=J.resolve_left fun h=>h.2 (I_.mpr hi);have C:=I.new (o:=.lst ((f::rest).map fun (j:Nat)=>T.int (j:Int))) hq;generalize up3 H q (.lst ((f::rest).map fun (j:Nat)=>T.int (j:Int)))=H6 at C;clear I hq J W;rw[y_,at0,gQ];walk_at "n";refine aB fun R5 hR5=>?_;have il:p.length=i:=R.out.trans hiA.out.symm;have key:∀(c:Str) (H7:Hp3),isNm c->KI d H3 H0 H7 Z V r a t F ws m as (p++[c]) ks->R5 { nx:=N,rt:=Fin3 Q,bk:=R3 { nx:=fun x H'=>Fin3 Q T.non H',rt:=Fin3 Q},ct:=N} [some (T.ref d),some (T.ref r),some (T.ref a),some (T.ref t),some (T.int (m:Int)),some (T.ref V),some (T.ref Z),some (T.int (i:Int)),some (T.int (f:Int))] H7:=fun c H7 hcn ki7=>by
  walk_at "n";clear C;have hcs:∀x∈p++[c],isNm x:=fun x hx=>by
   rcases A_.mp hx with h | h
   ·exact hc x h
   rw[g_.mp h];exact hcn
  have gci:atI ((p++[c]).map T.str) (i:Int)=some (.str c):=bN (by rw[<- il];simp);have il':=Box.mk il;clear il;walk_at "";refine⟨d,3,rfl,by decide,ki7.w.cl,fun n H8 p0 p1 hD=>?_⟩;have D:=ki7.drw hD;have gf:=D.w.hd;have gc:=D.w.tl.hd;have gA:=D.w.tl.tl.tl.hd;have kl:ks.length<8:=by rw[U.out,<- hiA.out];omega
  clear ki7 hD;walk_at "";split
  ·refine⟨⟨trivial,trivial⟩,d,a,c,ws,rfl,nad,gA,hws,w8,hcn,D.w.cl,fun k1 H9 hk1 hk4 hD9=>?_⟩;have ki9:=D.drw hD9;have gf9:=ki9.w.hd;clear D hD9 gf gc gA;try dsimp only
   walk_at "";have em:ks.map sT++[T.tup (k1.map T.str)]=(ks++[k1]).map sT:=by rw[u_];rfl
   rw[em];refine⟨by omega,hN'.out _ _ ⟨p++[c],ks++[k1],_,_,rfl,ki9.putf _,by rw[a_,a_,R.out];rfl,by rw[a_,a_,U.out];rfl,hcs,fun k hk'=>?_⟩⟩;rcases A_.mp hk' with h | h
   ·exact hk k h
   rw[g_.mp h];exact⟨hk1,hk4⟩
  have em:ks.map sT++[T.tup []]=(ks++[[]]).map sT:=by rw[u_];rfl
  rw[em];refine⟨⟨trivial,trivial⟩,by first | trivial | omega,by omega,hN'.out _ _ ⟨p++[c],ks++[[]],_,_,rfl,D.putf _,by rw[a_,a_,R.out];rfl,by rw[a_,a_,U.out];rfl,hcs,fun k hk'=>?_⟩⟩;rcases A_.mp hk' with h | h
  ·exact hk k h
  rw[g_.mp h];exact⟨Nms.nil,by decide⟩
 have Y:=Box.mk key;have gc:=C.w.tl.hd;have gr:=C.w.tl.tl.hd;have cl8:p.length<8:=by omega
 clear key hR5;walk_at "";by_cases hfi:(f:Int)=(i:Int)
 ·rw[q_ hfi,if_pos rfl];refine⟨⟨trivial,trivial⟩,d,_,rfl,by omega,C.w.cl,fun n H7 p0 p1 hD=>?_⟩;have ki3:=C.drw hD;have gr3:=ki3.w.tl.tl.hd;have gc3:=ki3.w.tl.hd;clear C hD gc gr;obtain⟨z,hz,ez⟩:=tG F n p0 (by omega);have ez':atI (F.map T.str) n=some (T.str z):=by rw[mC,ez];rfl
  clear ez;have em:p.map T.str++[T.str z]=(p++[z]).map T.str:=by rw[u_];rfl
  walk_at "";have fin:=Y.out z _ (hrow z hz) (ki3.putc _);rw[hfi] at fin;exact⟨by omega,fin⟩
 rw[p_ hfi,if_neg t_];have hfl:f<p.length:=by omega
 have gz:atI (p.map T.str) (f:Int)=some (T.str p[f]):=bN (by rw[H_,e_ hfl];rfl);have hz:=hc _ (Xx hfl);generalize p[f]=z at gz hz;have em:p.map T.str++[T.str z]=(p++[z]).map T.str:=by rw[u_];rfl
 rw[gz,gQ,em];exact⟨⟨trivial,trivial⟩,by omega,Y.out z _ hz (C.putc _)⟩
abbrev jY:List Str:=["_law_many","_law_edges","_law_table","_law_k","_law_i","_law_j"]
theorem sc_chained:FnScope jY ["_law_many","_law_edges"] (aA (top 38)):=bB
theorem vW {f:Addr}{fd:FuncData}(g:G3 K mg "_law_chained" (top 38) ["_law_many","_law_edges"] f fd) (B:Bl mg):Cal P w K mg base 1 "_law_chained" (top 38) ["_law_many","_law_edges"] U7:=by
 refine⟨f,fd,g,?_⟩;refine fn3 g.fn sc_chained (fun ts H Q h=>?_) (fun cdv A outer s H E ts H3 Q hr h=>?_)
 ·obtain⟨m,a,W,rfl,_⟩:=h;rfl
 have R:=Room.u31 hr;obtain⟨m,a,W,rfl,m8,ha,hes,k⟩:=h;refine⟨_,(ak (jC (i:=2) rfl sc_chained.nd (bD (n0:=(aA (top 38)).names) (N:=jY) (N':=["_law_i","_law_edges","_law_many"]) (nt:=1) (cap:=[1,0]) rfl rfl (by decide +kernel)) (aR rfl B.range_ (aa (v3 0) aj)) (fun cl F s H C0 fp=>⟨(aC (i:=0) (show List.Nodup [("_law_i":Str),("_law_edges":Str),("_law_many":Str)] by decide +kernel)),bQ,(bA rfl (xn (n00:=(aA (top 38)).names) (N:=["_law_i","_law_edges","_law_many"]) (N':=["_law_j","_law_edges","_law_i"]) (nt:=1) (cap:=[1,0]) rfl rfl rfl (by decide +kernel)) (aR rfl B.range_ (aa (v3 2) aj)) (fun cl F s H C0 fp=>⟨(aC (i:=0) (show List.Nodup [("_law_j":Str),("_law_edges":Str),("_law_i":Str)] by decide +kernel)),bQ,(cZ (sW R) (bL (aa (v3 2) (aa (v3 0) aj))) (v3 1) rfl)⟩))⟩))
   (ak (bu G_ rfl (aR rfl B.range_ (aa (v3 0) aj)) (aC (i:=3) sc_chained.nd) (aq (bu G_ rfl (aR rfl B.range_ (aa (v3 0) aj)) (aC (i:=4) sc_chained.nd) (aq (bu G_ rfl (aR rfl B.range_ (aa (v3 0) aj)) (aC (i:=5) sc_chained.nd) (aq (u9 (JL (aH ix3 (aH ix3 (v3 2) (v3 4)) (v3 5)) (lW (u6 (aH ix3 (aH ix3 (v3 2) (v3 4)) (v3 3)) (lW (aH ix3 (aH ix3 (v3 2) (v3 3)) (v3 5)))))) (Bh (aH ix3 (v3 2) (v3 4)) (v3 5) o9))))))))
   (aq (aL (v3 2))))),?_⟩
 rw[show aV jY [T.int (m:Int),T.ref a]=[some (T.int (m:Int)),some (T.ref a),none,none,none,none] from rfl];have hsz:sizeLine=16777216:=rfl;have k':=Box.mk k;clear k;have x:dC 0 m=(List.range m).map fun (i:Nat)=>T.int (i:Int):=fP m;refine aB fun R0 hR0=>?_;walk_at "";refine⟨by first | trivial | omega,by omega,by omega,?_⟩;try rw[x]
 walk_at "c";refine dW (fun (i:Nat)=>T.int (i:Int)) (List.range m) (fun A ys d H=>∃(l:List Addr) (v:Option T),d=[v,some (.ref a),some (.int (m:Int))]/\ys=l.map T.ref/\l.length=A.length/\Rws H3 H m l) ⟨[],_,rfl,rfl,rfl,Sub3.refl,(fun _ h=>nomatch h),(fun _ h=>nomatch h)⟩ ?_ ?_;rotate_left
 ·rintro A i B ys d H N e ⟨l,v,rfl,rfl,D,u⟩ hN;refine⟨trivial,?_⟩;have hA:A.length<8:=by have:=O_ List.length e;simp only[a_,d_,k_] at this;omega
  have O:=Box.mk hN;have ha':=u.sb _ _ ha;clear hN e k' hR0 ha;walk_at "";refine⟨by first | trivial | omega,by omega,by omega,?_⟩;try rw[x]
  walk_at "c";refine cL (fun (j:Nat)=>T.int (j:Int)) (fun j=>.bl (dD false (.tup [.int (i:Int),.int (j:Int)]) W)) (List.range m) [some (.ref a),some (.int (i:Int))] trivial (by rw[k_];omega) (fun j hj Q' hq=>?_) (fun q hq=>?_)
  ·clear O x;walk_at "";exact⟨by decide,rfl,trivial,trivial⟩
  rw[show (List.range m).map (fun (j:Nat)=>T.bl (dD false (.tup [.int (i:Int),.int (j:Int)]) W))=((List.range m).map fun (j:Nat)=>dD false (.tup [.int (i:Int),.int (j:Int)]) W).map T.bl by rw[N_];rfl];refine⟨by first | omega | (rw[b_,D];omega),O.out _ _ _ ⟨l++[q],_,rfl,by rw[u_];rfl,by rw[a_,a_,D];rfl,u.grow (by rw[b_,k_]) hq⟩⟩
 rintro ys d H ⟨l,v,rfl,rfl,D,u⟩;rw[k_] at D;refine⟨trivial,by rw[b_];omega,fun p z=>?_⟩;have c:Tb H3 (up3 H p (.lst (l.map T.ref))) p m l:=by
  refine⟨u.sb.trans (Sub3.new z),D,au,fun b hb=>?_,fun Z=>?_,d9 u.sb z,u.fa⟩
  ·obtain⟨bs,h1,X⟩:=u.r b hb;exact⟨bs,h1,by rw[aD (aZ X z)];exact X⟩
  obtain⟨bs,_,X⟩:=u.r p Z;rw[X] at z;cases z
 generalize up3 H p (.lst (l.map T.ref))=H4 at c;clear u z;walk_at "n";refine aB fun R1 hR1=>?_;walk_at "";refine⟨by first | trivial | omega,by omega,by omega,?_⟩;try rw[x]
 refine aW (fun (i:Nat)=>T.int (i:Int)) (List.range m) (fun _ d H=>∃(v3 y o:Option T),d=[some (.int (m:Int)),some (.ref a),some (.ref p),v3,y,o]/\Tb H3 H p m l) ⟨_,_,_,rfl,c⟩ ?_ ?_
 ·rintro d H ⟨v3,y,o,rfl,c⟩;refine⟨trivial,?_⟩;walk_at "n";walk_at "";exact Fin3.of Sub3.refl (k'.out p l H c)
 rintro A1 L B1 d H N1 e1 ⟨v3,y,o,rfl,c⟩ V;refine⟨trivial,?_⟩;have hk:L<m:=I_.mp (by rw[e1];simp);have U:=Box.mk V;clear V e1 hR1 k' ha;walk_at "";refine⟨by first | trivial | omega,by omega,by omega,?_⟩;try rw[x]
 refine aW (fun (i:Nat)=>T.int (i:Int)) (List.range m) (fun _ d H=>∃(y o:Option T),d=[some (.int (m:Int)),some (.ref a),some (.ref p),some (.int (L:Int)),y,o]/\Tb H3 H p m l) ⟨_,_,rfl,c⟩ ?_ ?_
 ·rintro d H ⟨y,o,rfl,c⟩;exact⟨trivial,U.out _ _ ⟨_,_,_,rfl,c⟩⟩
 rintro A2 ii B2 d H N2 e2 ⟨y,o,rfl,c⟩ I;refine⟨trivial,?_⟩;have hii:ii<m:=I_.mp (by rw[e2];simp);have G:=Box.mk I;clear I e2 U;walk_at "";refine⟨by first | trivial | omega,by omega,by omega,?_⟩;try rw[x]
 refine aW (fun (i:Nat)=>T.int (i:Int)) (List.range m) (fun _ d H=>∃(o:Option T),d=[some (.int (m:Int)),some (.ref a),some (.ref p),some (.int (L:Int)),some (.int (ii:Int)),o]/\Tb H3 H p m l) ⟨_,rfl,c⟩ ?_ ?_
 ·rintro d H ⟨o,rfl,c⟩;exact⟨trivial,G.out _ _ ⟨_,_,rfl,c⟩⟩
 rintro A3 S B3 d H N3 e3 ⟨o,rfl,c⟩ C;refine⟨trivial,?_⟩;have hjj:S<m:=I_.mp (by rw[e3];simp);have hM3:=Box.mk C;clear C e3 G x;have gt:=c.t;obtain⟨ri,Y,gi,hri,li,gri⟩:=c.at' hii;obtain⟨rk,bk,gk,hrk,lk,grk⟩:=c.at' hk;obtain⟨x1,gx1⟩:=mZ (show S<Y.length by omega);obtain⟨x2,gx2⟩:=mZ (show L<Y.length by omega);obtain⟨x3,gx3⟩:=mZ (show S<bk.length by omega);have J:=Box.mk li;clear li lk;have M:∀b:Bool,oq (ixN Y.length (S:Int)) fun j=>N3 [some (T.int (m:Int)),some (T.ref a),some (T.ref p),some (T.int (L:Int)),some (T.int (ii:Int)),some (T.int (S:Int))] (up3 H ri (O3.lst ((List.map T.bl Y).set j (T.bl b)))):=fun b=>by rw[qG (by have:=J.out;omega),gQ,<- List.map_set];exact hM3.out _ _ ⟨_,rfl,c.put hri (by rw[List.length_set];exact J.out)⟩
 have n:=Box.mk M;clear M;walk_at "";split
 ·exact n.out true
 split
 ·exact n.out x3
 exact n.out false
abbrev rm:List Str:=["_law_deck","_law_names_here","_law_orders","_law_lots","_law_many","_law_pairs_here","_law_edges","_law_i","_law_j","_law_table"]
theorem sc_pairs:FnScope rm ["_law_deck","_law_names_here","_law_orders","_law_lots"] (aA (top 39)):=bB
theorem Ff {f:Addr}{fd:FuncData}(g:G3 K mg "_law_pairs" (top 39) ["_law_deck","_law_names_here","_law_orders","_law_lots"] f fd) (B:Bl mg) (F_turn:Cal P w K mg base 2 "_law_turn" (top 36) ["_law_deck","_law_things"] Iw) (M:Cal P w K mg base 1 "_law_draw" (top 32) ["_law_deck","_law_most"] mW) (L:Cal P w K mg base 1 "_law_chained" (top 38) ["_law_many","_law_edges"] U7):Cal P w K mg base 3 "_law_pairs" (top 39) ["_law_deck","_law_names_here","_law_orders","_law_lots"] U8:=by
 refine⟨f,fd,g,?_⟩;refine fn3 g.fn sc_pairs (fun ts H Q h=>?_) (fun cdv A outer s H E ts H3 Q hr h=>?_)
 ·obtain⟨d,a,o,ws,v,l,rfl,_⟩:=h;rfl
 have R:=Room.u30 hr;obtain⟨d,a,o,ws,v,l,rfl,l1,l100,nad,nod,ha,hws,w8,ho,hes,e28,hC,k⟩:=h;refine⟨_,(ak (aF (i:=4) sc_pairs.nd (aP b7 rfl B.len_ b8 (aa (v3 1) aj)))
   (ak (aF (i:=5) sc_pairs.nd (bI aj))
   (ak (aF (i:=6) sc_pairs.nd (bG qC rfl B.list_ kZ (aa (v3 2) aj)))
   (ak (bu G_ rfl (aR rfl B.range_ (aa (v3 4) aj)) (aC (i:=7) sc_pairs.nd) (aq (bu G_ rfl (aR rfl B.range_ (aa (v3 4) aj)) (aC (i:=8) sc_pairs.nd) (aq (bM (PW3.pt (cN (aQ (j8 R) (v3 7) (v3 8)) (cN (aQ (cM R) (aK M hr rfl (aa (v3 0) (aa (aJ f9 ao (v3 3)) aj))) ao) (cV (aQ o5 (aP b7 rfl B.len_ b8 (aa (v3 5) aj)) ao))))) (ak (cg (dq M_ S_ T_ bJ (v3 5) (aa (bL (aa fZ (aa (v3 7) (aa (v3 8) aj)))) aj)))
      (aq (aF (i:=6) sc_pairs.nd (aJ bh (v3 6) (bI (aa (bL (aa (v3 7) (aa (v3 8) aj))) (aa (bL (aa (v3 8) (aa (v3 7) aj))) aj))))))) bf)))))
   (ak (aF (i:=9) sc_pairs.nd (aK L hr rfl (aa (v3 4) (aa (v3 6) aj))))
   (ak (bu G_ rfl (aR rfl B.range_ (aa (v3 4) aj)) (aC (i:=7) sc_pairs.nd) (aq (bu G_ rfl (aR rfl B.range_ (aa (v3 4) aj)) (aC (i:=8) sc_pairs.nd) (aq (bM (PW3.pt (cN (aQ (j8 R) (v3 7) (v3 8)) (cN (aQ (cM R) (aK M hr rfl (aa (v3 0) (aa (v3 3) aj))) ao) (cN (jR (PW3.pt (cN (c7 (aH ix3 (aH ix3 (v3 9) (v3 7)) (v3 8))) (cV (c7 (aH ix3 (aH ix3 (v3 9) (v3 8)) (v3 7))))))) (cV (aQ o5 (aP b7 rfl B.len_ b8 (aa (v3 5) aj)) ao)))))) (aq (cg (dq M_ S_ T_ bJ (v3 5) (aa (bL (aa fZ (aa (v3 7) (aa (v3 8) aj)))) aj)))) bf)))))
   (ak (aF (i:=5) sc_pairs.nd (aK F_turn hr rfl (aa (v3 0) (aa (v3 5) aj))))
   (aq (aL (bL (aa (bG cR rfl B.tuple_ cT (aa (bA rfl (bD (n0:=(aA (top 39)).names) (N:=rm) (N':=["_law_word","_law_i","_law_j","_law_names_here"]) (nt:=3) (cap:=[1]) rfl rfl (by decide +kernel)) (cz (v3 5)) (fun cl pins s H C0 fp=>⟨(cD (n:=3) rfl (aG (aC (i:=0) (show List.Nodup [("_law_word":Str),("_law_i":Str),("_law_j":Str),("_law_names_here":Str)] by decide +kernel)) (aG (aC (i:=1) (show List.Nodup [("_law_word":Str),("_law_i":Str),("_law_j":Str),("_law_names_here":Str)] by decide +kernel)) (aG (aC (i:=2) (show List.Nodup [("_law_word":Str),("_law_i":Str),("_law_j":Str),("_law_names_here":Str)] by decide +kernel)) bO)))),bQ,(bL (aa (v3 0) (aa (aH ix3 (v3 3) (v3 1)) (aa (aH ix3 (v3 3) (v3 2)) aj))))⟩)) aj)) (aa (v3 9) aj)))))))))))),?_⟩
 rw[show aV rm [T.ref d,T.ref a,T.ref o,T.int l]=[some (T.ref d),some (T.ref a),some (T.ref o),some (T.int l),none,none,none,none,none,none] from rfl];have hsz:sizeLine=16777216:=rfl;have k':=Box.mk k;clear k;have w0:Wt d H3 H3 []:=⟨hC,Kep.refl,(fun _ h=>nomatch h)⟩;have w0:Wt d H3 H3 [(a,.lst (ws.map T.str))]:=⟨hC,Kep.refl,fun q G=>by rw[g_.mp G];exact⟨ha,nad⟩⟩;clear hC;have rg:dC 0 ws.length=(List.range ws.length).map fun (i:Nat)=>T.int (i:Int):=fP _;refine aB fun R0 hR0=>?_;walk_at "";walk_at "n";refine aB fun R1 hR1=>?_;walk_at "";refine⟨by omega,fun z hpp=>?_⟩;have pp0:=w0.fresh hpp;have npa:a≠z:=aZ ha hpp;have npo:o≠z:=aZ ho hpp;have w1:=w0.new (o:=.lst []) hpp;have ho1:up3 H3 z (.lst []) o=some (.lst v):=by rw[aD npo];exact ho
 generalize up3 H3 z (.lst [])=H4 at w1 ho1;clear w0 hpp ha;walk_at "n";refine aB fun R2 hR2=>?_;walk_at "";intro r U;have w2:=w1.new (o:=.lst v) U;have pe0:=w1.fresh U;have npe:z≠r:=aZ w1.hd U;have nae:a≠r:=aZ w1.tl.hd U;generalize up3 H4 r (.lst v)=H5 at w2;clear w1 U ho1;walk_at "n";have pi0:PI d H3 H5 z r a ws [] v:=⟨⟨w2.cl,w2.kp,fun q G=>w2.at' q (by simp only[o_,Xu,Za] at G ⊢;rcases G with h | h | h;exact .inr (.inl h);exact .inl h;exact .inr (.inr h))⟩,Ne.symm npe,npa,by decide,hes,by simp;omega,(fun _ h=>nomatch h)⟩;clear w2 pe0 npe nae;refine aB fun R3 hR3=>?_;walk_at "";refine⟨trivial,by omega,by omega,?_⟩;try rw[rg]
 refine aW (fun (i:Nat)=>T.int (i:Int)) (List.range ws.length) (fun A J H=>∃(ps:List (Bool × Nat × Nat)) (v:List T) (r:Addr) (v7 D:Option T),J=[some (.ref d),some (.ref a),some (.ref o),some (.int l),some (.int (ws.length:Int)),some (.ref z),some (.ref r),v7,D,none]/\PI d H3 H z r a ws ps v/\ps.Sublist (enm true ws.length A)) ⟨[],v,r,_,_,rfl,pi0,aaf _⟩ ?_ ?_;rotate_left
 ·rintro A i B J H N e ⟨ps,v,r,v7,D,rfl,c,b⟩ hN;refine⟨trivial,?_⟩;have hi:i<ws.length:=I_.mp (by rw[e];simp);have hM:=Box.mk hN;clear hN e pi0 k' hR3;walk_at "";refine⟨trivial,by omega,by omega,?_⟩;try rw[rg]
  refine aW (fun (i:Nat)=>T.int (i:Int)) (List.range ws.length) (fun A2 J H=>∃(ps:List (Bool × Nat × Nat)) (v:List T) (r:Addr) (D:Option T),J=[some (.ref d),some (.ref a),some (.ref o),some (.int l),some (.int (ws.length:Int)),some (.ref z),some (.ref r),some (.int (i:Int)),D,none]/\PI d H3 H z r a ws ps v/\ps.Sublist (enm true ws.length A++A2.map fun j=>(true,i,j))) ⟨ps,v,r,_,rfl,c,by rw[Xy,J_];exact b⟩ ?_ ?_
  ·rintro J H ⟨ps,v,r,D,rfl,c,b⟩;exact⟨trivial,hM.out _ _ ⟨ps,v,r,_,_,rfl,c,by rw[t7];exact b⟩⟩
  rintro A2 j B2 J H N2 e2 ⟨ps,v,r,D,rfl,c,b⟩ Y;refine⟨trivial,?_⟩;have hj:j<ws.length:=I_.mp (by rw[e2];simp);have I:=Box.mk Y;have W:=vM (y:=(true,i,j)) b;have C:=vN (y:=(true,i,j)) b;rw[x_,show [(true,i,j)]=[j].map fun j=>(true,i,j) from rfl,<- u_] at W C;clear Y e2 hM rg b;walk_at "";by_cases F:(i:Int)=(j:Int)
  ·rw[q_ F];simp only[Xw,K_,Xd];exact I.out _ _ ⟨ps,v,r,_,rfl,c,C⟩
  rw[p_ F];simp only[Ys,if_true];refine⟨.inl ⟨by decide,by decide⟩,d,_,rfl,by omega,c.w.cl,fun n H6 n0 n1 hD=>?_⟩;have u:=c.drw hD;clear c hD;have g1:=u.w.hd;have g2:=u.w.tl.hd;walk_at "";have O:=Box.mk (I.out [some (.ref d),some (.ref a),some (.ref o),some (.int l),some (.int (ws.length:Int)),some (.ref z),some (.ref r),some (.int (i:Int)),some (.int (j:Int)),none] H6 ⟨ps,v,r,_,rfl,u,C⟩);split
  ·split
   ·rename_i h12;have h12':ps.length<12:=by have:=Xa h12;omega
    have el:=u.el;have e1:ps.map pT3++[T.tup [T.str (Str.ofString "with"),T.int (i:Int),T.int (j:Int)]]=(ps++[(true,i,j)]).map pT3:=by rw[u_];rfl
    rw[e1];refine⟨⟨trivial,trivial⟩,by decide,by omega,by decide,by decide,by decide,fun q0 hq0=>?_⟩;have V:up3 H6 z (.lst ((ps++[(true,i,j)]).map pT3)) r=some (.lst v):=by rw[aD u.ne];exact g2
    rw[aD (aZ V hq0),V,my];refine⟨by rw[d_,d_,YD];omega,fun q G=>?_⟩;exact I.out _ _ ⟨ps++[(true,i,j)],v++[T.tup [T.int (i:Int),T.int (j:Int)],T.tup [T.int (j:Int),T.int (i:Int)]],q,_,rfl,u.add pp0 h12' ⟨fun h=>F (by have:i=j:=h;rw[this]),hi,hj⟩ hq0 G rfl rfl,W⟩
   first | exact O.out | trivial
  first | exact O.out | trivial
 rintro J H ⟨ps,v,r,v7,D,rfl,c,b⟩;refine⟨trivial,?_⟩;clear pi0;walk_at "n";refine aB fun R4 hR4=>?_;have V:=c.w.tl.hd;walk_at "";refine⟨ws.length,r,v,rfl,w8,V,c.ea,fun pt as H7 tb=>?_⟩;have S:Tq d H3 H7 pt ws.length as:=tb.tq c.w.cl c.w.kp;have npt:pt≠z:=Ne.symm (aZ c.w.hd tb.f0);have nas:∀x∈as,x≠z:=fun x hx=>Ne.symm (aZ c.w.hd (tb.fa x hx));have pi1:=c.sub tb.sb;clear c tb V;walk_at "n";refine aB fun R5 hR5=>?_;walk_at "";refine⟨trivial,by omega,by omega,?_⟩;try rw[rg]
 refine aW (fun (i:Nat)=>T.int (i:Int)) (List.range ws.length) (fun A J H=>∃(ps:List (Bool × Nat × Nat)) (v7 D:Option T),J=[some (.ref d),some (.ref a),some (.ref o),some (.int l),some (.int (ws.length:Int)),some (.ref z),some (.ref r),v7,D,some (.ref pt)]/\PI d H3 H z r a ws ps v/\Tq d H3 H pt ws.length as/\ps.Sublist (enm true ws.length (List.range ws.length)++enm false ws.length A)) ⟨ps,_,_,rfl,pi1,S,by rw[show enm false ws.length []=[] from rfl,J_];exact b⟩ ?_ ?_;rotate_left
 ·rintro A i B J H N e ⟨ps,v7,D,rfl,c,S,b⟩ hN;refine⟨trivial,?_⟩;have hi:i<ws.length:=I_.mp (by rw[e];simp);have hM:=Box.mk hN;clear hN e pi1 k' hR5;walk_at "";refine⟨trivial,by omega,by omega,?_⟩;try rw[rg]
  refine aW (fun (i:Nat)=>T.int (i:Int)) (List.range ws.length) (fun A2 J H=>∃(ps:List (Bool × Nat × Nat)) (D:Option T),J=[some (.ref d),some (.ref a),some (.ref o),some (.int l),some (.int (ws.length:Int)),some (.ref z),some (.ref r),some (.int (i:Int)),D,some (.ref pt)]/\PI d H3 H z r a ws ps v/\Tq d H3 H pt ws.length as/\ps.Sublist (enm true ws.length (List.range ws.length)++enm false ws.length A++A2.map fun j=>(false,i,j))) ⟨ps,_,rfl,c,S,by rw[Xy,J_];exact b⟩ ?_ ?_
  ·rintro J H ⟨ps,D,rfl,c,S,b⟩;exact⟨trivial,hM.out _ _ ⟨ps,_,_,rfl,c,S,by rw[t7,<- x_];exact b⟩⟩
  rintro A2 j B2 J H N2 e2 ⟨ps,D,rfl,c,S,b⟩ Y;refine⟨trivial,?_⟩;have hj:j<ws.length:=I_.mp (by rw[e2];simp);have I:=Box.mk Y;have W:=vM (y:=(false,i,j)) b;have C:=vN (y:=(false,i,j)) b;rw[x_ (_++_),show [(false,i,j)]=[j].map fun j=>(false,i,j) from rfl,<- u_] at W C;clear Y e2 hM rg b;walk_at "";by_cases F:(i:Int)=(j:Int)
  ·rw[q_ F];simp only[Xw,K_,Xd];exact I.out _ _ ⟨ps,_,rfl,c,S,C⟩
  rw[p_ F];simp only[Ys,if_true];refine⟨d,_,rfl,by omega,c.w.cl,fun n H6 n0 n1 hD=>?_⟩;have u:=c.drw hD;have X:=S.drw hD;clear c hD S;have g1:=u.w.hd;have gt:=X.t;obtain⟨ri,bi,gi,hri,li,gri⟩:=X.at' hi;obtain⟨rj,bj,gj,hrj,lj,grj⟩:=X.at' hj;obtain⟨x1,gx1⟩:=mZ (show j<bi.length by omega);obtain⟨x2,gx2⟩:=mZ (show i<bj.length by omega);clear li lj;have O:=Box.mk (I.out [some (.ref d),some (.ref a),some (.ref o),some (.int l),some (.int (ws.length:Int)),some (.ref z),some (.ref r),some (.int (i:Int)),some (.int (j:Int)),some (.ref pt)] H6 ⟨ps,_,rfl,u,X,C⟩);have e1:ps.map pT3++[T.tup [T.str (Str.ofString "apart"),T.int (i:Int),T.int (j:Int)]]=(ps++[(false,i,j)]).map pT3:=by rw[u_];rfl
  have go:decide ((ps.length:Int)<12)=true->N2 [some (.ref d),some (.ref a),some (.ref o),some (.int l),some (.int (ws.length:Int)),some (.ref z),some (.ref r),some (.int (i:Int)),some (.int (j:Int)),some (.ref pt)] (up3 H6 z (O3.lst (List.map pT3 ps++[T.tup [T.str (Str.ofString "apart"),T.int (i:Int),T.int (j:Int)]]))):=fun h12=>by rw[e1];exact I.out _ _ ⟨ps++[(false,i,j)],_,rfl,u.add1 pp0 (by have:=Xa h12;omega) ⟨fun h=>F (by have:i=j:=h;rw[this]),hi,hj⟩,X.set npt nas,W⟩
  have go':=Box.mk go;have l12:=u.l12;clear go e1;walk_at ""
  repeat' split
  all_goals first | exact O.out | exact⟨⟨trivial,trivial⟩,by decide,by omega,go'.out (by assumption)⟩ | trivial
 rintro J H ⟨ps,v7,D,rfl,c,S,b⟩;refine⟨trivial,?_⟩;clear pi1;walk_at "n";refine aB fun R6 hR6=>?_;have g1:=c.w.hd;have l12:=c.l12;walk_at "";refine⟨d,z,ps.map pT3,rfl,(c.w.at' _ m_).2,g1,U9 ps,by rw[b_];omega,c.w.cl,fun ys H8 q Z hD G=>?_⟩;obtain⟨m,hp',rfl⟩:=jJ Z ps rfl;have nd':m.Nodup:=(hp'.nodup_iff).mpr ((Ja ⟨ws.length,by omega⟩).sublist b);have ok':∀x∈m,x.2.1≠x.2.2/\x.2.1<ws.length/\x.2.2<ws.length:=fun x hx=>c.ok x (hp'.mem_iff.mp hx);have l12':m.length<=12:=by rw[hp'.length_eq];exact l12
 have w9:=(c.w.drw hD).tl.tl.new (o:=.lst (m.map pT3)) G;have tq9:=(S.drw hD).new (o:=.lst (m.map pT3)) G;generalize up3 H8 q (.lst (m.map pT3))=H9 at w9 tq9;clear hD G c S Z hp' b g1 l12 rg;walk_at "n";have gq:=w9.hd;have gA:=w9.tl.hd;try dsimp only
 walk_at "";walk_at "c";refine gD (fun x:Bool × Nat × Nat=>.str (bw x.1)) (fun x=>.int (x.2.1:Int)) (fun x=>.int (x.2.2:Int)) (fun x=>prT (nmP ws x)) (fun _=>true) m [some (.ref a)] (.inl gq) (by omega) (fun x hx Q' G=>G) (fun x hx _ Q' G=>?_) (fun p hp=>?_)
 ·have o:=ok' x hx;have a1:=getD_at o.2.1;have a2:=getD_at o.2.2;have hq':=Box.mk G;clear k' G;walk_at "";exact⟨by decide,hq'.out⟩
 rw[show m.filter (fun _=>true)=m from Ye.mpr fun _ _=>rfl] at *;rw[show m.map (fun x=>prT (nmP ws x))=(m.map (nmP ws)).map prT by rw[N_];rfl];have w10:=w9.new (o:=.lst ((m.map (nmP ws)).map prT)) hp;have tq10:=tq9.new (o:=.lst ((m.map (nmP ws)).map prT)) hp;generalize up3 H9 p (.lst ((m.map (nmP ws)).map prT))=H10 at w10 tq10;walk_at "";exact⟨by decide,Fin3.of Sub3.refl (k'.out (m.map (nmP ws)) pt as H10 (by rw[b_];exact l12') (Qs hws.nd nd' ok') (fun x hx=>by obtain⟨y,hy,rfl⟩:=i_.mp hx;exact Qt hws.nd (ok' y hy)) w10.cl w10.kp tq10)⟩
abbrev kh:List Str:=["_law_size","_law_number","_law_names_here","_law_letters","_law_found","_law_turn_here","_law_left","_law_name","_law_k"]
theorem sc_free_name:FnScope kh ["_law_size","_law_number","_law_names_here"] (aA (top 34)):=bB
theorem rA {f:Addr}{fd:FuncData}(g:G3 K mg "_law_free_name" (top 34) ["_law_size","_law_number","_law_names_here"] f fd) (B:Bl mg):Cal P w K mg base 1 "_law_free_name" (top 34) ["_law_size","_law_number","_law_names_here"] U5:=by
 refine⟨f,fd,g,?_⟩;refine fn3 g.fn sc_free_name (fun ts H Q h=>?_) (fun cdv A Y s H E ts H3 Q hr h=>?_)
 ·obtain⟨d,b,a,ws,rfl,_⟩:=h;rfl
 have I:=Room.u30 hr;have J:=Room.u31 hr;obtain⟨d,b,a,ws,rfl,s1,s8,ha,hl,k⟩:=h;refine⟨_,(ak (aF (i:=3) sc_free_name.nd fZ)
   (ak (aF (i:=4) sc_free_name.nd fZ)
   (ak (bu G_ rfl (aR rfl B.range_ (aa (aJ bh (aP b7 rfl B.len_ b8 (aa (v3 2) aj)) ao) aj)) (aC (i:=5) sc_free_name.nd) (ak (aF (i:=6) sc_free_name.nd (aJ bh (v3 1) (v3 5)))
    (ak (aF (i:=7) sc_free_name.nd fZ)
    (ak (bu G_ rfl (aR rfl B.range_ (aa (v3 0) aj)) (aC (i:=8) sc_free_name.nd) (ak (aF (i:=7) sc_free_name.nd (aJ bh (v3 7) (aH ix3 (v3 3) (aJ dU (v3 6) ao))))
     (aq (aF (i:=6) sc_free_name.nd (aJ fJ (v3 6) ao)))))
    (aq (bM (PW3.pt (cN (aQ (cM I) (v3 4) fZ) (cV (aQ (sZ J) (v3 7) (v3 2) rfl)))) (aq (aF (i:=4) sc_free_name.nd (v3 7))) bf))))))
   (aq (aL (v3 4)))))),?_⟩
 rw[show aV kh [T.int (d:Int),T.int b,T.ref a]=[some (T.int (d:Int)),some (T.int b),some (T.ref a),none,none,none,none,none,none] from rfl];have hsz:sizeLine=16777216:=rfl;have al:(mkS kJ).length<=sizeLine:=by rw[dY];decide
 have k':=Box.mk k;clear k;have U:("":Str)=mkS []:=by decide +kernel
 refine aB fun R0 hR0=>?_;walk_at "";simp only[DG];walk_at "n";refine aB fun R1 hR1=>?_;walk_at "";walk_at "n";refine aB fun R2 W=>?_;walk_at "";refine⟨by first | trivial | omega,by omega,by omega,?_⟩;rw[show dC 0 ((ws.length:Int)+1).toNat=(List.range (ws.length+1)).map (fun (i:Nat)=>T.int (i:Int)) by rw[show ((ws.length:Int)+1).toNat=ws.length+1 by omega];exact fP _];refine aW (fun (i:Nat)=>T.int (i:Int)) (List.range (ws.length+1)) (fun A C H=>∃(m:Str) (Z S v7 F:Option T),C=[some (.int (d:Int)),some (.int b),some (.ref a),some (.str (mkS kJ)),some (.str m),Z,S,v7,F]/\H3=H/\((m=""/\∀i∈A,mkS (dg d (b+i))∈ws)\/(isNm m/\m∉ws))) ⟨"",_,_,_,_,rfl,rfl,.inl ⟨rfl,(fun _ h=>nomatch h)⟩⟩ ?_ ?_
 ·rintro C H ⟨m,Z,S,v7,F,rfl,rfl,v⟩;refine⟨trivial,?_⟩;walk_at "n";walk_at "";rcases v with ⟨_,o⟩ | ⟨h1,h2⟩
  ·exfalso;obtain⟨n,rfl⟩:∃n,d=n+1:=⟨d - 1,by omega⟩;exact pig ws (fun i=>mkS (dg (n+1) (b+i))) (fun i j hi G h=>Qp (by omega) (by omega) h) fun i hi=>o i (I_.mpr (by omega))
  exact Fin3.of Sub3.refl (k'.out m h1 h2)
 rintro A i B C H N e ⟨m,Z,S,v7,F,rfl,rfl,v⟩ hN;refine⟨trivial,?_⟩;have t:=Box.mk hN;have p:=Box.mk v;clear hN v e k' W;refine aB fun R3 hR3=>?_;walk_at "";walk_at "n";refine aB fun R4 hR4=>?_;walk_at "";walk_at "n";refine aB fun R5 O=>?_;walk_at "";refine⟨by first | trivial | omega,by omega,by omega,?_⟩;have D:(dC 0 d).length=d:=by unfold dC;rw[b_,k_]
 generalize dC 0 d=ts0 at D;try rw[U]
 refine lg (fun r C H=>∃(l:List Nat) (y:Int) (F:Option T),C=[some (.int (d:Int)),some (.int b),some (.ref a),some (.str (mkS kJ)),some (.str m),some (.int (i:Int)),some (.int y),some (.str (mkS l)),F]/\l++dg r.length y=dg d (b+i)/\l.length+r.length=d/\H3=H) ⟨[],b+i,_,rfl,by rw[D];rfl,by rw[D];exact Nat.zero_add _,rfl⟩ ?_ ?_
 ·rintro C H ⟨l,y,F,rfl,c,u,rfl⟩;refine⟨trivial,?_⟩;rw[YD,dg,J_] at c;subst c;walk_at "n";walk_at "";have X:isNm (mkS (dg d (b+(i:Int)))):=KQ (by rw[vL];omega) (by rw[vL];omega) (K3 _ _);by_cases q:m=mkS []
  ·rw[q_ q,if_pos rfl];refine⟨rfl,fL ws,?_⟩;split
   ·rename_i V;exact t.out _ _ ⟨_,_,_,_,_,rfl,rfl,.inr ⟨X,(PN gU (x:=mkS (dg d (b+(i:Int))))).mp V⟩⟩
   rename_i V;have R:mkS (dg d (b+(i:Int)))∈ws:=Classical.byContradiction fun h=>V ((PN gU).mpr h);rcases p.out with ⟨_,o⟩ | h
   ·exact t.out _ _ ⟨m,_,_,_,_,rfl,rfl,.inl ⟨q.trans U.symm,fun j G=>by
     rcases A_.mp G with G | G
     ·
      exact o j G
     ·
      rw[g_.mp G];exact R⟩⟩
   exact t.out _ _ ⟨m,_,_,_,_,rfl,rfl,.inr h⟩
  rw[p_ q,if_neg t_];rcases p.out with ⟨h,_⟩ | h
  ·exact absurd (h.trans U) q
  exact t.out _ _ ⟨m,_,_,_,_,rfl,rfl,.inr h⟩
 rintro x r C H N2 ⟨l,y,F,rfl,c,u,rfl⟩ M;refine⟨trivial,?_⟩;rw[d_] at c u;rw[dg] at c;have hM:=Box.mk M;have z:=Box.mk c;have hpl':l.length<8:=by omega
 have L:=Box.mk u;have hch:=DK (y%26) (XQ _ (by decide)) (XN _ (by decide));clear M t p O c u;walk_at "";simp only[eQ,hch,gQ];walk_at "";rw[show (⟨#[97+(y%26).toNat]⟩:Str)=mkS [97+(y%26).toNat] from rfl];refine⟨by decide,al,by rw[dY,dY];simp only[z_];omega,⟨by decide,by decide +kernel⟩,?_⟩;rw[qT];exact hM.out _ _ ⟨_,_,_,rfl,by rw[x_];exact z.out,by rw[a_,z_];have:=L.out;omega,rfl⟩
abbrev rB:List Str:=["_law_deck","_law_many","_law_letters","_law_found","_law_k","_law_base","_law_at","_law_spot"]
theorem sc_names:FnScope rB ["_law_deck","_law_many"] (aA (top 35)):=bB
theorem Fg {f:Addr}{fd:FuncData}(g:G3 K mg "_law_names" (top 35) ["_law_deck","_law_many"] f fd) (B:Bl mg) (a:Cal P w K mg base 1 "_law_draw" (top 32) ["_law_deck","_law_most"] mW) (c:Cal P w K mg base 1 "_law_free_name" (top 34) ["_law_size","_law_number","_law_names_here"] U5):Cal P w K mg base 2 "_law_names" (top 35) ["_law_deck","_law_many"] U6:=by
 refine⟨f,fd,g,?_⟩;refine fn3 g.fn sc_names (fun ts H Q h=>?_) (fun cdv A outer s H E ts H3 Q r h=>?_)
 ·obtain⟨d,m,rfl,_⟩:=h;rfl
 obtain⟨d,m,rfl,m1,m8,hC,k⟩:=h;refine⟨_,(ak (aF (i:=2) sc_names.nd fZ)
   (ak (aF (i:=3) sc_names.nd (bI aj))
   (ak (bM (aQ o6 (aK a r rfl (aa (v3 0) (aa ao aj))) ao) (ak (bu G_ rfl (aR rfl B.range_ (aa (v3 1) aj)) (aC (i:=4) sc_names.nd) (aq (cg (dq M_ S_ T_ bJ (v3 3) (aa (aK c r rfl (aa (aJ bh ao (aK a r rfl (aa (v3 0) (aa ao aj)))) (aa (aK a r rfl (aa (v3 0) (aa (aJ gP ao ao) aj))) (aa (v3 3) aj)))) aj)))))
    (aq (aL (v3 3)))) bf)
   (ak (aF (i:=5) sc_names.nd (aK c r rfl (aa (aJ bh ao (aK a r rfl (aa (v3 0) (aa ao aj)))) (aa (aK a r rfl (aa (v3 0) (aa (aJ gP ao ao) aj))) (aa (bI aj) aj)))))
   (ak (aF (i:=6) sc_names.nd (aK a r rfl (aa (v3 0) (aa (aP b7 rfl B.len_ b8 (aa (v3 5) aj)) aj))))
   (ak (aF (i:=7) sc_names.nd (dq PySem.F.plainAttrs_str PySem.F.slot_str_index PySem.F.type_str_index By (v3 2) (aa (aH ix3 (v3 5) (v3 6)) aj)))
   (aq (aL (bA rfl (bD (n0:=(aA (top 35)).names) (N:=rB) (N':=["_law_k","_law_base","_law_letters","_law_at","_law_spot"]) (nt:=1) (cap:=[5,2,6,7]) rfl rfl (by decide +kernel)) (aR rfl B.range_ (aa (v3 1) aj)) (fun cl pins s H C0 fp=>⟨(aC (i:=0) (show List.Nodup [("_law_k":Str),("_law_base":Str),("_law_letters":Str),("_law_at":Str),("_law_spot":Str)] by decide +kernel)),bQ,(aJ bh (aJ bh (iC (v3 1) iB (fC (v3 3))) (aH ix3 (v3 2) (aJ dU (aJ bh (v3 4) (v3 0)) ao))) (iC (v3 1) (fC (aJ bh (v3 3) ao)) iB))⟩)))))))))),?_⟩
 rw[show aV rB [T.ref d,T.int (m:Int)]=[some (T.ref d),some (T.int (m:Int)),none,none,none,none,none,none] from rfl];have hsz:sizeLine=16777216:=rfl;have al:(mkS kJ).length<=sizeLine:=by rw[dY];decide
 have S:=Box.mk k;clear k;have O:Wt d H3 H3 []:=⟨hC,Kep.refl,(fun _ h=>nomatch h)⟩;clear hC;refine aB fun R0 hR0=>?_;walk_at "";simp only[DG];walk_at "n";refine aB fun R1 hR1=>?_;walk_at "";refine⟨by omega,fun L q=>?_⟩;have f0:=O.fresh q;have npd:=O.cl.ne q;have R:=O.new (o:=.lst []) q;generalize up3 H3 L (.lst [])=H4 at R;clear O q;walk_at "n";refine aB fun R2 hR2=>?_;walk_at "";refine⟨d,3,rfl,by decide,R.cl,fun V H5 y0 y1 v=>?_⟩;have z:=R.drw v;clear R v;walk_at "";have Y:dC 0 m=(List.range m).map fun (i:Nat)=>T.int (i:Int):=fP m;by_cases hw:0<V
 ·rw[q_ hw,if_pos rfl];clear hR2;refine⟨by first | trivial | omega,by omega,by omega,?_⟩;try rw[Y]
  refine aW (fun (i:Nat)=>T.int (i:Int)) (List.range m) (fun A σ H=>∃(ws:List Str) (v4:Option T),σ=[some (.ref d),some (.int (m:Int)),some (.str (mkS kJ)),some (.ref L),v4,none,none,none]/\Nms ws/\ws.length=A.length/\Wt d H3 H [(L,.lst (ws.map T.str))]) ⟨[],_,rfl,Nms.nil,rfl,z⟩ ?_ ?_
  ·rintro σ H ⟨ws,v4,rfl,hn,M,w⟩;refine⟨trivial,?_⟩;rw[k_] at M;clear z;walk_at "";exact gG w.cl w.kp w.hd f0 npd fun H1 v U=>S.out ws H1 L M hn v U
  rintro A i B σ H N e ⟨ws,v4,rfl,hn,M,w⟩ hN;refine⟨trivial,?_⟩;have hA:A.length<8:=by have:=O_ List.length e;simp only[a_,d_,k_] at this;omega
  have hN':=Box.mk hN;have g:=w.hd;clear hN e S z;walk_at "";refine⟨⟨trivial,trivial⟩,d,8,rfl,by decide,w.cl,fun n1 H6 p0 p1 n=>?_⟩;have u:=w.drw n;clear w g n;walk_at "";refine⟨⟨by decide,by decide,by decide⟩,d,_,rfl,by decide,u.cl,fun n2 H7 q0 q1 j=>?_⟩;have J:=u.drw j;have g4:=J.hd;clear u j;try dsimp only
  refine⟨(1+n1).toNat,n2,L,ws,by rw[Y4 (by omega)],by omega,by omega,g4,by omega,fun x I Z=>?_⟩;walk_at "";refine⟨by omega,hN'.out _ _ ⟨ws++[x],_,rfl,hn.snoc I Z,by rw[a_,a_,M];rfl,?_⟩⟩;have y:=J.set f0 (fun _ h=>nomatch h) (.lst (ws.map T.str++[T.str x]));rw[u_];exact y
 rw[p_ hw,if_neg t_];walk_at "n";refine aB fun R3 hR3=>?_;walk_at "";refine⟨d,8,rfl,by decide,z.cl,fun n1 H6 p0 p1 n=>?_⟩;have u:=z.drw n;clear z n;walk_at "";refine⟨⟨by decide,by decide,by decide⟩,d,_,rfl,by decide,u.cl,fun n2 H7 q0 q1 j=>?_⟩;have J:=u.drw j;clear u j;refine⟨by omega,fun pe C=>?_⟩;have y:=J.new (o:=.lst []) C;have ge:=y.hd;generalize up3 H7 pe (.lst [])=H8 at y ge;clear J C;refine⟨(1+n1).toNat,n2,pe,[],by rw[Y4 (by omega)],by omega,by omega,ge,by decide,fun x I _=>?_⟩;have w6:=y.tl;clear y ge;obtain⟨l,rfl⟩:=Qe x;have e1:=I.lo;have e2:=I.hi;have e3:=I.az;rw[dY] at e1 e2;rw[eQ] at e3;have ml:=dY l;walk_at "n";refine aB fun R4 hR4=>?_;walk_at "";refine⟨by first | trivial | omega,d,_,rfl,by omega,w6.cl,fun n3 H9 r0 r1 G=>?_⟩;have w7:=w6.drw G;clear w6 G;obtain⟨b,rfl⟩:∃b:Nat,n3=(b:Int):=⟨n3.toNat,by omega⟩;have t:b<l.length:=by omega
 walk_at "n";refine aB fun R5 hR5=>?_;have W:atI l (b:Int)=some l[b]:=bN (e_ t);have gz:=e3 _ (Xx t);generalize l[b]=ch at W gz;have D:=Qf ch gz.1 gz.2;walk_at "";refine⟨trivial,by omega,?_⟩;rw[eQ,W,gQ,show (⟨#[ch]⟩:Str)=mkS [ch] from rfl,D];clear W D;walk_at "";walk_at "n";walk_at "";refine⟨by first | trivial | omega,by omega,by omega,?_⟩;try rw[Y]
 walk_at "c";refine cL (fun (i:Nat)=>T.int (i:Int)) (fun i=>.str (nmK l b (ch - 97) i)) (List.range m) [some (.str (mkS l)),some (.str (mkS kJ)),some (.int (b:Int)),some (.int ((ch - 97:Nat):Int))] trivial (by rw[k_];omega) (fun i hi Q' hq=>?_) (fun p hp=>?_)
 ·have hch:=DK ((((ch - 97:Nat):Int)+(i:Int))%26) (XQ _ (by decide)) (XN _ (by decide));have st:=UW l b (by omega);have sf:=Io l (b+1) (by omega);rw[show ((b+1:Nat):Int)=(b:Int)+1 by omega] at sf;have X:=Box.mk hq;clear S hq Y;walk_at "";refine⟨by omega,by decide,by rw[dY];decide,?_⟩;rw[eQ,hch,gQ,show (⟨#[97+((((ch - 97:Nat):Int)+(i:Int))%26).toNat]⟩:Str)=mkS [97+((((ch - 97:Nat):Int)+(i:Int))%26).toNat] from rfl];rw[qT,qT];simp only[dY,a_,Xc,Xe,z_];exact⟨by omega,by omega,by omega,X.out⟩
 have el:(List.range m).map (fun i=>T.str (nmK l b (ch - 97) i))=((List.range m).map (nmK l b (ch - 97))).map T.str:=by rw[N_];rfl
 rw[el];have w8:=w7.new (o:=.lst (((List.range m).map (nmK l b (ch - 97))).map T.str)) hp;exact gG w8.cl w8.kp w8.hd (w7.fresh hp) (w7.cl.ne hp) fun H1 v U=>S.out _ H1 p (by rw[b_,k_]) (IW e2 t e3 m8) v U
abbrev iZ:List Str:=["_law_deck","_law_many","_law_way","_law_base"]
theorem sc_lengths:FnScope iZ ["_law_deck","_law_many"] (aA (top 37)):=bB
theorem vX {f:Addr}{fd:FuncData}(g:G3 K mg "_law_lengths" (top 37) ["_law_deck","_law_many"] f fd) (B:Bl mg) (a:Cal P w K mg base 1 "_law_draw" (top 32) ["_law_deck","_law_most"] mW) (j:Cal P w K mg base 2 "_law_great" (top 33) ["_law_deck","_law_most"] Qn):Cal P w K mg base 3 "_law_lengths" (top 37) ["_law_deck","_law_many"] U3:=by
 refine⟨f,fd,g,?_⟩;refine fn3 g.fn sc_lengths (fun ts H Q h=>?_) (fun cdv A Z s H E ts H3 Q r h=>?_)
 ·obtain⟨d,m,rfl,_⟩:=h;rfl
 have M:=Room.u30 r;obtain⟨d,m,rfl,hm,hC,k⟩:=h;refine⟨_,(ak (aF (i:=2) sc_lengths.nd (aK a r rfl (aa (v3 0) (aa ao aj))))
   (ak (bM (aQ (cM M) (v3 2) ao) (aq (aL (bA rfl (bD (n0:=(aA (top 37)).names) (N:=iZ) (N':=["_law_k","_law_deck"]) (nt:=1) (cap:=[0]) rfl rfl (by decide +kernel)) (aR rfl B.range_ (aa (v3 1) aj)) (fun cl L s H C0 fp=>⟨(aC (i:=0) (show List.Nodup [("_law_k":Str),("_law_deck":Str)] by decide +kernel)),bQ,(aJ bh ao (aK j r rfl (aa (v3 1) (aa (aJ jT (aJ gP ao ao) ao) aj))))⟩)))) bf)
   (ak (aF (i:=3) sc_lengths.nd (aJ bh ao (aK j r rfl (aa (v3 0) (aa (aH ix3 (bI (aa ao (aa ao (aa (aJ gP ao ao) aj)))) (aJ jT (v3 2) ao)) aj)))))
   (aq (aL (bA rfl (bD (n0:=(aA (top 37)).names) (N:=iZ) (N':=["_law_k","_law_base","_law_deck"]) (nt:=1) (cap:=[3,0]) rfl rfl (by decide +kernel)) (aR rfl B.range_ (aa (v3 1) aj)) (fun cl L s H C0 fp=>⟨(aC (i:=0) (show List.Nodup [("_law_k":Str),("_law_base":Str),("_law_deck":Str)] by decide +kernel)),bQ,(aJ bh (aJ f9 (v3 1) (aJ bh ao (aK a r rfl (aa (v3 2) (aa ao aj))))) (aJ fJ (aK a r rfl (aa (v3 2) (aa ao aj))) ao))⟩))))))),?_⟩
 rw[show aV iZ [T.ref d,T.int (m:Int)]=[some (T.ref d),some (T.int (m:Int)),none,none] from rfl];have hsz:sizeLine=16777216:=rfl;have V:=Box.mk k;clear k;have w0:Wt d H3 H3 []:=⟨hC,Kep.refl,(fun _ h=>nomatch h)⟩;clear hC;refine aB fun R0 hR0=>?_;walk_at "";refine⟨d,4,rfl,by decide,w0.cl,fun t H4 y0 y1 u=>?_⟩;have U:=w0.drw u;clear w0 u;walk_at "n";refine aB fun R1 hR1=>?_;walk_at "";have rg:dC 0 m=(List.range m).map fun (i:Nat)=>T.int (i:Int):=fP m;by_cases hw:t=0
 ·rw[q_ hw,if_pos rfl];clear hR1;refine⟨trivial,by omega,by omega,?_⟩;try rw[rg]
  walk_at "c";refine dW (fun (i:Nat)=>T.int (i:Int)) (List.range m) (fun A C F H=>∃(c:List Int) (v:Option T),F=[v,some (.ref d)]/\C=c.map T.int/\c.length=A.length/\(∀l∈c,1<=l/\l<10^60)/\Wt d H3 H []) ⟨[],_,rfl,rfl,rfl,(fun _ h=>nomatch h),U⟩ ?_ ?_
  ·rintro C F H ⟨c,v,rfl,rfl,z,r,w⟩;rw[k_] at z;refine⟨trivial,by rw[b_];omega,fun p x=>?_⟩;have q:=w.new (o:=.lst (c.map T.int)) x;exact gG q.cl q.kp q.hd (w.fresh x) (w.cl.ne x) fun Y u X=>V.out c Y p z r u X
  rintro A i B C F H N e ⟨c,v,rfl,rfl,z,r,w⟩ R;refine⟨trivial,?_⟩;have hA:A.length<8:=by have:=O_ List.length e;simp only[a_,d_,k_] at this;omega
  have G:=Box.mk R;clear R e V U;walk_at "";refine⟨⟨by decide,by decide,by decide⟩,d,_,rfl,by rw[t60];decide,w.cl,fun n H5 n0 I u=>?_⟩;rw[t60] at I;walk_at "";refine⟨by omega,G.out _ _ _ ⟨c++[1+n],_,rfl,by rw[u_];rfl,by rw[a_,a_,z];rfl,fun l D=>?_,w.drw u⟩⟩;rcases A_.mp D with h | h
  ·exact r l h
  rw[g_.mp h,U4];omega
 rw[p_ hw,if_neg t_];walk_at "n";refine aB fun R2 hR2=>?_;walk_at "";refine⟨⟨by decide,by decide,by decide⟩,by decide,fun p x=>?_⟩;obtain⟨b,y,S⟩:=tG ([1,9,10^Int.toNat 58]:List Int) (t - 1) (by omega) (by show t - 1<3;omega);have O:atI [T.int 1,T.int 9,T.int (10^Int.toNat 58)] (t - 1)=some (T.int b):=by have:=mC T.int ([1,9,10^Int.toNat 58]:List Int) (t - 1);rw[S] at this;exact this
 have hb0:1<=b/\b<=10000000000000000000000000000000000000000000000000000000000:=by rw[t58] at y;simp only[o_,Xu,Za] at y;rcases y with h | h | h <;> omega
 rw[O,gQ];have q:=(U.new (o:=.lst [T.int 1,T.int 9,T.int (10^Int.toNat 58)]) x).tl;generalize up3 H4 p (.lst [T.int 1,T.int 9,T.int (10^Int.toNat 58)])=H5 at q;clear U x O S y;refine⟨d,b,rfl,by omega,q.cl,fun n H6 n0 I u=>?_⟩;have w3:=q.drw u;clear q u;have u0:1<=1+n:=by omega
 have u1:1+n<=10000000000000000000000000000000000000000000000000000000000:=by omega
 try dsimp only
 walk_at "";generalize 1+n=J at u0 u1;walk_at "n";walk_at "";refine⟨by first | trivial | omega,by omega,by omega,?_⟩;try rw[rg]
 walk_at "c";refine dW (fun (i:Nat)=>T.int (i:Int)) (List.range m) (fun A C F H=>∃(c:List Int) (v:Option T),F=[v,some (.int J),some (.ref d)]/\C=c.map T.int/\c.length=A.length/\(∀l∈c,1<=l/\l<10^60)/\Wt d H3 H []) ⟨[],_,rfl,rfl,rfl,(fun _ h=>nomatch h),w3⟩ ?_ ?_
 ·rintro C F H ⟨c,v,rfl,rfl,z,r,w⟩;rw[k_] at z;refine⟨trivial,by rw[b_];omega,fun p x=>?_⟩;have q:=w.new (o:=.lst (c.map T.int)) x;exact gG q.cl q.kp q.hd (w.fresh x) (w.cl.ne x) fun Y u X=>V.out c Y p z r u X
 rintro A i B C F H N e ⟨c,v,rfl,rfl,z,r,w⟩ R;refine⟨trivial,?_⟩;have hA:A.length<8:=by have:=O_ List.length e;simp only[a_,d_,k_] at this;omega
 have G:=Box.mk R;clear R e V w3;walk_at "";refine⟨d,9,rfl,by decide,w.cl,fun I H7 p0 p1 hD1=>?_⟩;have q:=w.drw hD1;walk_at "";refine⟨.inr ⟨by omega,by omega⟩,d,5,rfl,by decide,q.cl,fun n2 H8 q0 q1 W=>?_⟩;have w4:=q.drw W;walk_at "";refine⟨⟨by decide,by decide +kernel⟩,by omega,G.out _ _ _ ⟨c++[J*(1+I)+n2 / 3],_,rfl,by rw[u_];rfl,by rw[a_,a_,z];rfl,fun l D=>?_,w4⟩⟩;rcases A_.mp D with h | h
 ·exact r l h
 rw[g_.mp h,U4];have m1:J*(1+I)<=J*9:=Int.mul_le_mul_of_nonneg_left (by omega) (by omega);have m2:J*1<=J*(1+I):=Int.mul_le_mul_of_nonneg_left (by omega) (by omega);omega
end
def Vv:Sp3:=fun ts H Q=>∃(d:Addr) (b a st:Int),ts=[.ref d,.int b,.int a,.int st]/\1<=b/\1<=a/\b+a<=9/\1<=st/\st<=8/\Cl H d/\∀(W:Wk) (H':Hp3),WkOk W->(W.tasks.length:Int)<=b+a - 1->(W.row.length:Int)<=st->Drw d H H'->Q W.enc H'
section
variable {P:Program}{w:World}{K:Frag}{mg:Str->Option Value}{base:Heap}
abbrev jL:List Str:=["_law_deck","_law_least","_law_most","_law_stands","_law_names_here","_law_many","_law_turn_here","_law_orders","_law_lots","_law_i","_law_j","_law_pairs_here","_law_table","_law_kinds_here","_law_row","_law_some","_law_lengths_here","_law_tasks"]
theorem sc_works:FnScope jL ["_law_deck","_law_least","_law_most","_law_stands"] (aA (top 42)):=bB
theorem Fi {f:Addr}{fd:FuncData}(g:G3 K mg "_law_works" (top 42) ["_law_deck","_law_least","_law_most","_law_stands"] f fd) (B:Bl mg) (G:Cal P w K mg base 2 "_law_names" (top 35) ["_law_deck","_law_many"] U6) (b:Cal P w K mg base 1 "_law_draw" (top 32) ["_law_deck","_law_most"] mW) (O:Cal P w K mg base 2 "_law_turn" (top 36) ["_law_deck","_law_things"] Iw) (Z:Cal P w K mg base 3 "_law_pairs" (top 39) ["_law_deck","_law_names_here","_law_orders","_law_lots"] U8) (F_kinds:Cal P w K mg base 4 "_law_kinds" (top 41) ["_law_deck","_law_row","_law_names_here","_law_table"] Vb) (J:Cal P w K mg base 3 "_law_lengths" (top 37) ["_law_deck","_law_many"] U3):Cal P w K mg base 5 "_law_works" (top 42) ["_law_deck","_law_least","_law_most","_law_stands"] Vv:=by
 refine⟨f,fd,g,?_⟩;refine fn3 g.fn sc_works (fun ts H Q h=>?_) (fun cdv A outer s H E ts H3 Q L h=>?_)
 ·obtain⟨d,I,t,st,rfl,_⟩:=h;rfl
 have hu30:=Room.u30 L;obtain⟨d,I,t,st,rfl,l1,m1,m8,s1,s8,hC,k⟩:=h;refine⟨_,(ak (aF (i:=4) sc_works.nd (aK G L rfl (aa (v3 0) (aa (aJ bh (v3 1) (aK b L rfl (aa (v3 0) (aa (v3 2) aj)))) aj))))
   (ak (aF (i:=5) sc_works.nd (aP b7 rfl B.len_ b8 (aa (v3 4) aj)))
   (ak (aF (i:=6) sc_works.nd (aK O L rfl (aa (v3 0) (aa (Cy rfl rfl B.list_ rfl B.range_ (v3 5)) aj))))
   (ak (aF (i:=7) sc_works.nd (bI aj))
   (ak (aF (i:=8) sc_works.nd (aJ bh ao (aK b L rfl (aa (v3 0) (aa ao aj)))))
   (ak (bu G_ rfl (aR rfl B.range_ (aa (v3 5) aj)) (aC (i:=9) sc_works.nd) (aq (bu G_ rfl (zu rfl B.range_ (aa (aJ bh (v3 9) ao) (aa (v3 5) aj))) (aC (i:=10) sc_works.nd) (aq (bM (aQ (cM hu30) (aK b L rfl (aa (v3 0) (aa (v3 8) aj))) ao) (aq (cg (dq M_ S_ T_ bJ (v3 7) (aa (bL (aa (aH ix3 (v3 6) (v3 9)) (aa (aH ix3 (v3 6) (v3 10)) aj))) aj)))) bf)))))
   (ak (aF (i:=7) sc_works.nd (aK O L rfl (aa (v3 0) (aa (v3 7) aj))))
   (ak (u9 (aK Z L rfl (aa (v3 0) (aa (v3 4) (aa (v3 7) (aa (aJ bh ao (aK b L rfl (aa (v3 0) (aa ao aj)))) aj))))) (cD (n:=2) rfl (aG (aC (i:=11) sc_works.nd) (aG (aC (i:=12) sc_works.nd) bO))))
   (ak (aF (i:=13) sc_works.nd (aK G L rfl (aa (v3 0) (aa (aJ bh ao (aK b L rfl (aa (v3 0) (aa ao aj)))) aj))))
   (ak (jC (i:=14) rfl sc_works.nd (bD (n0:=(aA (top 42)).names) (N:=jL) (N':=["_law_k","_law_kinds_here","_law_deck"]) (nt:=1) (cap:=[13,0]) rfl rfl (by decide +kernel)) (aR rfl B.range_ (aa (aJ bh ao (aK b L rfl (aa (v3 0) (aa (v3 3) aj)))) aj)) (fun cl pins s H C0 fp=>⟨(aC (i:=0) (show List.Nodup [("_law_k":Str),("_law_kinds_here":Str),("_law_deck":Str)] by decide +kernel)),bQ,(aH ix3 (v3 1) (aK b L rfl (aa (v3 2) (aa (aP b7 rfl B.len_ b8 (aa (v3 1) aj)) aj))))⟩))
   (ak (aF (i:=15) sc_works.nd (aK F_kinds L rfl (aa (v3 0) (aa (v3 14) (aa (v3 13) (aa (v3 12) aj))))))
   (ak (aF (i:=16) sc_works.nd (aK J L rfl (aa (v3 0) (aa (v3 5) aj))))
   (ak (aF (i:=17) sc_works.nd (bG cR rfl B.tuple_ cT (aa (bA rfl (bD (n0:=(aA (top 42)).names) (N:=jL) (N':=["_law_k","_law_names_here","_law_lengths_here","_law_some"]) (nt:=1) (cap:=[4,16,15]) rfl rfl (by decide +kernel)) (aR rfl B.range_ (aa (v3 5) aj)) (fun cl pins s H C0 fp=>⟨(aC (i:=0) (show List.Nodup [("_law_k":Str),("_law_names_here":Str),("_law_lengths_here":Str),("_law_some":Str)] by decide +kernel)),bQ,(bL (aa (aH ix3 (v3 1) (v3 0)) (aa (aH ix3 (v3 2) (v3 0)) (aa (aH ix3 (v3 3) (v3 0)) aj))))⟩)) aj)))
   (aq (aL (bL (aa (v3 17) (aa (bG cR rfl B.tuple_ cT (aa (bA rfl (bD (n0:=(aA (top 42)).names) (N:=jL) (N':=["_law_i","_law_j","_law_names_here"]) (nt:=2) (cap:=[4]) rfl rfl (by decide +kernel)) (cz (v3 7)) (fun cl pins s H C0 fp=>⟨(cD (n:=2) rfl (aG (aC (i:=0) (show List.Nodup [("_law_i":Str),("_law_j":Str),("_law_names_here":Str)] by decide +kernel)) (aG (aC (i:=1) (show List.Nodup [("_law_i":Str),("_law_j":Str),("_law_names_here":Str)] by decide +kernel)) bO))),bQ,(bL (aa (aH ix3 (v3 2) (v3 0)) (aa (aH ix3 (v3 2) (v3 1)) aj)))⟩)) aj)) (aa (v3 11) (aa (bG cR rfl B.tuple_ cT (aa (v3 14) aj)) aj)))))))))))))))))))),?_⟩
 rw[show aV jL [T.ref d,T.int I,T.int t,T.int st]=[some (T.ref d),some (T.int I),some (T.int t),some (T.int st),none,none,none,none,none,none,none,none,none,none,none,none,none,none] from rfl];have hsz:sizeLine=16777216:=rfl;have k':=Box.mk k;clear k;have w0:Wt d H3 H3 []:=⟨hC,Kep.refl,(fun _ h=>nomatch h)⟩;clear hC;refine aB fun R0 hR0=>?_;walk_at "";refine⟨d,t,rfl,by omega,w0.cl,fun n0 H4 a0 a1 hD0=>?_⟩;have w1:=w0.drw hD0;clear w0 hD0;walk_at "";refine⟨d,(I+n0).toNat,by rw[Y4 (by omega)],by omega,by omega,w1.cl,fun ws H5 M hwl hws hD1 hpn=>?_⟩;have w2:=(w1.drw hD1).new (o:=.lst (ws.map T.str)) hpn;generalize up3 H5 M (.lst (ws.map T.str))=H6 at w2;clear w1 hD1 hpn;have ws1:1<=ws.length:=by omega
 have ws8:ws.length<=8:=by omega
 have wsm:(ws.length:Int)<=I+t - 1:=by omega
 clear hwl a0 a1;walk_at "n";refine aB fun R1 hR1=>?_;have gn:=w2.hd;walk_at "";walk_at "n";refine aB fun R2 hR2=>?_;walk_at "";refine⟨⟨by omega,by omega⟩,fun q1 hq1=>?_⟩;have w3:=w2.new (o:=.lst ((List.range ws.length).map fun (k:Nat)=>T.int (k:Int))) hq1;have gq1:=w3.hd;generalize up3 H6 q1 (.lst ((List.range ws.length).map fun (k:Nat)=>T.int (k:Int)))=H7 at w3 gq1;clear w2 hq1 gn;try dsimp only
 refine⟨d,q1,_,rfl,(w3.at' _ m_).2,gq1,Vf _,by rw[b_,k_];omega,w3.cl,fun ys H8 pt D hD2 hpt=>?_⟩;obtain⟨l,htv,rfl⟩:=jJ D _ rfl;have tvl:l.length=ws.length:=by rw[htv.length_eq,k_]
 have tvn:l.Nodup:=htv.nodup_iff.mpr List.nodup_range;have tvm:∀x∈l,x<ws.length:=fun x X=>I_.mp (htv.mem_iff.mp X);have w4:=(w3.drw hD2).tl.new (o:=.lst (l.map fun (k:Nat)=>T.int (k:Int))) hpt;generalize up3 H8 pt (.lst (l.map fun (k:Nat)=>T.int (k:Int)))=H9 at w4;clear w3 hD2 hpt gq1 D htv;walk_at "n";refine aB fun R3 hR3=>?_;walk_at "";refine⟨by omega,fun po Y=>?_⟩;have po0:=w4.fresh Y;have nto:pt≠po:=aZ w4.hd Y;have nno:M≠po:=aZ w4.tl.hd Y;have w5:=w4.new (o:=.lst []) Y;generalize up3 H9 po (.lst [])=H10 at w5;clear w4 Y;walk_at "n";refine aB fun R4 hR4=>?_;walk_at "";refine⟨d,6,rfl,by decide,w5.cl,fun n1 H11 b0 b1 hD3=>?_⟩;have w6:=w5.drw hD3;clear w5 hD3;have lo0:3<=3+n1:=by omega
 have lo1:3+n1<=8:=by omega
 walk_at "";generalize 3+n1=V at lo0 lo1;walk_at "n";refine aB fun R5 hR5=>?_;walk_at "";refine⟨by first | trivial | omega,by omega,by omega,?_⟩;rw[fP];refine aW (fun (i:Nat)=>T.int (i:Int)) (List.range ws.length) (fun A σ H=>∃(F:List (Nat × Nat)) (v8 v9:Option T),σ=[some (.ref d),some (.int I),some (.int t),some (.int st),some (.ref M),some (.int (ws.length:Int)),some (.ref pt),some (.ref po),some (.int V),v8,v9,none,none,none,none,none,none,none]/\Wt d H3 H [(po,.lst (F.map (oT l))),(pt,.lst (l.map fun (k:Nat)=>T.int (k:Int))),(M,.lst (ws.map T.str))]/\F.Sublist (tri ws.length A)) ⟨[],_,_,rfl,w6,aaf _⟩ ?_ ?_;rotate_left
 ·rintro A i B σ H N e ⟨F,v8,v9,rfl,w,a⟩ hN;refine⟨trivial,?_⟩;have hi:i<ws.length:=I_.mp (by rw[e];simp);have hM:=Box.mk hN;have hAl:(tri ws.length A).length<=64:=by
   have h1:=pL e;have h2:A.length<=8:=by have:=O_ List.length e;simp only[a_,d_,k_] at this;omega
   have h3:∀(A:List Nat),(tri ws.length A).length<=8*A.length:=fun A=>by
    induction A with
    |nil=>exact j_ _
    |cons x r ih =>
     have e3:tri ws.length (x::r)=(List.range' (x+1) (ws.length - (x+1))).map (fun j=>(x,j))++tri ws.length r:=rfl
     rw[e3,a_,b_,List.length_range',d_]
     omega
   have:=h3 A;omega
  clear hN e w6 k' hR5;walk_at "";refine⟨by first | trivial | omega,⟨by omega,by omega,by omega,by omega⟩,?_⟩;rw[Ve];refine aW (fun (j:Nat)=>T.int (j:Int)) (List.range' (i+1) (ws.length - (i+1))) (fun A2 σ H=>∃(F:List (Nat × Nat)) (v9:Option T),σ=[some (.ref d),some (.int I),some (.int t),some (.int st),some (.ref M),some (.int (ws.length:Int)),some (.ref pt),some (.ref po),some (.int V),some (.int (i:Int)),v9,none,none,none,none,none,none,none]/\Wt d H3 H [(po,.lst (F.map (oT l))),(pt,.lst (l.map fun (k:Nat)=>T.int (k:Int))),(M,.lst (ws.map T.str))]/\F.Sublist (tri ws.length A++A2.map fun j=>(i,j))) ⟨F,_,rfl,w,by rw[Xy,J_];exact a⟩ ?_ ?_
  ·rintro σ H ⟨F,v9,rfl,w,a⟩;exact⟨trivial,hM.out _ _ ⟨F,_,_,rfl,w,by rw[Ea];exact a⟩⟩
  rintro A2 j B2 σ H N2 e2 ⟨F,v9,rfl,w,a⟩ hN2;refine⟨trivial,?_⟩;have hj:=List.mem_range'_1.mp (show j∈List.range' (i+1) (ws.length - (i+1)) by rw[e2];simp);have hN':=Box.mk hN2;have hs1:=vM (y:=(i,j)) a;have hs2:=vN (y:=(i,j)) a;rw[x_,show [(i,j)]=[j].map fun j=>(i,j) from rfl,<- u_] at hs1 hs2;have hA2:A2.length<8:=by have:=O_ List.length e2;simp only[a_,d_,List.length_range'] at this;omega
  have hol:F.length<=100:=by have h1:=a.length_le;have h2:=(yt ⟨ws.length,by omega⟩);have h3:(tri ws.length A).length<=64:=hAl;rw[a_,b_] at h1;omega
  clear hN2 e2 hM a;walk_at "";refine⟨d,V,rfl,by omega,w.cl,fun n H12 c0 c1 hD=>?_⟩;have w7:=w.drw hD;have go':=w7.hd;have gt':=w7.tl.hd;have x1:=K5 (show i<l.length by omega);have x2:=K5 (show j<l.length by omega);clear w hD;have tvl':=Box.mk tvl;clear tvl;walk_at "";split
  ·have em:F.map (oT l)++[T.tup [T.int ((l.getD i 0:Nat):Int),T.int ((l.getD j 0:Nat):Int)]]=(F++[(i,j)]).map (oT l):=by rw[u_];rfl
   rw[em];refine⟨⟨trivial,trivial⟩,by decide,by omega,hN'.out _ _ ⟨F++[(i,j)],_,rfl,w7.set po0 (fun q hq=>?_) _,hs1⟩⟩;rcases o_.mp hq with rfl | hq
   ·exact nto
   rw[g_.mp hq];exact nno
  exact hN'.out _ _ ⟨F,_,rfl,w7,hs2⟩
 rintro σ H ⟨F,v8,v9,rfl,w,a⟩;refine⟨trivial,?_⟩;clear w6;walk_at "n";refine aB fun R6 hR6=>?_;have ol28:F.length<=28:=W6 a.length_le (yt ⟨ws.length,by omega⟩);have ond:F.Nodup:=(Qu ⟨ws.length,by omega⟩).sublist a;have oin:∀x∈F,x.1<x.2/\x.2<ws.length:=fun x X=>Jc (fun i hi=>I_.mp hi) (a.subset X);have go':=w.hd;walk_at "";refine⟨d,po,_,rfl,(w.at' _ m_).2,go',K6 l F,by rw[b_];omega,w.cl,fun ys H12 q2 D hD4 hq2=>?_⟩;obtain⟨c,hos,rfl⟩:=jJ D _ rfl;have ol':c.length<=28:=by rw[hos.length_eq];exact ol28
 have ond':c.Nodup:=hos.nodup_iff.mpr ond;have oin':∀x∈c,x.1<x.2/\x.2<ws.length:=fun x X=>oin x (hos.mem_iff.mp X);have w7:=(w.drw hD4).tl.tl.new (o:=.lst (c.map (oT l))) hq2;generalize up3 H12 q2 (.lst (c.map (oT l)))=H13 at w7;clear w hD4 hq2 go' D hos a ol28 ond oin;walk_at "n";refine aB fun R7 hR7=>?_;walk_at "";refine⟨d,24,rfl,by decide,w7.cl,fun n2 H14 c0 c1 hD5=>?_⟩;have w8:=w7.drw hD5;clear w7 hD5;try dsimp only
 walk_at "";refine⟨d,M,q2,ws,_,8+n2,rfl,by omega,by omega,(w8.at' (M,.lst (ws.map T.str)) (by simp)).2,(w8.at' _ m_).2,w8.tl.hd,hws,ws8,w8.hd,K6 l c,by rw[b_];exact ol',w8.cl,fun prs pb as H15 p12 pnd pok hcl hkp tq=>?_⟩;have w9:=w8.kep hcl hkp;clear w8 hkp hcl;try dsimp only
 walk_at "";refine⟨trivial,?_⟩;walk_at "n";refine aB fun R8 hR8=>?_;walk_at "";refine⟨d,5,rfl,by decide,w9.cl,fun n3 H16 d0 d1 hD6=>?_⟩;have w10:=w9.drw hD6;have tq1:=tq.drw hD6;clear w9 tq hD6;walk_at "";refine⟨d,(1+n3).toNat,by rw[Y4 (by omega)],by omega,by omega,w10.cl,fun u H17 pk hkl hks hD7 hpk=>?_⟩;have w11:=(w10.drw hD7).new (o:=.lst (u.map T.str)) hpk;have tq2:=(tq1.drw hD7).new (o:=.lst (u.map T.str)) hpk;generalize up3 H17 pk (.lst (u.map T.str))=H18 at w11 tq2;have ks1:1<=u.length:=by omega
 have ks8:u.length<=8:=by omega
 clear w10 tq1 hD7 hpk hkl;walk_at "n";refine aB fun R9 hR9=>?_;walk_at "";refine⟨d,st,rfl,by omega,w11.cl,fun n4 H19 e0 e1 hD8=>?_⟩;have w12:=w11.drw hD8;have tq3:=tq2.drw hD8;clear w11 tq2 hD8;walk_at "";refine⟨by first | trivial | omega,by omega,by omega,?_⟩;have hrl:(dC 0 (1+n4).toNat).length=(1+n4).toNat:=by unfold dC;rw[b_,k_]
 generalize dC 0 (1+n4).toNat=ts0 at hrl;walk_at "c";refine iD (fun r ys σ H=>∃(m:List Str) (v:Option T),σ=[v,some (.ref pk),some (.ref d)]/\ys=m.map T.str/\m.length+r.length=(1+n4).toNat/\(∀x∈m,x∈u)/\Wt d H3 H [(pk,.lst (u.map T.str)),(q2,.lst (c.map (oT l))),(M,.lst (ws.map T.str))]/\Tq d H14 H pb ws.length as) ⟨[],_,rfl,rfl,by rw[hrl];exact Nat.zero_add _,(fun _ h=>nomatch h),w12,tq3⟩ ?_ ?_;rotate_left
 ·rintro x r ys σ H N ⟨m,v,rfl,rfl,hrw,U,w,tq⟩ hN;refine⟨trivial,?_⟩;rw[d_] at hrw;have hN':=Box.mk hN;have hin':=Box.mk U;have g:=w.hd;have ks1':(0:Int)<(u.length:Int):=by omega
  clear hN U w12 tq3 k' hR9;walk_at "";refine⟨d,_,rfl,ks1',w.cl,fun n5 H20 f0 f1 hD9=>?_⟩;have C:=w.drw hD9;have tq4:=tq.drw hD9;have g13:=C.hd;clear w tq g hD9;obtain⟨z,hz,ez⟩:=tG u n5 f0 f1;have ez':atI (u.map T.str) n5=some (T.str z):=by rw[mC,ez];rfl
  clear ez;walk_at "";refine⟨by first | omega | (rw[b_];omega),hN'.out _ _ _ ⟨m++[z],_,rfl,by rw[u_];rfl,by rw[a_,z_];omega,fun y hy=>?_,C,tq4⟩⟩;rcases A_.mp hy with h | h
  ·exact hin'.out y h
  rw[g_.mp h];exact hz
 rintro ys σ H ⟨m,v,rfl,rfl,hrw,U,w,tq⟩;rw[YD,Nat.add_zero] at hrw;refine⟨trivial,by rw[b_];omega,fun pr hpr=>?_⟩;have C:=w.new (o:=.lst (m.map T.str)) hpr;have tq4:=tq.new (o:=.lst (m.map T.str)) hpr;generalize up3 H pr (.lst (m.map T.str))=H20 at C tq4;clear w tq hpr w12 tq3 hrl;have rw1:1<=m.length:=by omega
 have rw8:m.length<=8:=by omega
 have rws:(m.length:Int)<=st:=by omega
 clear hrw;walk_at "n";refine aB fun R10 hR10=>?_;walk_at "";refine⟨d,pr,pk,pb,m,u,ws.length,H14,as,rfl,(C.at' _ m_).2,(C.at' (pk,.lst (u.map T.str)) (by simp)).2,C.hd,rw1,rw8,fun x X=>hks.nm x (U x X),C.tl.hd,hks,ks8,tq4,ws8,C.cl,fun kk H21 pso hkk hkb hD10 hpso=>?_⟩;have w14:=(C.drw hD10).new (o:=.lst (kk.map sT)) hpso;generalize up3 H21 pso (.lst (kk.map sT))=H22 at w14;clear C tq4 hD10 hpso;walk_at "n";refine aB fun R11 hR11=>?_;walk_at "";refine⟨d,ws.length,rfl,ws8,w14.cl,fun ls H23 pl_ hll hlb hD11 hpl_=>?_⟩;have R:=(w14.drw hD11).new (o:=.lst (ls.map T.int)) hpl_;generalize up3 H23 pl_ (.lst (ls.map T.int))=H24 at R;clear w14 hD11 hpl_;walk_at "n";refine aB fun R12 hR12=>?_;walk_at "";refine⟨by first | trivial | omega,by omega,by omega,?_⟩;rw[fP];walk_at "c";refine cL (fun (k:Nat)=>T.int (k:Int)) (fun k=>tkT (tkD ws ls kk k)) (List.range ws.length) [some (.ref M),some (.ref pl_),some (.ref pso)] trivial (by rw[k_];omega) (fun i hi Q' hq=>?_) (fun p hp=>?_)
 ·have hi':=I_.mp hi;have g1:=(R.at' (M,.lst (ws.map T.str)) (by simp)).1;have g2:=R.hd;have g3:=R.tl.hd;have x1:=getD_at hi';have x2:=K4 (show i<ls.length by omega);have x3:=Vd (show i<kk.length by omega);have hq':=Box.mk hq;clear k' hq hR12;try dsimp only at g1
  walk_at "";exact⟨by decide,hq'.out⟩
 rw[show (List.range ws.length).map (fun k=>tkT (tkD ws ls kk k))=((List.range ws.length).map (tkD ws ls kk)).map tkT by rw[N_];rfl];have S:=(R.new (o:=.lst (((List.range ws.length).map (tkD ws ls kk)).map tkT)) hp).tl;generalize up3 H24 p (.lst (((List.range ws.length).map (tkD ws ls kk)).map tkT))=W at S;clear R hp;walk_at "n";have gq:W q2=some (.lst (c.map (oT l))):=(S.at' (q2,.lst (c.map (oT l))) (by simp)).1;have gn:W M=some (.lst (ws.map T.str)):=(S.at' (M,.lst (ws.map T.str)) (by simp)).1;have gr:W pr=some (.lst (m.map T.str)):=S.tl.tl.hd;walk_at "";walk_at "c";refine tH (fun x:Nat × Nat=>.int ((l.getD x.1 0:Nat):Int)) (fun x=>.int ((l.getD x.2 0:Nat):Int)) (fun x=>orT (oD ws l x)) c [some (.ref M)] (.inl gq) (by omega) (fun x X Q' hq=>?_) (fun p hp=>?_)
 ·have ox:=oin' x X;have y1:=getD_at (tvm _ (getD_mem (d:=0) (show x.1<l.length by omega)));have y2:=getD_at (tvm _ (getD_mem (d:=0) (show x.2<l.length by omega)));have hq':=Box.mk hq;clear k' hq gr gq;walk_at "";exact⟨by decide,hq'.out⟩
 rw[show c.map (fun x=>orT (oD ws l x))=(c.map (oD ws l)).map orT by rw[N_];rfl];have w17:=S.new (o:=.lst ((c.map (oD ws l)).map orT)) hp;have gr2:up3 W p (.lst ((c.map (oD ws l)).map orT)) pr=_ := upa gr hp;generalize up3 W p (.lst ((c.map (oD ws l)).map orT))=H26 at w17 gr2;clear S hp gq gn gr;walk_at "";refine⟨by decide,iW w17.cl w17.kp fun H'' hD=>?_⟩;exact k'.out ⟨(List.range ws.length).map (tkD ws ls kk),c.map (oD ws l),prs,m⟩ H'' (Vc hws ws1 ws8 hll hlb hkk hkb tvl tvn tvm ol' ond' oin' p12 pnd pok rw1 rw8 fun x X=>hks.nm x (U x X)) (by show (((List.range ws.length).map (tkD ws ls kk)).length:Int)<=I+t - 1;rw[b_,k_];exact wsm) rws hD
abbrev rC:List Str:=["_law_deck","_law_works_here","_law_lengths_here","_law_bits","_law_some","_law_total"]
theorem sc_beat:FnScope rC ["_law_deck","_law_works_here"] (aA (top 43)):=bB
theorem Jx {f:Addr}{fd:FuncData}(g:G3 K mg "_law_beat" (top 43) ["_law_deck","_law_works_here"] f fd) (B:Bl mg) (j:Cal P w K mg base 1 "_law_draw" (top 32) ["_law_deck","_law_most"] mW) (q:Cal P w K mg base 2 "_law_great" (top 33) ["_law_deck","_law_most"] Qn):Cal P w K mg base 3 "_law_beat" (top 43) ["_law_deck","_law_works_here"] Vl:=by
 refine⟨f,fd,g,?_⟩;refine fn3 g.fn sc_beat (fun ts H Q h=>?_) (fun cdv A outer s H E ts H3 Q U h=>?_)
 ·obtain⟨d,W,rfl,_⟩:=h;rfl
 have G:=Room.u30 U;obtain⟨d,⟨tk,F,prs,z⟩,rfl,Z,hC,k⟩:=h;refine⟨_,(ak (aF (i:=2) sc_beat.nd (bA rfl (bD (n0:=(aA (top 43)).names) (N:=rC) (N':=["_law_name","_law_length","_law_kinds_here"]) (nt:=3) (cap:=[]) rfl rfl (by decide +kernel)) (cG (aH ix3 (v3 1) ao)) (fun cl C s H C0 fp=>⟨(cD (n:=3) rfl (aG (aC (i:=0) (show List.Nodup [("_law_name":Str),("_law_length":Str),("_law_kinds_here":Str)] by decide +kernel)) (aG (aC (i:=1) (show List.Nodup [("_law_name":Str),("_law_length":Str),("_law_kinds_here":Str)] by decide +kernel)) (aG (aC (i:=2) (show List.Nodup [("_law_name":Str),("_law_length":Str),("_law_kinds_here":Str)] by decide +kernel)) bO)))),bQ,(v3 1)⟩)))
   (ak (aF (i:=3) sc_beat.nd (aK j U rfl (aa (v3 0) (aa (aJ Cm ao (aP b7 rfl B.len_ b8 (aa (v3 2) aj))) aj))))
   (ak (aF (i:=4) sc_beat.nd (aP (jn rfl) rfl B.sum_ jo (aa (bA rfl (bD (n0:=(aA (top 43)).names) (N:=rC) (N':=["_law_k","_law_lengths_here","_law_bits"]) (nt:=1) (cap:=[2,3]) rfl rfl (by decide +kernel)) (aR rfl B.range_ (aa (aP b7 rfl B.len_ b8 (aa (v3 2) aj)) aj)) (fun cl C s H C0 fp=>⟨(aC (i:=0) (show List.Nodup [("_law_k":Str),("_law_lengths_here":Str),("_law_bits":Str)] by decide +kernel)),(dG (aQ (cM G) (aJ qJ (aJ CG (v3 2) (v3 0)) ao) ao)),(aH ix3 (v3 1) (v3 0))⟩)) aj)))
   (ak (aF (i:=5) sc_beat.nd (aP (jn rfl) rfl B.sum_ jo (aa (v3 2) aj)))
   (aq (aL (aH ix3 (bI (aa (v3 4) (aa (aP (Hi rfl) rfl B.max_ vz (aa ao (aa (aJ jT (v3 4) ao) aj))) (aa (aJ bh (v3 4) ao) (aa (v3 5) (aa (aP (xG rfl) rfl B.max_ vz (aa (v3 2) aj)) (aa (aK q U rfl (aa (v3 0) (aa (aJ gP ao ao) aj))) aj))))))) (aK j U rfl (aa (v3 0) (aa ao aj)))))))))),?_⟩
 rw[show aV rC [T.ref d,Wk.enc ⟨tk,F,prs,z⟩]=[some (T.ref d),some (T.tup [T.tup (tk.map tkT),T.tup (F.map orT),T.tup (prs.map prT),T.tup (z.map T.str)]),none,none,none,none] from rfl];have hsz:sizeLine=16777216:=rfl;have X:=Box.mk k;clear k;have t8:tk.length<=8:=Z.t8;have t1:1<=tk.length:=Z.t1;have w0:Wt d H3 H3 []:=⟨hC,Kep.refl,(fun _ h=>nomatch h)⟩;have v:Box (∀l∈tk.map (·.2.1),0<=l):=⟨fun l hl=>by obtain⟨t,ht,rfl⟩:=i_.mp hl;have:=(Z.tk t ht).lo;omega⟩;clear hC Z;refine aB fun R0 hR0=>?_;walk_at "";walk_at "c";refine gD (fun t:Str × Int × List Str=>.str t.1) (fun t=>.int t.2.1) (fun t=>.tup (t.2.2.map T.str)) (fun t=>T.int t.2.1) (fun _=>true) tk [] trivial (by omega) (fun t ht Q' u=>u) (fun t ht _ Q' u=>?_) (fun pl L=>?_)
 ·clear X hR0;walk_at "";try exact u
 rw[Ye.mpr (fun _ _=>rfl)];have en:tk.map (fun t=>T.int t.2.1)=(tk.map (·.2.1)).map T.int:=by rw[N_];rfl
 rw[en];have hll:(tk.map (·.2.1)).length=tk.length:=b_ _;generalize tk.map (·.2.1)=c at *;have l8:c.length<=8:=by omega
 have l1:1<=c.length:=by omega
 clear en hll;have I:=w0.new (o:=.lst (c.map T.int)) L;generalize up3 H3 pl (.lst (c.map T.int))=H4 at I ⊢;clear w0 L;walk_at "n";have M:=I.hd;refine aB fun R1 hR1=>?_;walk_at "";refine⟨⟨by omega,by omega,by decide⟩,d,_,rfl,by rw[Z_];exact Int.pow_pos (by decide),I.cl,fun a H5 _ _ r=>?_⟩;have w2:=I.drw r;clear I r M;walk_at "n";have M:=w2.hd;refine aB fun R2 J=>?_;walk_at "";refine⟨by first | trivial | omega,by omega,by omega,?_⟩;rw[fP];walk_at "c";refine cU (fun (i:Nat)=>T.int (i:Int)) (fun i=>T.int (c.getD i 0)) (fun i=>decide (Builtin.bitAnd (a / 2^i) 1=1)) (List.range c.length) [some (.ref pl),some (.int a)] (still:=cP) (H:=H5) trivial (by rw[k_];omega) (fun i hi Q' u=>?_) (fun i hi hpt Q' u=>?_) ?_
 ·have y:=Box.mk u;clear u X J;walk_at "";exact⟨by omega,y.out⟩
 ·have y:=Box.mk u;have x1:=K4 (I_.mp hi);clear u X J;walk_at "";exact y.out
 intro pc O;have Y:ints3 (((List.range c.length).filter (fun i=>decide (Builtin.bitAnd (a / 2^i) 1=1))).map fun i=>T.int (c.getD i 0))=some (((List.range c.length).filter (fun i=>decide (Builtin.bitAnd (a / 2^i) 1=1))).map fun i=>c.getD i 0):=by rw[<- dm,N_];rfl
 rw[Y,gQ];have hsm:(0:Int)<=(((List.range c.length).filter (fun i=>decide (Builtin.bitAnd (a / 2^i) 1=1))).map fun i=>c.getD i 0).sum:=vP fun x hx=>by obtain⟨i,_,rfl⟩:=i_.mp hx;exact Jg v.out i
 generalize (((List.range c.length).filter (fun i=>decide (Builtin.bitAnd (a / 2^i) 1=1))).map fun i=>c.getD i 0).sum=m at hsm ⊢;have D:=(w2.new (o:=.lst (((List.range c.length).filter (fun i=>decide (Builtin.bitAnd (a / 2^i) 1=1))).map fun i=>T.int (c.getD i 0))) O).tl;generalize up3 H5 pc _=H6 at D ⊢;clear w2 O Y M;walk_at "n";have M:=D.hd;have Y:=dm c;refine aB fun R3 hR3=>?_;walk_at "";walk_at "n";have ht0:(0:Int)<=c.sum:=vP v.out;generalize c.sum=tot at ht0 ⊢;walk_at "";refine⟨by intro e;rw[e] at l1;simp at l1,fun R hm _=>?_⟩;have hz0:(0:Int)<=(if m - 1>0 then m - 1 else 0):=by split <;> omega
 generalize (if m - 1>0 then m - 1 else 0)=S at hz0 ⊢;have hm0:=v.out R hm;clear hm M Y v;refine⟨⟨by decide,by decide,by decide⟩,d,_,rfl,by decide,D.cl,fun V H7 g0 _ r=>?_⟩;have w4:=D.drw r;clear D r;refine⟨by decide,fun p hp=>?_⟩;have w5:=w4.new (o:=.lst [T.int m,T.int S,T.int (m+1),T.int tot,T.int R,T.int V]) hp;generalize up3 H7 p _=H8 at w5 ⊢;clear w4 hp;refine⟨d,6,rfl,by decide,w5.cl,fun n H9 n0 n1 r=>?_⟩;have w6:=w5.drw r;have g2:=w6.hd;clear w5 r;obtain⟨b,hbm,hb'⟩:=tG ([m,S,m+1,tot,R,V]:List Int) n (by omega) (by show n<6;omega);have hb2:atI [T.int m,T.int S,T.int (m+1),T.int tot,T.int R,T.int V] n=some (T.int b):=by have:=mC T.int ([m,S,m+1,tot,R,V]:List Int) n;rw[hb'] at this;exact this
 have b0:0<=b:=by simp only[o_,Xu,Za] at hbm;omega
 walk_at "";exact iW w6.cl w6.kp fun H'' r=>X.out _ H'' b0 r
def QS:Sp3:=fun ts H Q=>∃W:Wk,ts=[W.enc]/\WkOk W/\∀p,H p=none->Q (.ref p) (up3 H p (.lst ((lkW ["with"] W).map orT)))
def QT:Sp3:=fun ts H Q=>∃(x:T) (L:List (Str × Str)) (s:Str),ts=[x,.str s]/\((∃a,x=.ref a/\H a=some (.lst (L.map orT)))\/x=.tup (L.map orT))/\L.length<=100 /\
 ∀(p:Addr) (kvs:List (Str × T)),H p=none->(∀z,(aO z kvs).isSome=true↔RT (fun a b=>(a,b)∈L) s z)->Q (.ref p) (up3 H p (.dct kvs))
def QV:Sp3:=fun ts H Q=>∃(W:Wk) (t:Str),ts=[W.enc,.str t]/\WkOk W/\∀(p:Addr) (kvs:List (Str × T)),H p=none->(∀z,(aO z kvs).isSome=true↔RT (lkR ["with"] W) t z)->Q (.ref p) (up3 H p (.dct kvs))
def QW:Sp3:=fun ts H Q=>∃(W:Wk) (t:Str),ts=[W.enc,.str t]/\WkOk W/\∀(p:Addr) (kvs:List (Str × T)),H p=none->(∀z,(aO z kvs).isSome=true↔RT (lkR ["with"] W) z t)->Q (.ref p) (up3 H p (.dct kvs))
def Vw:Sp3:=fun ts H Q=>∃(W:Wk) (a b:Addr) (d c:List (Str × T)),ts=[W.enc,.ref a,.ref b]/\WkOk W/\H a=some (.dct d)/\H b=some (.dct c)/\Q (sT ((W.tasks.map (·.1)).filter fun x=>(aO x d).isSome&&(aO x c).isSome)) H
def Vx:Sp3:=fun ts H Q=>∃(W:Wk) (a b:Addr) (d c:List (Str × T)),ts=[W.enc,.ref a,.ref b]/\WkOk W/\H a=some (.dct d)/\H b=some (.dct c)/\Q (sT ((W.tasks.map (·.1)).filter fun x=>(aO x d).isSome&&!(aO x c).isSome)) H
def Vy:Sp3:=fun ts H Q=>∃(W:Wk) (t:Str),ts=[W.enc,.str t]/\WkOk W/\Q (sT (jt W t)) H
def Vz:Sp3:=fun ts H Q=>∃(W:Wk) (t:Str),ts=[W.enc,.str t]/\WkOk W/\Q (sT (ju W t)) H
abbrev nA:List Str:=["works","links","word","one","other"]
theorem sc_links_of:FnScope nA ["works"] (aA (top 5)):=bB
theorem uv {f:Addr}{C:FuncData}(g:G3 K mg "links_of" (top 5) ["works"] f C) (B:Bl mg):Cal P w K mg base 1 "links_of" (top 5) ["works"] QS:=by
 refine⟨f,C,g,?_⟩;refine fn3 g.fn sc_links_of (fun ts H Q h=>?_) (fun J A u s H E ts H3 Q G h=>?_)
 ·obtain⟨W,rfl,_⟩:=h;rfl
 have l:=Room.u30 G;obtain⟨⟨tk,c,prs,j⟩,rfl,v,k⟩:=h;refine⟨_,(ak (aF (i:=1) sc_links_of.nd (bG qC rfl B.list_ kZ (aa (aH ix3 (v3 0) ao) aj)))
   (ak (bu G_ rfl (cG (aH ix3 (v3 0) ao)) (cD (n:=3) rfl (aG (aC (i:=2) sc_links_of.nd) (aG (aC (i:=3) sc_links_of.nd) (aG (aC (i:=4) sc_links_of.nd) bO)))) (aq (bM (aQ (cM l) (v3 2) fZ) (ak (cg (dq M_ S_ T_ bJ (v3 1) (aa (bL (aa (v3 3) (aa (v3 4) aj))) aj)))
     (aq (cg (dq M_ S_ T_ bJ (v3 1) (aa (bL (aa (v3 4) (aa (v3 3) aj))) aj))))) bf)))
   (aq (aL (v3 1))))),?_⟩
 rw[show aV nA [Wk.enc ⟨tk,c,prs,j⟩]=[some (T.tup [T.tup (tk.map tkT),T.tup (c.map orT),T.tup (prs.map prT),T.tup (j.map T.str)]),none,none,none,none] from rfl];have hsz:sizeLine=16777216:=rfl;have y:c.length<=28:=v.os;have D:prs.length<=12:=v.ps;walk_at "";intro p I;refine aW prT prs (fun A t H=>∃(m v3 r:Option T),t=[some (T.tup [T.tup (tk.map tkT),T.tup (c.map orT),T.tup (prs.map prT),T.tup (j.map T.str)]),some (.ref p),m,v3,r]/\H=up3 H3 p (.lst ((c++A.flatMap (lkP ["with"])).map orT))) ⟨none,none,none,rfl,by simp⟩ ?_ ?_
 ·rintro t H ⟨m,v3,r,rfl,rfl⟩;refine⟨trivial,?_⟩;walk_at "";exact Fin3.of Sub3.refl (k p I)
 rintro A ⟨w,a,b⟩ B t H N e ⟨m,v3,r,rfl,rfl⟩ z;have L:=qU ["with"] A;have O:A.length<=12:=by have:=O_ List.length e;simp only[a_,d_] at this;omega
 have q:(c++A.flatMap (lkP ["with"])).length<=52:=by rw[a_];omega
 have d:N [some (T.tup [T.tup (tk.map tkT),T.tup (c.map orT),T.tup (prs.map prT),T.tup (j.map T.str)]),some (.ref p),some (.str w),some (.str a),some (.str b)] (up3 H3 p (.lst ((c++A.flatMap (lkP ["with"])).map orT++(lkP ["with"] (w,a,b)).map orT))):=z _ _ ⟨_,_,_,rfl,by rw[List.flatMap_append,<- x_,u_];simp⟩;generalize c++A.flatMap (lkP ["with"])=M at d q;replace d:=Box.mk d;refine⟨trivial,?_⟩;clear z e k v L;simp only[prT];walk_at "";refine⟨trivial,?_⟩;by_cases x:w="with"
 ·subst x;have o:lkP ["with"] ("with",a,b)=[(a,b),(b,a)]:=by unfold lkP;simp
  rw[o] at d;try simp only[Yu,if_true]
  refine⟨⟨trivial,trivial⟩,by omega,by omega,⟨trivial,trivial⟩,by omega,by simp;omega,?_⟩;have F:=d.out;simp only[y_,Xy,orT] at F;rw[x_];exact F
 have o:lkP ["with"] (w,a,b)=[]:=by unfold lkP;simp [x]
 rw[o,Xy,J_] at d;simp only[x,Yb,K_,Xd];exact d.out
abbrev pW:List Str:=["links","start","found","grown","one","other"]
theorem sc_reached:FnScope pW ["links","start"] (aA (top 6)):=bB
theorem vY {f:Addr}{fd:FuncData}(g:G3 K mg "reached" (top 6) ["links","start"] f fd) (B:Bl mg):Cal P w K mg base 1 "reached" (top 6) ["links","start"] QT:=by
 refine⟨f,fd,g,?_⟩;refine fn3 g.fn sc_reached (fun ts H Q h=>?_) (fun cdv A outer s H E ts H3 Q hr h=>?_)
 ·obtain⟨x,L,s,rfl,_⟩:=h;rfl
 have M:=Room.u1 hr;obtain⟨x,L,u,rfl,hx,hL,k⟩:=h;refine⟨_,(ak (aF (i:=2) sc_reached.nd (Cd (v3 1) dZ))
   (ak (aF (i:=3) sc_reached.nd dZ)
   (ak (lY G_ (c7 (v3 3)) (ak (aF (i:=3) sc_reached.nd dZ)
    (aq (bu G_ rfl (Hf 0) (cD (n:=2) rfl (aG (aC (i:=4) sc_reached.nd) (aG (aC (i:=5) sc_reached.nd) bO))) (aq (bM (PW3.pt (cN (qH M (v3 4) (v3 2)) (cV (pF M (v3 5) (v3 2))))) (ak (qz M (v3 2) (v3 5) dZ)
      (aq (aF (i:=3) sc_reached.nd dZ))) bf))))))
   (aq (aL (v3 2)))))),?_⟩
 rw[show aV pW [x,T.str u]=[some (x),some (T.str u),none,none,none,none] from rfl];have hsz:sizeLine=16777216:=rfl;walk_at "";intro p hp;refine⟨trivial,?_⟩;rw[Qj];refine⟨fun m R H=>∃(F:List Str) (g:Bool) (C I:Option T),R=[some x,some (.str u),some (.ref p),some (.bl g),C,I]/\H=up3 H3 p (.dct (dF F))/\u∈F/\F.Nodup/\(∀z∈F,RT (fun a b=>(a,b)∈L) u z)/\(g=false->∀a b,(a,b)∈L->a∈F->b∈F)/\m=2*(L.length+1 - F.length)+(if g then 1 else 0),
  ⟨_,[u],true,none,none,rfl,rfl,m_,by simp,(fun z G=>by rw[g_.mp G];exact .refl),(fun z=>nomatch z),rfl⟩,?_⟩
 have j:∀F:List Str,F.Nodup->(∀z∈F,RT (fun a b=>(a,b)∈L) u z)->F.length<=L.length+1:=fun F W hF=>by
  have:=Dz (l:=F) (m:=u::L.map (·.2)) W fun z G=>by
   cases hF z G with
   |refl=>exact m_
   |step _ r=>exact F_ _ (i_.mpr ⟨_,r,rfl⟩)
  simpa using this
 rintro m R H ⟨F,g,C,I,rfl,rfl,hs,W,hR,hg,rfl⟩;walk_at "";cases g with
 |false=>simp only[K_,Xd];refine Fin3.of Sub3.refl (k p _ hp fun z=>?_);rw[lD,v_];exact⟨hR z,fun h=>UV hs (hg rfl) h⟩
 |true =>
  try simp only[if_true]
  have X:(∃a,x=.ref a/\up3 H3 p (.dct (dF F)) a=some (.lst (L.map orT)))\/x=.tup (L.map orT):=by
   rcases hx with ⟨a,rfl,e⟩ | e
   ·
    exact .inl ⟨a,rfl,by rw[aD (aZ e hp)];exact e⟩
   ·
    exact .inr e
  refine DN X fun still U=>?_
  have v:∀c,still (up3 H3 p (.dct (dF c))):=by
   rcases U with rfl | ⟨a,rfl,e⟩
   ·
    exact fun _=>trivial
   ·
    have Z:a≠p:=fun z=>by subst z;rw[au] at e;cases e
    rw[aD Z] at e
    exact fun c=>.inl (by rw[aD Z];exact e)
  refine aW orT L (fun A R H=>∃(c:List Str) (g':Bool) (C I:Option T),R=[some x,some (.str u),some (.ref p),some (.bl g'),C,I]/\H=up3 H3 p (.dct (dF c))/\u∈c/\c.Nodup/\(∀z∈c,RT (fun a b=>(a,b)∈L) u z)/\(g'=false->c=F/\∀o∈A,o.1∈F->o.2∈F)/\(g'=true->F.length<c.length)) ⟨F,false,C,I,rfl,rfl,hs,W,hR,fun _=>⟨rfl,(fun _ h=>nomatch h)⟩,(fun z=>nomatch z)⟩ ?_ ?_
  ·
   rintro R H ⟨c,g',C,I,rfl,rfl,t,q,d,S,V⟩
   refine⟨v c,?_⟩
   have b1:=j F W hR
   have b2:=j c q d
   cases g' with
   |true =>
    have:=V rfl
    exact⟨_,by simp only[if_true];omega,c,true,C,I,rfl,rfl,t,q,d,(fun z=>nomatch z),rfl⟩
   |false =>
    obtain⟨e,hc⟩:=S rfl
    subst e
    exact⟨_,by simp,c,false,C,I,rfl,rfl,t,q,d,fun _ a b D y=>hc (a,b) D y,rfl⟩
  ·
   rintro A ⟨a,b⟩ B R H N e ⟨c,g',C,I,rfl,rfl,t,q,d,S,V⟩ hN
   refine⟨v c,?_⟩
   have D:(a,b)∈L:=by rw[e];simp
   have b2:=j c q d
   have l1:=lD a c
   have l2:=lD b c
   have l3:=Qi c
   have no:¬(a∈c/\b∉c)->N [some x,some (.str u),some (.ref p),some (.bl g'),some (.str a),some (.str b)] (up3 H3 p (.dct (dF c))):=fun hno=>hN _ _ ⟨c,g',_,_,rfl,rfl,t,q,d,fun hg'=>by
    obtain⟨e1,hc⟩:=S hg'
    subst e1
    refine⟨rfl,fun o Y=>?_⟩
    rcases A_.mp Y with Y | Y
    ·
     exact hc o Y
    ·
     rw[g_.mp Y]
     intro y
     exact Classical.byContradiction fun J=>hno ⟨y,J⟩,V⟩
   have O:a∈c->b∉c->N [some x,some (.str u),some (.ref p),some (.bl true),some (.str a),some (.str b)] (up3 H3 p (.dct (put3 b (T.bl true) (dF c)))):=fun y J=>by
    rw[Qh J]
    refine hN _ _ ⟨c++[b],true,_,_,rfl,rfl,Xr _ t,kY q J,fun z G=>?_,(fun z=>nomatch z),fun _=>?_⟩
    ·
     rcases A_.mp G with G | G
     ·
      exact d z G
     ·
      rw[g_.mp G]
      exact .step (d a y) D
    ·
     rw[a_,z_]
     cases g' with
     |true=>have:=V rfl;omega
     |false=>obtain⟨e1,_⟩:=S rfl;subst e1;omega
   replace no:=Box.mk no
   replace O:=Box.mk O
   clear hN S V v U j k hx X hg hR d W q hs t e D
   simp only[orT]
   walk_at ""
   refine⟨trivial,?_⟩
   by_cases y:a∈c
   ·
    simp only[y,Yu,if_true]
    by_cases J:b∈c
    ·
     simp only[J,Yu,Xw,K_,Xd]
     exact no.out fun z=>z.2 J
    ·
     simp only[J,Yb,Ys,if_true]
     exact⟨by omega,O.out y J⟩
   ·
    simp only[y,Yb,K_,Xd]
    exact no.out fun z=>y z.1
abbrev iM:List Str:=["works","task"]
theorem zY:FnScope iM iM (aA (top 7)):=bB
theorem zZ {f:Addr}{m:FuncData}(g:G3 K mg "led_to" (top 7) iM f m) (B:Bl mg) (c:Cal P w K mg base 1 "reached" (top 6) ["links","start"] QT) (b:Cal P w K mg base 1 "links_of" (top 5) ["works"] QS):Cal P w K mg base 2 "led_to" (top 7) iM QV:=by
 refine⟨f,m,g,?_⟩;refine fn3 g.fn zY (fun ts H Q h=>?_) (fun u A i s H E ts H3 Q l h=>?_)
 ·obtain⟨W,t,rfl,_⟩:=h;rfl
 obtain⟨W,t,rfl,j,k⟩:=h;refine⟨_,(aq (aL (aK c l rfl (aa (aK b l rfl (aa (v3 0) aj)) (aa (v3 1) aj))))),?_⟩;rw[show aV iM [W.enc,T.str t]=[some (W.enc),some (T.str t)] from rfl];walk_at "";refine⟨W,rfl,j,fun q n=>?_⟩;try dsimp only
 refine⟨_,lkW ["with"] W,t,rfl,.inl ⟨q,rfl,au⟩,W6 (yr j) (by decide),fun p kvs d r=>?_⟩;obtain⟨v,d⟩:=cA d;refine Fin3.of (fun a o e=>?_) (k p kvs d r);by_cases h:a=p
 ·subst h;rw[au] at e ⊢;exact e
 rw[aD h] at e ⊢;rw[aD (aZ e n)];exact e
abbrev dX:List Str:=["works","task"]
theorem uw:FnScope dX dX (aA (top 8)):=bB
theorem ux {f:Addr}{I:FuncData}(g:G3 K mg "led_from" (top 8) dX f I) (B:Bl mg) (d:Cal P w K mg base 1 "reached" (top 6) ["links","start"] QT) (c:Cal P w K mg base 1 "links_of" (top 5) ["works"] QS):Cal P w K mg base 2 "led_from" (top 8) dX QW:=by
 refine⟨f,I,g,?_⟩;refine fn3 g.fn uw (fun ts H Q h=>?_) (fun O A C s H E ts H3 Q m h=>?_)
 ·obtain⟨W,t,rfl,_⟩:=h;rfl
 obtain⟨W,t,rfl,J,k⟩:=h;refine⟨_,(aq (aL (aK d m rfl (aa (bA rfl (bD (n0:=(aA (top 8)).names) (N:=dX) (N':=["one","other"]) (nt:=2) (cap:=[]) rfl rfl (by decide +kernel)) (cz (aK c m rfl (aa (v3 0) aj))) (fun S F s H R Z=>⟨(cD (n:=2) rfl (aG (aC (i:=0) (show List.Nodup [("one":Str),("other":Str)] by decide +kernel)) (aG (aC (i:=1) (show List.Nodup [("one":Str),("other":Str)] by decide +kernel)) bO))),bQ,(bL (aa (v3 1) (aa (v3 0) aj)))⟩)) (aa (v3 1) aj))))),?_⟩;rw[show aV dX [W.enc,T.str t]=[some (W.enc),some (T.str t)] from rfl];have hsz:sizeLine=16777216:=rfl;have X:=yr (ws:=["with"]) J;walk_at "";refine⟨W,rfl,J,fun q L=>?_⟩;try dsimp only
 rw[BP,au,pB];walk_at "c";refine dW orT (lkW ["with"] W) (fun A v y H=>H=up3 H3 q (.lst ((lkW ["with"] W).map orT))/\v=(A.map swp).map orT/\∃x u:Option T,y=[x,u]) ⟨rfl,rfl,none,none,rfl⟩ ?_ ?_
 ·rintro v y H ⟨rfl,rfl,x,u,rfl⟩;refine⟨.inl au,by rw[b_,b_];omega,fun r m=>?_⟩;obtain⟨n0,D⟩:=cA m;refine⟨_,(lkW ["with"] W).map swp,t,rfl,.inl ⟨r,rfl,au⟩,by rw[b_];omega,fun p kvs l M=>?_⟩;obtain⟨Y,l⟩:=cA l;obtain⟨U,l⟩:=cA l;refine Fin3.of (fun a o e=>?_) (k p kvs l fun z=>(M z).trans Qk);by_cases h:a=p
  ·subst h;rw[au] at e ⊢;exact e
  rw[aD h] at e ⊢;rw[aD (aZ e D),aD (aZ e L)];exact e
 rintro A ⟨a,b⟩ B v y H N e ⟨rfl,rfl,x,u,rfl⟩ G;have V:A.length<=52:=by have:=O_ List.length e;simp only[a_,d_] at this;omega
 refine⟨.inl au,?_⟩;have j:=G (((A.map swp).map orT)++[orT (b,a)]) [some (.str a),some (.str b)] _ ⟨rfl,by rw[u_,u_];rfl,_,_,rfl⟩;replace j:=Box.mk j;clear G k e;simp only[orT] at j ⊢;walk_at "";exact⟨trivial,by omega,by omega,j.out⟩
abbrev eU:List Str:=["works","found","other"]
theorem vZ:FnScope eU eU (aA (top 9)):=bB
theorem wg {f:Addr}{r:FuncData}(g:G3 K mg "in_both" (top 9) eU f r) (B:Bl mg):Cal P w K mg base 1 "in_both" (top 9) eU Vw:=by
 refine⟨f,r,g,?_⟩;refine fn3 g.fn vZ (fun ts H Q h=>?_) (fun D A o s H E ts H3 Q v h=>?_)
 ·obtain⟨W,a,b,m,l,rfl,_⟩:=h;rfl
 have j:=Room.u1 v;obtain⟨⟨tk,d,prs,c⟩,a,b,m,l,rfl,J,O,U,k⟩:=h;refine⟨_,(aq (aL (bG cR rfl B.tuple_ cT (aa (bA rfl (bD (n0:=(aA (top 9)).names) (N:=eU) (N':=["task","found","other"]) (nt:=1) (cap:=[1,2]) rfl rfl (by decide +kernel)) (cG (aH ix3 (v3 0) ao)) (fun R q s H M S=>⟨(aC (i:=0) (show List.Nodup [("task":Str),("found":Str),("other":Str)] by decide +kernel)),(dG (PW3.pt (cN (qH j (aH ix3 (v3 0) ao) (v3 1)) (cV (qH j (aH ix3 (v3 0) ao) (v3 2)))))),(aH ix3 (v3 0) ao)⟩)) aj)))),?_⟩;rw[show aV eU [Wk.enc ⟨tk,d,prs,c⟩,T.ref a,T.ref b]=[some (T.tup [T.tup (tk.map tkT),T.tup (d.map orT),T.tup (prs.map prT),T.tup (c.map T.str)]),some (T.ref a),some (T.ref b)] from rfl];have hsz:sizeLine=16777216:=rfl;have L:tk.length<=8:=J.t8;walk_at "";walk_at "c";refine cU tkT (fun t=>T.str t.1) (fun t=>(aO t.1 m).isSome&&(aO t.1 l).isSome) tk [some (.ref a),some (.ref b)] trivial (by omega) (fun t G u n=>?_) (fun t G I u n=>?_) (fun p z=>?_)
 ·obtain⟨nm,F,ks⟩:=t;simp only[tkT];dsimp only at n;cases y:(aO nm m).isSome <;> cases C:(aO nm l).isSome <;> simp only[y,C,Zj,Bool.and_false,Xw,Ys,aai,Bool.false_and] at n <;> walk_at ""
 ·simp only[tkT];walk_at "";try exact n
 walk_at "";refine Fin3.of (Sub3.new z) ?_;have e:(tk.filter fun t=>(aO t.1 m).isSome&&(aO t.1 l).isSome).map (fun t=>T.str t.1)=((tk.map (·.1)).filter fun x=>(aO x m).isSome&&(aO x l).isSome).map T.str:=by rw[List.filter_map,N_];rfl
 rw[e];exact k
abbrev di:List Str:=["works","task"]
theorem uA:FnScope di di (aA (top 11)):=bB
theorem uB {f:Addr}{y:FuncData}(g:G3 K mg "group_of" (top 11) di f y) (B:Bl mg) (c:Cal P w K mg base 1 "in_both" (top 9) ["works","found","other"] Vw) (d:Cal P w K mg base 2 "led_to" (top 7) di QV) (b:Cal P w K mg base 2 "led_from" (top 8) di QW):Cal P w K mg base 3 "group_of" (top 11) di Vy:=by
 refine⟨f,y,g,?_⟩;refine fn3 g.fn uA (fun ts H Q h=>?_) (fun F A n s H E ts H3 Q r h=>?_)
 ·obtain⟨W,t,rfl,_⟩:=h;rfl
 obtain⟨W,t,rfl,m,k⟩:=h;refine⟨_,(aq (aL (aK c r rfl (aa (v3 0) (aa (aK d r rfl (aa (v3 0) (aa (v3 1) aj))) (aa (aK b r rfl (aa (v3 0) (aa (v3 1) aj))) aj)))))),?_⟩;rw[show aV di [W.enc,T.str t]=[some (W.enc),some (T.str t)] from rfl];walk_at "";refine⟨W,t,rfl,m,fun p v C j=>?_⟩;try dsimp only
 refine⟨W,t,rfl,m,fun q u z l=>?_⟩;obtain⟨D,i⟩:=cA z;try dsimp only
 refine⟨W,p,q,v,u,rfl,m,by rw[aD (Ne.symm D)];exact au,au,?_⟩;refine Fin3.of (fun a o e=>by rw[aD (aZ e i),aD (aZ e C)];exact e) ?_;rw[show (W.tasks.map (·.1)).filter (fun x=>(aO x v).isSome&&(aO x u).isSome)=jt W t from ?_]
 ·exact k
 unfold jt;refine X5 fun x G=>?_;rw[Xf,Xm,@v_ _ (Classical.propDecidable _),j x,l x]
abbrev bZ:List Str:=["works","found","other"]
theorem jM:FnScope bZ bZ (aA (top 10)):=bB
theorem jN {f:Addr}{r:FuncData}(g:G3 K mg "in_first_alone" (top 10) bZ f r) (B:Bl mg):Cal P w K mg base 1 "in_first_alone" (top 10) bZ Vx:=by
 refine⟨f,r,g,?_⟩;refine fn3 g.fn jM (fun ts H Q h=>?_) (fun D A o s H E ts H3 Q v h=>?_)
 ·obtain⟨W,a,b,m,l,rfl,_⟩:=h;rfl
 have j:=Room.u1 v;obtain⟨⟨tk,d,prs,c⟩,a,b,m,l,rfl,J,O,U,k⟩:=h;refine⟨_,(aq (aL (bG cR rfl B.tuple_ cT (aa (bA rfl (bD (n0:=(aA (top 10)).names) (N:=bZ) (N':=["task","found","other"]) (nt:=1) (cap:=[1,2]) rfl rfl (by decide +kernel)) (cG (aH ix3 (v3 0) ao)) (fun R q s H M S=>⟨(aC (i:=0) (show List.Nodup [("task":Str),("found":Str),("other":Str)] by decide +kernel)),(dG (PW3.pt (cN (qH j (aH ix3 (v3 0) ao) (v3 1)) (cV (pF j (aH ix3 (v3 0) ao) (v3 2)))))),(aH ix3 (v3 0) ao)⟩)) aj)))),?_⟩;rw[show aV bZ [Wk.enc ⟨tk,d,prs,c⟩,T.ref a,T.ref b]=[some (T.tup [T.tup (tk.map tkT),T.tup (d.map orT),T.tup (prs.map prT),T.tup (c.map T.str)]),some (T.ref a),some (T.ref b)] from rfl];have hsz:sizeLine=16777216:=rfl;have L:tk.length<=8:=J.t8;walk_at "";walk_at "c";refine cU tkT (fun t=>T.str t.1) (fun t=>(aO t.1 m).isSome&&!(aO t.1 l).isSome) tk [some (.ref a),some (.ref b)] trivial (by omega) (fun t G u n=>?_) (fun t G I u n=>?_) (fun p z=>?_)
 ·obtain⟨nm,F,ks⟩:=t;simp only[tkT];dsimp only at n;cases y:(aO nm m).isSome <;> cases C:(aO nm l).isSome <;> simp only[y,C,Zj,Bool.and_false,Xw,Ys,aai,Bool.false_and] at n <;> walk_at ""
 ·simp only[tkT];walk_at "";try exact n
 walk_at "";refine Fin3.of (Sub3.new z) ?_;have e:(tk.filter fun t=>(aO t.1 m).isSome&&!(aO t.1 l).isSome).map (fun t=>T.str t.1)=((tk.map (·.1)).filter fun x=>(aO x m).isSome&&!(aO x l).isSome).map T.str:=by rw[List.filter_map,N_];rfl
 rw[e];exact k
abbrev dj:List Str:=["works","task"]
theorem uC:FnScope dj dj (aA (top 12)):=bB
theorem uD {f:Addr}{y:FuncData}(g:G3 K mg "ahead_of" (top 12) dj f y) (B:Bl mg) (b:Cal P w K mg base 1 "in_first_alone" (top 10) ["works","found","other"] Vx) (c:Cal P w K mg base 2 "led_from" (top 8) dj QW) (d:Cal P w K mg base 2 "led_to" (top 7) dj QV):Cal P w K mg base 3 "ahead_of" (top 12) dj Vz:=by
 refine⟨f,y,g,?_⟩;refine fn3 g.fn uC (fun ts H Q h=>?_) (fun F A n s H E ts H3 Q r h=>?_)
 ·obtain⟨W,t,rfl,_⟩:=h;rfl
 obtain⟨W,t,rfl,m,k⟩:=h;refine⟨_,(aq (aL (aK b r rfl (aa (v3 0) (aa (aK c r rfl (aa (v3 0) (aa (v3 1) aj))) (aa (aK d r rfl (aa (v3 0) (aa (v3 1) aj))) aj)))))),?_⟩;rw[show aV dj [W.enc,T.str t]=[some (W.enc),some (T.str t)] from rfl];walk_at "";refine⟨W,t,rfl,m,fun p v C j=>?_⟩;try dsimp only
 refine⟨W,t,rfl,m,fun q u z l=>?_⟩;obtain⟨D,i⟩:=cA z;try dsimp only
 refine⟨W,p,q,v,u,rfl,m,by rw[aD (Ne.symm D)];exact au,au,?_⟩;refine Fin3.of (fun a o e=>by rw[aD (aZ e i),aD (aZ e C)];exact e) ?_;rw[show (W.tasks.map (·.1)).filter (fun x=>(aO x v).isSome&&!(aO x u).isSome)=ju W t from ?_]
 ·exact k
 unfold ju;refine X5 fun x G=>?_;rw[Xf,Xm,@v_ _ (Classical.propDecidable _),j x,Zv,<- Bool.not_eq_true,l x]
def Fj:Sp3:=fun ts H Q=>∃(W:Wk) (x:T) (a:List Str),ts=[W.enc,x]/\WkOk W/\U0 H x a/\Q (.int (numOf (W.tasks.map (·.1)) a)) H
def Fl:Sp3:=fun ts H Q=>∃(W:Wk) (n:Int),ts=[W.enc,.int n]/\WkOk W/\0<=n/\n<2^W.tasks.length/\Q (sT (pick (W.tasks.map (·.1)) n)) H
def Le:Sp3:=fun ts H Q=>∃(ks:List Str) (k:Str),ts=[sT ks,.str k]/\Q (.bl (jG ks k)) H
def yN:Sp3:=fun ts H Q=>∃a b:Int,ts=[.int a,.int b]/\Q (.bl (decide (Builtin.bitAnd a b=b))) H
def Lg:Sp3:=fun ts H Q=>∃(W:Wk) (t:Str),ts=[W.enc,.str t]/\WkOk W/\∀p,H p=none->Q (.ref p) (up3 H p (.lst ((jH W t).map T.str)))
def Lh:Sp3:=fun ts H Q=>∃W:Wk,ts=[W.enc]/\WkOk W/\∀p,H p=none->Q (.ref p) (up3 H p (.lst (W.tasks.map (ruT W (W.tasks.map (·.1))))))
def Li:Sp3:=fun ts H Q=>∃(W:Wk) (a:Addr) (beat:Int) (b:Str) (D S:List Str),ts=[.ref a,.int beat,.str b,.int (numOf (W.tasks.map (·.1)) D),.int (numOf (W.tasks.map (·.1)) S)]/\WkOk W/\H a=some (.lst (W.tasks.map (ruT W (W.tasks.map (·.1)))))/\Q (.bl (vJ W beat b D S)) H
abbrev kj:List Str:=["works","tasks","number","worth","task"]
theorem sc_number_of:FnScope kj ["works","tasks"] (aA (top 2)):=bB
theorem rD {f:Addr}{q:FuncData}(g:G3 K mg "number_of" (top 2) ["works","tasks"] f q) (B:Bl mg):Cal P w K mg base 1 "number_of" (top 2) ["works","tasks"] Fj:=by
 refine⟨f,q,g,?_⟩;refine fn3 g.fn sc_number_of (fun ts H Q h=>?_) (fun u A m s H E ts H3 Q r h=>?_)
 ·obtain⟨W,x,d,rfl,_⟩:=h;rfl
 have j:=Room.u31 r;obtain⟨⟨tk,c,prs,b⟩,x,d,rfl,C,D,k⟩:=h;refine⟨_,(ak (aF (i:=2) sc_number_of.nd ao)
   (ak (aF (i:=3) sc_number_of.nd ao)
   (ak (bu G_ rfl (cG (aH ix3 (v3 0) ao)) (aC (i:=4) sc_number_of.nd) (ak (bM (aQ (sW j) (aH ix3 (v3 4) ao) (v3 1) rfl) (aq (aF (i:=2) sc_number_of.nd (aJ bh (v3 2) (v3 3)))) bf)
    (aq (aF (i:=3) sc_number_of.nd (aJ f9 (v3 3) ao)))))
   (aq (aL (v3 2)))))),?_⟩
 rw[show aV kj [Wk.enc ⟨tk,c,prs,b⟩,x]=[some (T.tup [T.tup (tk.map tkT),T.tup (c.map orT),T.tup (prs.map prT),T.tup (b.map T.str)]),some (x),none,none,none] from rfl];have hsz:sizeLine=16777216:=rfl;have F:tk.length<=8:=C.t8;walk_at "";refine aW tkT tk (fun A l H=>∃v:Option T,H=H3/\l=[some (T.tup [T.tup (tk.map tkT),T.tup (c.map orT),T.tup (prs.map prT),T.tup (b.map T.str)]),some x,some (.int (numOf (A.map (·.1)) d)),some (.int (2^A.length)),v]) ⟨none,rfl,rfl⟩ ?_ ?_
 ·rintro l H ⟨v,rfl,rfl⟩;refine⟨trivial,?_⟩;walk_at "";exact Fin3.of Sub3.refl k
 rintro A t B l H N e ⟨v,rfl,rfl⟩ p;have z:A.length+1<=8:=by have:=O_ List.length e;simp only[a_,d_] at this;omega
 have G:0<(2:Int)^A.length/\(2:Int)^A.length<=256:=by
  have:A.length=0\/A.length=1\/A.length=2\/A.length=3\/A.length=4\/A.length=5\/A.length=6\/A.length=7:=by omega
  rcases this with e | e | e | e | e | e | e | e <;> rw[e] <;> decide
 have n:CMul (2^A.length) 2:=.inl ⟨by omega,by omega⟩;have a:∀v,N [some (T.tup [T.tup (tk.map tkT),T.tup (c.map orT),T.tup (prs.map prT),T.tup (b.map T.str)]),some x,some (.int (numOf (A.map (·.1)) d+2^A.length*(if t.1∈d then 1 else 0))),some (.int (2^A.length*2)),v] H:=fun v=>by have:=p [some (T.tup [T.tup (tk.map tkT),T.tup (c.map orT),T.tup (prs.map prT),T.tup (b.map T.str)]),some x,some (.int (numOf ((A++[t]).map (·.1)) d)),some (.int (2^(A++[t]).length)),v] H ⟨v,rfl,rfl⟩;rw[show (2:Int)^(A++[t]).length=2^A.length*2 by rw[a_,z_,X4],u_,y_,Xy,mU,b_] at this;exact this
 replace a:=Box.mk a;obtain⟨nm,y,ks⟩:=t;refine⟨trivial,?_⟩;clear p e k;simp only[tkT,sT];walk_at "";refine Iv D ?_;by_cases o:nm∈d
 ·simp only[o,Yu,if_true,K_,Xd,jq,Int.mul_one] at a ⊢;exact⟨by first | trivial | exact n,a.out _⟩
 simp only[o,Yb,if_true,K_,Xd,jq,Int.mul_zero,Int.add_zero] at a ⊢;exact⟨by first | trivial | exact n,a.out _⟩
abbrev dh:List Str:=["kinds","kind"]
theorem nF:FnScope dh dh (aA (top 14)):=bB
theorem nG {f:Addr}{i:FuncData}(g:G3 K mg "may_be_done" (top 14) dh f i) (B:Bl mg):Cal P w K mg base 1 "may_be_done" (top 14) dh Le:=by
 refine⟨f,i,g,?_⟩;refine fn3 g.fn nF (fun ts H Q h=>?_) (fun j A d s H E ts H3 Q e h=>?_)
 ·obtain⟨ks,k,rfl,_⟩:=h;rfl
 have b:=Room.u30 e;have c:=Room.u31 e;obtain⟨ks,a,rfl,k⟩:=h;refine⟨_,(aq (aL (JL (cZ (cM b) (aP b7 rfl B.len_ b8 (aa (v3 0) aj)) ao) (lW (cZ (sW c) (v3 1) (v3 0) rfl))))),?_⟩;rw[show aV dh [sT ks,T.str a]=[some (T.tup (ks.map T.str)),some (T.str a)] from rfl];have m:pl 20 (T.str a)=true:=rfl;have l:=fL ks;have n:dD false (T.str a) (ks.map T.str)=decide (a∈ks):=by unfold dD;have:(T.str a∈ks.map T.str)↔a∈ks:=fK gU;simp only[this];simp
 walk_at "";unfold jG at k;cases ks with
 |nil=>simp only[Yu,Bool.true_or,YD,if_true] at k ⊢;exact Fin3.of Sub3.refl k
 |cons y r =>
  have:¬(((r.length+1:Nat)):Int)=0:=by omega
  simp only[d_,this,Yb,K_,Xd] at k ⊢
  exact⟨trivial,trivial,Fin3.of Sub3.refl (by simpa using k)⟩
abbrev gJ:List Str:=["number","part"]
theorem wj:FnScope gJ gJ (aA (top 18)):=bB
theorem wu {f:Addr}{e:FuncData}(g:G3 K mg "has_all" (top 18) gJ f e) (B:Bl mg):Cal P w K mg base 1 "has_all" (top 18) gJ yN:=by
 refine⟨f,e,g,?_⟩;refine fn3 g.fn wj (fun ts H Q h=>?_) (fun j A d s H E ts H3 Q i h=>?_)
 ·obtain⟨a,b,rfl,_⟩:=h;rfl
 have c:=Room.u30 i;obtain⟨a,b,rfl,k⟩:=h;refine⟨_,(aq (aL (cZ (cM c) (aJ qJ (v3 0) (v3 1)) (v3 1)))),?_⟩;rw[show aV gJ [T.int a,T.int b]=[some (T.int a),some (T.int b)] from rfl];walk_at "";exact Fin3.of Sub3.refl k
abbrev cX:List Str:=["works","task"]
theorem nZ:FnScope cX cX (aA (top 16)):=bB
theorem n6 {f:Addr}{F:FuncData}(g:G3 K mg "apart_from" (top 16) cX f F) (B:Bl mg):Cal P w K mg base 1 "apart_from" (top 16) cX Lg:=by
 refine⟨f,F,g,?_⟩;refine fn3 g.fn nZ (fun ts H Q h=>?_) (fun J A y s H E ts H3 Q G h=>?_)
 ·obtain⟨W,t,rfl,_⟩:=h;rfl
 have c:=Room.u30 G;obtain⟨⟨tk,l,prs,j⟩,t,rfl,S,k⟩:=h;refine⟨_,(aq (aL (bA rfl (bD (n0:=(aA (top 16)).names) (N:=cX) (N':=["word","one","other","task"]) (nt:=3) (cap:=[1]) rfl rfl (by decide +kernel)) (cG (aH ix3 (v3 0) ao)) (fun V C s H U Y=>⟨(cD (n:=3) rfl (aG (aC (i:=0) (show List.Nodup [("word":Str),("one":Str),("other":Str),("task":Str)] by decide +kernel)) (aG (aC (i:=1) (show List.Nodup [("word":Str),("one":Str),("other":Str),("task":Str)] by decide +kernel)) (aG (aC (i:=2) (show List.Nodup [("word":Str),("one":Str),("other":Str),("task":Str)] by decide +kernel)) bO)))),(dG (PW3.pt (cN (aQ (cM c) (v3 0) fZ) (cV (aQ (cM c) (v3 1) (v3 3)))))),(v3 2)⟩)))),?_⟩;rw[show aV cX [Wk.enc ⟨tk,l,prs,j⟩,T.str t]=[some (T.tup [T.tup (tk.map tkT),T.tup (l.map orT),T.tup (prs.map prT),T.tup (j.map T.str)]),some (T.str t)] from rfl];have hsz:sizeLine=16777216:=rfl;have O:prs.length<=12:=S.ps;walk_at "";walk_at "c";refine dW prT prs (fun A r x H=>H=H3/\r=((A.filter fun p=>decide (p.1=("apart":Str))&&decide (p.2.1=t)).map (·.2.2)).map T.str/\∃v o q:Option T,x=[v,o,q,some (.str t)]) ⟨rfl,rfl,none,none,none,rfl⟩ ?_ ?_
 ·rintro r x H ⟨rfl,rfl,v,o,q,rfl⟩;refine⟨trivial,?_,fun p I=>Fin3.of Sub3.refl (k p I)⟩;rw[b_,b_];exact W6 (Xi _ _) (by omega)
 rintro A ⟨w,a,b⟩ B r x H N e ⟨rfl,rfl,v,o,q,rfl⟩ u;have L:A.length<=12:=by have:=O_ List.length e;simp only[a_,d_] at this;omega
 have X:((A.filter fun p=>decide (p.1=("apart":Str))&&decide (p.2.1=t)).map (·.2.2)).length<=12:=by rw[b_];exact W6 (Xi _ _) L
 refine⟨trivial,?_⟩;have R:Box (w="apart"/\a=t->N (((A.filter fun p=>decide (p.1=("apart":Str))&&decide (p.2.1=t)).map (·.2.2)).map T.str++[T.str b]) [some (.str w),some (.str a),some (.str b),some (.str t)] H):=⟨fun h=>u _ _ _ ⟨rfl,by rw[Yi];simp [h],_,_,_,rfl⟩⟩;have D:Box (¬(w="apart"/\a=t)->N (((A.filter fun p=>decide (p.1=("apart":Str))&&decide (p.2.1=t)).map (·.2.2)).map T.str) [some (.str w),some (.str a),some (.str b),some (.str t)] H):=⟨fun h=>u _ _ _ ⟨rfl,by rw[Yi];simp [h],_,_,_,rfl⟩⟩;generalize ((A.filter fun p=>decide (p.1=("apart":Str))&&decide (p.2.1=t)).map (·.2.2))=M at *;clear u k e;simp only[prT];walk_at "";refine⟨trivial,?_⟩;by_cases d:w="apart"
 ·simp only[d,Yu,if_true];by_cases m:a=t
  ·simp only[m,Yu,if_true];have:=R.out ⟨d,m⟩;rw[d,m] at this;exact⟨by omega,this⟩
  simp only[m,Yb,K_,Xd];have:=D.out fun z=>m z.2;rw[d] at this;exact this
 simp only[d,Yb,K_,Xd];exact D.out fun z=>d z.1
abbrev nH:List Str:=["works","number","tasks","left","task"]
theorem sc_tasks_of:FnScope nH ["works","number"] (aA (top 3)):=bB
theorem uE {f:Addr}{C:FuncData}(g:G3 K mg "tasks_of" (top 3) ["works","number"] f C) (B:Bl mg):Cal P w K mg base 1 "tasks_of" (top 3) ["works","number"] Fl:=by
 refine⟨f,C,g,?_⟩;refine fn3 g.fn sc_tasks_of (fun ts H Q h=>?_) (fun J A u s H E ts H3 Q G h=>?_)
 ·obtain⟨W,n,rfl,_⟩:=h;rfl
 have l:=Room.u30 G;obtain⟨⟨tk,c,prs,b⟩,n,rfl,M,n0,S,k⟩:=h;refine⟨_,(ak (aF (i:=2) sc_tasks_of.nd (bI aj))
   (ak (aF (i:=3) sc_tasks_of.nd (v3 1))
   (ak (bu G_ rfl (cG (aH ix3 (v3 0) ao)) (aC (i:=4) sc_tasks_of.nd) (ak (bM (aQ (cM l) (aJ dU (v3 3) ao) ao) (aq (cg (dq M_ S_ T_ bJ (v3 2) (aa (aH ix3 (v3 4) ao) aj)))) bf)
    (aq (aF (i:=3) sc_tasks_of.nd (aJ fJ (v3 3) ao)))))
   (aq (aL (bG cR rfl B.tuple_ cT (aa (v3 2) aj))))))),?_⟩
 rw[show aV nH [Wk.enc ⟨tk,c,prs,b⟩,T.int n]=[some (T.tup [T.tup (tk.map tkT),T.tup (c.map orT),T.tup (prs.map prT),T.tup (b.map T.str)]),some (T.int n),none,none,none] from rfl];have hsz:sizeLine=16777216:=rfl;have R:tk.length<=8:=M.t8;walk_at "";refine⟨by omega,fun p I=>?_⟩;refine lg (fun r o H=>∃(A B:List (Str × Int × List Str)) (v:Option T),tk=A++B/\r=B.map tkT/\H=up3 H3 p (.lst ((pick (A.map (·.1)) n).map T.str))/\o=[some (T.tup [T.tup (tk.map tkT),T.tup (c.map orT),T.tup (prs.map prT),T.tup (b.map T.str)]),some (.int n),some (.ref p),some (.int (n / 2^A.length)),v]) ⟨[],tk,none,rfl,rfl,rfl,by simp⟩ ?_ ?_
 ·rintro o H ⟨A,B,v,e,j,rfl,rfl⟩;have O:B=[]:=YG.mp j.symm;subst O;rw[J_] at e;subst e;clear j;refine⟨trivial,?_⟩;walk_at "";exact Fin3.of (Sub3.new I) k
 rintro x r o H N ⟨A,B,v,e,j,rfl,rfl⟩ z;cases B with
 |nil=>cases j
 |cons t B =>
 rw[y_,YQ] at j;obtain⟨rfl,rfl⟩:=j;have L:A.length+1<=8:=by have:=O_ List.length e;simp only[a_,d_] at this;omega
 have d:=tY (A.map (·.1)) [t.1] n;simp only[pick,b_] at d;have y:=yC (A.map (·.1)) n;rw[b_] at y;have m:n / 2^A.length / 2=n / 2^(A++[t]).length:=by rw[a_,z_,X4,Int.ediv_ediv_of_nonneg (Xz (Int.pow_pos (by decide)))]
 have a:∀v,N [some (T.tup [T.tup (tk.map tkT),T.tup (c.map orT),T.tup (prs.map prT),T.tup (b.map T.str)]),some (.int n),some (.ref p),some (.int (n / 2^A.length / 2)),v] (up3 H3 p (.lst ((pick (A.map (·.1)++[t.1]) n).map T.str))):=fun v=>by rw[m];exact z _ _ ⟨A++[t],B,v,by rw[e];simp,rfl,by simp,rfl⟩
 rw[d] at a;replace a:=Box.mk a;obtain⟨nm,q,ks⟩:=t;refine⟨trivial,?_⟩;clear z e k d m;simp only[tkT,sT];walk_at "";try simp only[true_and]
 refine⟨by decide,?_⟩;by_cases D:n / 2^A.length%2=1
 ·simp only[D,if_true,Yu] at a ⊢;refine⟨by omega,?_⟩;have F:=a.out (some (T.tup [T.str nm,T.int q,T.tup (ks.map T.str)]));rw[u_] at F;exact⟨⟨by decide,by decide +kernel⟩,F⟩
 simp only[D,Xd,Yb,K_,J_] at a ⊢;exact⟨⟨by decide,by decide +kernel⟩,a.out _⟩
abbrev ik:List Str:=["works","beat","many","table","stands","evens"]
theorem sc_even_table:FnScope ik ["works","beat","many"] (aA (top 28)):=bB
theorem oh {f:Addr}{fd:FuncData}(g:G3 K mg "even_table" (top 28) ["works","beat","many"] f fd) (B:Bl mg) {l:Addr}(I_Walk:InsC K l ["works","beat","rules","whole"]) (I:MkC P w K mg base l 5 "Walk" ["self","works","beat"] (QD l)) (c:Cal P w K mg base 5 "evens_by_stands" (top 27) ["walk","many"] (QH l)) (t:Cal P w K mg base 1 "tasks_of" (top 3) ["works","number"] Fl):Cal P w K mg base 7 "even_table" (top 28) ["works","beat","many"] Vs:=by
 refine⟨f,fd,g,?_⟩;refine fn3 g.fn sc_even_table (fun ts H Q h=>?_) (fun cdv A outer s H E ts H3 Q hr h=>?_)
 ·obtain⟨W,beat,m,rfl,_⟩:=h;rfl
 have hu1:=Room.u1 hr;obtain⟨W,beat,m,rfl,hW,t5,hm,kk⟩:=h;refine⟨_,(ak (aF (i:=3) sc_even_table.nd (bI aj))
   (ak (bu G_ rfl (Ck rfl B.enumerate_ (aK c hr rfl (aa (xO I (hr.mono (by decide)) rfl (aa (v3 0) (aa (v3 1) aj))) (aa (v3 2) aj)))) (cD (n:=2) rfl (aG (aC (i:=4) sc_even_table.nd) (aG (aC (i:=5) sc_even_table.nd) bO))) (aq (cg (dq M_ PySem.F.slot_list_extend PySem.F.type_list_extend zA (v3 3) (aa (bA rfl (bD (n0:=(aA (top 28)).names) (N:=ik) (N':=["done","stands","works","evens"]) (nt:=1) (cap:=[4,0,5]) rfl rfl (by decide +kernel)) (cz (aP (Ie hr) rfl B.sorted_ zJ (aa (v3 5) aj))) (fun cl pins s H C0 fp=>⟨(aC (i:=0) (show List.Nodup [("done":Str),("stands":Str),("works":Str),("evens":Str)] by decide +kernel)),bQ,(bL (aa (v3 1) (aa (aK t hr rfl (aa (v3 2) (aa (v3 0) aj))) (aa (aH ix3 (mF hu1 (v3 3) (v3 0)) ao) aj))))⟩)) aj)))))
   (aq (aL (v3 3))))),?_⟩
 rw[show aV ik [W.enc,T.int beat,T.int (m:Int)]=[some (W.enc),some (T.int beat),some (T.int (m:Int)),none,none,none] from rfl];have hsz:sizeLine=16777216:=rfl;have t8:=hW.t8;have r8:=hW.r8;have t32:top2 W<=256:=ZG (n:=2) (by decide) t5;have k':=Box.mk kk;have G:=Box.mk hW;clear kk hW;refine aB fun R0 hR0=>?_;walk_at "";refine⟨by decide,fun v hpt=>?_⟩;walk_at "n";refine aB fun R1 hR1=>?_;walk_at "";intro a ha;have X:up3 H3 v (.lst []) v=some (.lst []):=au;have nta:v≠a:=aZ X ha;refine⟨a,W,beat,rfl,G.out,au,fun H4 kp hw=>⟨rfl,?_⟩⟩;have sb4:Sub3 (up3 H3 v (.lst [])) H4:=fun b u r=>kp b u (aZ r ha) (by rw[aD (aZ r ha)];exact r);refine⟨a,W,beat,m,rfl,G.out,hw,hm,fun H5 p as q sb2 hl gp hs gq=>?_⟩;have V:=sb4.trans sb2;have C:=V _ _ X;have sb3:∀b u,H3 b=some u->H5 b=some u:=fun b u r=>V b u (by rw[aD (aZ r hpt)];exact r);clear sb4 sb2 hw kp nta X V ha;rw[<- hl] at gq;have gp':H5 p=some (.lst ((as++[q]).map T.ref)):=by rw[gp,u_];rfl
 have hen:∀(j:Nat) (b:Addr),(as++[q])[j]?=some b->_:=fun j b r=>atE hs gq r;have y:(as++[q]).length=m+1:=by rw[a_,hl];rfl
 clear gp hs gq hl;generalize as++[q]=bs at *;have npt:p≠v:=ne3 gp' C fun z=>by have:=O_ List.length (O3.lst.inj z);rw[b_,y] at this;cases this
 have O:=Box.mk C;clear C;walk_at "";have C:=O.out;clear O;refine zQ T.ref bs (fun A σ H=>∃(v4 v5:Option T),σ=[some W.enc,some (.int beat),some (.int (m:Int)),some (.ref v),v4,v5]/\(∀b u,b≠v->H5 b=some u->H b=some u)/\H v=some (.lst (eG W beat A.length))) ⟨_,_,rfl,fun _ _ _ h=>h,C⟩ ?_ ?_
 ·rintro σ H ⟨v4,v5,rfl,kb,gt⟩;refine⟨.inl (kb p _ npt gp'),?_⟩;rw[y] at gt;walk_at "n";walk_at "";refine Fin3.of (fun b u r=>?_) (k'.out v hpt);by_cases e:b=v
  ·subst e;rw[au] at r;rw[gt,<- r]
  rw[aD e] at r;exact kb b u e (sb3 _ _ r)
 rintro A x B σ H N e ⟨v4,v5,rfl,kb,gt⟩ hN;refine⟨.inl (kb p _ npt gp'),?_⟩;have hx:bs[A.length]?=some x:=by rw[e,E_ (j_ _),Nat.sub_self];rfl
 have hA:A.length<m+1:=by have:=O_ List.length e;rw[y,a_,d_] at this;omega
 obtain⟨u,J,hsi,hdg,hnl⟩:=hen A.length x hx;have nxt:x≠v:=fun z=>by rw[z,C] at J;exact hnl _ (Q_ J).symm
 have gu:=kb x u nxt J;have hE:=(dJ (W:=W) (beat:=beat) (show A.length<=W.row.length by omega)).eok G.out;have dl:(dI evT (evs W beat A.length)).length<=1024:=by rw[Ek];have:=hE.len;omega
 have M:∀d∈ksN W ((evs W beat A.length).map (·.1)),d<top2 W/\∃fs,dw (d:Int) (dI evT (evs W beat A.length))=some (.tup [.int ((bK d (evs W beat A.length)).getD (0,[])).1,.tup fs]):=fun d hd=>by unfold ksN at hd;obtain⟨L,R⟩:=D_.mp hd;obtain⟨e,he,rfl⟩:=i_.mp (Xa R);rw[lH,gZ hE.nd (show (e.1,e.2)∈_ from he)];exact⟨I_.mp L,_,rfl⟩
 have klen:=vQ W ((evs W beat A.length).map (·.1));have hdu:eG W beat (A.length+1)=eG W beat A.length++(ksN W ((evs W beat A.length).map (·.1))).map fun d=>tbR W A.length d ((bK d (evs W beat A.length)).getD (0,[])).1:=by unfold eG;rw[Z0,List.flatMap_append];simp [evR]
 have dlen:(eG W beat A.length).length<=9*256:=by unfold eG;rw[List.length_flatMap];have:=qY (fun k=>(evR W k (evs W beat k)).length) 256 (fun k=>by unfold evR;rw[b_];exact W6 (vQ _ _) t32) (List.range A.length);rw[k_] at this;omega
 have eks:∀us:List Int,us.Perm ((dI evT (evs W beat A.length)).map (·.1))->us.Pairwise (·<=·)->us=_:=fun us L R=>QJ hE.nd (fun e he=>(hE.lt e he).1) L R;have fN:Box (∀v4 v5 H',(∀b u,b≠v->H5 b=some u->H' b=some u)->H' v=some (.lst (eG W beat A.length++(ksN W ((evs W beat A.length).map (·.1))).map fun d=>tbR W A.length d ((bK d (evs W beat A.length)).getD (0,[])).1))->N [some W.enc,some (.int beat),some (.int (m:Int)),some (.ref v),v4,v5] H'):=⟨fun v4 v5 H' L R=>hN _ _ ⟨_,_,rfl,L,by rw[a_,z_,hdu];exact R⟩⟩;clear hN hdu hE hnl J hen hR1 e k' y;have S:=Box.mk eks;clear eks;walk_at "";refine⟨trivial,⟨trivial,trivial⟩,by first | trivial | exact dl,fun us L R ps D=>?_⟩;have eus:=S.out us L R;subst eus;rw[N_];clear S L R hsi dl;generalize ksN W ((evs W beat A.length).map (·.1))=U at *;generalize evs W beat A.length=E1 at *;generalize eG W beat A.length=D0 at *;have nts:v≠ps:=aZ gt D;have gu8:up3 H ps (.lst (U.map (T.int ∘ fun (d:Nat)=>(d:Int)))) x=some u:=(Sub3.new D) _ _ gu;have gt8:up3 H ps (.lst (U.map (T.int ∘ fun (d:Nat)=>(d:Int)))) v=some (.lst D0):=(Sub3.new D) _ _ gt;have Y:up3 H ps (.lst (U.map (T.int ∘ fun (d:Nat)=>(d:Int)))) ps=some (.lst (U.map (T.int ∘ fun (d:Nat)=>(d:Int)))):=au;have Z:∀b u,b≠v->H5 b=some u->up3 H ps (.lst (U.map (T.int ∘ fun (d:Nat)=>(d:Int)))) b=some u:=fun b u r h=>(Sub3.new D) _ _ (kb b u r h);generalize up3 H ps (.lst (U.map (T.int ∘ fun (d:Nat)=>(d:Int))))=H8 at gu8 gt8 Y Z ⊢;clear gu gt kb D;walk_at "c";refine cL (T.int ∘ fun (d:Nat)=>(d:Int)) (fun d=>tbR W A.length d ((bK d E1).getD (0,[])).1) U [some (.int (A.length:Int)),some W.enc,some (.ref x)] (.inl Y) (by omega) (fun d hd Q' hq=>?_) (fun pn hpn=>?_)
 ·obtain⟨hd1,fs,hd2⟩:=M d hd;have hq':=Box.mk hq;clear hq fN M gt8 Y Z;simp only[Function.comp];walk_at "";refine⟨W,(d:Int),rfl,G.out,by omega,?_,?_⟩
  ·unfold top2 at hd1;exact_mod_cast hd1
  walk_at "";exact⟨by decide,hq'.out⟩
 have gt9:=(Sub3.new (o:=.lst (U.map fun d=>tbR W A.length d ((bK d E1).getD (0,[])).1)) hpn) _ _ gt8;rw[gt9,J9];refine⟨by rw[b_];omega,fN.out _ _ _ (fun b u r h=>?_) ?_⟩
 ·rw[aD r];exact (Sub3.new hpn) _ _ (Z b u r h)
 rw[au]
abbrev km:List Str:=["works","beat","many","walk","evens","even"]
theorem sc_most_even:FnScope km ["works","beat","many"] (aA (top 29)):=bB
theorem rE {f:Addr}{X:FuncData}(g:G3 K mg "most_even" (top 29) ["works","beat","many"] f X) (B:Bl mg) {c:Addr}(j:InsC K c ["works","beat","rules","whole"]) (k:MkC P w K mg base c 5 "Walk" ["self","works","beat"] (QD c)) (d:Cal P w K mg base 5 "evens_by_stands" (top 27) ["walk","many"] (QH c)) (e:MtC P w K mg base c 2 "dealing_of" ["self","fillings"] (Vo c)):Cal P w K mg base 7 "most_even" (top 29) ["works","beat","many"] Vr:=by
 refine⟨f,X,g,?_⟩;refine fn3 g.fn sc_most_even (fun ts H Q h=>?_) (fun cdv A M s H E ts H3 Q x h=>?_)
 ·obtain⟨W,beat,m,rfl,_⟩:=h;rfl
 have y:=Room.u1 x;obtain⟨W,beat,m,rfl,D,U,V⟩:=h;refine⟨_,(ak (aF (i:=3) sc_most_even.nd (xO k (x.mono (by decide)) rfl (aa (v3 0) (aa (v3 1) aj))))
   (ak (aF (i:=4) sc_most_even.nd (aH ix3 (aK d x rfl (aa (v3 3) (aa (v3 2) aj))) (vm ao)))
   (ak (bM (mG y (gR j (v3 3)) (v3 4)) (aq (aL fj)) bf)
   (ak (aF (i:=5) sc_most_even.nd (mF y (v3 4) (gR j (v3 3))))
   (aq (aL (bL (aa (aH ix3 (v3 5) ao) (aa (qM e (x.mono (by decide)) (v3 3) (aa (aH ix3 (v3 5) ao) aj)) aj))))))))),?_⟩
 rw[show aV km [W.enc,T.int beat,T.int (m:Int)]=[some (W.enc),some (T.int beat),some (T.int (m:Int)),none,none,none] from rfl];have hsz:sizeLine=16777216:=rfl;have J:=Box.mk V;clear V;have t1:=m6 W;refine aB fun R0 hR0=>?_;walk_at "";intro a I;refine⟨a,W,beat,rfl,D,au,fun H4 Y R=>⟨rfl,?_⟩⟩;have sb:Sub3 H3 H4:=fun b u O=>Y b u (aZ O I) (by rw[aD (aZ O I)];exact O);clear Y I;walk_at "n";refine aB fun R1 hR1=>?_;walk_at "";refine⟨a,W,beat,m,rfl,D,R,U,fun H5 p as q o hl gp hs gq=>?_⟩;have t:=R.sub o;have C:=sb.trans o;clear o sb R hs;have x1:atI (as.map T.ref++[T.ref q]) (-1)=some (T.ref q):=An _ _;walk_at "";walk_at "n";obtain⟨S,gw,_⟩:=t.ex;have f4:=um (W:=W) (beat:=beat) (p:=S);have lm:=Ej (W:=W) (beat:=beat) (p:=S) (m:="dealing_of") (by decide +kernel);have r:=lH evT (top2 W - 1) (evs W beat m);have ec:((top2 W - 1:Nat):Int)=(top2 W:Int) - 1:=by omega
 rw[ec] at r;have l:=J.out;unfold meT at l;have n:=dJ (W:=W) (beat:=beat) U;have x:=D.r8;refine aB fun R2 L=>?_;cases F:bK (top2 W - 1) (evs W beat m) with
 |none=>rw[F] at r l;rw[Option.map_none] at r;have G:=Box.mk l;clear J l L n;walk_at "";simp only[Option.isSome_none,Ys,if_true];exact Fin3.of C G.out
 |some v =>
 obtain⟨_,z,N⟩:=(n.eok D).lt _ (cW F);have Z:v.2.length<=m:=z;clear z;rw[F] at r l;rw[Zh] at r;simp only[evT] at r;have G:=Box.mk l;clear J l n F;generalize evs W beat m=E at *;walk_at "";simp only[Option.isSome_some,Xw,K_,Xd];walk_at "n";refine aB fun R3 hR3=>?_;walk_at "";walk_at "n";walk_at "";refine⟨by first | trivial | exact lm,a,W,beat,v.2,rfl,D,t,by show v.2.length<=8;omega,N,?_⟩;try walk_at ""
 exact⟨by decide,Fin3.of C G.out⟩
abbrev rF:List Str:=["_law_works_here","_law_dealing","_law_lengths_here","_law_name","_law_length","_law_kinds_here"]
theorem sc_loads:FnScope rF ["_law_works_here","_law_dealing"] (aA (top 44)):=bB
theorem Fo {f:Addr}{Y:FuncData}(g:G3 K mg "_law_loads" (top 44) ["_law_works_here","_law_dealing"] f Y) (B:Bl mg):Cal P w K mg base 1 "_law_loads" (top 44) ["_law_works_here","_law_dealing"] Vg:=by
 refine⟨f,Y,g,?_⟩;refine fn3 g.fn sc_loads (fun ts H Q h=>?_) (fun cdv A J s H E ts H3 Q Z h=>?_)
 ·obtain⟨W,D,rfl,_⟩:=h;rfl
 have p:=Room.u1 Z;obtain⟨⟨tk,j,prs,d⟩,D,rfl,R,d8,X,k⟩:=h;refine⟨_,(ak (aF (i:=2) sc_loads.nd xq)
   (ak (bu G_ rfl (cG (aH ix3 (v3 0) ao)) (cD (n:=3) rfl (aG (aC (i:=3) sc_loads.nd) (aG (aC (i:=4) sc_loads.nd) (aG (aC (i:=5) sc_loads.nd) bO)))) (aq (qz p (v3 2) (v3 3) (v3 4))))
   (aq (aL (bA rfl (bD (n0:=(aA (top 44)).names) (N:=rF) (N':=["_law_stand","_law_lengths_here"]) (nt:=1) (cap:=[2]) rfl rfl (by decide +kernel)) (cG (v3 1)) (fun cl m s H C0 fp=>⟨(aC (i:=0) (show List.Nodup [("_law_stand":Str),("_law_lengths_here":Str)] by decide +kernel)),bQ,(aP (jn rfl) rfl B.sum_ jo (aa (bA rfl (xn (n00:=(aA (top 44)).names) (N:=["_law_stand","_law_lengths_here"]) (N':=["_law_task","_law_lengths_here"]) (nt:=1) (cap:=[1]) rfl rfl rfl (by decide +kernel)) (cG (v3 0)) (fun cl m s H C0 fp=>⟨(aC (i:=0) (show List.Nodup [("_law_task":Str),("_law_lengths_here":Str)] by decide +kernel)),bQ,(iU p (v3 1) (v3 0))⟩)) aj))⟩)))))),?_⟩
 rw[show aV rF [Wk.enc ⟨tk,j,prs,d⟩,T.tup (D.map sT)]=[some (T.tup [T.tup (tk.map tkT),T.tup (j.map orT),T.tup (prs.map prT),T.tup (d.map T.str)]),some (T.tup (D.map sT)),none,none,none,none] from rfl];have hsz:sizeLine=16777216:=rfl;have C:=Box.mk k;clear k;have t8:tk.length<=8:=R.t8;have nd:Box ((tk.map (·.1)).Nodup):=⟨R.nd⟩;have L:Box (∀ns∈D,ns.length<=8/\∀n∈ns,n∈tk.map (·.1)):=⟨X⟩;clear R X;refine aB fun R0 hR0=>?_;walk_at "";intro r u;walk_at "n";refine aB fun R1 M=>?_;walk_at "";refine aW tkT tk (fun A l H=>∃(v3 y O:Option T),l=[some (T.tup [T.tup (tk.map tkT),T.tup (j.map orT),T.tup (prs.map prT),T.tup (d.map T.str)]),some (.tup (D.map sT)),some (.ref r),v3,y,O]/\H=up3 H3 r (.dct (iN A))) ⟨_,_,_,rfl,rfl⟩ ?_ ?_;rotate_left
 ·rintro A t B l H N e ⟨v3,y,O,rfl,rfl⟩ q;have hx:t.1∉A.map (·.1):=fun h=>by have:=nd.out;rw[e,u_,Yq] at this;exact this.2.2 _ h _ (by rw[y_];exact m_) rfl
  have p1:=Qx hx;have hl:A.length<8:=by have:=O_ List.length e;simp only[a_,d_] at this;omega
  have hl2:=Qy A;have c:=Box.mk q;clear q e C M;refine⟨trivial,?_⟩;simp only[tkT];walk_at "";exact⟨trivial,by omega,c.out _ _ ⟨_,_,_,rfl,rfl⟩⟩
 rintro l H ⟨v3,y,O,rfl,rfl⟩;refine⟨trivial,?_⟩;walk_at "n";walk_at "";walk_at "c";refine dW sT D (fun A x l H=>∃(v:Option T),l=[v,some (.ref r)]/\x=A.map (fun ns=>T.int (smL tk ns))/\H r=some (.dct (iN tk))/\Sub3 H3 H) ⟨_,rfl,rfl,au,Sub3.new u⟩ ?_ ?_
 ·rintro x l H ⟨v,rfl,rfl,g,sb⟩;refine⟨trivial,by rw[b_];omega,fun G a=>?_⟩;have U:=C.out G (d9 sb a);rw[N_] at U;refine⟨_,fun b o e=>?_,U⟩;by_cases V:b=G
  ·subst V;rw[au] at e ⊢;exact e
  rw[aD V] at e ⊢;exact sb b o e
 rintro A ns B x l H N e ⟨v,rfl,rfl,g,sb⟩ q;have F:=L.out ns (by rw[e];simp);have hA:A.length<8:=by have:=O_ List.length e;simp only[a_,d_] at this;omega
 have c:=Box.mk q;have z:=Box.mk F.2;have hm1:=F.1;clear q e C F;refine⟨trivial,?_⟩;simp only[sT];walk_at "";walk_at "c";refine cL T.str (fun n=>.int (lnOf tk n)) ns [some (.ref r)] trivial (by omega) (fun n hn Q' S=>?_) (fun G a=>?_)
 ·have l1:=yu (z.out n hn);have I:=Box.mk S;clear S c;walk_at "";exact I.out
 have e:ints3 (ns.map (fun n=>T.int (lnOf tk n)))=some (ns.map (lnOf tk)):=by rw[<- dm,N_];rfl
 rw[e,gQ];refine⟨by first | omega | (rw[b_];omega),c.out _ _ _ ⟨_,rfl,by rw[u_];rfl,by rw[aD (aZ g a)];exact g,sb.trans (Sub3.new a)⟩⟩
abbrev nJ:List Str:=["_law_works_here","_law_known","_law_found","_law_names_here","_law_squares","_law_done","_law_k","_law_least"]
theorem sc_goes:FnScope nJ ["_law_works_here","_law_known","_law_found"] (aA (top 45)):=bB
theorem Jz {f:Addr}{fd:FuncData}(g:G3 K mg "_law_goes" (top 45) ["_law_works_here","_law_known","_law_found"] f fd) (B:Bl mg) (r:Cal P w K mg base 1 "_law_loads" (top 44) ["_law_works_here","_law_dealing"] Vg):Cal P w K mg base 2 "_law_goes" (top 45) ["_law_works_here","_law_known","_law_found"] (La w):=by
 refine⟨f,fd,g,?_⟩;refine fn3 g.fn sc_goes (fun ts H Q h=>?_) (fun cdv A outer s H E ts H3 Q hr h=>?_)
 ·obtain⟨W,q,kvs,D,a,rfl,_⟩:=h;rfl
 have y:=Room.u30 hr;have hu31:=Room.u31 hr;obtain⟨W,q,kvs,D,a,rfl,hW,gq,hg,kk⟩:=h;refine⟨_,(ak (jC (i:=3) rfl sc_goes.nd (bD (n0:=(aA (top 45)).names) (N:=nJ) (N':=["_law_name","_law_length","_law_kinds_here"]) (nt:=3) (cap:=[]) rfl rfl (by decide +kernel)) (cG (aH ix3 (v3 0) ao)) (fun cl G s H C0 fp=>⟨(cD (n:=3) rfl (aG (aC (i:=0) (show List.Nodup [("_law_name":Str),("_law_length":Str),("_law_kinds_here":Str)] by decide +kernel)) (aG (aC (i:=1) (show List.Nodup [("_law_name":Str),("_law_length":Str),("_law_kinds_here":Str)] by decide +kernel)) (aG (aC (i:=2) (show List.Nodup [("_law_name":Str),("_law_length":Str),("_law_kinds_here":Str)] by decide +kernel)) bO)))),bQ,(v3 0)⟩))
   (ak (jC (i:=4) rfl sc_goes.nd (bD (n0:=(aA (top 45)).names) (N:=nJ) (N':=["_law_load"]) (nt:=1) (cap:=[]) rfl rfl (by decide +kernel)) (cz (aK r hr rfl (aa (v3 0) (aa (aH ix3 (v3 2) ao) aj)))) (fun cl G s H C0 fp=>⟨(aC (i:=0) (show List.Nodup [("_law_load":Str)] by decide +kernel)),bQ,(aJ lw (v3 0) (v3 0))⟩))
   (ak (aF (i:=5) sc_goes.nd (bL aj))
   (ak (bu G_ rfl (aR rfl B.range_ (aa (aJ bh (aP b7 rfl B.len_ b8 (aa (v3 4) aj)) ao) aj)) (aC (i:=6) sc_goes.nd) (ak (aF (i:=7) sc_goes.nd (tX (w:=w) rfl y (v3 1) (bL (aa (v3 6) (aa (v3 5) aj))) fj))
    (ak (bM (PW3.pt (j6 (aQ pI (v3 7) fj) (iz (aQ (j8 y) (v3 7) (aP (jn rfl) rfl B.sum_ jo (aa (iC (v3 4) iB (fC (v3 6))) aj)))))) (aq (aL dZ)) bf)
    (aq (bM (aQ o5 (v3 6) (aP b7 rfl B.len_ b8 (aa (v3 4) aj))) (aq (aF (i:=5) sc_goes.nd (bG cR rfl B.tuple_ cT (aa (bA rfl (bD (n0:=(aA (top 45)).names) (N:=nJ) (N':=["_law_name","_law_done","_law_k","_law_found"]) (nt:=1) (cap:=[5,6,2]) rfl rfl (by decide +kernel)) (cz (v3 3)) (fun cl G s H C0 fp=>⟨(aC (i:=0) (show List.Nodup [("_law_name":Str),("_law_done":Str),("_law_k":Str),("_law_found":Str)] by decide +kernel)),(dG (aQ (sW hu31) (v3 0) (aJ bh (v3 1) (aH ix3 (aH ix3 (v3 3) ao) (v3 2))) rfl)),(v3 0)⟩)) aj)))) bf)))))
   (aq (aL (cZ (cM y) (aP (jn rfl) rfl B.sum_ jo (aa (v3 4) aj)) (aH ix3 (v3 2) ao)))))))),?_⟩
 rw[show aV nJ [W.enc,T.ref q,T.tup [T.int (sqD W D),T.tup (D.map sT)]]=[some (W.enc),some (T.ref q),some (T.tup [T.int (sqD W D),T.tup (D.map sT)]),none,none,none,none,none] from rfl];have hsz:sizeLine=16777216:=rfl;have k':=Box.mk kk;have t8:=hW.t8;have d8:=hg.d8;have d:=Box.mk hg;have hW':=Box.mk hW;clear kk hg hW;refine aB fun R0 hR0=>?_;walk_at "";walk_at "c";refine gD (fun t:Str × Int × List Str=>.str t.1) (fun t=>.int t.2.1) (fun t=>.tup (t.2.2.map T.str)) (fun t=>T.str t.1) (fun _=>true) W.tasks [] trivial (by omega) (fun t ht Q' u=>u) (fun t ht _ Q' u=>?_) (fun L hpn=>?_)
 ·clear k' hR0;walk_at "";try exact u
 rw[Ye.mpr (fun _ _=>rfl)];have en:W.tasks.map (fun t=>T.str t.1)=(W.tasks.map (·.1)).map T.str:=by rw[N_];rfl
 rw[en];have C:Sub3 H3 (up3 H3 L (.lst ((W.tasks.map (·.1)).map T.str))):=Sub3.new hpn;have gn:up3 H3 L (.lst ((W.tasks.map (·.1)).map T.str)) L=some (.lst ((W.tasks.map (·.1)).map T.str)):=au;have J:=C _ _ gq;generalize up3 H3 L (.lst ((W.tasks.map (·.1)).map T.str))=H4 at C gn J ⊢;clear hpn en gq;walk_at "n";refine aB fun R1 hR1=>?_;walk_at "";refine⟨W,D,rfl,hW'.out,d.out.d8,d.out.n8,fun p hp=>?_⟩;have m:Sub3 H4 (up3 H4 p (.lst ((D.map (smL W.tasks)).map T.int))):=Sub3.new hp;have gp:up3 H4 p (.lst ((D.map (smL W.tasks)).map T.int)) p=some (.lst ((D.map (smL W.tasks)).map T.int)):=au;generalize up3 H4 p (.lst ((D.map (smL W.tasks)).map T.int))=H5 at m gp ⊢;try dsimp only
 rw[BP,gp,pB];walk_at "c";refine cL T.int (fun l=>T.int (l*l)) (D.map (smL W.tasks)) [] (.inl gp) (by rw[b_];omega) (fun l hl Q' u=>?_) (fun ps hps=>?_)
 ·obtain⟨s,hs,rfl⟩:=i_.mp hl;have l1:=d.out.b s hs;have cm:CMulW (smL W.tasks s) (smL W.tasks s):=⟨dM l1.1 l1.2,dM l1.1 l1.2⟩;have I:=Box.mk u;clear u hR1 k' l1;walk_at "";exact⟨trivial,I.out⟩
 rw[show ((D.map (smL W.tasks)).map fun l=>T.int (l*l))=(D.map fun s=>smL W.tasks s*smL W.tasks s).map T.int by rw[N_,N_];rfl];have M:Box (∀j,((D.map fun s=>smL W.tasks s*smL W.tasks s).take j).sum=sqD W (D.take j)):=⟨fun j=>by unfold sqD;rw[List.map_take]⟩;have sl:(D.map fun s=>smL W.tasks s*smL W.tasks s).length=D.length:=b_ _;generalize (D.map fun s=>smL W.tasks s*smL W.tasks s)=F at M sl ⊢;have o:Sub3 H5 (up3 H5 ps (.lst (F.map T.int))):=Sub3.new hps;have gs:up3 H5 ps (.lst (F.map T.int)) ps=some (.lst (F.map T.int)):=au;generalize up3 H5 ps (.lst (F.map T.int))=H6 at o gs ⊢;have gn6:=o _ _ (m _ _ gn);have gq6:=o _ _ (m _ _ J);have s6:Sub3 H3 H6:=C.trans (m.trans o);clear gn J C m o gp hp hps;walk_at "n";refine aB fun R2 hR2=>?_;walk_at "";refine⟨by decide,?_⟩;walk_at "n";refine aB fun R3 hR3=>?_;walk_at "";refine⟨trivial,by omega,by omega,?_⟩;rw[show ((D.length:Int)+1).toNat=D.length+1 by omega,fP];rw[show T.tup []=sT (a (min 0 D.length)) by rw[Nat.zero_min,d.out.z];rfl];refine aW (fun (j:Nat)=>T.int (j:Int)) (List.range (D.length+1)) (fun A σ H=>∃v6 O:Option T,σ=[some W.enc,some (.ref q),some (.tup [.int (sqD W D),.tup (D.map sT)]),some (.ref L),some (.ref ps),some (sT (a (min A.length D.length))),v6,O]/\Sub3 H6 H) ⟨_,_,rfl,Sub3.refl⟩ ?_ ?_
 ·rintro σ H ⟨v6,O,rfl,sb⟩;refine⟨trivial,?_⟩;have S:=sb _ _ gs;have ei:=dm F;walk_at "n";walk_at "";have V:F.sum=sqD W D:=by
   have:=M.out D.length
   rwa [Xk (by omega),List.take_length] at this
  rw[q_ V];exact Fin3.of Sub3.refl (k'.out _ (s6.trans sb))
 rintro A j B σ H N e ⟨v6,O,rfl,sb⟩ hN;refine⟨trivial,?_⟩;have hj:j=A.length/\A.length<=D.length:=by
  have hl:=O_ List.length e;simp only[a_,d_,k_] at hl;have h1:(List.range (D.length+1))[A.length]?=some j:=by rw[e,E_ (j_ _)];simp
  rw[Xp (by omega)] at h1;exact⟨(Q_ h1).symm,by omega⟩
 obtain⟨rfl,hj⟩:=hj;have S:=sb _ _ gs;have X:=sb _ _ gn6;have Y:=sb _ _ gq6;have R:Box (∀O H',Sub3 H H'->N [some W.enc,some (.ref q),some (.tup [.int (sqD W D),.tup (D.map sT)]),some (.ref L),some (.ref ps),some (sT (a (min (A.length+1) D.length))),some (.int (A.length:Int)),O] H'):=⟨fun O H' h=>hN _ _ ⟨some (.int (A.length:Int)),O,by rw[a_,z_],sb.trans h⟩⟩;have lk:=d.out.l _ hj;rw[show min A.length D.length=A.length by omega];have hd8:=d.out.o8 A.length;clear hN e k' hR3;refine aB fun R4 hR4=>?_;simp only[sT];walk_at "";refine⟨⟨q,kvs,rfl,Y⟩,by decide,?_⟩;rw[ZQ];have ei:=dm (F.take A.length);have eq:=M.out A.length;clear lk;walk_at "n";refine aB fun R5 hR5=>?_;walk_at "";intro p9 Z;rw[BR,<- List.map_take,ei,gQ,eq,q_ rfl,if_neg (by decide)];have v:Sub3 H (up3 H p9 (.lst ((F.take A.length).map T.int))):=Sub3.new Z;generalize up3 H p9 (.lst ((F.take A.length).map T.int))=H9 at v ⊢;have gs9:=v _ _ S;have gn9:=v _ _ X;clear ei eq S X Y Z;walk_at "n";by_cases c:A.length<D.length
 ·have c':((A.length:Int)<(D.length:Int)):=by omega
  obtain⟨s,V⟩:∃s,D[A.length]?=some s:=⟨_,e_ c⟩;have s8:=d.out.n8 s (XF V);have hst:=d.out.s _ _ V;have s8':=s8.1;have x1:atI (D.map sT) (A.length:Int)=some (sT s):=bN (by rw[H_,V];rfl);clear s8;walk_at "";walk_at "c";refine cU T.str T.str (fun x=>decide (x∈a A.length++s)) (W.tasks.map (·.1)) [some (.tup ((a A.length).map T.str)),some (.int (A.length:Int)),some (.tup [.int (sqD W D),.tup (D.map sT)])] (still:=cF L ((W.tasks.map (·.1)).map T.str)) (H:=H9) (Or.inl gn9) (by rw[b_];omega) (fun x hx Q' u=>?_) (fun x hx hpx Q' u=>?_) ?_
  ·have I:=Box.mk u;have po:=fL (a A.length++s);have pd:pl 20 (T.str x)=true:=rfl;clear u R;walk_at "";simp only[sT];walk_at "";rw[<- u_,Ec];exact⟨by omega,trivial,po,I.out⟩
  ·walk_at "";try exact u
  intro p8 hp8;rw[hst];have k:=R.out (some (.int (sqD W (D.take A.length)))) (up3 H9 p8 (.lst ((a (A.length+1)).map T.str))) (v.trans (Sub3.new hp8));rw[show min (A.length+1) D.length=A.length+1 by omega] at k;exact k
 have c':¬((A.length:Int)<(D.length:Int)):=by omega
 have k:=R.out (some (.int (sqD W (D.take A.length)))) _ v;rw[show min (A.length+1) D.length=A.length by omega] at k;simp only[sT] at k;have U:=Box.mk k;clear k;walk_at "";exact U.out
abbrev yO:List Str:=["_law_works_here","_law_at","_law_one","_law_other","_law_word","_law_name","_law_length","_law_kinds_here"]
theorem sc_right:FnScope yO ["_law_works_here","_law_at"] (aA (top 46)):=bB
theorem Fp {f:Addr}{fd:FuncData}(g:G3 K mg "_law_right" (top 46) ["_law_works_here","_law_at"] f fd) (B:Bl mg):Cal P w K mg base 1 "_law_right" (top 46) ["_law_works_here","_law_at"] Vu:=by
 refine⟨f,fd,g,?_⟩;refine fn3 g.fn sc_right (fun ts H Q h=>?_) (fun cdv A outer s H E ts H3 Q Z h=>?_)
 ·obtain⟨W,q,f,rfl,_⟩:=h;rfl
 have u:=Room.u30 Z;have U:=Room.u31 Z;have v:=Room.u1 Z;obtain⟨W,q,f,rfl,hW,hq,hf,k⟩:=h;refine⟨_,(ak (bu G_ rfl (cG (aH ix3 (v3 0) ao)) (cD (n:=2) rfl (aG (aC (i:=2) sc_right.nd) (aG (aC (i:=3) sc_right.nd) bO))) (aq (bM (aQ o6 (iU v (v3 1) (v3 2)) (iU v (v3 1) (v3 3))) (aq (aL dZ)) bf)))
   (ak (bu G_ rfl (cG (aH ix3 (v3 0) ao)) (cD (n:=3) rfl (aG (aC (i:=4) sc_right.nd) (aG (aC (i:=2) sc_right.nd) (aG (aC (i:=3) sc_right.nd) bO)))) (aq (bM (aQ (j8 u) (cZ (cM u) (v3 4) fZ) (cZ (cM u) (iU v (v3 1) (v3 2)) (iU v (v3 1) (v3 3)))) (aq (aL dZ)) bf)))
   (ak (bu G_ rfl (cG (aH ix3 (v3 0) ao)) (cD (n:=3) rfl (aG (aC (i:=5) sc_right.nd) (aG (aC (i:=6) sc_right.nd) (aG (aC (i:=7) sc_right.nd) bO)))) (aq (bM (PW3.pt (cN (aQ o6 (aP b7 rfl B.len_ b8 (aa (v3 7) aj)) ao) (cV (aQ (sZ U) (aH ix3 (aH ix3 (v3 0) ao) (iU v (v3 1) (v3 5))) (v3 7) rfl)))) (aq (aL dZ)) bf)))
   (aq (aL dZ))))),?_⟩
 rw[show aV yO [W.enc,T.ref q]=[some (W.enc),some (T.ref q),none,none,none,none,none,none] from rfl];have hsz:sizeLine=16777216:=rfl;have R:=Box.mk k;clear k;have F:=Box.mk hW;have I:=Box.mk hf;clear hW hf;refine aB fun R0 hR0=>?_;walk_at "";refine aW orT W.orders (fun A C H=>∃(m v3 b d a j:Option T),C=[some W.enc,some (.ref q),m,v3,b,d,a,j]/\H=H3/\∀o∈A,f o.1<=f o.2) ⟨_,_,_,_,_,_,rfl,rfl,(fun _ h=>nomatch h)⟩ ?_ ?_;rotate_left
 ·rintro A ⟨x,y⟩ B C H N e ⟨m,v3,b,d,a,j,rfl,rfl,O⟩ M;refine⟨trivial,?_⟩;have r:(x,y)∈W.orders:=by rw[e];simp
  have X:=iY (f:=f) (F.out.oo _ r).2.1;have l2:=iY (f:=f) (F.out.oo _ r).2.2;have G:Box (f y<f x->Fin3 Q (.bl false) H):=⟨fun z=>Fin3.of Sub3.refl (R.out false ⟨fun q=>(nomatch q),fun h=>absurd (h.ord _ r) (by show ¬f x<=f y;omega)⟩)⟩;have D:Box (f x<=f y->∀b d a j,N [some W.enc,some (.ref q),some (.str x),some (.str y),b,d,a,j] H):=⟨fun z b d a j=>M _ _ ⟨_,_,_,_,_,_,rfl,rfl,fun o l=>by
   rcases A_.mp l with l | l
   ·
    exact O o l
   ·
    rw[g_.mp l];exact z⟩⟩
  clear M e R O hR0 r I;dsimp only[nm] at X l2;simp only[orT,nm] at *;walk_at "";refine⟨trivial,?_⟩;by_cases c:f y<f x
  ·rw[if_pos (q_ (by omega))];exact G.out c
  rw[if_neg (Hj (by omega))];exact D.out (by omega) _ _ _ _
 rintro C H ⟨m,v3,b,d,a,j,rfl,rfl,Y⟩;refine⟨trivial,?_⟩;walk_at "n";refine aB fun R1 hR1=>?_;walk_at "";refine aW prT W.pairs (fun A C H'=>∃(m v3 b d a j:Option T),C=[some W.enc,some (.ref q),m,v3,b,d,a,j]/\H'=H/\∀p∈A,f p.2.1=f p.2.2↔p.1="with") ⟨_,_,_,_,_,_,rfl,rfl,(fun _ h=>nomatch h)⟩ ?_ ?_;rotate_left
 ·rintro A ⟨S,x,y⟩ B C H' N e ⟨m,v3,b,d,a,j,rfl,rfl,O⟩ M;refine⟨trivial,?_⟩;have r:(S,x,y)∈W.pairs:=by rw[e];simp
  have X:=iY (f:=f) (F.out.pp _ r).2.2.1;have l2:=iY (f:=f) (F.out.pp _ r).2.2.2;have G:Box (¬(f x=f y↔S="with")->Fin3 Q (.bl false) H'):=⟨fun z=>Fin3.of Sub3.refl (R.out false ⟨fun q=>(nomatch q),fun h=>absurd (h.pai _ r) z⟩)⟩;have D:Box ((f x=f y↔S="with")->∀d a j,N [some W.enc,some (.ref q),some (.str x),some (.str y),some (.str S),d,a,j] H'):=⟨fun z d a j=>M _ _ ⟨_,_,_,_,_,_,rfl,rfl,fun o l=>by
   rcases A_.mp l with l | l
   ·
    exact O o l
   ·
    rw[g_.mp l];exact z⟩⟩
  clear M e R O hR1 r I Y;dsimp only[nm] at X l2;have ec:decide (((f x:Nat):Int)=((f y:Nat):Int))=decide (f x=f y):=by rw[Zc];omega
  simp only[prT,nm] at *;walk_at "";refine⟨trivial,?_⟩;walk_at "";by_cases J:f x=f y <;> by_cases L:S="with"
  ·rw[if_neg (by simp [J,L])];exact D.out ⟨fun _=>L,fun _=>J⟩ _ _ _
  ·rw[if_pos (by simp [J,L])];exact G.out fun z=>L (z.mp J)
  ·rw[if_pos (by simp [J,L])];exact G.out fun z=>J (z.mpr L)
  rw[if_neg (by simp [J,L])];exact D.out ⟨fun z=>absurd z J,fun z=>absurd z L⟩ _ _ _
 rintro C H' ⟨m,v3,b,d,a,j,rfl,rfl,hP⟩;refine⟨trivial,?_⟩;walk_at "n";refine aB fun R2 hR2=>?_;walk_at "";refine aW tkT W.tasks (fun A C H=>∃(m v3 b d a j:Option T),C=[some W.enc,some (.ref q),m,v3,b,d,a,j]/\H=H'/\∀t∈A,jG t.2.2 (W.row.getD (f t.1) "")=true) ⟨_,_,_,_,_,_,rfl,rfl,(fun _ h=>nomatch h)⟩ ?_ ?_;rotate_left
 ·rintro A ⟨x,V,ks⟩ B C H N e ⟨m,v3,b,d,a,j,rfl,rfl,O⟩ M;refine⟨trivial,?_⟩;have r:(x,V,ks)∈W.tasks:=by rw[e];simp
  have X:=iY (f:=f) (ns:=W.tasks.map (·.1)) (n:=x) (i_.mpr ⟨_,r,rfl⟩);have x1:=Eg (I.out x);have G:Box (jG ks (W.row.getD (f x) "")=false->Fin3 Q (.bl false) H):=⟨fun z=>Fin3.of Sub3.refl (R.out false ⟨fun q=>(nomatch q),fun h=>by have:=h.kin _ r;rw[show jG (x,V,ks).2.2 (W.row.getD (f (x,V,ks).1) "")=jG ks (W.row.getD (f x) "") from rfl,z] at this;exact this⟩)⟩;have D:Box (jG ks (W.row.getD (f x) "")=true->∀m v3 b,N [some W.enc,some (.ref q),m,v3,b,some (.str x),some (.int V),some (sT ks)] H):=⟨fun z m v3 b=>M _ _ ⟨_,_,_,_,_,_,rfl,rfl,fun o l=>by
   rcases A_.mp l with l | l
   ·
    exact O o l
   ·
    rw[g_.mp l];exact z⟩⟩
  clear M e R O hR2 r I Y hP;have i2:=fL ks;have i3:([]:List T).all (pl 20)=true:=rfl;have em:=WY (x:=W.row.getD (f x) "") (xs:=ks);simp only[tkT,nm,sT] at *;unfold jG at G D;generalize W.row.getD (f x) ""=kd at *;walk_at "";refine⟨trivial,?_⟩;cases ks with
  |nil=>simp only[Yu,Bool.true_or,Xy,YD] at G D ⊢;rw[if_neg (by decide)];exact D.out trivial _ _ _
  |cons k0 kr =>
  simp only[reduceCtorEq,Yb,Bool.false_or,y_] at G D em;rw[if_pos (q_ (by rw[d_];omega))];refine⟨rfl,trivial,?_⟩;by_cases c:kd∈k0::kr
  ·rw[if_neg (by rw[q_ c];decide)];exact D.out (q_ c) _ _ _
  rw[if_pos (by rw[p_ c];rfl)];exact G.out (p_ c)
 rintro C H ⟨m,v3,b,d,a,j,rfl,rfl,hK⟩;refine⟨trivial,?_⟩;walk_at "n";walk_at "";exact Fin3.of Sub3.refl (R.out true ⟨fun _=>⟨Y,hP,hK⟩,fun _=>rfl⟩)
abbrev ir:List Str:=["_law_works_here","_law_beat_here","_law_many","_law_found","_law_names_here","_law_due","_law_bits","_law_at","_law_loads_here","_law_k","_law_side","_law_total"]
theorem sc_least_told:FnScope ir ["_law_works_here","_law_beat_here","_law_many","_law_found"] (aA (top 47)):=bB
theorem ou {f:Addr}{fd:FuncData}(g:G3 K mg "_law_least_told" (top 47) ["_law_works_here","_law_beat_here","_law_many","_law_found"] f fd) (B:Bl mg) (L:Cal P w K mg base 1 "_law_right" (top 46) ["_law_works_here","_law_at"] Vu):Cal P w K mg base 2 "_law_least_told" (top 47) ["_law_works_here","_law_beat_here","_law_many","_law_found"] Ld:=by
 refine⟨f,fd,g,?_⟩;refine fn3 g.fn sc_least_told (fun ts H Q h=>?_) (fun cdv A outer s H E ts H3 Q hr h=>?_)
 ·obtain⟨W,beat,m,rfl,_⟩:=h;rfl
 have hu30:=Room.u30 hr;have hu1:=Room.u1 hr;obtain⟨W,beat,m,rfl,hW,m1,m2,hm,kk⟩:=h;refine⟨_,(ak (jC (i:=4) rfl sc_least_told.nd (bD (n0:=(aA (top 47)).names) (N:=ir) (N':=["_law_name","_law_length","_law_kinds_here"]) (nt:=3) (cap:=[]) rfl rfl (by decide +kernel)) (cG (aH ix3 (v3 0) ao)) (fun cl pins s H C0 fp=>⟨(cD (n:=3) rfl (aG (aC (i:=0) (show List.Nodup [("_law_name":Str),("_law_length":Str),("_law_kinds_here":Str)] by decide +kernel)) (aG (aC (i:=1) (show List.Nodup [("_law_name":Str),("_law_length":Str),("_law_kinds_here":Str)] by decide +kernel)) (aG (aC (i:=2) (show List.Nodup [("_law_name":Str),("_law_length":Str),("_law_kinds_here":Str)] by decide +kernel)) bO)))),bQ,(v3 0)⟩))
   (ak (aF (i:=5) sc_least_told.nd fj)
   (ak (bu G_ rfl (aR rfl B.range_ (aa (aH ix3 (bI (aa ao (aa (aJ Cm ao (aP b7 rfl B.len_ b8 (aa (v3 4) aj))) aj))) (aJ jT (v3 2) ao)) aj)) (aC (i:=6) sc_least_told.nd) (ak (aF (i:=7) sc_least_told.nd xq)
    (ak (aF (i:=8) sc_least_told.nd (bI (aa ao (aa ao aj))))
    (ak (bu G_ rfl (aR rfl B.range_ (aa (aP b7 rfl B.len_ b8 (aa (v3 4) aj)) aj)) (aC (i:=9) sc_least_told.nd) (ak (aF (i:=10) sc_least_told.nd (aJ qJ (aJ CG (v3 6) (v3 9)) ao))
     (ak (qz hu1 (v3 7) (aH ix3 (v3 4) (v3 9)) (v3 10))
     (aq (u9 (aJ bh (aH ix3 (v3 8) (v3 10)) (aH ix3 (aH ix3 (aH ix3 (v3 0) ao) (v3 9)) ao)) (Bh (v3 8) (v3 10) o9))))))
    (ak (aF (i:=11) sc_least_told.nd (aJ bh (aJ lw (aH ix3 (v3 8) ao) (aH ix3 (v3 8) ao)) (aJ lw (aH ix3 (v3 8) ao) (aH ix3 (v3 8) ao))))
    (ak (bM (PW3.pt (j6 (aQ o6 (aP (xG rfl) rfl B.max_ vz (aa (v3 8) aj)) (v3 1)) (iz (PW3.pt (cN (aQ Pb (v3 5) fj) (cV (aQ JW (v3 11) (v3 5)))))))) (aq sI) bf)
    (aq (bM (c7 (aK L hr rfl (aa (v3 0) (aa (v3 7) aj)))) (aq (aF (i:=5) sc_least_told.nd (v3 11))) bf))))))))
   (ak (bM (PW3.pt (j6 (aQ pI (v3 3) fj) (iz (aQ pI (v3 5) fj)))) (aq (aL (u6 (cZ pI (v3 3) fj) (lW (cZ pI (v3 5) fj))))) bf)
   (aq (aL (cZ (cM hu30) (aH ix3 (v3 3) ao) (v3 5)))))))),?_⟩
 rw[show aV ir [W.enc,T.int beat,T.int (m:Int),meT W beat m]=[some (W.enc),some (T.int beat),some (T.int (m:Int)),some (meT W beat m),none,none,none,none,none,none,none,none] from rfl];have hsz:sizeLine=16777216:=rfl;have k':=Box.mk kk;have t8:=hW.t8;have r8:=hW.r8;have d:=Box.mk hW;clear kk hW;refine aB fun R0 hR0=>?_;walk_at "";walk_at "c";refine gD (fun t:Str × Int × List Str=>.str t.1) (fun t=>.int t.2.1) (fun t=>.tup (t.2.2.map T.str)) (fun t=>T.str t.1) (fun _=>true) W.tasks [] trivial (by omega) (fun t ht Q' hq=>hq) (fun t ht _ Q' hq=>?_) (fun V hpn=>?_)
 ·clear k' hR0;walk_at "";try exact hq
 rw[Ye.mpr (fun _ _=>rfl)];have en:W.tasks.map (fun t=>T.str t.1)=(W.tasks.map (·.1)).map T.str:=by rw[N_];rfl
 rw[en];have sb4:Sub3 H3 (up3 H3 V (.lst ((W.tasks.map (·.1)).map T.str))):=Sub3.new hpn;have gn:up3 H3 V (.lst ((W.tasks.map (·.1)).map T.str)) V=some (.lst ((W.tasks.map (·.1)).map T.str)):=au;generalize up3 H3 V (.lst ((W.tasks.map (·.1)).map T.str))=H4 at sb4 gn ⊢;clear hpn en;walk_at "n";refine aB fun R1 hR1=>?_;walk_at "";walk_at "n";refine aB fun R2 hR2=>?_;walk_at "";refine⟨⟨by omega,by omega,by decide⟩,by decide,fun p0 hp0=>?_⟩;have tp:(1:Int)*2^W.tasks.length=((top2 W:Nat):Int):=by unfold top2;push_cast;rw[Z_]
 have ta:atI [T.int 1,T.int (1*2^W.tasks.length)] ((m:Int) - 1)=some (.int ((mB W m:Nat):Int)):=by
  have hm12:m=1\/m=2:=by omega
  rcases hm12 with rfl | rfl
  ·rfl
  rw[tp];rfl
 have t256:mB W m<=256:=by have:=lG d.out;unfold mB;split <;> omega
 rw[ta,gQ];have S:Sub3 H4 (up3 H4 p0 (.lst [T.int 1,T.int (1*2^W.tasks.length)])):=Sub3.new hp0;generalize up3 H4 p0 (.lst [T.int 1,T.int (1*2^W.tasks.length)])=H5 at S ⊢;have gn5:=S _ _ gn;have s5:Sub3 H3 H5:=sb4.trans S;clear sb4 S gn hp0 ta tp;walk_at "";refine⟨trivial,by omega,by omega,?_⟩;rw[fP];refine aW (fun (c:Nat)=>T.int (c:Int)) (List.range (mB W m)) (fun A σ H=>∃(du:Option Int) (v6 v7 v8 O a k:Option T),σ=[some W.enc,some (.int beat),some (.int (m:Int)),some (meT W beat m),some (.ref V),some (ut du),v6,v7,v8,O,a,k]/\Sub3 H5 H/\DuI W beat m A.length du) ⟨none,_,_,_,_,_,_,rfl,Sub3.refl,DuI.zero _ _ _⟩ ?_ ?_
 ·rintro σ H ⟨du,v6,v7,v8,O,a,k,rfl,sb,hD⟩;refine⟨trivial,?_⟩;rw[k_] at hD;have hdu:=hD.fin d.out m1 m2 hm;clear hD;unfold meT;subst hdu;cases el:bK (top2 W - 1) (evs W beat m) with
  |none=>simp only[Option.map_none,ut];walk_at "n";walk_at "";exact Fin3.of Sub3.refl (k'.out _ (s5.trans sb))
  |some v =>
  simp only[Zh,ut];walk_at "n";walk_at "";exact Fin3.of Sub3.refl (k'.out _ (s5.trans sb))
 rintro A c B σ H N e ⟨du,v6,v7,v8,O,a,k,rfl,sb,hD⟩ hN;refine⟨trivial,?_⟩;have hj:c=A.length/\c<mB W m:=by
  have hl:=O_ List.length e;simp only[a_,d_,k_] at hl;have R:(List.range (mB W m))[A.length]?=some c:=by rw[e,E_ (j_ _)];simp
  rw[Xp (by omega)] at R;have:=Q_ R;omega
 obtain⟨hca,hc⟩:=hj;have Y:=sb _ _ gn5;have p:Box (∀X v7 v8 O a k H',Sub3 H H'->DuI W beat m (c+1) X->N [some W.enc,some (.int beat),some (.int (m:Int)),some (meT W beat m),some (.ref V),some (ut X),some (.int (c:Int)),v7,v8,O,a,k] H'):=⟨fun X v7 v8 O a k H' h hd=>hN _ _ ⟨X,some (.int (c:Int)),v7,v8,O,a,k,rfl,sb.trans h,by rw[a_,z_,<- hca];exact hd⟩⟩;rw[<- hca] at hD;have C:=Box.mk hD;clear hN e k' hR2 hca hD;refine aB fun R4 hR4=>?_;walk_at "";intro l hpd;walk_at "n";refine aB fun R5 hR5=>?_;walk_at "";refine⟨by decide,fun pl D=>?_⟩;have J:l≠pl:=fun z=>by rw[z,au] at D;cases D
 have pl0:H pl=none:=by rw[aD (Ne.symm J)] at D;exact D
 have kp:Box (∀b u,H b=some u->b≠l/\b≠pl):=⟨fun b u h=>⟨aZ h hpd,aZ h pl0⟩⟩;have U:Sub3 H (up3 (up3 H l (.dct [])) pl (.lst [T.int 0,T.int 0])):=(Sub3.new hpd).trans (Sub3.new D);have gd6:up3 (up3 H l (.dct [])) pl (.lst [T.int 0,T.int 0]) l=some (.dct (dN ((W.tasks.take 0).map (·.1)) (bF W c))):=by rw[aD J];exact au
 have gl6:up3 (up3 H l (.dct [])) pl (.lst [T.int 0,T.int 0]) pl=some (.lst (((List.range 2).map (ldF (W.tasks.take 0) (bF W c))).map T.int)):=au;generalize up3 (up3 H l (.dct [])) pl (.lst [T.int 0,T.int 0])=H6 at U gd6 gl6 ⊢;walk_at "n";have gn7:=U _ _ Y;have tl:(nm W).length=W.tasks.length:=jw W;refine aB fun R6 hR6=>?_;walk_at "";refine⟨trivial,by omega,by omega,?_⟩;rw[fP];refine aW (fun (j:Nat)=>T.int (j:Int)) (List.range W.tasks.length) (fun A2 σ H'=>∃(O a:Option T),σ=[some W.enc,some (.int beat),some (.int (m:Int)),some (meT W beat m),some (.ref V),some (ut du),some (.int (c:Int)),some (.ref l),some (.ref pl),O,a,k]/\(∀b u,b≠l->b≠pl->H6 b=some u->H' b=some u)/\H' l=some (.dct (dN ((W.tasks.take A2.length).map (·.1)) (bF W c)))/\H' pl=some (.lst (((List.range 2).map (ldF (W.tasks.take A2.length) (bF W c))).map T.int))) ⟨_,_,rfl,fun b u _ _ h=>h,gd6,gl6⟩ ?_ ?_;rotate_left
 ·rintro A2 j B2 σ H' N2 e ⟨O,a,rfl,kb,gd,gl⟩ hN2;refine⟨trivial,?_⟩;have hj:j=A2.length/\j<W.tasks.length:=by
   have hl:=O_ List.length e;simp only[a_,d_,k_] at hl;have R:(List.range W.tasks.length)[A2.length]?=some j:=by rw[e,E_ (j_ _)];simp
   rw[Xp (by omega)] at R;have:=Q_ R;omega
  obtain⟨hja,hj⟩:=hj;obtain⟨⟨x,Z,ks⟩,et⟩:∃t,W.tasks[j]?=some t:=⟨_,e_ hj⟩;have tk1:W.tasks.take (A2++[j]).length=W.tasks.take j++[(x,Z,ks)]:=by rw[a_,z_,<- hja,List.take_add_one,et];rfl
  rw[<- hja] at gd gl;have hx:x∉(W.tasks.take j).map (·.1):=fun h=>by
   have nd:=d.out.nd;have e3:W.tasks=W.tasks.take j++(x,Z,ks)::W.tasks.drop (j+1):=by rw[e_ hj] at et;rw[<- Q_ et,List.getElem_cons_drop,W_]
   rw[e3,u_,Yq] at nd;exact nd.2.2 _ h _ (by rw[y_];exact m_) rfl
  have bb:=QR (c:=c) d.out et;have p1:=Qv (f:=bF W c) (v:=bF W c x) hx;have fe:fu (bF W c) x (bF W c x)=bF W c:=by funext y;unfold fu;split <;> simp [*]
  rw[fe] at p1;have gn8:H' V=some (.lst ((W.tasks.map (·.1)).map T.str)):=kb _ _ (kp.out _ _ Y).1 (kp.out _ _ Y).2 gn7;have x0:atI ((W.tasks.map (·.1)).map T.str) (j:Int)=some (.str x):=bN (by rw[H_,H_,et];rfl);have x9:atI (W.tasks.map tkT) (j:Int)=some (tkT (x,Z,ks)):=bN (by rw[H_,et];rfl);have hgx:=Ex W c x;have x1:atI (((List.range 2).map (ldF (W.tasks.take j) (bF W c))).map T.int) ((bF W c x:Nat):Int)=some (.int (ldF (W.tasks.take j) (bF W c) (bF W c x))):=bN (by rw[H_,H_,Xp hgx];rfl);have x2:ixN (((List.range 2).map (ldF (W.tasks.take j) (bF W c))).map T.int).length ((bF W c x:Nat):Int)=some (bF W c x):=qG (by rw[b_,b_,k_];exact hgx);have x3:(((List.range 2).map (ldF (W.tasks.take j) (bF W c))).map T.int).set (bF W c x) (T.int (ldF (W.tasks.take j) (bF W c) (bF W c x)+Z))=((List.range 2).map (ldF (W.tasks.take j++[(x,Z,ks)]) (bF W c))).map T.int:=by rw[<- List.map_set];congr 1;exact Jj (t:=(x,Z,ks)) hgx
  have dl:=Qw ((W.tasks.take j).map (·.1)) (bF W c);have dl2:(W.tasks.take j).length<=8:=by rw[Xc];omega
  rw[b_] at dl;have hN2':Box (∀a H',(∀b u,b≠l->b≠pl->H6 b=some u->H' b=some u)->H' l=some (.dct (dN ((W.tasks.take j++[(x,Z,ks)]).map (·.1)) (bF W c)))->H' pl=some (.lst (((List.range 2).map (ldF (W.tasks.take j++[(x,Z,ks)]) (bF W c))).map T.int))->N2 [some W.enc,some (.int beat),some (.int (m:Int)),some (meT W beat m),some (.ref V),some (ut du),some (.int (c:Int)),some (.ref l),some (.ref pl),some (.int (j:Int)),a,k] H'):=⟨fun a H' R h2 h3=>hN2 _ _ ⟨some (.int (j:Int)),a,rfl,R,by rw[tk1];exact h2,by rw[tk1];exact h3⟩⟩;have npl':=Ne.symm J;simp only[tkT] at x9;dsimp only at bb;have kb':=Box.mk kb;have x3':=Box.mk x3;clear hN2 e hR6 tk1 hja fe et hx kb x3;generalize ((List.range 2).map (ldF (W.tasks.take j) (bF W c))).map T.int=LL at *;walk_at "";refine⟨by omega,by omega,hN2'.out _ _ (fun b u R h2 h=>?_) ?_ ?_⟩
  ·rw[aD h2,aD R];exact kb'.out b u R h2 h
  ·rw[aD J,au,u_];rfl
  rw[au,x3'.out]
 rintro σ H' ⟨O,a,rfl,kb,gd,gl⟩;refine⟨trivial,?_⟩;rw[k_,List.take_length] at gd gl;have r:Sub3 H H':=fun b u h=>kb b u (kp.out b u h).1 (kp.out b u h).2 (U _ _ h);have gl':H' pl=some (.lst [.int (ldF W.tasks (bF W c) 0),.int (ldF W.tasks (bF W c) 1)]):=gl;have n0:=vU d.out (bF W c) 0;have n1:=vU d.out (bF W c) 1;have tw:=Box.mk (Jt d.out m1 m2 hc (beat:=beat));have blt:=Box.mk fun n=>W7 (Lb m1 m2 hc n) hm;have hgd:Box (H' l=some (.dct (dN (nm W) (bF W c)))):=⟨gd⟩;have cm0:CMulW (ldF W.tasks (bF W c) 0) (ldF W.tasks (bF W c) 0):=⟨dM n0.1 n0.2,dM n0.1 n0.2⟩;have cm1:CMulW (ldF W.tasks (bF W c) 1) (ldF W.tasks (bF W c) 1):=⟨dM n1.1 n1.2,dM n1.1 n1.2⟩;have hL:Box (okB W beat m c↔Hol W (bF W c)/\ldF W.tasks (bF W c) 0<=beat/\ldF W.tasks (bF W c) 1<=beat):=⟨by unfold okB;rw[tw.out.1]⟩;have hT:Box (toB W m c=ldF W.tasks (bF W c) 0*ldF W.tasks (bF W c) 0+ldF W.tasks (bF W c) 1*ldF W.tasks (bF W c) 1):=⟨tw.out.2⟩;clear gl kb gd6 gl6 gn7 U tw gd kp Y J D pl0 hpd n0 n1;generalize ldF W.tasks (bF W c) 0=G at *;generalize ldF W.tasks (bF W c) 1=I at *;walk_at "n";refine aB fun R7 hR7=>?_;walk_at "";refine⟨trivial,trivial,?_⟩;walk_at "n";refine aB fun R8 hR8=>?_;have emx:ints3 [T.int G,T.int I]=some [G,I]:=rfl;cases du with
 |none =>
  simp only[ut] at *;walk_at "";refine⟨by simp,fun M hM o=>?_⟩;by_cases cb:beat<M
  ·rw[if_pos (q_ cb)];have q:=C.out.keep (.inl fun z=>by
    have z2:=(hL.out.mp z).2
    simp only[o_,Xu,Za] at hM
    rcases hM with rfl | rfl <;> omega)
   have F:=Box.mk q;walk_at "";exact p.out none _ _ _ _ _ _ r F.out
  rw[if_neg (by rw[p_ cb];decide)];have hl0:G<=beat:=by have:=o G (by simp);omega
  have hl1:I<=beat:=by have:=o I (by simp);omega
  clear hM o cb;walk_at "n";walk_at "";refine⟨W,l,bF W c,rfl,d.out,hgd.out,blt.out,fun b hb=>?_⟩;cases b with
  |true =>
   have ho:okB W beat m c:=hL.out.mpr ⟨hb.mp rfl,hl0,hl1⟩
   have q:=C.out.new ho (fun s h=>(nomatch h))
   rw[hT.out] at q
   have F:=Box.mk q
   walk_at ""
   exact p.out (some (G*G+I*I)) _ _ _ _ _ _ r F.out
  |false =>
   have q:=C.out.keep (.inl fun z=>by have:=hb.mpr (hL.out.mp z).1;cases this)
   have F:=Box.mk q
   walk_at ""
   exact p.out none _ _ _ _ _ _ r F.out
 |some s =>
 simp only[ut] at *;walk_at "";refine⟨by simp,fun M hM o=>?_⟩;by_cases cb:beat<M
 ·rw[if_pos (q_ cb)];have q:=C.out.keep (.inl fun z=>by
   have z2:=(hL.out.mp z).2
   simp only[o_,Xu,Za] at hM
   rcases hM with rfl | rfl <;> omega)
  have F:=Box.mk q;walk_at "";exact p.out (some s) _ _ _ _ _ _ r F.out
 rw[if_neg (by rw[p_ cb];decide)];have hl0:G<=beat:=by have:=o G (by simp);omega
 have hl1:I<=beat:=by have:=o I (by simp);omega
 clear hM o cb;try rw[if_pos (show (!isN (T.int s))=true from rfl)]
 by_cases cs:s<=G*G+I*I
 ·rw[if_pos (q_ cs)];have q:=C.out.keep (.inr ⟨s,rfl,by rw[hT.out];exact cs⟩);have F:=Box.mk q;walk_at "";exact p.out (some s) _ _ _ _ _ _ r F.out
 rw[if_neg (by rw[p_ cs];decide)];walk_at "n";walk_at "";refine⟨W,l,bF W c,rfl,d.out,hgd.out,blt.out,fun b hb=>?_⟩;cases b with
 |true =>
  have ho:okB W beat m c:=hL.out.mpr ⟨hb.mp rfl,hl0,hl1⟩
  have q:=C.out.new ho (fun s' h=>by cases h;rw[hT.out];omega)
  rw[hT.out] at q
  have F:=Box.mk q
  walk_at ""
  exact p.out (some (G*G+I*I)) _ _ _ _ _ _ r F.out
 |false =>
  have q:=C.out.keep (.inl fun z=>by have:=hb.mpr (hL.out.mp z).1;cases this)
  have F:=Box.mk q
  walk_at ""
  exact p.out (some s) _ _ _ _ _ _ r F.out
theorem Wt.sub {c:Addr}{a H H':Hp3}{d:List (Addr × O3)}(w:Wt c a H d) (s:Sub3 H H'):Wt c a H' d:=w.kep (by obtain⟨ns,e,r⟩:=w.cl.ex;exact⟨ns,s _ _ e,r⟩) fun b o h _=>s b o h
def yP:Sp3:=fun ts H Q=>∃(a:Addr) (ns:List Int),ts=[.ref a]/\H a=some (.rol (ns.map T.int))/\ns.length<=63/\∀H',Q (.bl true) H'
abbrev uF:List Str:=["_law_script","_law_deck","_law_big","_law_sizes","_law_works_here","_law_many","_law_beat_here","_law_rows","_law_found","_law_known","_law_stands","_law_done","_law_least","_law_load","_law_names_here","_law_fewer"]
theorem sc_law:FnScope uF ["_law_script"] (aA (top 48)):=bB
theorem QX {f:Addr}{fd:FuncData}(g:G3 K mg "law" (top 48) ["_law_script"] f fd) (B:Bl mg) (L:Cal P w K mg base 1 "_law_numbers" (top 31) ["_law_script"] K1) (F_works:Cal P w K mg base 5 "_law_works" (top 42) ["_law_deck","_law_least","_law_most","_law_stands"] Vv) (O:Cal P w K mg base 1 "_law_draw" (top 32) ["_law_deck","_law_most"] mW) (F_beat:Cal P w K mg base 3 "_law_beat" (top 43) ["_law_deck","_law_works_here"] Vl) (u:Cal P w K mg base 7 "even_table" (top 28) ["works","beat","many"] Vs) (I:Cal P w K mg base 7 "most_even" (top 29) ["works","beat","many"] Vr) (F_goes:Cal P w K mg base 2 "_law_goes" (top 45) ["_law_works_here","_law_known","_law_found"] (La w)) (G:Cal P w K mg base 2 "_law_least_told" (top 47) ["_law_works_here","_law_beat_here","_law_many","_law_found"] Ld):j7 P w K mg base 8 f fd ["_law_script"] yP:=by
 refine fn3 g.fn sc_law (fun ts H Q h=>?_) (fun cdv A outer s H E ts H3 Q V h=>?_)
 ·obtain⟨a,ns,rfl,_⟩:=h;rfl
 have D:=Room.u30 V;have hu31:=Room.u31 V;obtain⟨a,ns,rfl,ha,h63,k⟩:=h;refine⟨_,(ak (aF (i:=1) sc_law.nd (aK L V rfl (aa (v3 0) aj)))
   (ak (aF (i:=2) sc_law.nd (bG qF rfl B.int_ vh (aa (u6 (cZ (O2 D) (v3 0) (bI aj)) (lW (cZ (cM D) (aJ dU (aJ fJ (aH ix3 (v3 0) ao) ao) ao) ao))) aj)))
   (ak (aF (i:=3) sc_law.nd (aH ix3 (bI (aa (bI (aa ao (aa ao (aa ao aj)))) (aa (bI (aa ao (aa ao (aa ao aj)))) aj))) (v3 2)))
   (ak (aF (i:=4) sc_law.nd (aK F_works V rfl (aa (v3 1) (aa (aH ix3 (v3 3) ao) (aa (aH ix3 (v3 3) ao) (aa (aH ix3 (v3 3) ao) aj))))))
   (ak (aF (i:=5) sc_law.nd (aK O V rfl (aa (v3 1) (aa (aJ bh (aP b7 rfl B.len_ b8 (aa (aH ix3 (v3 4) ao) aj)) ao) aj))))
   (ak (aF (i:=6) sc_law.nd (aK F_beat V rfl (aa (v3 1) (aa (v3 4) aj))))
   (ak (aF (i:=7) sc_law.nd (aK u V rfl (aa (v3 4) (aa (v3 6) (aa (v3 5) aj)))))
   (ak (aF (i:=8) sc_law.nd (aK I V rfl (aa (v3 4) (aa (v3 6) (aa (v3 5) aj)))))
   (ak (aF (i:=9) sc_law.nd (Ds (w:=w) rfl))
   (ak (bu G_ rfl (cz (v3 7)) (cD (n:=3) rfl (aG (aC (i:=10) sc_law.nd) (aG (aC (i:=11) sc_law.nd) (aG (aC (i:=12) sc_law.nd) bO)))) (ak (Du (w:=w) rfl D (v3 9) (bL (aa (v3 10) (aa (v3 11) aj))) (v3 12))
    (ak (aF (i:=13) sc_law.nd (aP (jn rfl) rfl B.sum_ jo (aa (bA rfl (bD (n0:=(aA (top 48)).names) (N:=uF) (N':=["_law_name","_law_length","_law_kinds_here","_law_done"]) (nt:=3) (cap:=[11]) rfl rfl (by decide +kernel)) (cG (aH ix3 (v3 4) ao)) (fun cl pins s H C0 fp=>⟨(cD (n:=3) rfl (aG (aC (i:=0) (show List.Nodup [("_law_name":Str),("_law_length":Str),("_law_kinds_here":Str),("_law_done":Str)] by decide +kernel)) (aG (aC (i:=1) (show List.Nodup [("_law_name":Str),("_law_length":Str),("_law_kinds_here":Str),("_law_done":Str)] by decide +kernel)) (aG (aC (i:=2) (show List.Nodup [("_law_name":Str),("_law_length":Str),("_law_kinds_here":Str),("_law_done":Str)] by decide +kernel)) bO)))),(dG (aQ (sW hu31) (v3 0) (v3 3) rfl)),(v3 1)⟩)) aj)))
    (aq (bM (aQ o5 (aJ f9 (v3 10) (v3 12)) (aJ lw (v3 13) (v3 13))) (aq (aL dZ)) bf)))))
   (ak (aF (i:=14) sc_law.nd (bG cR rfl B.tuple_ cT (aa (bA rfl (bD (n0:=(aA (top 48)).names) (N:=uF) (N':=["_law_name","_law_length","_law_kinds_here"]) (nt:=3) (cap:=[]) rfl rfl (by decide +kernel)) (cG (aH ix3 (v3 4) ao)) (fun cl pins s H C0 fp=>⟨(cD (n:=3) rfl (aG (aC (i:=0) (show List.Nodup [("_law_name":Str),("_law_length":Str),("_law_kinds_here":Str)] by decide +kernel)) (aG (aC (i:=1) (show List.Nodup [("_law_name":Str),("_law_length":Str),("_law_kinds_here":Str)] by decide +kernel)) (aG (aC (i:=2) (show List.Nodup [("_law_name":Str),("_law_length":Str),("_law_kinds_here":Str)] by decide +kernel)) bO)))),bQ,(v3 0)⟩)) aj)))
   (ak (bM (aQ pI (v3 8) fj) (aq (bM (Ik (w:=w) rfl D (bL (aa (v3 5) (aa (v3 14) aj))) (v3 9)) (aq (aL dZ)) bf)) (aq (bM (PW3.pt (j6 (aQ (j8 D) (tX (w:=w) rfl D (v3 9) (bL (aa (v3 5) (aa (v3 14) aj))) fj) (aH ix3 (v3 8) ao)) (iz (jR (c7 (aK F_goes V rfl (aa (v3 4) (aa (v3 9) (aa (v3 8) aj))))))))) (aq (aL dZ)) bf)))
   (ak (bM (PW3.pt (cN (aQ (cM D) (v3 2) ao) (cN (aQ o6 (v3 5) ao) (cV (jR (c7 (aK G V rfl (aa (v3 4) (aa (v3 6) (aa (v3 5) (aa (v3 8) aj))))))))))) (aq (aL dZ)) bf)
   (ak (aF (i:=15) sc_law.nd (aK O V rfl (aa (v3 1) (aa (aJ jT (aJ bh (v3 5) ao) (aJ f9 (v3 2) (bG qF rfl B.int_ vh (aa (cZ o6 (v3 5) ao) aj)))) aj))))
   (aq (aL (cZ (cM D) (aK u V rfl (aa (v3 4) (aa (v3 6) (aa (v3 15) aj)))) (bA rfl (bD (n0:=(aA (top 48)).names) (N:=uF) (N':=["_law_row","_law_fewer"]) (nt:=1) (cap:=[15]) rfl rfl (by decide +kernel)) (cz (v3 7)) (fun cl pins s H C0 fp=>⟨(aC (i:=0) (show List.Nodup [("_law_row":Str),("_law_fewer":Str)] by decide +kernel)),(dG (aQ Br (aH ix3 (v3 0) ao) (v3 1))),(v3 0)⟩))))))))))))))))))),?_⟩
 rw[show aV uF [T.ref a]=[some (T.ref a),none,none,none,none,none,none,none,none,none,none,none,none,none,none,none] from rfl];have hsz:sizeLine=16777216:=rfl;have k':=Box.mk k;clear k;refine aB fun R0 hR0=>?_;walk_at "";refine⟨a,ns,rfl,ha,h63,fun d Z hsub hd hC=>?_⟩;have w0:Wt d Z Z []:=⟨hC,Kep.refl,(fun _ h=>nomatch h)⟩;have ga:=hsub a _ ha;clear hC hsub hd ha;walk_at "n";refine aB fun R1 hR1=>?_;have key:∀(b:Bool) (H5:Hp3),Wt d Z H5 []->R1 { nx:=fun _ H'=>Fin3 Q .non H',rt:=Fin3 Q} [some (.ref a),some (.ref d),some (.int (if b=true then 1 else 0)),none,none,none,none,none,none,none,none,none,none,none,none,none] H5:=by
  intro b H5 w1;clear ga;walk_at "n";refine aB fun R2 hR2=>?_;walk_at "";refine⟨by decide,fun p1 hp1=>⟨by decide,fun p2 hp2=>⟨by decide,fun p3 U=>?_⟩⟩⟩;have at1:atI [T.ref p1,T.ref p2] (if b=true then 1 else 0)=some (.ref (if b then p2 else p1)):=by cases b <;> rfl
  have n12:p1≠p2:=fun z=>by rw[z,au] at hp2;cases hp2
  have n23:p2≠p3:=fun z=>by rw[z,au] at U;cases U
  have n13:p1≠p3:=fun z=>by rw[<- z,aD n12,au] at U;cases U
  have w2:=(((w1.new (o:=.lst [T.int 1,T.int 6,T.int 4]) hp1).new (o:=.lst [T.int 7,T.int 2,T.int 2]) hp2).new (o:=.lst [T.ref p1,T.ref p2]) U).tl.tl.tl;have gb:up3 (up3 (up3 H5 p1 (.lst [T.int 1,T.int 6,T.int 4])) p2 (.lst [T.int 7,T.int 2,T.int 2])) p3 (.lst [T.ref p1,T.ref p2]) (if b then p2 else p1)=some (.lst [.int (if b then 7 else 1),.int (if b then 2 else 6),.int (if b then 2 else 4)]):=by
   cases b
   ·show up3 _ p3 _ p1=_;rw[aD n13,aD n12,au];rfl
   show up3 _ p3 _ p2=_;rw[aD n23,au];rfl
  rw[at1,gQ];generalize up3 (up3 (up3 H5 p1 _) p2 _) p3 _=H6 at w2 gb ⊢;generalize (if b=true then p2 else p1)=pb at gb ⊢;clear w1 hp1 hp2 U n12 n13 n23 at1;walk_at "n";refine aB fun R3 hR3=>?_;walk_at "";refine⟨d,_,_,_,rfl,by cases b <;> decide,by cases b <;> decide,by cases b <;> decide,by cases b <;> decide,by cases b <;> decide,w2.cl,fun W H7 hW _ hrb hD=>?_⟩;have w3:=w2.drw hD;clear w2 hD gb;have c:=Box.mk hW;have t8:W.tasks.length<=8:=hW.t8;have r8:W.row.length<=8:=hW.r8;have hb2:b=true->W.row.length<=2:=fun z=>by rw[z] at hrb;simp at hrb;omega
  have hb2':=Box.mk hb2;clear hW hrb hb2;walk_at "n";refine aB fun R4 hR4=>?_;walk_at "";refine⟨d,(W.row.length:Int)+1,rfl,by omega,w3.cl,fun n H8 n0 n1 hD=>?_⟩;have w4:=w3.drw hD;clear w3 hD;obtain⟨m,rfl⟩:∃m:Nat,n=(m:Int):=⟨n.toNat,by omega⟩;have hm:m<=W.row.length:=by omega
  clear n0 n1;walk_at "n";refine aB fun R5 hR5=>?_;walk_at "";refine⟨d,W,rfl,c.out,w4.cl,fun beat H9 _ hD=>?_⟩;have w5:=w4.drw hD;clear w4 hD;walk_at "n";refine aB fun R6 hR6=>?_;walk_at "";refine⟨W,beat,m,rfl,c.out,t8,hm,fun pr hpr=>?_⟩;have w6:=w5.new (o:=.lst (eG W beat (m+1))) hpr;generalize up3 H9 pr (.lst (eG W beat (m+1)))=H10 at w6 ⊢;clear w5 hpr;walk_at "n";refine aB fun R7 hR7=>?_;walk_at "";refine⟨W,beat,m,rfl,c.out,hm,?_⟩;walk_at "n";refine aB fun R8 hR8=>?_;walk_at "";intro l hpk;have gr10:=(w6.at' _ (.head _)).1;have npr:pr≠l:=aZ gr10 hpk;have npd:l≠d:=fun z=>by obtain⟨ns',e,_⟩:=w6.cl.ex;rw[<- z,hpk] at e;cases e
  have hk4:Z l=none:=by
   cases e:Z l with
   |none=>rfl
   |some o=>have:=w6.kp _ _ e npd;rw[hpk] at this;cases this
  have w7:=w6.sub (Sub3.new (o:=.dcn w []) hpk);have gk7:up3 H10 l (.dcn w []) l=some (.dcn w (([]:List (Nat × Nat × Int)).map (knX W))):=au;generalize up3 H10 l (.dcn w [])=H11 at w7 gk7 ⊢;clear hpk gr10 w6;have gr7:=(w7.at' _ (.head _)).1;walk_at "n";refine aB fun R9 hR9=>?_;walk_at "";rw[jy];refine aW (tbX W) (evX W beat (m+1)) (fun A σ H=>∃X v11 v12 v13:Option T,σ=[some (.ref a),some (.ref d),some (.int (if b=true then 1 else 0)),some (.ref pb),some W.enc,some (.int (m:Int)),some (.int beat),some (.ref pr),some (meT W beat m),some (.ref l),X,v11,v12,v13,none,none]/\Wt d Z H [(pr,.lst (eG W beat (m+1)))]/\H l=some (.dcn w (A.map (knX W)))) ⟨_,_,_,_,rfl,w7,gk7⟩ ?_ ?_;rotate_left
  ·rintro A ⟨k,e,x⟩ B σ H N he ⟨X,v11,v12,v13,rfl,w8,gk⟩ hN;have nd:=Ew c.out beat (m+1);have lA:A.length<sizeLine:=by have h1:=yL c.out beat (m+1);have h2:=O_ List.length he;simp only[a_,d_] at h2;omega
   obtain⟨hk,v,hv,rfl⟩:=(qZ c.out (by omega)).mp (show (k,e,x)∈evX W beat (m+1) by rw[he];simp);have hsq:=Vt c.out (show k<=W.row.length by omega) hv;have hnew:((k:Int),pk W e)∉(A.map (knX W)).map (·.1):=fun h=>by rw[he,u_,u_,Yq] at nd;exact nd.2.2 _ h _ (by simp [knX]) rfl
   have pn:=zX (t:=.int v.1) hnew;have pA:A.map (knX W)++[(((k:Int),pk W e),T.int v.1)]=(A++[(k,e,v.1)]).map (knX W):=by rw[u_];rfl
   rw[pA] at pn;refine⟨.inl ((w8.at' _ (.head _)).1.trans (by rw[jy])),?_⟩;have w9:=w8.put (o:=.dcn w ((A++[(k,e,v.1)]).map (knX W))) hk4 npd (fun x hx=>by rw[g_.mp hx];exact npr);have hN':=Box.mk hN;have lm:((A.map (knX W)).length)=A.length:=b_ _;clear hN he nd hnew pA hv w8 gr7 gk7 w7;simp only[tbX,tbR,sT];walk_at "";refine⟨trivial,by decide,lA,?_⟩;have J:up3 H l (.dcn w ((A++[(k,e,v.1)]).map (knX W))) l=some (.dcn w ((A++[(k,e,v.1)]).map (knX W))):=au;generalize up3 H l (.dcn w ((A++[(k,e,v.1)]).map (knX W)))=H12 at w9 J ⊢;walk_at "c";refine gD (fun t:Str × Int × List Str=>.str t.1) (fun t=>.int t.2.1) (fun t=>.tup (t.2.2.map T.str)) (fun t=>T.int t.2.1) (fun t=>decide (t.1∈pk W e)) W.tasks [some (.tup ((pk W e).map T.str))] trivial (by omega) (fun t ht Q' S=>?_) (fun t ht _ Q' S=>?_) ?_
   ·have hq':=Box.mk S;have po:=fL (pk W e);have pd:pl 20 (T.str t.1)=true:=rfl;clear S hN';walk_at "";rw[Ec];exact⟨trivial,trivial,hq'.out⟩
   ·walk_at "";try exact S
   intro p9 hp9;have e1:((W.tasks.filter fun t=>decide (t.1∈pk W e)).map fun t=>T.int t.2.1)=((W.tasks.filter fun t=>decide (t.1∈pk W e)).map (·.2.1)).map T.int:=by rw[N_];rfl
   rw[e1,dm,gQ];have e2:((W.tasks.filter fun t=>decide (t.1∈pk W e)).map (·.2.1)).sum=ldN W e:=rfl;rw[e2];have ll:=lJ c.out (pk W e);refine⟨.inl ⟨by omega,by omega⟩,⟨dM ll.1 ll.2,dM ll.1 ll.2⟩,?_⟩;rw[if_neg (by rw[p_ (by omega)];decide)];exact hN'.out _ _ ⟨_,_,_,_,rfl,w9.sub (Sub3.new hp9),by rw[aD (aZ J hp9)];exact J⟩
  rintro σ H12 ⟨X,v11,v12,v13,rfl,w8,gk⟩;refine⟨.inl ((w8.at' _ (.head _)).1.trans (by rw[jy])),?_⟩;clear w7 gk7 gr7 npr;try dsimp only
  walk_at "n";refine aB fun R10 hR10=>?_;walk_at "";walk_at "c";refine gD (fun t:Str × Int × List Str=>.str t.1) (fun t=>.int t.2.1) (fun t=>.tup (t.2.2.map T.str)) (fun t=>T.str t.1) (fun _=>true) W.tasks [] trivial (by omega) (fun t ht Q' S=>S) (fun t ht _ Q' S=>?_) (fun pn hpn=>?_)
  ·clear k' hR10;walk_at "";try exact S
  rw[Ye.mpr (fun _ _=>rfl)];have en:W.tasks.map (fun t=>T.str t.1)=(W.tasks.map (·.1)).map T.str:=by rw[N_];rfl
  rw[en];have w9:=w8.sub (Sub3.new (o:=.lst ((W.tasks.map (·.1)).map T.str)) hpn);have J:up3 H12 pn (.lst ((W.tasks.map (·.1)).map T.str)) l=_:=(aD (aZ gk hpn)).trans gk;have gn9:up3 H12 pn (.lst ((W.tasks.map (·.1)).map T.str)) pn=_:=au;generalize up3 H12 pn (.lst ((W.tasks.map (·.1)).map T.str))=H13 at w9 J gn9 ⊢;clear w8 gk hpn en;walk_at "";walk_at "n";refine aB fun R11 hR11=>?_;have R:∀H,Wt d Z H [(pr,.lst (eG W beat (m+1)))]->R11 { nx:=fun _ H'=>Fin3 Q .non H',rt:=Fin3 Q} [some (.ref a),some (.ref d),some (.int (if b=true then 1 else 0)),some (.ref pb),some W.enc,some (.int (m:Int)),some (.int beat),some (.ref pr),some (meT W beat m),some (.ref l),X,v11,v12,v13,some (.tup ((W.tasks.map (·.1)).map T.str)),none] H:=by
   intro H M;clear w9 J gn9;walk_at "n";refine aB fun R12 hR12=>?_;have G9:∀H,Wt d Z H [(pr,.lst (eG W beat (m+1)))]->R12 { nx:=fun _ H'=>Fin3 Q .non H',rt:=Fin3 Q} [some (.ref a),some (.ref d),some (.int (if b=true then 1 else 0)),some (.ref pb),some W.enc,some (.int (m:Int)),some (.int beat),some (.ref pr),some (meT W beat m),some (.ref l),X,v11,v12,v13,some (.tup ((W.tasks.map (·.1)).map T.str)),none] H:=by
    intro H w11;clear M;walk_at "n";refine aB fun R13 hR13=>?_;have hc:CMul (if b=true then 1 else 0) (if decide (1<(m:Int))=true then 1 else 0):=by cases b <;> exact .inl ⟨by decide,by decide⟩
    have hx:0<(m:Int)+1 - (if b=true then 1 else 0)*(if decide (1<(m:Int))=true then 1 else 0)/\(m:Int)+1 - (if b=true then 1 else 0)*(if decide (1<(m:Int))=true then 1 else 0)<=(m:Int)+1:=by cases b <;> simp <;> (try split) <;> omega
    walk_at "";refine⟨trivial,d,_,rfl,hx.1,w11.cl,fun n H14 n0 n1 hD=>?_⟩;obtain⟨j,rfl⟩:∃j:Nat,n=(j:Int):=⟨n.toNat,by omega⟩;have hj:j<=m:=by omega
    have gr:=((w11.drw hD).at' _ (.head _)).1;clear w11 hD n1 hx hc;walk_at "n";walk_at "";refine⟨W,beat,j,rfl,c.out,t8,W6 hj hm,fun pf hpf=>?_⟩;have Y:up3 H14 pf (.lst (eG W beat (j+1))) pr=_:=(aD (aZ gr hpf)).trans gr;have gf2:up3 H14 pf (.lst (eG W beat (j+1))) pf=some (.lst (eG W beat (j+1))):=au;generalize up3 H14 pf (.lst (eG W beat (j+1)))=H15 at Y gf2 ⊢;clear gr hpf;try dsimp only at Y ⊢
    rw[Y,pB,jy];walk_at "c";rw[jy] at Y;refine cU (tbX W) (tbX W) (fun x=>decide ((x.1:Int)<=(j:Int))) (evX W beat (m+1)) [some (.int (j:Int))] (.inl Y) ?_ (fun x hx Q' S=>?_) (fun x hx _ Q' S=>?_) (fun p hp=>?_)
    ·have:=yL c.out beat (m+1);omega
    ·have hq':=Box.mk S;clear S;simp only[tbX,tbR,sT];walk_at "";exact hq'.out
    ·exact S
    have ef:((evX W beat (m+1)).filter fun x=>decide ((x.1:Int)<=(j:Int))).map (tbX W)=eG W beat (j+1):=by rw[<- Jo hj,jy,List.filter_map];rfl
    rw[ef];have nfp:pf≠p:=aZ gf2 hp;have pe:(eG W beat (j+1)).all (pl 20)=true:=by rw[jy,Xh];intro t ht;obtain⟨x,_,rfl⟩:=i_.mp ht;have e0:pl 20 (tbX W x)=(true&&(((pk W x.2.1).map T.str).all (pl 18)&&(true&&true))):=rfl;rw[e0,Xh.mpr (fun t ht=>by obtain⟨y,_,rfl⟩:=i_.mp ht;rfl)];rfl
    rw[J2,aD nfp,gf2,au,J3];refine⟨nfp,pe,pe,?_⟩;rw[if_neg (by decide),q_ rfl];exact Fin3.of Sub3.refl (k'.out _)
   have C:=Box.mk G9;clear G9 hR12 k';cases b with
   |false =>
    have q:=Box.mk (C.out H M)
    clear C M
    walk_at ""
    exact q.out
   |true =>
    have m2:m<=2:=W6 hm (hb2'.out rfl)
    by_cases m1:1<=m
    ·
     have e1:decide (0<(m:Int))=true:=q_ (by omega)
     walk_at ""
     refine⟨W,beat,m,rfl,c.out,m1,m2,hm,fun H' sb=>?_⟩
     have q:=Box.mk (C.out H' (M.sub sb))
     clear C M
     walk_at ""
     exact q.out
    ·
     have e1:decide (0<(m:Int))=false:=p_ (by omega)
     have q:=Box.mk (C.out H M)
     clear C M
     walk_at ""
     exact q.out
  have F:=Box.mk R;clear R hR11 k';have hwh:pk W (top2 W - 1)=W.tasks.map (·.1):=(yG c.out _).symm.trans (Ye.mpr fun x hx=>q_ (pO c.out x hx));cases e:bK (top2 W - 1) (evs W beat m) with
  |none =>
   have em:meT W beat m=.non:=by unfold meT;rw[e]
   have kn:=Jp (m:=m+1) c.out (by omega) (by have:0<top2 W:=Nat.two_pow_pos _;omega) e
   rw[hwh] at kn
   have q:=Box.mk (F.out H13 w9)
   clear F e
   rw[em] at q ⊢
   walk_at ""
   exact⟨by decide,q.out⟩
  |some v =>
   have em:meT W beat m=.tup [.int v.1,.tup ((v.2.map (pk W)).map sT)]:=by unfold meT;rw[e]
   have kn:=yJ (m:=m+1) c.out (by omega) (by omega) e
   rw[hwh] at kn
   obtain⟨gd,ge⟩:=god c.out hm e
   have gd':=Box.mk gd
   have ge':=Box.mk ge
   clear gd ge e
   rw[em] at F ⊢
   walk_at ""
   refine⟨⟨_,_,rfl,J⟩,by decide,?_⟩
   rw[ZQ]
   walk_at ""
   refine⟨W,l,_,v.2.map (pk W),_,by rw[ge'.out],c.out,J,gd'.out,fun H' sb=>?_⟩
   have q:=Box.mk (F.out H' (w9.sub sb))
   clear F w9 gd' ge'
   walk_at ""
   exact q.out
 have key':=Box.mk key;clear key hR1 k';walk_at "";refine⟨by decide,fun p hp=>?_⟩;have nap:a≠p:=aZ ga hp;have pa:=IK ns;have w1:=(w0.new (o:=.lst []) hp).tl;have g1:up3 Z p (.lst []) p=some (.lst []):=au;have g2:up3 Z p (.lst []) a=some (.rol (ns.map T.int)):=by rw[aD nap];exact ga
 generalize up3 Z p (.lst [])=H5 at w1 g1 g2 ⊢;clear w0 hp ga;walk_at "";refine⟨by first | trivial | exact nap,by first | trivial | exact pa,by first | trivial | rfl,?_⟩;cases ns with
 |nil=>rw[if_neg (by simp)];exact key'.out false H5 w1
 |cons z r =>
 rw[if_pos (by simp)];have R:=Box.mk (key'.out (decide (z / 2%8=5)) H5 w1);clear key' g1 g2 pa;rw[y_];walk_at "";exact⟨⟨by decide,by decide⟩,by decide,R.out⟩
theorem W3 {X:Cx}{k v:Expr}{tk a:TE3}{e b:Pos}(d:PE3 X k tk) (c:PE3 X v a):PE3 X (.List [.Dict [some k] [v] e] b) (wO (qp (lr tk a) wN)):=bI (aa (zH d c) aj)
theorem W4 {X:Cx}(i:Nat) {x:Str}{b a h f:Pos}{k v:Expr}{tk c:TE3}(m:X.N.Nodup) (g:PE3 X k tk) (e:PE3 X v c) (d:X.N[i]?=some x) (l:Loc X.env.scope x) (j:X.fn x=true\/X.env.scope.names.lookup x=some .local):PS3 X (.Assign [.Name x a] (.List [.Dict [some k] [v] h] f) b) (wV (wO (qp (lr tk c) wN)) (fB i)):=aF m (W3 g e) d l rfl j
abbrev fW:List Str:=["walk","many","steps","stand"]
theorem sc_evens_by_stands:FnScope fW ["walk","many"] (aA (top 27)):=bB
theorem jz {f:Addr}{fd:FuncData}(g:G3 K mg "evens_by_stands" (top 27) ["walk","many"] f fd) (B:Bl mg) (c:Cal P w K mg base 4 "evens_behind" (top 26) ["walk","stand","evens"] (Vq C_Walk)):Cal P w K mg base 5 "evens_by_stands" (top 27) ["walk","many"] (QH C_Walk):=by
 refine⟨f,fd,g,?_⟩;refine fn3 g.fn sc_evens_by_stands (fun ts H Q h=>?_) (fun cdv A S s H E ts H3 Q hr h=>?_)
 ·obtain⟨a,W,beat,m,rfl,_⟩:=h;rfl
 obtain⟨a,W,beat,m,rfl,X,hw,hm,kk⟩:=h;refine⟨_,(@ak _ _ _ _ _ (@W4 _ 2 _ _ _ _ _ _ _ _ _ sc_evens_by_stands.nd ao (bL (aa ao (aa (bL aj) aj))) rfl (by first | exact Or.inl rfl | exact Or.inr rfl) (by first | exact .inl rfl | exact .inr rfl | assumption))
   (ak (bu G_ rfl (aR rfl B.range_ (aa (v3 1) aj)) (aC (i:=3) sc_evens_by_stands.nd) (aq (cg (dq M_ S_ T_ bJ (v3 2) (aa (aK c hr rfl (aa (v3 0) (aa (v3 3) (aa (aH ix3 (v3 2) (v3 3)) aj)))) aj)))))
   (aq (aL (v3 2))))),?_⟩
 rw[show aV fW [T.ref a,T.int (m:Int)]=[some (T.ref a),some (T.int (m:Int)),none,none] from rfl];have hsz:sizeLine=16777216:=rfl;have k':=Box.mk kk;clear kk;have r8:W.row.length<=8:=X.r8;refine aB fun R0 hR0=>?_;walk_at "";intro k D;refine⟨by decide,by decide,trivial,by decide,fun p z=>?_⟩;have e0:([(0,T.tup [T.int 0,T.tup []])]:List (Int × T))=dI evT (evs W beat 0):=rfl;rw[e0] at z ⊢;have n0:k≠p:=aZ au z;have M:H3 p=none:=by rw[aD (Ne.symm n0)] at z;exact z
 have x:Sub3 H3 (up3 (up3 H3 k (.dci (dI evT (evs W beat 0)))) p (.lst [T.ref k])):=(Sub3.new D).trans (Sub3.new z);have v:up3 (up3 H3 k (.dci (dI evT (evs W beat 0)))) p (.lst [T.ref k]) p=some (.lst (([]:List Addr).map T.ref++[T.ref k])):=au;have y:up3 (up3 H3 k (.dci (dI evT (evs W beat 0)))) p (.lst [T.ref k]) k=some (.dci (dI evT (evs W beat 0))):=by rw[aD n0];exact au
 generalize up3 (up3 H3 k (.dci (dI evT (evs W beat 0)))) p (.lst [T.ref k])=H4 at x v y ⊢;clear e0 z n0;walk_at "n";refine aB fun R1 U=>?_;walk_at "";refine⟨trivial,by omega,by omega,?_⟩;rw[fP];refine aW (fun (j:Nat)=>T.int (j:Int)) (List.range m) (fun A R H=>∃(l:List Addr) (q:Addr) (v3:Option T),R=[some (.ref a),some (.int (m:Int)),some (.ref p),v3]/\Sub3 H3 H/\H3 q=none/\l.length=A.length/\H p=some (.lst (l.map T.ref++[T.ref q]))/\QG W beat H l/\H q=some (.dci (dI evT (evs W beat A.length)))) ⟨[],k,_,rfl,x,D,rfl,v,(fun j a e=>by simp at e),y⟩ ?_ ?_
 ·rintro R H ⟨l,q,v3,rfl,sb,Z,F,C,O,t⟩;refine⟨trivial,?_⟩;rw[k_] at F t;walk_at "n";walk_at "";exact Fin3.of Sub3.refl (k'.out H p l q sb F C O t)
 rintro A j B R H N e ⟨l,q,v3,rfl,sb,Z,F,C,O,t⟩ hN;refine⟨trivial,?_⟩;have hA:A.length<m:=by have:=O_ List.length e;simp only[a_,d_,k_] at this;omega
 have hj:j=A.length:=by
  have h1:(List.range m)[A.length]?=some j:=by rw[e,E_ (j_ _)];simp
  rw[Xp hA] at h1;exact (Q_ h1).symm
 subst hj;have x1:atI (l.map T.ref++[T.ref q]) (A.length:Int)=some (T.ref q):=bN (by rw[E_ (by rw[b_];omega),b_,F];simp);have Y:=Box.mk hN;clear hN e k' U x v y;walk_at "";refine⟨⟨trivial,trivial⟩,a,q,W,beat,A.length,A.length,evs W beat A.length,rfl,X,hw.sub sb,by omega,by omega,(dJ (by omega)).eok X,t,fun o L r=>?_⟩;have I:p≠q:=ne3 C t (by simp);have G:p≠L:=aZ C r;have V:q≠L:=aZ t r;have g1:up3 (up3 H q (.dif o (dI evT (evs W beat A.length)))) L (.dci (dI evT (ebh W beat A.length (evs W beat A.length)))) p=some (.lst (l.map T.ref++[T.ref q])):=by rw[aD G,aD I];exact C
 try dsimp only
 rw[g1,J8];refine⟨by rw[a_,b_];simp;omega,Y.out _ _ ⟨l++[q],L,_,rfl,fun b u d=>?_,d9 sb r,by rw[a_,a_,F];rfl,?_,fun i b d=>?_,?_⟩⟩
 ·rw[aD (aZ d M),aD (aZ (sb b u d) r),aD (aZ d Z)];exact sb b u d
 ·rw[au,u_];rfl
 ·by_cases hi:i<l.length
  ·rw[U_ hi] at d;obtain⟨ob,J⟩:=O i b d;refine⟨ob,?_⟩;rw[aD (ne3 J C (by simp)),aD (aZ J r),aD (ne3 J t (by simp))];exact J
  rw[E_ (by omega)] at d;have h0:i - l.length=0:=by
   cases hz:i - l.length with
   |zero=>rfl
   |succ n=>rw[hz] at d;simp at d
  rw[h0] at d;simp only[XC,aag] at d;subst d;refine⟨o,?_⟩;rw[aD (Ne.symm I),aD V,au,show i=A.length by omega]
 rw[aD (Ne.symm G),au,a_];rfl
abbrev iQ:List Str:=["walk","stand","evens","behind","done","even","filling","least","onward"]
theorem sc_evens_behind:FnScope iQ ["walk","stand","evens"] (aA (top 26)):=bB
theorem kO {f:Addr}{fd:FuncData}(g:G3 K mg "evens_behind" (top 26) ["walk","stand","evens"] f fd) (B:Bl mg) {d:Addr}(I_Walk:InsC K d ["works","beat","rules","whole"]) (l:MtC P w K mg base d 3 "fillings_at" ["self","stand","done"] (Vn d)) (C:MtC P w K mg base d 2 "load_at" ["self","number"] (K9 d)):Cal P w K mg base 4 "evens_behind" (top 26) ["walk","stand","evens"] (Vq d):=by
 refine⟨f,fd,g,?_⟩;refine fn3 g.fn sc_evens_behind (fun ts H Q h=>?_) (fun cdv A outer s H E ts H3 Q hr h=>?_)
 ·obtain⟨a,q,W,beat,k,n,E,rfl,_⟩:=h;rfl
 have V:=Room.u1 hr;obtain⟨a,q,W,beat,k,n,E,rfl,hW,hw,hk,hn,hE,hq,kk⟩:=h;refine⟨_,(ak (aF (i:=3) sc_evens_behind.nd CQ)
   (ak (bu G_ rfl (Df (v3 2)) (cD (n:=2) rfl (aG (aC (i:=4) sc_evens_behind.nd) (aG (aC (i:=5) sc_evens_behind.nd) bO))) (aq (bu G_ rfl (cz (qM l (hr.mono (by decide)) (v3 0) (aa (v3 1) (aa (v3 4) aj)))) (aC (i:=6) sc_evens_behind.nd) (ak (aF (i:=7) sc_evens_behind.nd (aJ bh (aH ix3 (v3 5) ao) (aJ Ht (qM C (hr.mono (by decide)) (v3 0) (aa (v3 6) aj)) ao)))
     (ak (aF (i:=8) sc_evens_behind.nd (aJ bh (v3 4) (v3 6)))
     (aq (bM (PW3.pt (j6 (mG V (v3 8) (v3 3)) (iz (aQ o5 (v3 7) (aH ix3 (mF V (v3 3) (v3 8)) ao))))) (aq (CW V (v3 3) (v3 8) (bL (aa (v3 7) (aa (aJ bh (aH ix3 (v3 5) ao) (bL (aa (v3 6) aj))) aj))))) bf)))))))
   (aq (aL (v3 3))))),?_⟩
 rw[show aV iQ [T.ref a,T.int (k:Int),T.ref q]=[some (T.ref a),some (T.int (k:Int)),some (T.ref q),none,none,none,none,none,none] from rfl];have hsz:sizeLine=16777216:=rfl;have k':=Box.mk kk;clear kk;have t2:=lG hW;have hE':=Box.mk hE;clear hE;refine aB fun R0 hR0=>?_;walk_at "";intro j hpb;have J:q≠j:=aZ hq hpb;walk_at "n";refine aB fun R1 hR1=>?_;have gq:up3 H3 j (.dci []) q=some (.dci (dI evT E)):=by rw[aD J];exact hq
 walk_at "";intro o;rw[Vp];have hw0:Wlk d W beat (up3 H3 q (.dif o (dI evT E))) a:=hw.frz hq;have g0:up3 H3 q (.dif o (dI evT E)) q=some (.dif o (dI evT E)):=au;have n0:up3 H3 q (.dif o (dI evT E)) j=none:=by rw[aD (Ne.symm J)];exact hpb
 have kb0:Kb1 j (up3 H3 q (.dif o (dI evT E))) (up3 (up3 H3 j (.dci [])) q (.dif o (dI evT E))):=fun b u hb h=>by
  by_cases e:b=q
  ·subst e;rw[au] at h ⊢;exact h
  rw[aD e] at h ⊢;rw[aD hb];exact h
 have gb0:up3 (up3 H3 j (.dci [])) q (.dif o (dI evT E)) j=some (.dci (dI evT [])):=by rw[aD (Ne.symm J),au];rfl
 have k2:=Box.mk (k'.out o j hpb);generalize up3 (up3 H3 j (.dci [])) q (.dif o (dI evT E))=H4 at kb0 gb0 ⊢;generalize up3 H3 q (.dif o (dI evT E))=H0 at *;clear k' gq hq hw;refine aW evE E (fun A σ H=>∃(v4 v5 G I t:Option T),σ=[some (.ref a),some (.int (k:Int)),some (.ref q),some (.ref j),v4,v5,G,I,t]/\Kb1 j H0 H/\H j=some (.dci (dI evT (A.foldl (ebF W beat k) [])))/\EOk W (n+1) (A.foldl (ebF W beat k) [])) ⟨_,_,_,_,_,rfl,kb0,gb0,⟨Y7,fun _ z=>(nomatch z)⟩⟩ ?_ ?_
 ·rintro σ H ⟨v4,v5,G,I,t,rfl,D,M,_⟩;refine⟨D q _ J g0,?_⟩;walk_at "n";walk_at "";refine Fin3.of (fun b u hb=>?_) k2.out;by_cases e:b=j
  ·subst e;rw[au] at hb;rw[M,<- hb];rfl
  rw[aD e] at hb;exact D b u e hb
 rintro A e B σ H N eE ⟨v4,v5,G,I,t,rfl,D,M,hB⟩ hN;refine⟨D q _ J g0,?_⟩;obtain⟨ed,el,et⟩:=hE'.out.lt e (by rw[eE];simp);have r:(A++[e]).foldl (ebF W beat k) []=ebF W beat k (A.foldl (ebF W beat k) []) e:=by rw[List.foldl_append];rfl
 have hN':=Box.mk hN;clear hN eE hR1 k2 kb0 gb0;rw[r] at hN';generalize A.foldl (ebF W beat k) []=B0 at *;clear r;simp only[evE];walk_at "";have y:=D.wlk n0 hw0;obtain⟨pw,gw,_⟩:=y.ex;have lm:=Ej (W:=W) (beat:=beat) (p:=pw) (m:="fillings_at") (by decide +kernel);refine⟨trivial,?_⟩;try rw[gw,KH]
 refine⟨lm,a,W,beat,k,e.1,rfl,hW,y,hk,ed,fun O Z=>?_⟩;have npf:j≠O:=aZ M Z;have flen:(fls W beat k e.1).length<=256:=W6 (Xi _ _) (by rw[k_];exact t2);have kb1:Kb1 j H0 (up3 H O (.lst ((fls W beat k e.1).map cB))):=D.new Z;have U:up3 H O (.lst ((fls W beat k e.1).map cB)) j=some (.dci (dI evT B0)):=by rw[aD npf];exact M
 have S:up3 H O (.lst ((fls W beat k e.1).map cB)) O=some (.lst ((fls W beat k e.1).map cB)):=au;generalize up3 H O (.lst ((fls W beat k e.1).map cB))=H5 at kb1 U S ⊢;clear D M y gw lm Z;try walk_at ""
 refine aW cB (fls W beat k e.1) (fun A2 σ H=>∃(G I t:Option T),σ=[some (.ref a),some (.int (k:Int)),some (.ref q),some (.ref j),some (.int (e.1:Int)),some (evT e.2),G,I,t]/\Kb1 j H0 H/\H O=some (.lst ((fls W beat k e.1).map cB))/\H j=some (.dci (dI evT (A2.foldl (stp W e.1 e.2) B0)))/\EOk W (n+1) (A2.foldl (stp W e.1 e.2) B0)) ⟨_,_,_,rfl,kb1,S,U,hB⟩ ?_ ?_
 ·rintro σ H ⟨G,I,t,rfl,D,gf,M,L⟩;refine⟨.inl gf,?_⟩;exact hN'.out _ _ ⟨_,_,_,_,_,rfl,D,M,L⟩
 rintro A2 f B2 σ H N eF ⟨G,I,t,rfl,D,gf,M,L⟩ hN2;refine⟨.inl gf,?_⟩;have hf:f∈fls W beat k e.1:=by rw[eF];simp
 have hft:=(fls_mem.mp hf).1;have hon:=yE hW ed hf;have r:(A2++[f]).foldl (stp W e.1 e.2) B0=stp W e.1 e.2 (A2.foldl (stp W e.1 e.2) B0) f:=by rw[List.foldl_append];rfl
 have hB3:=L.stp hW ed el et hf;have hlen:=L.len;have F:=Box.mk hN2;clear hN2 eF hN' kb1 S U hB;rw[r] at F;generalize A2.foldl (stp W e.1 e.2) B0=x at *;clear r;have y:=D.wlk n0 hw0;obtain⟨pw,gw,_⟩:=y.ex;have lm:=Ej (W:=W) (beat:=beat) (p:=pw) (m:="load_at") (by decide +kernel);have Y:=lJ hW (pk W f);have cp:KJ (cJ W.tasks (pk W f)) 2:=⟨rfl,dM Y.1 Y.2⟩;have R:Box (∀(G I t:Option T) (H':Hp3),Kb1 j H0 H'->H' O=some (.lst ((fls W beat k e.1).map cB))->H' j=some (.dci (dI evT (stp W e.1 e.2 x f)))->N [some (.ref a),some (.int (k:Int)),some (.ref q),some (.ref j),some (.int (e.1:Int)),some (evT e.2),G,I,t] H'):=⟨fun G I t H' h1 h2 h3=>F.out _ _ ⟨G,I,t,rfl,h1,h2,h3,hB3⟩⟩;clear F hB3;simp only[evT,cB];refine aB fun R2 hR2=>?_;walk_at "";refine⟨by first | trivial | exact lm,a,W,beat,f,rfl,hW,y,hft,?_⟩;refine⟨cp,?_⟩;show o7 (T.int e.2.1) (T.int (ldN W f^2)) H _;rw[BK];clear y gw lm cp Y;walk_at "n";refine aB fun R3 hR3=>?_;walk_at "";rw[show (e.1:Int)+(f:Int)=((e.1+f:Nat):Int) by push_cast;rfl];walk_at "n";have lk:=lH evT (e.1+f) x;have pt:=QF evT (e.1+f) (e.2.1+ldN W f^2,e.2.2++[f]) x;have dl:=Ek evT x;have hst:stp W e.1 e.2 x f=match bK (e.1+f) x with
   |none=>putN (e.1+f) (e.2.1+ldN W f^2,e.2.2++[f]) x
   |some u=>if e.2.1+ldN W f^2<u.1 then putN (e.1+f) (e.2.1+ldN W f^2,e.2.2++[f]) x else x:=rfl
 have et2:evT (e.2.1+ldN W f^2,e.2.2++[f])=.tup [.int (e.2.1+ldN W f^2),.tup (e.2.2.map cB++[.int (f:Int)])]:=by unfold evT;rw[u_];rfl
 rw[et2] at pt;have yes:Box (stp W e.1 e.2 x f=putN (e.1+f) (e.2.1+ldN W f^2,e.2.2++[f]) x->∀t,N [some (.ref a),some (.int (k:Int)),some (.ref q),some (.ref j),some (.int (e.1:Int)),some (evT e.2),some (.int (f:Int)),some (.int (e.2.1+ldN W f^2)),t] (up3 H j (.dci (qK ((e.1+f:Nat):Int) (.tup [.int (e.2.1+ldN W f^2),.tup (e.2.2.map cB++[.int (f:Int)])]) (dI evT x))))):=⟨fun z t=>R.out _ _ _ _ D.put (by rw[aD (Ne.symm npf)];exact gf) (by rw[au,z,<- pt])⟩;have no:Box (stp W e.1 e.2 x f=x->∀t,N [some (.ref a),some (.int (k:Int)),some (.ref q),some (.ref j),some (.int (e.1:Int)),some (evT e.2),some (.int (f:Int)),some (.int (e.2.1+ldN W f^2)),t] H):=⟨fun z t=>R.out _ _ _ _ D gf (by rw[z];exact M)⟩;clear R pt et2;generalize e.2.1+ldN W f^2=X at *;have v:=Box.mk hst;clear hst;simp only[evT] at yes no;cases el2:bK (e.1+f) x with
 |none=>rw[el2] at lk v;rw[Option.map_none] at lk;walk_at "";exact⟨by omega,by omega,by omega,by omega,yes.out v.out _⟩
 |some u =>
 rw[el2] at lk v;rw[Zh] at lk;simp only[evT] at lk;walk_at "";by_cases c:X<u.1
 ·have hz:=v.out;simp only[c,if_true] at hz;simp only[c,Yu,if_true];exact⟨by omega,by omega,by omega,by omega,yes.out hz _⟩
 have hz:=v.out;simp only[c,Xd] at hz;simp only[c,Yb,K_,Xd];exact no.out hz _
abbrev nM:List Str:=["self","works","beat"]
theorem JB:FnScope nM nM (aA (topm 24 0)):=bB
theorem JC {f:Addr}{fd:FuncData}{c:Addr}(g:GI K mg c "Walk" "Walk.__init__" (topm 24 0) nM f fd) (B:Bl mg) (d:InsC K c ["works","beat","rules","whole"]) (j:Cal P w K mg base 4 "rules_of" (top 17) ["works"] Lh) (i:Cal P w K mg base 1 "number_of" (top 2) ["works","tasks"] Fj) (l:Cal P w K mg base 1 "names_of" (top 21) ["tasks"] Vk):MkC P w K mg base c 5 "Walk" nM (QD c):=by
 refine⟨g.at_,f,fd,g.mk_,g.b,?_⟩;refine fn3 g.fn JB (fun ts H Q h=>?_) (fun cdv A R s H E ts H3 Q N h=>?_)
 ·obtain⟨a,W,beat,rfl,_⟩:=h;rfl
 obtain⟨a,W,beat,rfl,V,ha,k⟩:=h;refine⟨_,(ak (qL d (v3 0) (v3 1))
   (ak (qL d (v3 0) (v3 2))
   (ak (qL d (v3 0) (aK j N rfl (aa (v3 1) aj)))
   (aq (qL d (v3 0) (aK i N rfl (aa (v3 1) (aa (aK l N rfl (aa (aH ix3 (v3 1) ao) aj)) aj)))))))),?_⟩
 rw[show aV nM [T.ref a,W.enc,T.int beat]=[some (T.ref a),some (W.enc),some (T.int beat)] from rfl];have hsz:sizeLine=16777216:=rfl;have k':=Box.mk k;clear k;refine aB fun R0 hR0=>?_;walk_at "";have Z:up3 H3 a (.ins c (dO "works" W.enc [])) a=some (.ins c [("works",W.enc)]):=au;refine⟨by decide,?_⟩;have v:∀b o,b≠a->H3 b=some o->up3 H3 a (.ins c (dO "works" W.enc [])) b=some o:=fun b o m e=>by rw[aD m];exact e
 generalize up3 H3 a (.ins c (dO "works" W.enc []))=S at Z v ⊢;walk_at "n";refine aB fun R1 hR1=>?_;walk_at "";refine⟨by decide,?_⟩;have u:dO "beat" (T.int beat) [("works",W.enc)]=[(("works":Str),W.enc),(("beat":Str),.int beat)]:=by unfold dO;rw[if_neg (by decide +kernel)];rfl
 rw[u];have C:up3 S a (.ins c [("works",W.enc),("beat",.int beat)]) a=some (.ins c [("works",W.enc),("beat",.int beat)]):=au;have r:∀b o,b≠a->H3 b=some o->up3 S a (.ins c [("works",W.enc),("beat",.int beat)]) b=some o:=fun b o m e=>by rw[aD m];exact v b o m e
 generalize up3 S a (.ins c [("works",W.enc),("beat",.int beat)])=J at C r ⊢;clear Z v u;walk_at "n";refine aB fun R2 hR2=>?_;walk_at "";refine⟨W,rfl,V,fun p O=>?_⟩;have t:a≠p:=aZ C O;have U:up3 J p (.lst (W.tasks.map (ruT W (W.tasks.map (·.1))))) p=some (.lst (W.tasks.map (ruT W (W.tasks.map (·.1))))):=au;have Y:up3 J p (.lst (W.tasks.map (ruT W (W.tasks.map (·.1))))) a=some (.ins c [("works",W.enc),("beat",.int beat)]):=by rw[aD t];exact C
 have y:∀b o,b≠a->H3 b=some o->up3 J p (.lst (W.tasks.map (ruT W (W.tasks.map (·.1))))) b=some o:=fun b o m e=>by rw[aD (aZ (r b o m e) O)];exact r b o m e
 generalize up3 J p (.lst (W.tasks.map (ruT W (W.tasks.map (·.1)))))=F at U Y y ⊢;clear C r O;walk_at "";refine⟨by decide,?_⟩;have u:dO "rules" (T.ref p) [("works",W.enc),("beat",.int beat)]=[(("works":Str),W.enc),(("beat":Str),.int beat),(("rules":Str),.ref p)]:=by unfold dO;rw[if_neg (by decide +kernel)];unfold dO;rw[if_neg (by decide +kernel)];rfl
 rw[u];have I:up3 F a (.ins c [("works",W.enc),("beat",.int beat),("rules",.ref p)]) a=some (.ins c [("works",W.enc),("beat",.int beat),("rules",.ref p)]):=au;have G:up3 F a (.ins c [("works",W.enc),("beat",.int beat),("rules",.ref p)]) p=some (.lst (W.tasks.map (ruT W (W.tasks.map (·.1))))):=by rw[aD (Ne.symm t)];exact U
 have n:∀b o,b≠a->H3 b=some o->up3 F a (.ins c [("works",W.enc),("beat",.int beat),("rules",.ref p)]) b=some o:=fun b o m e=>by rw[aD m];exact y b o m e
 generalize up3 F a (.ins c [("works",W.enc),("beat",.int beat),("rules",.ref p)])=L at I G n ⊢;clear U Y y u;walk_at "n";walk_at "";refine⟨W.tasks,rfl,V.t8,fun q D=>?_⟩;have M:a≠q:=aZ I D;have X:p≠q:=aZ G D;try dsimp only
 refine⟨W,_,W.tasks.map (·.1),rfl,V,.inr ⟨q,rfl,au⟩,?_⟩;have ew:numOf (W.tasks.map (·.1)) (W.tasks.map (·.1))=(top2 W:Int) - 1:=by have h1:=pP (W:=W) (A:=nm W) fun x hx=>hx;have h2:=m6 W;rw[cH];show ((bV (nm W) (nm W):Nat):Int)=_;rw[h1];omega
 rw[ew];have g7:up3 L q (.lst ((W.tasks.map (·.1)).map T.str)) a=some (.ins c [("works",W.enc),("beat",.int beat),("rules",.ref p)]):=by rw[aD M];exact I
 have g8:up3 L q (.lst ((W.tasks.map (·.1)).map T.str)) p=some (.lst (W.tasks.map (ruT W (W.tasks.map (·.1))))):=by rw[aD X];exact G
 have z:∀b o,b≠a->H3 b=some o->up3 L q (.lst ((W.tasks.map (·.1)).map T.str)) b=some o:=fun b o m e=>by rw[aD (aZ (n b o m e) D)];exact n b o m e
 generalize up3 L q (.lst ((W.tasks.map (·.1)).map T.str))=H8 at g7 g8 z ⊢;clear I G n D;walk_at "";refine⟨by decide,?_⟩;have u:dO "whole" (T.int ((top2 W:Int) - 1)) [("works",W.enc),("beat",.int beat),("rules",.ref p)]=wkF W beat p:=by unfold dO;rw[if_neg (by decide +kernel)];unfold dO;rw[if_neg (by decide +kernel)];unfold dO;rw[if_neg (by decide +kernel)];rfl
 rw[u];exact Fin3.of Sub3.refl (k'.out _ (fun b o m e=>by rw[aD m];exact z b o m e) ⟨p,au,by rw[aD (Ne.symm t)];exact g8⟩)
abbrev gm:List Str:=["self","stand","done","kind","left"]
theorem sc_fillings_at:FnScope gm ["self","stand","done"] (aA (topm 24 1)):=bB
theorem nO {f:Addr}{fd:FuncData}{l:Addr}(g:GM K l "fillings_at" "Walk.fillings_at" (topm 24 1) ["self","stand","done"] f fd) (B:Bl mg) (j:InsC K l ["works","beat","rules","whole"]) (m:Cal P w K mg base 2 "parts_of" (top 23) ["number"] K8) (c:Cal P w K mg base 2 "is_filling_number" (top 19) ["rules","beat","kind","done","number"] Li):MtC P w K mg base l 3 "fillings_at" ["self","stand","done"] (Vn l):=by
 refine⟨g.cls,f,fd,g.mt,g.b,?_⟩;refine fn3 g.fn sc_fillings_at (fun ts H Q h=>?_) (fun cdv A M s H E ts H3 Q S h=>?_)
 ·obtain⟨a,W,beat,k,d,rfl,_⟩:=h;rfl
 obtain⟨a,W,beat,k,d,rfl,z,hw,hk,hd,Z⟩:=h;refine⟨_,(ak (bM (aQ JW (v3 1) (aP b7 rfl B.len_ b8 (aa (aH ix3 (gR j (v3 0)) ao) aj))) (aq (aL (bI aj))) bf)
   (ak (aF (i:=3) sc_fillings_at.nd (aH ix3 (aH ix3 (gR j (v3 0)) ao) (v3 1)))
   (ak (aF (i:=4) sc_fillings_at.nd (aK m S rfl (aa (aJ jT (gR j (v3 0)) (v3 2)) aj)))
   (aq (aL (bA rfl (bD (n0:=(aA (topm 24 1)).names) (N:=gm) (N':=["number","kind","done","self"]) (nt:=1) (cap:=[3,2,0]) rfl rfl (by decide +kernel)) (cz (v3 4)) (fun cl R s H C0 fp=>⟨(aC (i:=0) (show List.Nodup [("number":Str),("kind":Str),("done":Str),("self":Str)] by decide +kernel)),(dG (c7 (aK c S rfl (aa (gR j (v3 3)) (aa (gR j (v3 3)) (aa (v3 1) (aa (v3 2) (aa (v3 0) aj)))))))),(v3 0)⟩))))))),?_⟩
 rw[show aV gm [T.ref a,T.int (k:Int),T.int (d:Int)]=[some (T.ref a),some (T.int (k:Int)),some (T.int (d:Int)),none,none] from rfl];have hsz:sizeLine=16777216:=rfl;have X:=Box.mk Z;clear Z;have t2:=lG z;have t1:=m6 W;obtain⟨p,L,F⟩:=hw.ex;have f1:=uh (W:=W) (beat:=beat) (p:=p);have f2:=Ji (W:=W) (beat:=beat) (p:=p);have f3:=ul (W:=W) (beat:=beat) (p:=p);have f4:=um (W:=W) (beat:=beat) (p:=p);have x1:=Eg hk;have O:=Box.mk L;have I:=Box.mk F;generalize wkF W beat p=fs at *;refine aB fun R0 hR0=>?_;walk_at "";rw[p_ (by omega),if_neg t_];walk_at "n";refine aB fun R1 hR1=>?_;walk_at "";walk_at "n";refine aB fun R2 hR2=>?_;walk_at "";refine⟨top2 W - 1 - d,by rw[show ((top2 W - 1 - d:Nat):Int)=(top2 W:Int) - 1 - (d:Int) by omega],by omega,fun pl r=>?_⟩;have n1:a≠pl:=aZ L r;have n2:p≠pl:=aZ F r;have u:=zT (W:=W) (beat:=beat) (k:=k) z hd;have Y:(uf (top2 W - 1 - d)).length<=256:=by unfold uf;exact W6 (Xi _ _) (by rw[k_];omega)
 have v:∀i∈uf (top2 W - 1 - d),i<top2 W:=fun i C=>by have:=I_.mp (D_.mp C).1;omega
 generalize uf (top2 W - 1 - d)=ps at *;have n:Sub3 H3 (up3 H3 pl (.lst (ps.map cB))):=Sub3.new r;have h1:=n _ _ O.out;have V:=n _ _ I.out;have U:up3 H3 pl (.lst (ps.map cB)) pl=some (.lst (ps.map cB)):=au;generalize up3 H3 pl (.lst (ps.map cB))=H4 at n h1 V U ⊢;clear L F x1 f1 f4 n1 n2 r;walk_at "n";have y:=Box.mk v;have x:=Box.mk u;clear v u;walk_at "";walk_at "c";refine cU (still:=cF pl (ps.map cB)) (H:=H4) cB cB (fil W beat k d) ps [some (.str (W.row.getD k "")),some (.int (d:Int)),some (.ref a)] (.inl U) (by omega) ?c1 ?c2 ?c3
 case c2=>exact fun i C _ Q' t=>t
 case c1 =>
  intro i C Q' t
  have G:=y.out i C
  have J:=Box.mk t
  clear X t
  simp only[cB]
  walk_at ""
  refine⟨W,p,beat,W.row.getD k "",pk W d,pk W i,?_,z,V,?_⟩
  ·
   rw[QC z hd,QC z G]
  ·
   exact J.out
 case c3 =>
  intro q t
  rw[x.out]
  refine Fin3.of ?_ (X.out q (d9 n t))
  intro b o D
  by_cases e:b=q
  ·
   subst e;rw[au] at D ⊢;exact D
  ·
   rw[aD e] at D ⊢;exact n b o D
abbrev eV:List Str:=["self","number"]
theorem ww:FnScope eV eV (aA (topm 24 3)):=bB
theorem wy {f:Addr}{u:FuncData}{c:Addr}(g:GM K c "load_at" "Walk.load_at" (topm 24 3) eV f u) (B:Bl mg) (j:InsC K c ["works","beat","rules","whole"]) (d:Cal P w K mg base 1 "has_all" (top 18) ["number","part"] yN):MtC P w K mg base c 2 "load_at" eV (K9 c):=by
 refine⟨g.cls,f,u,g.mt,g.b,?_⟩;refine fn3 g.fn ww (fun ts H Q h=>?_) (fun F A n s H E ts H3 Q C h=>?_)
 ·obtain⟨a,W,beat,i,rfl,_⟩:=h;rfl
 obtain⟨a,W,beat,i,rfl,x,J,G,r⟩:=h;refine⟨_,(aq (aL (aP (jn rfl) rfl B.sum_ jo (aa (bA rfl (bD (n0:=(aA (topm 24 3)).names) (N:=eV) (N':=["rule","number"]) (nt:=1) (cap:=[1]) rfl rfl (by decide +kernel)) (cz (gR j (v3 0))) (fun O o s H M V=>⟨(aC (i:=0) (show List.Nodup [("rule":Str),("number":Str)] by decide +kernel)),(dG (c7 (aK d C rfl (aa (v3 1) (aa (aH ix3 (v3 0) ao) aj))))),(aH ix3 (v3 0) ao)⟩)) aj)))),?_⟩;rw[show aV eV [T.ref a,T.int (i:Int)]=[some (T.ref a),some (T.int (i:Int))] from rfl];have hsz:sizeLine=16777216:=rfl;have l:=Box.mk r;clear r;have L:W.tasks.length<=8:=x.t8;obtain⟨p,U,y⟩:=J.ex;have R:=ul (W:=W) (beat:=beat) (p:=p);generalize wkF W beat p=S at *;walk_at "";walk_at "c";refine cU (still:=cF p (W.tasks.map (ruT W (W.tasks.map (·.1))))) (H:=H3) (ruT W (W.tasks.map (·.1))) (fun t=>T.int t.2.1) (fun t=>decide (t.1∈pk W i)) W.tasks [some (.int (i:Int))] (.inl y) (by omega) ?c1 ?c2 ?c3
 case c1 =>
  intro t v z k
  have I:t.1∈W.tasks.map (·.1):=i_.mpr ⟨t,v,rfl⟩
  have D:decide (Builtin.bitAnd (i:Int) (numOf (W.tasks.map (·.1)) [t.1])=numOf (W.tasks.map (·.1)) [t.1])=decide (t.1∈pk W i):=by
   rw[<- QC x G,Xf,v_,v_]
   exact qW I
  have m:=Box.mk k
  clear l k
  simp only[ruT]
  walk_at ""
  refine⟨_,_,rfl,?_⟩
  rw[D]
  exact m.out
 case c2 =>
  intro t v _ z k
  clear l
  simp only[ruT]
  walk_at ""
  try exact k
 case c3 =>
  intro q k
  have e:ints3 ((W.tasks.filter fun t=>decide (t.1∈pk W i)).map fun t=>T.int t.2.1)=some ((W.tasks.filter fun t=>decide (t.1∈pk W i)).map (·.2.1)):=by
   rw[<- dm,N_];rfl
  rw[e,gQ]
  exact Fin3.of (Sub3.new k) l.out
abbrev cY:List Str:=["self","fillings"]
theorem oA:FnScope cY cY (aA (topm 24 4)):=bB
theorem oE {f:Addr}{v:FuncData}{c:Addr}(g:GM K c "dealing_of" "Walk.dealing_of" (topm 24 4) cY f v) (B:Bl mg) (e:InsC K c ["works","beat","rules","whole"]) (d:Cal P w K mg base 1 "tasks_of" (top 3) ["works","number"] Fl):MtC P w K mg base c 2 "dealing_of" cY (Vo c):=by
 refine⟨g.cls,f,v,g.mt,g.b,?_⟩;refine fn3 g.fn oA (fun ts H Q h=>?_) (fun z A r s H E ts H3 Q x h=>?_)
 ·obtain⟨a,W,beat,m,rfl,_⟩:=h;rfl
 obtain⟨a,W,beat,m,rfl,D,F,O,y,k⟩:=h;refine⟨_,(aq (aL (bG cR rfl B.tuple_ cT (aa (bA rfl (bD (n0:=(aA (topm 24 4)).names) (N:=cY) (N':=["filling","self"]) (nt:=1) (cap:=[0]) rfl rfl (by decide +kernel)) (cG (v3 1)) (fun M t s H L S=>⟨(aC (i:=0) (show List.Nodup [("filling":Str),("self":Str)] by decide +kernel)),bQ,(aK d x rfl (aa (gR e (v3 1)) (aa (v3 0) aj)))⟩)) aj)))),?_⟩;rw[show aV cY [T.ref a,T.tup (m.map cB)]=[some (T.ref a),some (T.tup (m.map cB))] from rfl];have hsz:sizeLine=16777216:=rfl;have u:=Box.mk k;clear k;obtain⟨p,R,G⟩:=F.ex;have U:=uh (W:=W) (beat:=beat) (p:=p);generalize wkF W beat p=I at *;walk_at "";walk_at "c";refine cL (still:=cP) (H:=H3) cB (fun i=>sT (pk W i)) m [some (.ref a)] trivial (by omega) ?c1 ?c2
 case c1 =>
  intro i C J l
  have n:=y i C
  have j:((2^W.tasks.length:Nat):Int)=(2:Int)^W.tasks.length:=by push_cast;rfl
  have o:=Box.mk l
  clear u l
  simp only[cB]
  walk_at ""
  exact⟨W,(i:Int),rfl,D,Yh _,by rw[<- j];exact Int.ofNat_lt.mpr n,o.out⟩
 case c2 =>
  intro q l
  have k:=u.out
  rw[N_] at k
  walk_at ""
  exact Fin3.of (Sub3.new l) k
abbrev jA:List Str:=["number","parts","worth"]
theorem sc_parts_of:FnScope jA ["number"] (aA (top 23)):=bB
theorem uG {f:Addr}{fd:FuncData}(g:G3 K mg "parts_of" (top 23) ["number"] f fd) (B:Bl mg) (c:Cal P w K mg base 1 "has_all" (top 18) ["number","part"] yN):Cal P w K mg base 2 "parts_of" (top 23) ["number"] K8:=by
 refine⟨f,fd,g,?_⟩;refine fn3 g.fn sc_parts_of (fun ts H Q h=>?_) (fun cdv A X s H E ts H3 Q hr h=>?_)
 ·obtain⟨N,rfl,_⟩:=h;rfl
 obtain⟨N,rfl,hN,k⟩:=h;refine⟨_,(ak (aF (i:=1) sc_parts_of.nd (bI (aa ao aj)))
   (ak (aF (i:=2) sc_parts_of.nd ao)
   (ak (lY G_ (aQ Br (v3 2) (v3 0)) (ak (bM (c7 (aK c hr rfl (aa (v3 0) (aa (v3 2) aj)))) (aq (aF (i:=1) sc_parts_of.nd (aJ bh (v3 1) (bA rfl (bD (n0:=(aA (top 23)).names) (N:=jA) (N':=["part","worth"]) (nt:=1) (cap:=[2]) rfl rfl (by decide +kernel)) (cz (v3 1)) (fun cl pins s H C0 fp=>⟨(aC (i:=0) (show List.Nodup [("part":Str),("worth":Str)] by decide +kernel)),bQ,(aJ bh (v3 0) (v3 1))⟩))))) bf)
    (aq (aF (i:=2) sc_parts_of.nd (aJ f9 (v3 2) ao)))))
   (aq (aL (v3 1)))))),?_⟩
 rw[show aV jA [T.int (N:Int)]=[some (T.int (N:Int)),none,none] from rfl];have hsz:sizeLine=16777216:=rfl;have k':=Box.mk k;clear k;refine aB fun R0 hR0=>?_;walk_at "";refine⟨by decide,fun J M=>?_⟩;have x:Sub3 H3 (up3 H3 J (.lst [T.int 0])):=Sub3.new M;have W:up3 H3 J (.lst [T.int 0]) J=some (.lst (((List.range (2^0)).filter (dH N)).map cB)):=by
  have h0:dH N 0=true:=by rw[iI];exact Nat.and_zero N
  rw[au,show (List.range (2^0))=[0] from rfl,Ym,h0];rfl
 generalize up3 H3 J (.lst [T.int 0])=H4 at x W ⊢;walk_at "n";refine aB fun R1 hR1=>?_;walk_at "";walk_at "n";refine aB fun R2 U=>?_;refine⟨fun m σ H=>∃(j:Nat) (q:Addr),σ=[some (.int (N:Int)),some (.ref q),some (.int ((2^j:Nat):Int))]/\Sub3 H3 H/\H3 q=none/\H q=some (.lst (((List.range (2^j)).filter (dH N)).map cB))/\m=512 - 2^j/\(∀i,i+1=j->2^i<=N),⟨_,0,J,rfl,x,M,W,rfl,(fun i h=>by omega)⟩,?_⟩;rintro m σ H ⟨j,q,rfl,S,G,t,rfl,hj⟩;have hj9:2^j<=256:=by
  cases j with
  |zero=>decide
  |succ i =>
   have h1:=hj i rfl
   have h2:i<8:=by
    rcases Nat.lt_or_ge i 8 with z | z
    ·
     exact z
    ·
     have:=ZG (n:=2) (by decide) z
     omega
   exact W6 (ZG (by decide) (show i+1<=8 by omega)) (by decide)
 have hp:=Nat.pow_pos (n:=j) (show 0<2 by decide);walk_at "";by_cases v:2^j<=N
 ·have d:decide (((2^j:Nat):Int)<=(N:Int))=true:=q_ (Int.ofNat_le.mpr v);rw[d,if_pos rfl];have hlen:(((List.range (2^j)).filter (dH N))).length<=256:=W6 (Xi _ _) (by rw[k_];exact hj9);have l:=Ei (N:=N) (k:=j);have e2:((2^j:Nat):Int)*2=((2^(j+1):Nat):Int):=by rw[Nat.pow_succ];push_cast;rfl
  have cm:CMul ((2^j:Nat):Int) 2:=.inl ⟨by omega,by omega⟩;have D:2^(j+1)=2^j*2:=by rw[Nat.pow_succ]
  have y:Box (∀(I:Addr) (H':Hp3),Sub3 H3 H'->H3 I=none->H' I=some (.lst (((List.range (2^(j+1))).filter (dH N)).map cB))->∃m',m'<512 - 2^j/\∃(R:Nat) (q:Addr),([some (.int (N:Int)),some (.ref I),some (.int (((2^j:Nat):Int)*2))]:St3)=[some (.int (N:Int)),some (.ref q),some (.int ((2^R:Nat):Int))]/\Sub3 H3 H'/\H3 q=none/\H' q=some (.lst (((List.range (2^R)).filter (dH N)).map cB))/\m'=512 - 2^R/\(∀i,i+1=R->2^i<=N)):=⟨fun I H' s1 s2 s3=>⟨_,by omega,j+1,I,by rw[e2],s1,s2,s3,rfl,fun i hi=>by rw[show i=j by omega];exact v⟩⟩;clear hj U k' W x e2 d D;generalize (List.range (2^(j+1))).filter (dH N)=nx at *;generalize hcur:(List.range (2^j)).filter (dH N)=a at *;refine⟨(N:Int),((2^j:Nat):Int),rfl,?_⟩;rw[show decide (Builtin.bitAnd (N:Int) ((2^j:Nat):Int)=((2^j:Nat):Int))=dH N (2^j) from rfl];generalize 2^j=p at *;cases C:dH N p with
  |false=>rw[C] at l;simp only[K_,Xd,J_] at l;simp only[jq,K_,Xd];rw[<- l] at t;exact⟨by first | trivial | exact cm,y.out q _ S G t⟩
  |true =>
  rw[C] at l;simp only[if_true] at l;try simp only[jq,if_true]
  walk_at "c";rw[t,pB];refine cL cB (fun i=>cB (i+p)) a [some (.int (p:Int))] (.inl t) (by omega) (fun i hi Q' r=>?_) (fun O u=>?_)
  ·simp only[cB] at r ⊢;rw[show ((i+p:Nat):Int)=(i:Int)+(p:Int) by push_cast;rfl] at r;have Y:=Box.mk r;clear r y;walk_at "";exact Y.out
  have V:q≠O:=aZ t u;rw[aD V,t,my];refine⟨by rw[b_,b_];omega,fun pq L=>?_⟩;have F:Sub3 H3 (up3 (up3 H O (.lst (a.map fun i=>cB (i+p)))) pq (.lst (a.map cB++a.map fun i=>cB (i+p)))):=(S.trans (Sub3.new u)).trans (Sub3.new L);have Z:H3 pq=none:=d9 (S.trans (Sub3.new u)) L;have gq:up3 (up3 H O (.lst (a.map fun i=>cB (i+p)))) pq (.lst (a.map cB++a.map fun i=>cB (i+p))) pq=some (.lst (nx.map cB)):=by rw[au,l,u_,N_];rfl
  generalize up3 (up3 H O (.lst (a.map fun i=>cB (i+p)))) pq (.lst (a.map cB++a.map fun i=>cB (i+p)))=H5 at F gq ⊢;exact⟨by first | trivial | exact cm,y.out pq _ F Z gq⟩
 have d:decide (((2^j:Nat):Int)<=(N:Int))=false:=p_ (fun z=>v (Int.ofNat_le.mp z));rw[d,if_neg t_];rw[yD (by omega)] at t;walk_at "n";walk_at "";refine Fin3.of ?_ (k'.out q G);intro b o C;by_cases e:b=q
 ·subst e;rw[au] at C;rw[t,C]
 rw[aD e] at C;exact S b o C
theorem uH:FnScope ["tasks"] ["tasks"] (aA (top 21)):=bB
theorem uI {f:Addr}{e:FuncData}(g:G3 K mg "names_of" (top 21) ["tasks"] f e) (B:Bl mg):Cal P w K mg base 1 "names_of" (top 21) ["tasks"] Vk:=by
 refine⟨f,e,g,?_⟩;refine fn3 g.fn uH (fun ts H Q h=>?_) (fun m A a s H E ts H3 Q v h=>?_)
 ·obtain⟨tk,rfl,_⟩:=h;rfl
 obtain⟨tk,rfl,u,k⟩:=h;refine⟨_,(aq (aL (bA rfl (bD (n0:=(aA (top 21)).names) (N:=["tasks"]) (N':=["task"]) (nt:=1) (cap:=[]) rfl rfl (by decide +kernel)) (cG (v3 0)) (fun r c s H n o=>⟨(aC (i:=0) (show List.Nodup [("task":Str)] by decide +kernel)),bQ,(aH ix3 (v3 0) ao)⟩)))),?_⟩;rw[show aV ["tasks"] [T.tup (tk.map tkT)]=[some (T.tup (tk.map tkT))] from rfl];have hsz:sizeLine=16777216:=rfl;have d:=Box.mk k;clear k;walk_at "";walk_at "c";refine cL tkT (fun t=>T.str t.1) tk [] trivial (by omega) (fun t p q j=>?_) (fun l b=>?_)
 ·clear d;simp only[tkT];walk_at "";try exact j
 have:=d.out l b;rw[N_] at this;exact Fin3.of Sub3.refl this
abbrev nP:List Str:=["works","rules","name","length","kinds","own","group","ahead","apart"]
theorem sc_rules_of:FnScope nP ["works"] (aA (top 17)):=bB
theorem uJ {f:Addr}{Y:FuncData}(g:G3 K mg "rules_of" (top 17) ["works"] f Y) (B:Bl mg) (d:Cal P w K mg base 1 "number_of" (top 2) ["works","tasks"] Fj) (j:Cal P w K mg base 1 "apart_from" (top 16) ["works","task"] Lg) (l:Cal P w K mg base 3 "ahead_of" (top 12) ["works","task"] Vz) (m:Cal P w K mg base 3 "group_of" (top 11) ["works","task"] Vy):Cal P w K mg base 4 "rules_of" (top 17) ["works"] Lh:=by
 refine⟨f,Y,g,?_⟩;refine fn3 g.fn sc_rules_of (fun ts H Q h=>?_) (fun Z A J s H E ts H3 Q t h=>?_)
 ·obtain⟨W,rfl,_⟩:=h;rfl
 obtain⟨⟨tk,c,prs,b⟩,rfl,r,k⟩:=h;refine⟨_,(ak (aF (i:=1) sc_rules_of.nd (bI aj))
   (ak (bu G_ rfl (cG (aH ix3 (v3 0) ao)) (cD (n:=3) rfl (aG (aC (i:=2) sc_rules_of.nd) (aG (aC (i:=3) sc_rules_of.nd) (aG (aC (i:=4) sc_rules_of.nd) bO)))) (ak (aF (i:=5) sc_rules_of.nd (aK d t rfl (aa (v3 0) (aa (bL (aa (v3 2) aj)) aj))))
    (ak (aF (i:=6) sc_rules_of.nd (aK d t rfl (aa (v3 0) (aa (aK m t rfl (aa (v3 0) (aa (v3 2) aj))) aj))))
    (ak (aF (i:=7) sc_rules_of.nd (aK d t rfl (aa (v3 0) (aa (aK l t rfl (aa (v3 0) (aa (v3 2) aj))) aj))))
    (ak (aF (i:=8) sc_rules_of.nd (aK d t rfl (aa (v3 0) (aa (aK j t rfl (aa (v3 0) (aa (v3 2) aj))) aj))))
    (aq (cg (dq M_ S_ T_ bJ (v3 1) (aa (bL (aa (v3 5) (aa (v3 3) (aa (v3 4) (aa (v3 6) (aa (v3 7) (aa (v3 8) aj))))))) aj)))))))))
   (aq (aL (v3 1))))),?_⟩
 rw[show aV nP [Wk.enc ⟨tk,c,prs,b⟩]=[some (T.tup [T.tup (tk.map tkT),T.tup (c.map orT),T.tup (prs.map prT),T.tup (b.map T.str)]),none,none,none,none,none,none,none,none] from rfl];have hsz:sizeLine=16777216:=rfl;have t8:tk.length<=8:=r.t8;walk_at "";refine⟨by omega,fun p G=>?_⟩;refine aW tkT tk (fun A I H=>∃(C v3 F O D R S:Option T) (u:Hp3),I=[some (T.tup [T.tup (tk.map tkT),T.tup (c.map orT),T.tup (prs.map prT),T.tup (b.map T.str)]),some (.ref p),C,v3,F,O,D,R,S]/\H=up3 u p (.lst (A.map (ruT ⟨tk,c,prs,b⟩ (tk.map (·.1)))))/\Sub3 H3 u/\H3 p=none) ⟨none,none,none,none,none,none,none,H3,rfl,rfl,Sub3.refl,G⟩ ?_ ?_
 ·rintro I H ⟨C,v3,F,O,D,R,S,u,rfl,rfl,U,_⟩;refine⟨trivial,?_⟩;walk_at "";refine Fin3.of (fun a o e=>?_) (k p G);by_cases h:a=p
  ·subst h;rw[au] at e ⊢;exact e
  rw[aD h] at e ⊢;exact U _ _ e
 rintro A ⟨nm,x,ks⟩ B I H N e ⟨C,v3,F,O,D,R,S,u,rfl,rfl,U,_⟩ V;have X:A.length<=8:=by have:=O_ List.length e;simp only[a_,d_] at this;omega
 refine⟨trivial,?_⟩;have y:Box (∀q,up3 u p (.lst (A.map (ruT ⟨tk,c,prs,b⟩ (tk.map (·.1))))) q=none->N [some (T.tup [T.tup (tk.map tkT),T.tup (c.map orT),T.tup (prs.map prT),T.tup (b.map T.str)]),some (.ref p),some (.str nm),some (.int x),some (sT ks),some (.int (numOf (tk.map (·.1)) [nm])),some (.int (numOf (tk.map (·.1)) (jt ⟨tk,c,prs,b⟩ nm))),some (.int (numOf (tk.map (·.1)) (ju ⟨tk,c,prs,b⟩ nm))),some (.int (numOf (tk.map (·.1)) (jH ⟨tk,c,prs,b⟩ nm)))] (up3 (up3 (up3 u p (.lst (A.map (ruT ⟨tk,c,prs,b⟩ (tk.map (·.1)))))) q (.lst ((jH ⟨tk,c,prs,b⟩ nm).map T.str))) p (.lst (A.map (ruT ⟨tk,c,prs,b⟩ (tk.map (·.1)))++[ruT ⟨tk,c,prs,b⟩ (tk.map (·.1)) (nm,x,ks)])))):=⟨fun q z=>by
  obtain⟨M,v⟩:=cA z
  refine V _ _ ⟨_,_,_,_,_,_,_,up3 u q (.lst ((jH ⟨tk,c,prs,b⟩ nm).map T.str)),rfl,?_,U.trans (Sub3.new v),G⟩
  rw[u_,BW (Ne.symm M),wM]
  rfl⟩
 have L:(A.map (ruT ⟨tk,c,prs,b⟩ (tk.map (·.1)))).length<=8:=by rw[b_];exact X
 generalize A.map (ruT ⟨tk,c,prs,b⟩ (tk.map (·.1)))=cur at y L;clear V e k X;simp only[tkT];walk_at "";refine⟨trivial,by omega,⟨tk,c,prs,b⟩,_,[nm],rfl,r,.inl rfl,?_⟩;walk_at "";refine⟨⟨tk,c,prs,b⟩,nm,rfl,r,?_⟩;try dsimp only
 refine⟨⟨tk,c,prs,b⟩,_,jt ⟨tk,c,prs,b⟩ nm,rfl,r,.inl rfl,?_⟩;walk_at "";refine⟨⟨tk,c,prs,b⟩,nm,rfl,r,?_⟩;try dsimp only
 refine⟨⟨tk,c,prs,b⟩,_,ju ⟨tk,c,prs,b⟩ nm,rfl,r,.inl rfl,?_⟩;walk_at "";refine⟨⟨tk,c,prs,b⟩,nm,rfl,r,fun q z=>?_⟩;obtain⟨M,v⟩:=cA z;have n1':=Ne.symm M;try dsimp only
 refine⟨⟨tk,c,prs,b⟩,_,jH ⟨tk,c,prs,b⟩ nm,rfl,r,.inr ⟨q,rfl,au⟩,?_⟩;walk_at "";exact⟨⟨trivial,trivial⟩,by omega,by omega,y.out q z⟩
abbrev eO:List Str:=["rules","beat","kind","done","number","load","own","length","kinds","group","ahead","apart"]
theorem sc_is_filling_number:FnScope eO ["rules","beat","kind","done","number"] (aA (top 19)):=bB
theorem iR {f:Addr}{fd:FuncData}(g:G3 K mg "is_filling_number" (top 19) ["rules","beat","kind","done","number"] f fd) (B:Bl mg) (b:Cal P w K mg base 1 "has_all" (top 18) ["number","part"] yN) (d:Cal P w K mg base 1 "may_be_done" (top 14) ["kinds","kind"] Le):Cal P w K mg base 2 "is_filling_number" (top 19) ["rules","beat","kind","done","number"] Li:=by
 refine⟨f,fd,g,?_⟩;refine fn3 g.fn sc_is_filling_number (fun ts H Q h=>?_) (fun cdv A Z s H E ts H3 Q L h=>?_)
 ·obtain⟨W,a,beat,c,D,S,rfl,_⟩:=h;rfl
 have O:=Room.u30 L;obtain⟨W,a,beat,c,D,S,rfl,hW,ha,k⟩:=h;refine⟨_,(ak (aF (i:=5) sc_is_filling_number.nd ao)
   (ak (bu G_ rfl (cz (v3 0)) (cD (n:=6) rfl (aG (aC (i:=6) sc_is_filling_number.nd) (aG (aC (i:=7) sc_is_filling_number.nd) (aG (aC (i:=8) sc_is_filling_number.nd) (aG (aC (i:=9) sc_is_filling_number.nd) (aG (aC (i:=10) sc_is_filling_number.nd) (aG (aC (i:=11) sc_is_filling_number.nd) bO))))))) (aq (bM (c7 (aK b L rfl (aa (v3 4) (aa (v3 6) aj)))) (ak (bM (PW3.pt (j6 (c7 (aK b L rfl (aa (v3 3) (aa (v3 6) aj)))) (iz (jR (c7 (aK d L rfl (aa (v3 8) (aa (v3 2) aj)))))))) (aq (aL dZ)) bf)
     (ak (bM (PW3.pt (j6 (jR (c7 (aK b L rfl (aa (v3 4) (aa (v3 9) aj))))) (iz (jR (c7 (aK b L rfl (aa (aJ Ud (v3 4) (v3 3)) (aa (v3 10) aj)))))))) (aq (aL dZ)) bf)
     (ak (bM (aQ (j8 O) (aJ qJ (v3 4) (v3 11)) ao) (aq (aL dZ)) bf)
     (aq (aF (i:=5) sc_is_filling_number.nd (aJ bh (v3 5) (v3 7))))))) bf)))
   (aq (aL (cZ Br (v3 5) (v3 1)))))),?_⟩
 rw[show aV eO [T.ref a,T.int beat,T.str c,T.int (numOf (W.tasks.map (·.1)) D),T.int (numOf (W.tasks.map (·.1)) S)]=[some (T.ref a),some (T.int beat),some (T.str c),some (T.int (numOf (W.tasks.map (·.1)) D)),some (T.int (numOf (W.tasks.map (·.1)) S)),none,none,none,none,none,none,none] from rfl];have hsz:sizeLine=16777216:=rfl;walk_at "";refine aW (ruT W (W.tasks.map (·.1))) W.tasks (fun A Y H=>∃(C F I J l m:Option T),Y=[some (.ref a),some (.int beat),some (.str c),some (.int (numOf (W.tasks.map (·.1)) D)),some (.int (numOf (W.tasks.map (·.1)) S)),some (.int (cJ A S)),C,F,I,J,l,m]/\H=H3/\(A.all fun t=>!decide (t.1∈S)||okT W c D S t)=true) ⟨none,none,none,none,none,none,rfl,rfl,rfl⟩ ?_ ?_
 ·rintro Y H ⟨C,F,I,J,l,m,rfl,rfl,o⟩;refine⟨.inl ha,?_⟩;walk_at "";refine Fin3.of Sub3.refl ?_;unfold vJ at k;rw[o,aai] at k;exact k
 rintro A t B Y H N e ⟨C,F,I,J,l,m,rfl,rfl,o⟩ hN;refine⟨.inl ha,?_⟩;have G:t∈W.tasks:=by rw[e];simp
 have y:t.1∈W.tasks.map (·.1):=i_.mpr ⟨t,G,rfl⟩;have r:∀x∈jt W t.1,x∈W.tasks.map (·.1):=fun x j=>(D_.mp j).1;have u:∀x∈ju W t.1,x∈W.tasks.map (·.1):=fun x j=>(D_.mp j).1;have v:∀x∈jH W t.1,x∈W.tasks.map (·.1):=fun x j=>by obtain⟨p,hp,rfl⟩:=i_.mp j;exact (hW.pp p (D_.mp hp).1).2.2.2
 have b1:decide (Builtin.bitAnd (numOf (W.tasks.map (·.1)) S) (numOf (W.tasks.map (·.1)) [t.1])=numOf (W.tasks.map (·.1)) [t.1])=decide (t.1∈S):=by rw[Xf,v_,v_];exact qW y
 have b2:decide (Builtin.bitAnd (numOf (W.tasks.map (·.1)) D) (numOf (W.tasks.map (·.1)) [t.1])=numOf (W.tasks.map (·.1)) [t.1])=decide (t.1∈D):=by rw[Xf,v_,v_];exact qW y
 have b3:decide (Builtin.bitAnd (numOf (W.tasks.map (·.1)) S) (numOf (W.tasks.map (·.1)) (jt W t.1))=numOf (W.tasks.map (·.1)) (jt W t.1))=@decide (∀x∈jt W t.1,x∈S) (Classical.propDecidable _):=by rw[Xf,v_,@v_ _ (Classical.propDecidable _),fM];exact⟨fun h x j=>h x (r x j) j,fun h x _ j=>h x j⟩
 have b4:decide (Builtin.bitAnd (Builtin.bitOr (numOf (W.tasks.map (·.1)) S) (numOf (W.tasks.map (·.1)) D)) (numOf (W.tasks.map (·.1)) (ju W t.1))=numOf (W.tasks.map (·.1)) (ju W t.1))=@decide (∀x∈ju W t.1,x∈S++D) (Classical.propDecidable _):=by rw[Xf,v_,@v_ _ (Classical.propDecidable _),Qd,fM];exact⟨fun h x j=>h x (u x j) j,fun h x _ j=>h x j⟩
 have b5:decide (Builtin.bitAnd (numOf (W.tasks.map (·.1)) S) (numOf (W.tasks.map (·.1)) (jH W t.1))=0)=@decide (∀x∈jH W t.1,x∉S) (Classical.propDecidable _):=by rw[Xf,v_,@v_ _ (Classical.propDecidable _),qR];exact⟨fun h x j hs=>h x (v x j) ⟨hs,j⟩,fun h x _ z=>h x z.2 z.1⟩
 have q:Box (t.1∈S->okT W c D S t=false->Fin3 Q (.bl false) H):=⟨fun h1 h2=>by
  refine Fin3.of Sub3.refl ?_
  have e0:vJ W beat c D S=false:=by
   unfold vJ
   rw[Bool.and_eq_false_iff]
   refine .inl ?_
   rw[List.all_eq_false]
   exact⟨t,G,by simp [h1,h2]⟩
  rw[e0] at k
  exact k⟩
 have M:Box (∀(C F I J l m:Option T),(t.1∈S->okT W c D S t=true)->N [some (.ref a),some (.int beat),some (.str c),some (.int (numOf (W.tasks.map (·.1)) D)),some (.int (numOf (W.tasks.map (·.1)) S)),some (.int (cJ A S+if t.1∈S then t.2.1 else 0)),C,F,I,J,l,m] H):=⟨fun C F I J l m h=>hN _ _ ⟨C,F,I,J,l,m,by rw[vK],rfl,by
  rw[List.all_append,o]
  by_cases z:t.1∈S
  ·
   simp [h z]
  ·
   simp [z]⟩⟩
 clear hN o k e r u v y G;obtain⟨nm,len,ks⟩:=t;dsimp only at *;generalize numOf (W.tasks.map (·.1)) D=nD at *;generalize numOf (W.tasks.map (·.1)) S=nS at *;simp only[ruT];generalize numOf (W.tasks.map (·.1)) [nm]=n1 at *;generalize numOf (W.tasks.map (·.1)) (jt W nm)=n2 at *;generalize numOf (W.tasks.map (·.1)) (ju W nm)=n3 at *;generalize numOf (W.tasks.map (·.1)) (jH W nm)=n4 at *;unfold okT at q M;dsimp only at q M;generalize U:decide (nm∈D)=c1 at *;generalize X:@decide (∀x∈jt W nm,x∈S) (Classical.propDecidable _)=c3 at *;generalize R:@decide (∀x∈ju W nm,x∈S++D) (Classical.propDecidable _)=c4 at *;generalize V:@decide (∀x∈jH W nm,x∉S) (Classical.propDecidable _)=c5 at *;clear U X R V;walk_at "";refine⟨trivial,nS,n1,rfl,?_⟩;rw[b1];by_cases hS:nm∈S
 ·simp only[hS,Yu,if_true,jq,true_implies] at q M ⊢;refine⟨nD,n1,rfl,?_⟩;rw[b2];cases c1 with
  |true =>
   try simp only[jq,if_true]
   exact q.out (by simp)
  |false =>
  simp only[jq,K_,Xd];refine⟨ks,c,rfl,?_⟩;generalize jG ks c=c2 at *;cases c2 with
  |false=>simp only[jq,Ys,if_true];exact q.out (by simp)
  |true =>
  simp only[jq,Xw,K_,Xd];refine⟨nS,n2,rfl,?_⟩;rw[b3];cases c3 with
  |false=>simp only[jq,Ys,if_true];exact q.out (by simp)
  |true =>
  simp only[jq,Xw,K_,Xd];refine⟨Builtin.bitOr nS nD,n3,rfl,?_⟩;rw[b4];cases c4 with
  |false=>simp only[jq,Ys,if_true];exact q.out (by simp)
  |true =>
  simp only[jq,Xw,K_,Xd];try rw[b5]
  cases c5 with
  |false=>simp only[Ys,if_true];exact q.out (by simp)
  |true =>
  simp only[Xw,K_,Xd];exact M.out _ _ _ _ _ _ (by simp)
 simp only[hS,Yb,K_,Xd,jq,Int.add_zero,false_implies] at q M ⊢;exact M.out _ _ _ _ _ _ (by first | trivial | simp)
end
def Fq (K:Frag):Bool:=K.all fun p=>!(p.2.cls==.type "list")
theorem Ft {K:Frag}{a:Addr}{o:Obj}(e:K.lookup a=some o):(a,o)∈K:=by
 induction K with
 |nil=>cases e
 |cons p r c =>
 obtain⟨b,u⟩:=p;rw[X_] at e;split at e
 ·rename_i h;rw[eq_of_beq h,Q_ e];exact m_
 exact F_ _ (c e)
theorem z6 {K:Frag}(h:Fq K=true) {a:Addr}{o:Obj}(e:K.lookup a=some o):o.cls≠.type "list":=fun z=>by
 have b:(a,o)∈K:=Ft e;have q:=Xh.mp h (a,o) b;rw[z] at q;simp at q
theorem uc {n:Nat}{us:List Value}(h:us.length=n+1):∃(a:Value) (r:List Value),us=a::r/\r.length=n:=by
 cases us with
 |nil=>exact nomatch h
 |cons a r=>exact⟨a,r,rfl,Nat.succ.inj h⟩
theorem uz {us:List Value}(h:us.length=0):us=[]:=Yz h
theorem ub1 {c:FuncData}{b:Str}(h:∀a:Value,bindArgs c ⟨[a],[]⟩=pure ([b].zip [a])) (us:List Value) (e:us.length=1):bindArgs c ⟨us,[]⟩=pure ([b].zip us):=by
 obtain⟨a,g,f,d⟩:=uc e;rw[f,uz d];exact h a
theorem ub2 {f:FuncData}{c d:Str}(h:∀a b:Value,bindArgs f ⟨[a,b],[]⟩=pure ([c,d].zip [a,b])) (us:List Value) (e:us.length=2):bindArgs f ⟨us,[]⟩=pure ([c,d].zip us):=by
 obtain⟨a,m,i,g⟩:=uc e;obtain⟨b,l,j,k⟩:=uc g;rw[i,j,uz k];exact h a b
theorem ub3 {i:FuncData}{d g f:Str}(h:∀a c b:Value,bindArgs i ⟨[a,c,b],[]⟩=pure ([d,g,f].zip [a,c,b])) (us:List Value) (e:us.length=3):bindArgs i ⟨us,[]⟩=pure ([d,g,f].zip us):=by
 obtain⟨a,q,m,j⟩:=uc e;obtain⟨c,p,o,k⟩:=uc j;obtain⟨b,r,l,n⟩:=uc k;rw[m,o,l,uz n];exact h a c b
theorem ub4 {j:FuncData}{f g i k:Str}(h:∀a c b d:Value,bindArgs j ⟨[a,c,b,d],[]⟩=pure ([f,g,i,k].zip [a,c,b,d])) (us:List Value) (e:us.length=4):bindArgs j ⟨us,[]⟩=pure ([f,g,i,k].zip us):=by
 obtain⟨a,t,n,m⟩:=uc e;obtain⟨c,v,q,l⟩:=uc m;obtain⟨b,w,p,o⟩:=uc l;obtain⟨d,u,r,s⟩:=uc o;rw[n,q,p,r,uz s];exact h a c b d
theorem ub5 {l:FuncData}{g i j m k:Str}(h:∀b d c f a:Value,bindArgs l ⟨[b,d,c,f,a],[]⟩=pure ([g,i,j,m,k].zip [b,d,c,f,a])) (us:List Value) (e:us.length=5):bindArgs l ⟨us,[]⟩=pure ([g,i,j,m,k].zip us):=by
 obtain⟨b,x,q,o⟩:=uc e;obtain⟨d,A,t,n⟩:=uc o;obtain⟨c,B,s,r⟩:=uc n;obtain⟨f,z,u,v⟩:=uc r;obtain⟨a,y,w,p⟩:=uc v;rw[q,t,s,u,w,uz p];exact h b d c f a
theorem W5 {K:Frag}{h:Heap}{j:Str->Option Value}{x:Str}{st:Stmt}{ps:List Str}{f:Addr}{oc:Value}{od e:Option Addr}{osl:Array (Option Value)}{kV d i b g:Value}(X:K.In h) (G:h.Ns mainGlobals j)
  (a:nsIn K mainGlobals x=some (some (.ref f))) (l:K.lookup f=some ⟨oc,od,.func (fnOf x x (cu st) (bW st) (aA st) .none kV d i e b g),osl⟩) (c:codeIn K b x=true) (k:keepIn K (.ref f)=true)
  (m:∀(kV d i:Value) (e:Option Addr) (b g:Value) (us:List Value),us.length=ps.length->bindArgs (fnOf x x (cu st) (bW st) (aA st) .none kV d i e b g) ⟨us,[]⟩=pure (ps.zip us)) :
  G3 K j x st ps f (fnOf x x (cu st) (bW st) (aA st) .none kV d i e b g) :=
 have F:=lQ (st:=st) l c k
 ⟨F,F.binds m,mg_of X G a⟩
theorem cI (i:Nat) (ps:List Str) (x:Str) (f:Addr) (m:Str) (t c:Nat) {K:Frag}{h:Heap}{b:Str->Option Value}(X:K.In h) (G:h.Ns mainGlobals b)
  (d:∀(kV doc pm:Value) (an:Option Addr) (cdv ct:Value) (us:List Value),us.length=ps.length->bindArgs (fnOf x x (cu (top i)) (bW (top i)) (aA (top i)) .none kV doc pm an cdv ct) ⟨us,[]⟩=pure (ps.zip us))
  (a:nsIn K mainGlobals x=some (some (.ref f)):=by kernel_rfl) (l:K.lookup f=some (fO i x m t c):=by kernel_rfl) (e:codeIn K (.ref c) x=true:=by kernel_rfl) (k:keepIn K (.ref f)=true:=by kernel_rfl) :
  G3 K b x (top i) ps f (fnOf x x (cu (top i)) (bW (top i)) (aA (top i)) .none .none .none (.str m t) none (.ref c) .none) :=
 W5 X G a l e k d
def VB:Stmt->Pos->Pos
 |.FunctionDef _ _ _ _ _ _ _ _ _ p,_=>p
 |_,p=>p
def dv:DefRec:=⟨"law",cu (top 48),bW (top 48),aA (top 48),VB (top 48) default⟩
theorem all_ok {l:PySem.W.OpenLaw}{w:World}{h:Heap}{mg:Str->Option Value}{fa:Addr}(X:(KK w.params).In h) (G:h.Ns mainGlobals mg) (hfa:mg "law"=some (.ref fa)) :
  ∃fd:FuncData,(∀(s:Shared) (v:Value),BindsTo s fd ⟨[v],[]⟩ [("_law_script",v)])/\∀base:Heap,(KK w.params).In base->base.Ns mainGlobals mg->j7 l.prog w (KK w.params) mg base 8 fa fd ["_law_script"] yP:=by
 have at_:∀{n:Str} {v:Value},nsIn (KK w.params) mainGlobals n=some (some v)->mg n=some v:=fun e=>mg_of X G e;have c:∀{n:Str},nsIn (KK w.params) mainGlobals n=some none->mg n=none:=fun e=>PySem.W.mg_none_of X G e;have e:=hfa.symm.trans (at_ (v:=.ref 299) (by kernel_rfl));cases e;have B:Bl mg:=⟨c (by kernel_rfl),c (by kernel_rfl),c (by kernel_rfl),c (by kernel_rfl),c (by kernel_rfl),c (by kernel_rfl),c (by kernel_rfl),c (by kernel_rfl),c (by kernel_rfl),c (by kernel_rfl),c (by kernel_rfl),c (by kernel_rfl),c (by kernel_rfl),c (by kernel_rfl),c (by kernel_rfl),c (by kernel_rfl),c (by kernel_rfl),c (by kernel_rfl),c (by kernel_rfl),c (by kernel_rfl)⟩;have g__wall:=cI 0 ["k"] "_wall" 21 "__main__" 164 20 X G fun _ _ _ _ _ _=>ub1 fun _=>rfl;have g_number_of:=cI 2 ["works","tasks"] "number_of" 28 "stationrow.sets" 194 27 X G fun _ _ _ _ _ _=>ub2 fun _ _=>rfl;have g_tasks_of:=cI 3 ["works","number"] "tasks_of" 35 "stationrow.sets" 194 34 X G fun _ _ _ _ _ _=>ub2 fun _ _=>rfl;have g_links_of:=cI 5 ["works"] "links_of" 42 "stationrow.chains" 218 41 X G fun _ _ _ _ _ _=>ub1 fun _=>rfl;have g_reached:=cI 6 ["links","start"] "reached" 49 "stationrow.chains" 218 48 X G fun _ _ _ _ _ _=>ub2 fun _ _=>rfl;have g_led_to:=cI 7 ["works","task"] "led_to" 56 "stationrow.chains" 218 55 X G fun _ _ _ _ _ _=>ub2 fun _ _=>rfl;have g_led_from:=cI 8 ["works","task"] "led_from" 61 "stationrow.chains" 218 60 X G fun _ _ _ _ _ _=>ub2 fun _ _=>rfl;have g_in_both:=cI 9 ["works","found","other"] "in_both" 66 "stationrow.chains" 218 65 X G fun _ _ _ _ _ _=>ub3 fun _ _ _=>rfl;have p:=cI 10 ["works","found","other"] "in_first_alone" 71 "stationrow.chains" 218 70 X G fun _ _ _ _ _ _=>ub3 fun _ _ _=>rfl;have g_group_of:=cI 11 ["works","task"] "group_of" 78 "stationrow.chains" 218 77 X G fun _ _ _ _ _ _=>ub2 fun _ _=>rfl;have g_ahead_of:=cI 12 ["works","task"] "ahead_of" 85 "stationrow.chains" 218 84 X G fun _ _ _ _ _ _=>ub2 fun _ _=>rfl;have I:=cI 14 ["kinds","kind"] "may_be_done" 92 "stationrow.checks" 285 91 X G fun _ _ _ _ _ _=>ub2 fun _ _=>rfl;have S:=cI 16 ["works","task"] "apart_from" 97 "stationrow.fillings" 295 96 X G fun _ _ _ _ _ _=>ub2 fun _ _=>rfl;have g_rules_of:=cI 17 ["works"] "rules_of" 104 "stationrow.fillings" 295 103 X G fun _ _ _ _ _ _=>ub1 fun _=>rfl;have g_has_all:=cI 18 ["number","part"] "has_all" 111 "stationrow.fillings" 295 110 X G fun _ _ _ _ _ _=>ub2 fun _ _=>rfl;have g:=cI 19 ["rules","beat","kind","done","number"] "is_filling_number" 118 "stationrow.fillings" 295 117 X G fun _ _ _ _ _ _=>ub5 fun _ _ _ _ _=>rfl;have g_names_of:=cI 21 ["tasks"] "names_of" 123 "stationrow.texts" 344 122 X G fun _ _ _ _ _ _=>ub1 fun _=>rfl;have g_parts_of:=cI 23 ["number"] "parts_of" 128 "stationrow.walks" 352 127 X G fun _ _ _ _ _ _=>ub1 fun _=>rfl;have A:=cI 26 ["walk","stand","evens"] "evens_behind" 178 "stationrow.even" 420 177 X G fun _ _ _ _ _ _=>ub3 fun _ _ _=>rfl;have o:=cI 27 ["walk","many"] "evens_by_stands" 185 "stationrow.even" 420 184 X G fun _ _ _ _ _ _=>ub2 fun _ _=>rfl;have K:=cI 28 ["works","beat","many"] "even_table" 190 "stationrow.even" 420 189 X G fun _ _ _ _ _ _=>ub3 fun _ _ _=>rfl;have Z:=cI 29 ["works","beat","many"] "most_even" 197 "stationrow.even" 420 196 X G fun _ _ _ _ _ _=>ub3 fun _ _ _=>rfl;have g_numbers:=cI 31 ["_law_script"] "_law_numbers" 204 mlw 465 203 X G fun _ _ _ _ _ _=>ub1 fun _=>rfl;have g_draw:=cI 32 ["_law_deck","_law_most"] "_law_draw" 211 mlw 465 210 X G fun _ _ _ _ _ _=>ub2 fun _ _=>rfl;have g_great:=cI 33 ["_law_deck","_law_most"] "_law_great" 218 mlw 465 217 X G fun _ _ _ _ _ _=>ub2 fun _ _=>rfl;have Y:=cI 34 ["_law_size","_law_number","_law_names_here"] "_law_free_name" 225 mlw 465 224 X G fun _ _ _ _ _ _=>ub3 fun _ _ _=>rfl;have g_names:=cI 35 ["_law_deck","_law_many"] "_law_names" 230 mlw 465 229 X G fun _ _ _ _ _ _=>ub2 fun _ _=>rfl;have g_turn:=cI 36 ["_law_deck","_law_things"] "_law_turn" 237 mlw 465 236 X G fun _ _ _ _ _ _=>ub2 fun _ _=>rfl;have g_lengths:=cI 37 ["_law_deck","_law_many"] "_law_lengths" 242 mlw 465 241 X G fun _ _ _ _ _ _=>ub2 fun _ _=>rfl;have g_chained:=cI 38 ["_law_many","_law_edges"] "_law_chained" 247 mlw 465 246 X G fun _ _ _ _ _ _=>ub2 fun _ _=>rfl;have g_pairs:=cI 39 ["_law_deck","_law_names_here","_law_orders","_law_lots"] "_law_pairs" 252 mlw 465 251 X G fun _ _ _ _ _ _=>ub4 fun _ _ _ _=>rfl;have R:=cI 40 ["_law_deck","_law_common","_law_names_here"] "_law_some_kinds" 257 mlw 465 256 X G fun _ _ _ _ _ _=>ub3 fun _ _ _=>rfl;have g_kinds:=cI 41 ["_law_deck","_law_row","_law_names_here","_law_table"] "_law_kinds" 262 mlw 465 261 X G fun _ _ _ _ _ _=>ub4 fun _ _ _ _=>rfl;have g_works:=cI 42 ["_law_deck","_law_least","_law_most","_law_stands"] "_law_works" 267 mlw 465 266 X G fun _ _ _ _ _ _=>ub4 fun _ _ _ _=>rfl;have g_beat:=cI 43 ["_law_deck","_law_works_here"] "_law_beat" 272 mlw 465 271 X G fun _ _ _ _ _ _=>ub2 fun _ _=>rfl;have g_loads:=cI 44 ["_law_works_here","_law_dealing"] "_law_loads" 277 mlw 465 276 X G fun _ _ _ _ _ _=>ub2 fun _ _=>rfl;have g_goes:=cI 45 ["_law_works_here","_law_known","_law_found"] "_law_goes" 282 mlw 465 281 X G fun _ _ _ _ _ _=>ub3 fun _ _ _=>rfl;have g_right:=cI 46 ["_law_works_here","_law_at"] "_law_right" 289 mlw 465 288 X G fun _ _ _ _ _ _=>ub2 fun _ _=>rfl;have J:=cI 47 ["_law_works_here","_law_beat_here","_law_many","_law_found"] "_law_least_told" 294 mlw 465 293 X G fun _ _ _ _ _ _=>ub4 fun _ _ _ _=>rfl;have g_law:=cI 48 ["_law_script"] "law" 299 mlw 465 298 X G fun _ _ _ _ _ _=>ub1 fun _=>rfl;refine⟨fnOf "law" "law" (cu (top 48)) (bW (top 48)) (aA (top 48)) .none .none .none (.str mlw 465) none (.ref 298) .none,fun s v=>.of_eq rfl,fun base _ _=>?_⟩;have k:Cls (KK w.params) 167:=⟨by kernel_rfl,by kernel_rfl,by kernel_rfl,by kernel_rfl⟩;have NF_Walk:∀n∈(["works","beat","rules","whole"]:List Str),findIn (KK w.params) (.ref 167) n=some none:=fun n hn=>by
  rcases o_.mp hn with rfl | hn
  ·kernel_rfl
  rcases o_.mp hn with rfl | hn
  ·kernel_rfl
  rcases o_.mp hn with rfl | hn
  ·kernel_rfl
  rw[g_.mp hn];kernel_rfl
 have d:InsC (KK w.params) 167 ["works","beat","rules","whole"]:=⟨k,NF_Walk⟩;have t:Fun (KK w.params) "__init__" "Walk.__init__" (topm 24 0) 142 (fnOf "__init__" "Walk.__init__" (cu (topm 24 0)) (bW (topm 24 0)) (aA (topm 24 0)) .none .none .none (.str "stationrow.walks" 352) none (.ref 141) .none):=lQ (oc:=.type "function") (od:=none) (osl:=#[]) (by kernel_rfl) (by kernel_rfl) (by kernel_rfl);have g_Walk:GI (KK w.params) mg 167 "Walk" "Walk.__init__" (topm 24 0) ["self","works","beat"] 142 _:=⟨⟨by kernel_rfl,by kernel_rfl,by kernel_rfl,by kernel_rfl⟩,t,t.binds fun _ _ _ _ _ _=>ub3 fun _ _ _=>rfl,at_ (v:=.ref 167) (by kernel_rfl)⟩;have f:Fun (KK w.params) "fillings_at" "Walk.fillings_at" (topm 24 1) 147 (fnOf "fillings_at" "Walk.fillings_at" (cu (topm 24 1)) (bW (topm 24 1)) (aA (topm 24 1)) .none .none .none (.str "stationrow.walks" 352) none (.ref 146) .none):=lQ (oc:=.type "function") (od:=none) (osl:=#[]) (by kernel_rfl) (by kernel_rfl) (by kernel_rfl);have H:GM (KK w.params) 167 "fillings_at" "Walk.fillings_at" (topm 24 1) ["self","stand","done"] 147 _:=⟨k,f,f.binds fun _ _ _ _ _ _=>ub3 fun _ _ _=>rfl,⟨by kernel_rfl,by kernel_rfl,by kernel_rfl⟩⟩;have x:Fun (KK w.params) "load_at" "Walk.load_at" (topm 24 3) 159 (fnOf "load_at" "Walk.load_at" (cu (topm 24 3)) (bW (topm 24 3)) (aA (topm 24 3)) .none .none .none (.str "stationrow.walks" 352) none (.ref 158) .none):=lQ (oc:=.type "function") (od:=none) (osl:=#[]) (by kernel_rfl) (by kernel_rfl) (by kernel_rfl);have g_load_at:GM (KK w.params) 167 "load_at" "Walk.load_at" (topm 24 3) ["self","number"] 159 _:=⟨k,x,x.binds fun _ _ _ _ _ _=>ub2 fun _ _=>rfl,⟨by kernel_rfl,by kernel_rfl,by kernel_rfl⟩⟩;have i:Fun (KK w.params) "dealing_of" "Walk.dealing_of" (topm 24 4) 164 (fnOf "dealing_of" "Walk.dealing_of" (cu (topm 24 4)) (bW (topm 24 4)) (aA (topm 24 4)) .none .none .none (.str "stationrow.walks" 352) none (.ref 163) .none):=lQ (oc:=.type "function") (od:=none) (osl:=#[]) (by kernel_rfl) (by kernel_rfl) (by kernel_rfl);have T:GM (KK w.params) 167 "dealing_of" "Walk.dealing_of" (topm 24 4) ["self","fillings"] 164 _:=⟨k,i,i.binds fun _ _ _ _ _ _=>ub2 fun _ _=>rfl,⟨by kernel_rfl,by kernel_rfl,by kernel_rfl⟩⟩;have F_numbers:=vV (P:=l.prog) (w:=w) (base:=base) g_numbers B;have a:=Jv (P:=l.prog) (w:=w) (base:=base) g_draw B;have V:=rA (P:=l.prog) (w:=w) (base:=base) Y B;have F_names:=Fg g_names B a V;have F_turn:=Jw g_turn B a;have F_chained:=vW (P:=l.prog) (w:=w) (base:=base) g_chained B;have F_pairs:=Ff g_pairs B F_turn a F_chained;have Q:=nY R B F_turn a;have F_kinds:=Fe g_kinds B a Q;have F_great:=EY g_great B a;have F_lengths:=vX g_lengths B a F_great
 have F_works:=Fi g_works B F_names a F_turn F_pairs F_kinds F_lengths;have F_beat:=Jx g_beat B a F_great
 have q:=rD (P:=l.prog) (w:=w) (base:=base) g_number_of B;have O:=n6 (P:=l.prog) (w:=w) (base:=base) S B;have r:=jN (P:=l.prog) (w:=w) (base:=base) p B;have F:=vY (P:=l.prog) (w:=w) (base:=base) g_reached B;have u:=uv (P:=l.prog) (w:=w) (base:=base) g_links_of B;have z:=ux g_led_from B F u;have U:=zZ g_led_to B F u;have F_ahead_of:=uD g_ahead_of B r z U;have F_in_both:=wg (P:=l.prog) (w:=w) (base:=base) g_in_both B;have F_group_of:=uB g_group_of B F_in_both U z
 have F_rules_of:=uJ g_rules_of B q O F_ahead_of F_group_of;have F_names_of:=uI (P:=l.prog) (w:=w) (base:=base) g_names_of B;have M_Walk:=JC g_Walk B d F_rules_of q F_names_of;have m:=wu (P:=l.prog) (w:=w) (base:=base) g_has_all B;have F_parts_of:=uG g_parts_of B m;have E:=nG (P:=l.prog) (w:=w) (base:=base) I B;have j:=iR g B m E;have D:=nO H B d F_parts_of j;have M_load_at:=wy g_load_at B d m;have C:=kO A B d D M_load_at
 have b:=jz o B C;have y:=uE (P:=l.prog) (w:=w) (base:=base) g_tasks_of B;have M:=oh K B d M_Walk b y;have L:=oE T B d y;have F_most_even:=rE Z B d M_Walk b L;have F_loads:=Fo (P:=l.prog) (w:=w) (base:=base) g_loads B;have F_goes:=Jz g_goes B F_loads;have F_right:=Fp (P:=l.prog) (w:=w) (base:=base) g_right B;have N:=ou J B F_right;exact QX g_law B F_numbers F_works a F_beat M F_most_even F_goes N
theorem walk {l:PySem.W.OpenLaw}{q:Program}{loose:List Str}{XP:(Str->Option Value)->Heap->Prop}{YP:World->Heap->Prop}{d:DefRec}{K:Params->Frag}(C:l.most=some 63) (p:d.params.defaults=[])
  (A:∀(w:World) (h:Heap),YP w h->(K w.params).In h) (i:∀w:World,Fq (K w.params)=true)
  (F:∀(w:World) (mg:Str->Option Value) (fa:Addr) (h:Heap),(K w.params).In h->h.Ns mainGlobals mg->mg d.name=some (.ref fa) ->
   ∃fd:FuncData,(∀(s:Shared) (u:Value),BindsTo s fd ⟨[u],[]⟩ [("_law_script",u)])/\∀base:Heap,(K w.params).In base->base.Ns mainGlobals mg->j7 l.prog w (K w.params) mg base 8 fa fd ["_law_script"] yP) :
  PySem.W.WalkO q loose XP YP l.row.toRowW d [] (fun f vs=>PySem.call f vs):=by
 refine L2.walk_of (n:=63) (k:=8) (x:="_law_script") (CX:=fun _=>CX0) (sp:=fun w=>sU (K w.params) yP) C (by decide) p ⟨rfl,by decide,by decide,rfl⟩ A F (fun w H a ns B J j=>?_) fun _ _ _ _ _ z=>z;refine⟨[.ref a],fun b=>if b=a then some (.rol (ns.map T.int)) else none,fun t _=>t=.bl true,.cons .ofRef .nil,fun b o e=>?_,⟨a,ns,rfl,if_pos rfl,B,fun _=>rfl⟩,fun v H' t y _ _ r q=>?_⟩
 ·dsimp only at e;by_cases g:b=a
  ·rw[if_pos g] at e;cases e;subst g;rcases j with j | ⟨o,D,n,E,I,_⟩
   ·refine⟨_,j,?_⟩;have:∀c:List Int,Reps (K w.params) H (c.map T.int) (c.map V.int):=fun c=>by
     induction c with
     |nil=>exact .nil
     |cons m r G=>exact .cons .ofInt G
    exact this ns
   exact absurd I (z6 (i w) E)
  rw[if_neg g] at e;cases e
 subst q;exact r.bl
end M
open PySem PySem.W PyProof.Rows
set_option maxRecDepth 100000 in
set_option maxHeartbeats 0 in
theorem PySem.Challenge.cw_stationrow_k73_whole_table_and_dealing_holds : PySem.Challenge.rw_stationrow_k73_whole_table_and_dealing.Holds := by
 refine holds_law (by kernel_rfl) fun said=>?_;refine holds_open (d:=M.dv) (kwd:=[]) (q:=M.qv) (loose:=[]) (Xt:=fun s=>xlAt M.qv [] s&&recOk (RowW.records (OpenLaw.row PySem.Challenge.rw_stationrow_k73_whole_table_and_dealing).toRowW) s) (XP:=XL M.qv []) (Yf:=Hook.obs M.HK) (Ya:=Hook.val M.HK) (YP:=Hook.says M.HK) (N:=3330) M.left (Hook.of M.HK) (Hook.keeps M.HK) (fun s e=>xl_of s (Bool.and_eq_true_iff.mp e).1) XL.keeps (by kernel_rfl) (by kernel_rfl) (by kernel_rfl) (fun s e=>recFacts_of (Bool.and_eq_true_iff.mp e).2) (by kernel_rfl) (by first | assumption | kernel_rfl) (by kernel_rfl) ⟨rfl,rfl,rfl,rfl,rfl,by decide +kernel⟩ ?hw ?hc
 case hw=>w_witness2
 case hc=>exact M.walk (l:=PySem.Challenge.rw_stationrow_k73_whole_table_and_dealing) rfl rfl (fun w h Y=>kIn_of Y) (fun w=>by kernel_rfl) fun w mg fa h KX G hmg=>M.all_ok KX G hmg
#print axioms PySem.Challenge.cw_stationrow_k73_whole_table_and_dealing_holds
