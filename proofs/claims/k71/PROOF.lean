import PyProof.Rows.All
import PyProof.EqAt
import PyProof.EqKinds
import PyProof.TupleCall
import PyProof.NeKinds
import PyProof.StrWalks
import PyProof.Rows.SetFrom
import PyProof.WalksMore
import KE.KIntText
import PyProof.EnumMake
import PyProof.WalkInts
import PyProof.ReprRoads
import PyProof.ReprLen
import KE.KRevSl
import PyProof.StrCalls
import PyProof.Rows.StrFit
import KE.KDictOf
import PyProof.AttrMissHeap
import PyProof.DictItems
import KE.KDictLaws
import KE.KSortTup
import KE.KDictList
import PyProof.StrLawsTight
import Wide.Line
import OpenK.KOwn
import KE.KFromBytes
import KE.KItem
import KE.KIsAll
import PySem.Challenge.RW_stationrow_k71_table_of_what_is_done
abbrev a_:=@List.length_append
abbrev b_:=@List.length_map
abbrev d_:=@List.getElem?_eq_getElem
abbrev e_:=@List.length_cons
abbrev g_:=@List.mem_singleton
abbrev h_:=@List.length_range
abbrev i_:=@List.mem_cons_self
abbrev j_:=@PySem.Heap.get?_push_of_some
abbrev k_:=@List.size_toArray
abbrev l_:=@List.mem_cons
abbrev m_:=@List.getD_eq_getElem?_getD
abbrev n_:=@List.mem_cons_of_mem
abbrev o_:=@Nat.le_refl
abbrev p_:=@decide_eq_true_iff
abbrev q_:=@List.length_singleton
abbrev t_:=@PySem.F.plainAttrs_list
abbrev u_:=@Bool.false_ne_true
abbrev v_:=@PySem.wpAny_bind
abbrev x_:=@List.mem_map
abbrev y_:=@List.getElem?_map
abbrev z_:=@List.map_append
abbrev A_:=@PySem.PassesOwn.never
abbrev B_:=@decide_eq_false
abbrev C_:=@List.mem_range
abbrev D_:=@List.map_cons
abbrev E_:=@List.mem_append
abbrev F_:=@List.getElem?_append_right
abbrev G_:=@Option.some.inj
abbrev H_:=@Bool.false_eq_true
abbrev I_:=@List.append_nil
abbrev J_:=@Nat.le_trans
abbrev K_:=@PySem.Heap.lt_size
abbrev L_:=@Bool.and_eq_true
abbrev M_:=@PySem.F.slot_list_append
abbrev N_:=@PySem.F.type_list_append
abbrev O_:=@PySem.wpAny_pure
abbrev P_:=@decide_eq_true
abbrev Q_:=@PySem.Heap.get?_push_size
abbrev R_:=@List.mem_filter
abbrev S_:=@List.all_eq_true
abbrev T_:=@congrArg
abbrev U_:=@Nat.lt_of_lt_of_le
abbrev V_:=@List.mem_append_right
abbrev W_:=@List.getElem?_eq_none
abbrev Xf:=@List.length_filter_le
abbrev Xg:=@Bool.eq_iff_iff
abbrev Xh:=@if_false
abbrev Xi:=@List.map_map
abbrev Xj:=@List.getElem?_append_left
abbrev Xk:=@List.not_mem_nil
abbrev Xl:=@List.nodup_cons
abbrev Xm:=@Nat.ne_of_lt
abbrev Xn:=@List.append_assoc
abbrev Xo:=@List.getElem?_range
abbrev Xp:=@List.getElem_mem
abbrev Xq:=@List.getElem?_cons_zero
abbrev Xr:=@List.getElem?_eq_some_iff
abbrev Xu:=@List.filter_cons
abbrev Xv:=@of_decide_eq_true
abbrev Xw:=@List.filter_append
abbrev Xx:=@List.mem_append_left
abbrev Xy:=@List.map_nil
abbrev Xz:=@decide_true
abbrev XC:=@decide_false
abbrev XD:=@List.getElem?_cons_succ
abbrev XF:=@PySem.F.slot_list_index
abbrev XH:=@PySem.F.type_list_index
abbrev XJ:=@Int.emod_lt_of_pos
abbrev XM:=@Int.emod_nonneg
abbrev XN:=@Bool.not_true
abbrev XQ:=@beq_eq_false_iff_ne
abbrev XR:=@PySem.wpAny_mono
abbrev XS:=@PyProof.Rows.callWith_type1
abbrev XX:=@List.mem_of_getElem?
abbrev X3:=@Nat.lt_irrefl
abbrev X4:=@List.lookup_cons
abbrev X5:=@List.eq_nil_of_length_eq_zero
abbrev X6:=@List.foldl_append
abbrev X7:=@List.cons.injEq
abbrev X8:=@Nat.zero_le
abbrev X_:=@List.length_take
abbrev Yb:=@Array.getD_eq_getD_getElem?
abbrev Yc:=@Bool.true_and
abbrev Yd:=@List.getElem?_set_self
abbrev Ye:=@List.take_of_length_le
abbrev Yg:=@Array.length_toList
abbrev Yh:=@List.replicate_succ
abbrev Yi:=@List.map_congr_left
abbrev Yj:=@Array.getElem?_toList
abbrev Yk:=@PySem.wpAny_Call_Name_kw
abbrev Yl:=@Nat.le_of_lt
abbrev Ym:=@List.getElem?_set_ne
abbrev Yn:=@Bool.false_and
abbrev Yo:=@or_false
abbrev Yp:=@Int.le_refl
abbrev Yq:=@Nat.pow_le_pow_right
abbrev Yr:=@Bool.not_false
abbrev Ys:=@List.flatten_cons
abbrev Yt:=@decide_eq_false_iff_not
abbrev Yu:=@List.filter_congr
abbrev Yv:=@List.length_nil
abbrev Yw:=@PyProof.Rows.KeyOrd.kle_refl
abbrev Yx:=@List.map_eq_nil_iff
abbrev Yy:=@PySem.Paired.length
abbrev Yz:=@List.length_drop
abbrev YB:=@List.cons_append
abbrev YC:=@Int.natCast_nonneg
abbrev YD:=@PySem.Calls.spliced_cons
abbrev YF:=@PySem.wpAny_passesOwn
abbrev YG:=@Bool.or_eq_true
abbrev YH:=@PySem.wpAny_truthy_bool
abbrev YJ:=@Int.toNat_natCast
abbrev YK:=@Nat.lt_succ_of_lt
abbrev YL:=@Int.pow_succ
abbrev YM:=@Nat.testBit_eq_decide_div_mod_eq
abbrev YQ:=@Bool.false_or
abbrev YS:=@Bool.and_true
abbrev YT:=@PyProof.Rows.slot_tuple_getitem
abbrev YW:=@Int.toNat_of_nonneg
abbrev YX:=@List.filter_eq_self
abbrev YZ:=@List.getElem?_replicate
abbrev Y0:=@PySem.wpAny_getItem_str_slice
abbrev Y4:=@List.take_length
abbrev Y5:=@List.nodup_nil
abbrev Y6:=@PySem.Calls.callWith_builtin
abbrev Y7:=@PySem.call_meets
abbrev Y8:=@List.filter_eq_nil_iff
abbrev Y9:=@List.find?_cons
abbrev Y_:=@List.all_append
abbrev Za:=@List.length_replicate
abbrev Zb:=@PySem.Calls.spliced_nil
abbrev Zc:=@PySem.wpAny_newObj_type
abbrev Zd:=@PyProof.Rows.KeyOrd.kle_of_klt
abbrev Ze:=@beq_iff_eq
abbrev Zf:=@PySem.Heap.size_push
abbrev Zg:=@Bool.and_false
abbrev Zh:=@Nat.mod_two_eq_zero_or_one
abbrev Zi:=@List.getElem?_of_mem
abbrev Zj:=@Nat.ne_of_gt
abbrev Zk:=@Nat.lt_succ_self
abbrev Zm:=@Nat.lt_trans
abbrev Zn:=@decide_eq_decide
abbrev Zo:=@List.drop_eq_getElem_cons
abbrev Zq:=@List.pairwise_iff_getElem
abbrev Zr:=@List.flatMap_append
abbrev Zt:=@PySem.wpAny_holding
abbrev Zu:=@PySem.F.args_tuple_add_2
abbrev Zv:=@List.any_cons
abbrev Zw:=@List.Pairwise.imp_of_mem
abbrev Zx:=@List.length_set
abbrev Zy:=@Nat.not_lt_zero
abbrev Zz:=@PySem.tupleKind_room_in1
abbrev ZC:=@Nat.not_lt
abbrev ZD:=@List.flatMap_cons
abbrev ZF:=@Bool.not_eq_true'
abbrev ZG:=@Option.some.injEq
abbrev ZJ:=@List.all_eq_false
abbrev ZK:=@List.sum_cons
open PySem.W (Frag InstAt LeftO callWith_K cellsFrom_some codeIn emptyDict findIn fnOf handedIn hasDictIn instObj isFn kHook keepIn kia_one kitOne kitx_dict kitx_list kitx_tuple lookIn makesIn methodObj mg_of mroIn nsIn plainGet plainGet_of plainOver recOk takerIn typeIn xlAt)
noncomputable section
open PySem PySem.Spec PyProof.Rows
set_option Elab.async false
set_option linter.all false
set_option maxRecDepth 100000
namespace L2
def cA (s:Stmt):Arguments:=match s with
 |.FunctionDef _ a _ _ _ _ _ _ _ _=>a
 |_=>{ posonlyargs:=[],args:=[],vararg:=none,kwonlyargs:=[],kw_defaults:=[],kwarg:=none,defaults:=[]}
def bV (s:Stmt):List Stmt:=match s with
 |.FunctionDef _ _ b _ _ _ _ _ _ _=>b
 |_=>[]
def aB (s:Stmt):Scope:=match s with
 |.FunctionDef _ _ _ _ _ _ sc _ _ _=>sc
 |_=>{ kind:=.function,names:=[],isGenerator:=false,isCoroutine:=false}
end L2
namespace M
open L2
def top (i:Nat):Stmt:=PySem.Challenge.pw_stationrow_k71_table_of_what_is_done.main.body.getD i (.Pass ⟨0,0,0,0⟩)
def HS:Stmt->List Stmt
 |.ClassDef _ _ _ body _ _ _ _ _ _ _=>body
 |_=>[]
def topm (i j:Nat):Stmt:=(HS (top i)).getD j (.Pass ⟨0,0,0,0⟩)
def qv:Program:={ PySem.Challenge.pw_stationrow_k71_table_of_what_is_done with main:={ PySem.Challenge.pw_stationrow_k71_table_of_what_is_done.main with body:=([0,2,3,5,6,7,8,9,10,11,12,14,16,17,18,19,21,23,24,26,27,28,30,31,32,33,34,35,36,37,38,39,40,41,42,43,44,45,46,47,48,49]:List Nat).map top}}
def en (P:Params) (n:Str) (t:Nat) (v:Value):DictEntry:=⟨PyData.keyHash P n,.str n t,v⟩
def cO (n:Str) (c:Nat) (b:Bool) (a j l k:Nat):Obj:=⟨.type "code",none,.fields #[.str n a,.str n (a+1),.str "/claim/cut.py" (a+2),.int l 0,.int k 0,.int 0 0,.int 0 0,.int 3 0,.ref (c - (bif b then 5 else 3)),.bool true,.int 181 0,.ref (c - (bif b then 4 else 2)),.none,bif b then .ref (c - 3) else .none,bif b then .ref (c - 2) else .none,.ref (c - 1),.int j 0,.int l 0,.str "/claim/cut.py" (j+1)],#[]⟩
def fO (i:Nat) (n m:Str) (t c:Nat):Obj:=⟨.type "function",none,.func (fnOf n n (cA (top i)) (bV (top i)) (aB (top i)) .none .none .none (.str m t) none (.ref c) .none),#[]⟩
abbrev mlw:Str := "law_stationrow_k71_table_of_what_is_done"
def fx (i:Nat) (n m:Str) (t c:Nat) (b:Bool) (a j l k:Nat):(Params->DictEntry) × Frag:=(fun P=>en P n (j+2) (.ref (c+1)),[(c,cO n c b a j l k),(c+1,fO i n m t c)])
def TB:List ((Params->DictEntry) × Frag):=[fx 0 "_wall" "__main__" 164 20 true 187 191 1 1,
 fx 2 "number_of" "stationrow.sets" 194 27 true 196 204 5 2,
 fx 3 "tasks_of" "stationrow.sets" 194 34 true 207 215 13 2,
 fx 5 "links_of" "stationrow.chains" 218 41 true 220 228 22 1,
 fx 6 "reached" "stationrow.chains" 218 48 true 231 240 29 2,
 fx 7 "led_to" "stationrow.chains" 218 55 true 243 248 39 2,
 fx 8 "led_from" "stationrow.chains" 218 60 false 251 254 41 2,
 fx 9 "in_both" "stationrow.chains" 218 65 false 257 260 43 3,
 fx 10 "in_first_alone" "stationrow.chains" 218 70 false 263 266 45 3,
 fx 11 "group_of" "stationrow.chains" 218 77 true 269 274 47 2,
 fx 12 "ahead_of" "stationrow.chains" 218 84 true 277 282 49 2,
 fx 14 "may_be_done" "stationrow.checks" 285 91 true 287 292 52 2,
 fx 16 "apart_from" "stationrow.fillings" 295 96 false 297 300 55 2,
 fx 17 "rules_of" "stationrow.fillings" 295 103 true 303 315 57 1,
 fx 18 "has_all" "stationrow.fillings" 295 110 true 318 323 66 2,
 fx 19 "is_filling_number" "stationrow.fillings" 295 117 true 326 341 68 5,
 fx 21 "names_of" "stationrow.texts" 344 122 false 346 349 81 1,
 fx 23 "parts_of" "stationrow.walks" 352 127 false 354 357 84 1,
 (fun P=>en P "Walk" 421 (.ref 169),[]),
 fx 26 "evens_behind" "stationrow.even" 422 179 true 424 436 116 3,
 fx 27 "evens_by_stands" "stationrow.even" 422 186 true 439 446 125 2,
 fx 28 "even_table" "stationrow.even" 422 191 false 449 452 130 3,
 fx 30 "_law_numbers" mlw 455 198 true 457 466 136 1,
 fx 31 "_law_draw" mlw 455 205 true 469 474 151 2,
 fx 32 "_law_great" mlw 455 212 true 477 484 155 2,
 fx 33 "_law_free_name" mlw 455 219 true 487 499 160 3,
 fx 34 "_law_names" mlw 455 224 false 502 505 172 2,
 fx 35 "_law_turn" mlw 455 231 true 508 515 183 2,
 fx 36 "_law_lengths" mlw 455 236 false 518 521 189 2,
 fx 37 "_law_chained" mlw 455 241 false 524 527 195 2,
 fx 38 "_law_pairs" mlw 455 246 false 530 533 202 4,
 fx 39 "_law_some_kinds" mlw 455 251 false 536 539 218 3,
 fx 40 "_law_kinds" mlw 455 256 false 542 545 224 4,
 fx 41 "_law_works" mlw 455 261 false 548 551 239 3,
 fx 42 "_law_beat" mlw 455 266 false 554 557 257 2,
 fx 43 "_law_chain_table" mlw 455 271 false 560 563 263 1,
 fx 44 "_law_is_filling" mlw 455 276 false 566 569 270 6,
 fx 45 "_law_load" mlw 455 281 false 572 575 286 2,
 fx 46 "_law_same" mlw 455 286 false 578 581 288 2,
 fx 47 "_law_next" mlw 455 293 true 584 596 296 5,
 fx 48 "_law_due" mlw 455 298 false 599 602 304 3,
 fx 49 "law" mlw 455 305 true 605 616 315 1]
def wcO (C N t u:Nat):Obj:=⟨.type "type",none,.cls { name:="Walk",bases:=[.type "object"],mro:=[.ref C,.type "object"],ns:=N,qualname:="Walk"},#[none,none,some (.str "Walk" t),some (.str "Walk" u),some (.builtin "object.__new__"),some (.bool true)]⟩
def nsO (P:Params) (es:List (Str × Nat × Value)) (k:Nat):Obj:=⟨.type "dict",none,.dict (es.map fun e=>en P e.1 e.2.1 e.2.2).toArray k,#[]⟩
def cQ (n q:Str) (c:Nat) (b:Bool) (a j l k:Nat):Obj:=⟨.type "code",none,.fields #[.str n a,.str q (a+1),.str "/claim/cut.py" (a+2),.int l 0,.int k 0,.int 0 0,.int 0 0,.int 3 0,.ref (c - (bif b then 5 else 3)),.bool true,.int 181 0,.ref (c - (bif b then 4 else 2)),.none,bif b then .ref (c - 3) else .none,bif b then .ref (c - 2) else .none,.ref (c - 1),.int j 0,.int l 0,.str "/claim/cut.py" (j+1)],#[]⟩
def fQ (st:Stmt) (n q m:Str) (t c:Nat):Obj:=⟨.type "function",none,.func (fnOf n q (cA st) (bV st) (aB st) .none .none .none (.str m t) none (.ref c) .none),#[]⟩
def KC (P:Params):Frag:=[(141,cQ "__init__" "Walk.__init__" 141 true 372 378 94 3),
 (142,fQ (topm 24 0) "__init__" "Walk.__init__" "stationrow.walks" 352 141),
 (146,cQ "fillings_at" "Walk.fillings_at" 146 false 381 384 100 3),
 (147,fQ (topm 24 1) "fillings_at" "Walk.fillings_at" "stationrow.walks" 352 146),
 (158,cQ "load_at" "Walk.load_at" 158 false 396 399 110 2),
 (159,fQ (topm 24 3) "load_at" "Walk.load_at" "stationrow.walks" 352 158),
 (168,nsO P [("__module__",367,.str "stationrow.walks" 352),("__firstlineno__",371,.int 92 370),("__init__",380,.ref 142),("fillings_at",386,.ref 147),("greatest_at",395,.ref 154),("load_at",401,.ref 159),("dealing_of",409,.ref 166),("__static_attributes__",414,.ref 167),("__dict__",416,.ref 170),("__weakref__",418,.ref 171),("__doc__",419,.none)] 4),
 (169,wcO 169 168 360 368)]
def KK (P:Params):Frag:=(3,⟨.type "dict",none,.dict ([en P "__name__" 165 (.str mlw 455),
 en P "__doc__" 166 .none,
 en P "__package__" 167 .none,
 en P "__loader__" 168 (.builtin "__main__.__loader__#opaque"),
 en P "__spec__" 169 .none,
 en P "__annotations__" 170 (.ref 6),
 en P "__builtins__" 171 (.ref 4),
 en P "__file__" 173 (.str "/claim/cut.py" 172),
 en P "__cached__" 174 .none]++TB.map fun r=>r.1 P).toArray 51,#[]⟩)::(TB.map fun r=>r.2).flatten++KC P
def HK:PySem.W.Hook:=kHook KK [3,20,21,27,28,34,35,41,42,48,49,55,56,60,61,65,66,70,71,77,78,84,85,91,92,96,97,103,104,110,111,117,118,122,123,127,128,179,180,186,187,191,192,198,199,205,206,212,213,219,220,224,225,231,232,236,237,241,242,246,247,251,252,256,257,261,262,266,267,271,272,276,277,281,282,286,287,293,294,298,299,305,306,141,142,146,147,158,159,168,169] (fun _=>by kernel_rfl)
theorem left:LeftO (PySem.W.OpenLaw.row PySem.Challenge.rw_stationrow_k71_table_of_what_is_done).prog qv [] (fun s=>xlAt qv [] s&&recOk (PySem.W.RowW.records (PySem.W.OpenLaw.row PySem.Challenge.rw_stationrow_k71_table_of_what_is_done).toRowW) s) (PySem.W.Hook.obs HK) (PySem.W.Hook.val HK) 3396:=by
 intro w;kernel_rfl
end M
namespace L2
abbrev Key:=Sum Int Str
def nH:Key->Value->Bool
 |.inl k,v=>Value.isInt k v
 |.inr x,v=>Value.isStrOf x v
def V4 (w:World):Key->Int
 |.inl k=>hashInt k
 |.inr x=>hashStr w x
theorem bJ:∀{k:Key}{v:Value},nH k v=true->(∃i t,k=Sum.inl i/\v=Value.int i t)\/(∃x t,k=Sum.inr x/\v=Value.str x t)
 |.inl i,v,h=>by
  obtain⟨t,e⟩:=Value.isInt_shape (k:=i) (v:=v) h
  exact .inl ⟨i,t,rfl,e⟩
 |.inr x,v,h=>by
  obtain⟨t,e⟩:=Value.isStrOf_shape (x:=x) (v:=v) h
  exact .inr ⟨x,t,rfl,e⟩
theorem xQ (i:Int) (t:Tok):nH (.inl i) (.int i t)=true:=by simp [nH,Value.isInt]
theorem xR (x:Str) (t:Tok):nH (.inr x) (.str x t)=true:=by simp [nH,Value.isStrOf]
theorem Kg (a b:Int):decide ((Sum.inl a:Key)=Sum.inl b)=(a==b):=by
 by_cases e:a=b
 ·subst e;simp
 have h:¬(Sum.inl a:Key)=Sum.inl b:=fun q=>e (Sum.inl.inj q);rw[B_ h];exact (XQ.mpr e).symm
theorem Kh (a b:Str):decide ((Sum.inr a:Key)=Sum.inr b)=decide (a=b):=by
 by_cases e:a=b
 ·subst e;simp
 have h:¬(Sum.inr a:Key)=Sum.inr b:=fun q=>e (Sum.inr.inj q);rw[B_ h,B_ e]
theorem Kl (a:Int) (b:Str):decide ((Sum.inl a:Key)=Sum.inr b)=false:=B_ (fun q=>nomatch q)
theorem Km (a:Str) (b:Int):decide ((Sum.inr a:Key)=Sum.inl b)=false:=B_ (fun q=>nomatch q)
def bC (prog:Program) (w:World):PySem.KeyKind prog w Key where
 is:=nH
 hash:=V4 w
 inj:=fun v a b ha hb=>by
  rcases bJ ha with ⟨i,t,rfl,rfl⟩ | ⟨x,t,rfl,rfl⟩
  ·
   rcases bJ hb with ⟨j,u,rfl,e⟩ | ⟨y,u,rfl,e⟩
   ·
    injection e with e1 _;rw[e1]
   ·
    exact nomatch e
  ·
   rcases bJ hb with ⟨j,u,rfl,e⟩ | ⟨y,u,rfl,e⟩
   ·
    exact nomatch e
   ·
    injection e with e1 _;rw[e1]
 byValue:=fun k v h=>by
  rcases bJ h with ⟨i,t,rfl,rfl⟩ | ⟨x,t,rfl,rfl⟩ <;> rfl
 pyHash:=fun hv h=>by
  rcases bJ hv with ⟨i,t,rfl,rfl⟩ | ⟨x,t,rfl,rfl⟩
  ·
   exact wpAny_pyHash_int h
  ·
   exact wpAny_pyHash_str h
 eqBool:=fun hu hv h=>by
  rcases bJ hu with ⟨i,t,rfl,rfl⟩ | ⟨x,t,rfl,rfl⟩
  ·
   rcases bJ hv with ⟨j,u,rfl,rfl⟩ | ⟨y,u,rfl,rfl⟩
   ·
    rw[Kg] at h;exact wpAny_eqBool_int h
   ·
    rw[Kl] at h;exact SeqAt.EqAt.int_str i t y u _ _ _ _ h
  ·
   rcases bJ hv with ⟨j,u,rfl,rfl⟩ | ⟨y,u,rfl,rfl⟩
   ·
    rw[Km] at h;exact SeqAt.EqAt.str_int x t j u _ _ _ _ h
   ·
    rw[Kh] at h;exact wpAny_eqBool_str h
 «strs»:=fun k x t v h=>by
  rcases bJ h with ⟨i,u,rfl,e⟩ | ⟨y,u,rfl,e⟩
  ·
   exact nomatch e
  ·
   injection e with e1 _
   subst e1
   cases v <;> rfl
theorem qF (prog:Program) (w:World) (i:Int) (t:Tok):(bC prog w).is (.inl i) (.int i t)=true:=xQ i t
theorem qG (prog:Program) (w:World) (x:Str) (t:Tok):(bC prog w).is (.inr x) (.str x t)=true:=xR x t
inductive V where
 |non | bl (b:Bool) | int (i:Int) | str (x:Str) | byt (b:Array UInt8) | flt (b:UInt64) | ref (a:Addr) | ty (n:String)
 deriving DecidableEq
def RelV:V->Value->Prop
 |.non,u=>u=Value.none
 |.bl b,u=>u=Value.bool b
 |.int i,u=>∃t,u=Value.int i t
 |.str x,u=>∃t,u=Value.str x t
 |.byt b,u=>∃t,u=Value.bytes b t
 |.flt b,u=>∃t,u=Value.float b t
 |.ref a,u=>u=Value.ref a
 |.ty n,u=>u=Value.type n
abbrev Vals:List V->List Value->Prop:=Paired RelV
theorem Vals.length {xs:List V}{us:List Value}(r:Vals xs us):xs.length=us.length:=Yy r
theorem Vals.get:∀{xs:List V}{us:List Value}{i:Nat}{x:V},Vals xs us->xs[i]?=some x->∃u,us[i]?=some u/\RelV x u
 |_,_,_,_,.nil,e=>by simp at e
 |_,_,0,_,.cons r _,e=>by simp at e;subst e;exact⟨_,rfl,r⟩
 |_,_,i+1,x,.cons _ t,e=>by
  obtain⟨u,h1,h2⟩:=Vals.get (i:=i) (x:=x) t (by simpa using e)
  exact⟨u,by simpa using h1,h2⟩
theorem Vals.set {x:V}{u:Value}(r:RelV x u):∀{xs:List V}{us:List Value}(i:Nat),Vals xs us->Vals (xs.set i x) (us.set i u)
 |_,_,_,.nil=>.nil
 |_,_,0,.cons _ t=>.cons r t
 |_,_,i+1,.cons q t=>.cons q (Vals.set r i t)
theorem Vals.append:∀{xs ys:List V}{us ws:List Value},Vals xs us->Vals ys ws->Vals (xs++ys) (us++ws)
 |_,_,_,_,.nil,s=>s
 |_,_,_,_,.cons r t,s=>.cons r (Vals.append t s)
theorem Vals.take:∀{xs:List V}{us:List Value}(n:Nat),Vals xs us->Vals (xs.take n) (us.take n)
 |_,_,0,_=>.nil
 |_,_,_+1,.nil=>.nil
 |_,_,n+1,.cons r t=>.cons r (Vals.take n t)
theorem Vals.drop:∀{xs:List V}{us:List Value}(n:Nat),Vals xs us->Vals (xs.drop n) (us.drop n)
 |_,_,0,r=>r
 |_,_,_+1,.nil=>.nil
 |_,_,n+1,.cons _ t=>Vals.drop n t
theorem Vals.none_of:∀{xs:List V}{us:List Value}{i:Nat},Vals xs us->xs[i]?=none->us[i]?=none:=fun {xs us i} r e=>by
 have h1:=r.length;have h2:xs.length<=i:=List.getElem?_eq_none_iff.mp e;exact List.getElem?_eq_none_iff.mpr (by omega)
def RelO:Option V->Option Value->Prop
 |some v,some u=>RelV v u
 |none,none=>True
 |_,_=>False
def KV {κ:Type}:List (κ × V)->List (κ × Value)->Prop:=Paired fun (p:κ × V) (q:κ × Value)=>p.1=q.1/\RelV p.2 q.2
def kV:Key->V
 |.inl i=>.int i
 |.inr x=>.str x
inductive HO where
 |lst (xs:List V)
 |tup (xs:List V)
 |dK (kvs:List (Key × V)) | dT (kvs:List (List Key × V))
 |set (S:Int->Bool) (n:Nat)
 |ins (C dx:Addr) (fs:List (Str × V))
 |own (x:Addr)
 |xd (fs:List (Str × V))
 |met (f x:Addr)
 |rng (lo hi:Int)
 |frz (o:Obj) (u:HO)
 |tbl (ps:Array Value)
 |ext (φ:Heap->Prop)
abbrev Hp:=Addr->Option HO
def upd (H:Hp) (a:Addr) (o:HO):Hp:=fun b=>if b=a then some o else H b
theorem bU {H:Hp}{a:Addr}{o:HO}:upd H a o a=some o:=by unfold upd;rw[if_pos rfl]
theorem aV {H:Hp}{a b:Addr}{o:HO}(h:b≠a):upd H a o b=H b:=by unfold upd;rw[if_neg h]
theorem Qz {H:Hp}{a b:Addr}{o u:HO}(h:H a=some o) (h':H b=some u) (d:o≠u):a≠b:=by
 intro e;subst e;rw[h] at h';exact d (G_ h')
theorem cu {H:Hp}{a b:Addr}{o:HO}(h:H a=some o) (h':H b=none):a≠b:=by
 intro e;subst e;rw[h] at h';cases h'
def Tup0 (h:Heap) (a:Addr) (items:Array Value):Prop:=∃o,h.get? a=some o/\o.cls=.type "tuple"/\∃n,o.data=.seq items n/\o.dict=none
theorem Tup0.is {h:Heap}{a:Addr}{items:Array Value}(x:Tup0 h a items):IsTup h a items:=by
 obtain⟨o,ho,hc,n,hd,_⟩:=x;exact⟨o,ho,hc,n,hd⟩
theorem Tup0.new (h:Heap) (items:Array Value):Tup0 (h.push { cls:=.type "tuple",data:=.seq items}) h.objs.size items:=⟨_,Q_ _ rfl,rfl,_,rfl,rfl⟩
section
variable (P:Program) (w:World)
def ObjOk (H:Hp) (h:Heap) (a:Addr):HO->Prop
 |.lst xs=>xs.length<=sizeLine/\∃(its:List Value) (n:Nat),Vals xs its/\h.get? a=some { cls:=.type "list",data:=.seq its.toArray n}
 |.tup xs=>xs.length<=sizeLine/\∃its:List Value,Vals xs its/\Tup0 h a its.toArray
 |.dK kvs=>kvs.length<=sizeLine/\(a==sysModules)=false/\∃vs,KV kvs vs/\h.DictOf (bC P w) a vs
 |.dT kvs=>kvs.length<=sizeLine/\(a==sysModules)=false/\∃xs:List (List Key × Addr × Value),
   Paired (fun (p:List Key × V) (q:List Key × Addr × Value)=>p.1=q.1/\H q.2.1=some (.tup (p.1.map kV))/\RelV p.2 q.2.2) kvs xs /\
   ∃o es ep,h.get? a=some o/\o.ExactDict/\o.data=.dict es ep/\es.toList=xs.map (entryOfKey (tupleKind (bC P w)))/\(xs.map (·.1)).Nodup
 |.set S n=>h.SetOf (intKind P w) a S n
 |.ins C dx fs=>H dx=some (.own a)/\fs.length<=1000/\dx≠a/\h.get? a=some (instObj C dx) /\
   ∃mA,h.Ns1 dx mA/\(∀f,RelO (fs.lookup f) (mA f))/\PySem.Within mA (fs.map (·.1))
 |.own _=>∃o,h.get? a=some o
 |.xd fs=>∃mA,h.Ns1 a mA/\∀f,RelO (fs.lookup f) (mA f)
 |.rng lo hi=>∃t u v,h.get? a=some { cls:=.type "range",data:=.fields #[.int lo t,.int hi u,.int 1 v]}
 |.frz o u=>h.get? a=some o/\ObjOk H h a u
 |.tbl ps=>h.get? a=some { cls:=.none,data:=.fields ps}
 |.met f x=>h.get? a=some (methodObj (.ref f) (.ref x))
 |.ext φ=>φ h/\(∃o,h.get? a=some o)/\∀h1 h2:Heap,φ h1->(∀o,h1.get? a=some o->h2.get? a=some o)->φ h2
def HOk (H:Hp) (h:Heap):Prop:=∀a o,H a=some o->ObjOk P w H h a o
end
section
variable {P:Program}{w:World}{H H':Hp}{h h':Heap}{a:Addr}{o:HO}
theorem ObjOk.lt (x:ObjOk P w H h a o):a<h.objs.size:=by
 cases o with
 |lst xs=>obtain⟨_,_,_,_,e⟩:=x;exact K_ e
 |tup xs=>obtain⟨_,_,_,p⟩:=x;exact p.is.lt
 |dK kvs=>obtain⟨_,_,_,_,o,_,_,e,_⟩:=x;exact K_ e
 |dT kvs=>obtain⟨_,_,_,_,o,_,_,e,_⟩:=x;exact K_ e
 |set S n=>obtain⟨o,_,_,_,e,_⟩:=x;exact K_ e
 |ins C dx fs=>obtain⟨_,_,_,e,_⟩:=x;exact K_ e
 |own y=>obtain⟨_,e⟩:=x;exact K_ e
 |xd fs=>obtain⟨_,⟨_,_,_,e,_⟩,_⟩:=x;exact K_ e
 |rng lo hi=>obtain⟨_,_,_,e⟩:=x;exact K_ e
 |frz ob u=>obtain⟨e,_⟩:=x;exact K_ e
 |tbl ps=>exact K_ (show h.get? a=some _ from x)
 |met f y=>exact K_ (show h.get? a=some _ from x)
 |ext φ=>obtain⟨_,⟨_,e⟩,_⟩:=x;exact K_ e
theorem Paired.mapP {α β:Type}{F G:α->β->Prop}:∀{l₁:List α}{l₂:List β},Paired F l₁ l₂->(∀a b,F a b->G a b)->Paired G l₁ l₂
 |_,_,.nil,_=>.nil
 |_,_,.cons r t,f=>.cons (f _ _ r) (Paired.mapP t f)
theorem ObjOk.stay (x:ObjOk P w H h a o) (k:∀b u,(b=a\/H b=some (.own a))->h.get? b=some u->h'.get? b=some u)
  (ho:∀b,H b=some (.own a)->H' b=some (.own a)) (ht:∀b xs,H b=some (.tup xs)->H' b=some (.tup xs)):ObjOk P w H' h' a o:=by
 induction o with
 |lst xs=>obtain⟨z,its,n,r,e⟩:=x;exact⟨z,its,n,r,k _ _ (.inl rfl) e⟩
 |tup xs=>obtain⟨z,its,r,ob,e,c⟩:=x;exact⟨z,its,r,ob,k _ _ (.inl rfl) e,c⟩
 |dK kvs=>obtain⟨z,y,vs,r,ob,es,ep,e,c⟩:=x;exact⟨z,y,vs,r,ob,es,ep,k _ _ (.inl rfl) e,c⟩
 |dT kvs=>obtain⟨z,y,xs,r,ob,es,ep,e,c⟩:=x;exact⟨z,y,xs,Paired.mapP r fun p q z=>⟨z.1,ht _ _ z.2.1,z.2.2⟩,ob,es,ep,k _ _ (.inl rfl) e,c⟩
 |set S n=>obtain⟨ob,es,ep,t,e,c⟩:=x;exact⟨ob,es,ep,t,k _ _ (.inl rfl) e,c⟩
 |ins C dx fs=>obtain⟨d,z,ne,e,mA,⟨od,es,ep,e2,c⟩,r⟩:=x;exact⟨ho _ d,z,ne,k _ _ (.inl rfl) e,mA,⟨od,es,ep,k _ _ (.inr d) e2,c⟩,r⟩
 |own y=>obtain⟨ob,e⟩:=x;exact⟨ob,k _ _ (.inl rfl) e⟩
 |xd fs=>obtain⟨mA,⟨od,es,ep,e,c⟩,r⟩:=x;exact⟨mA,⟨od,es,ep,k _ _ (.inl rfl) e,c⟩,r⟩
 |rng lo hi=>obtain⟨t,u,v,e⟩:=x;exact⟨t,u,v,k _ _ (.inl rfl) e⟩
 |frz ob u ih=>obtain⟨e,q⟩:=x;exact⟨k _ _ (.inl rfl) e,ih q⟩
 |tbl ps =>
  have e:h.get? a=some { cls:=.none,data:=.fields ps}:=x
  show h'.get? a=some { cls:=.none,data:=.fields ps}
  exact k a _ (.inl rfl) e
 |met f y =>
  have e:h.get? a=some (methodObj (.ref f) (.ref y)):=x
  show h'.get? a=some (methodObj (.ref f) (.ref y))
  exact k a _ (.inl rfl) e
 |ext φ=>obtain⟨p,⟨o,e⟩,st⟩:=x;exact⟨st _ _ p fun o q=>k _ _ (.inl rfl) q,⟨o,k _ _ (.inl rfl) e⟩,st⟩
theorem HOk.lt (x:HOk P w H h) (e:H a=some o):a<h.objs.size:=(x a o e).lt
theorem HOk.fresh (x:HOk P w H h) (e:h.objs.size<=a):H a=none:=by
 cases q:H a with
 |none=>rfl
 |some u=>exact absurd (U_ (x.lt q) e) (X3 _)
theorem HOk.kept (x:HOk P w H h) (k:∀b u,h.get? b=some u->h'.get? b=some u):HOk P w H h':=fun a o e =>
 (x a o e).stay (fun b u _ q=>k b u q) (fun _ q=>q) fun _ _ q=>q
theorem HOk.laid (x:HOk P w H h) (k:∀b u,h.get? b=some u->h'.get? b=some u) (hp:h.objs.size<=a) (new:ObjOk P w (upd H a o) h' a o):HOk P w (upd H a o) h':=fun b u e=>by
 have hn:=x.fresh hp;by_cases hb:b=a
 ·subst hb;rw[bU] at e;cases e;exact new
 rw[aV hb] at e;exact (x b u e).stay (fun c v _ q=>k c v q) (fun c q=>by rw[aV (cu q hn)];exact q) fun c xs q=>by rw[aV (cu q hn)];exact q
end
def Rd (H:Hp) (a:Addr) (u:HO):Prop:=H a=some u\/∃o,H a=some (.frz o u)
theorem Rd.of {H:Hp}{a:Addr}{u:HO}(h:H a=some u):Rd H a u:=.inl h
theorem Rd.ok {P:Program}{w:World}{H:Hp}{h:Heap}{a:Addr}{u:HO}(r:Rd H a u) (x:HOk P w H h):ObjOk P w H h a u:=by
 rcases r with r | ⟨o,r⟩
 ·exact x a u r
 obtain⟨_,q⟩:=x a _ r;exact q
def Mut:Option HO->Prop
 |some (.lst _)=>True
 |some (.dK _)=>True
 |some (.dT _)=>True
 |some (.set _ _)=>True
 |some (.ins _ _ _)=>True
 |some (.ext _)=>True
 |_=>False
section
variable {P:Program}{w:World}{H:Hp}{h h':Heap}{x e:Addr}{o':HO}
theorem HOk.write (ok:HOk P w H h) (mu:Mut (H x)) (he:e=x\/H e=some (.own x)) (k:∀b u,b≠e->h.get? b=some u->h'.get? b=some u) (heo:∃u,h'.get? e=some u)
  (new:ObjOk P w (upd H x o') h' x o'):HOk P w (upd H x o') h':=fun b u q=>by
 have nown:∀c y,H c=some (.own y)->c≠x:=fun c y r z=>by subst z;rw[r] at mu;exact mu
 have ntup:∀c xs,H c=some (.tup xs)->c≠x:=fun c xs r z=>by subst z;rw[r] at mu;exact mu
 by_cases hb:b=x
 ·subst hb;rw[bU] at q;cases q;exact new
 rw[aV hb] at q;by_cases hbe:b=e
 ·have q':H b=some (.own x):=by
   rcases he with z | z
   ·exact absurd (hbe.trans z) hb
   rw[hbe];exact z
  rw[q] at q';cases q';obtain⟨v,hv⟩:=heo;exact⟨v,by rw[hbe];exact hv⟩
 refine (ok b u q).stay (fun c v hc r=>k c v ?_ r) (fun c r=>by rw[aV (nown c b r)];exact r) fun c xs r=>by rw[aV (ntup c xs r)];exact r
 rcases hc with rfl | hc
 ·exact hbe
 rintro rfl;rcases he with z | z
 ·exact nown c b hc z
 rw[hc] at z;cases z;exact hb rfl
end
structure Un (fs ex:List Addr) (H H':Hp) (h h':Heap):Prop where
 keep:∀b o,h.get? b=some o->H b=none->b∉fs->b∉ex->h'.get? b=some o
 slot:∀b o,h.get? b=some o->H b=none->b∈fs->b∉ex->∃sl,h'.get? b=some { o with slots:=sl}
 free:∀b o,h.get? b=some o->H b=none->b∉ex->H' b=none
 there:∀b o,h.get? b=some o->b∉ex->∃o',h'.get? b=some o'
 tups:∀b xs,H b=some (.tup xs)->H' b=some (.tup xs)
 frzs:∀b o u,H b=some (.frz o u)->H' b=some (.frz o u)
 tbls:∀b ps,H b=some (.tbl ps)->∃more,H' b=some (.tbl (ps++more))
section
variable {fs fs' ex ex':List Addr}{H H1 H2:Hp}{h h1 h2 h':Heap}{a x e:Addr}{o:HO}
theorem Un.any (u:Un fs ex H H1 h h1) {b:Addr}{ob:Obj}(q:h.get? b=some ob) (n:H b=none) (hx:b∉ex):∃sl,h1.get? b=some { ob with slots:=sl}:=by
 by_cases hb:b∈fs
 ·exact u.slot b ob q n hb hx
 exact⟨ob.slots,u.keep b ob q n hb hx⟩
theorem Un.trans (a:Un fs ex H H1 h h1) (b:Un fs ex H1 H2 h1 h2):Un fs ex H H2 h h2 where
 keep:=fun c ob q n hc hx=>b.keep c ob (a.keep c ob q n hc hx) (a.free c ob q n hx) hc hx
 slot:=fun c ob q n hc hx=>by
  obtain⟨sl,e1⟩:=a.slot c ob q n hc hx
  obtain⟨sl',e2⟩:=b.slot c _ e1 (a.free c ob q n hx) hc hx
  exact⟨sl',e2⟩
 free:=fun c ob q n hx=>by
  obtain⟨o',e1⟩:=a.there c ob q hx
  exact b.free c o' e1 (a.free c ob q n hx) hx
 there:=fun c ob q hx=>by
  obtain⟨o',e1⟩:=a.there c ob q hx
  exact b.there c o' e1 hx
 tups:=fun c xs q=>b.tups c xs (a.tups c xs q)
 frzs:=fun c ob xs q=>b.frzs c ob xs (a.frzs c ob xs q)
 tbls:=fun c ps q=>by
  obtain⟨m1,e1⟩:=a.tbls c ps q
  obtain⟨m2,e2⟩:=b.tbls c _ e1
  exact⟨m1++m2,by rw[e2,Array.append_assoc]⟩
theorem Un.kept (k:∀b u,h.get? b=some u->h'.get? b=some u):Un fs ex H H h h' :=
 ⟨fun b ob q _ _ _=>k b ob q,fun b ob q _ _ _=>⟨ob.slots,k b ob q⟩,fun _ _ _ n _=>n,fun b ob q _=>⟨ob,k b ob q⟩,fun _ _ q=>q,fun _ _ _ q=>q,fun _ ps q=>⟨#[],by rw[q];simp⟩⟩
theorem Un.refl:Un fs ex H H h h:=Un.kept fun _ _ q=>q
theorem Un.laid (k:∀b u,h.get? b=some u->h'.get? b=some u) (hp:h.objs.size<=a) (hn:H a=none):Un fs ex H (upd H a o) h h' where
 keep:=fun b u q _ _ _=>k b u q
 slot:=fun b u q _ _ _=>⟨u.slots,k b u q⟩
 free:=fun b u q n _=>by rw[aV (Xm (U_ (K_ q) hp))];exact n
 there:=fun b u q _=>⟨u,k b u q⟩
 tups:=fun b xs q=>by rw[aV (cu q hn)];exact q
 frzs:=fun b u xs q=>by rw[aV (cu q hn)];exact q
 tbls:=fun b ps q=>⟨#[],by rw[aV (cu q hn),q];simp⟩
theorem Un.write (mu:Mut (H x)) (he:e=x\/H e=some (.own x)) (k:∀b u,b≠e->h.get? b=some u->h'.get? b=some u) (heo:∃u,h'.get? e=some u):Un fs ex H (upd H x o) h h':=by
 have hx:∀b,H b=none->b≠x:=fun b n z=>by subst z;rw[n] at mu;exact mu
 have hb:∀b,H b=none->b≠e:=fun b n z=>by
  subst z;rcases he with r | r
  ·exact hx b n r
  rw[n] at r;cases r
 have hm:∀b u,H b=some u->¬Mut (some u)->b≠x:=fun b u q nm z=>by subst z;rw[q] at mu;exact nm mu
 refine⟨fun b u q n _ _=>k b u (hb b n) q,fun b u q n _ _=>⟨u.slots,k b u (hb b n) q⟩,fun b u q n _=>by rw[aV (hx b n)];exact n,fun b u q _=>?_,
  fun b xs q=>by rw[aV (hm b _ q fun z=>z)];exact q,fun b u xs q=>by rw[aV (hm b _ q fun z=>z)];exact q,fun b ps q=>⟨#[],by rw[aV (hm b _ q fun z=>z),q];simp⟩⟩
 by_cases hbe:b=e
 ·subst hbe;exact heo
 exact⟨u,k b u hbe q⟩
theorem Un.mono (u:Un fs ex H H1 h h1) (hs:∀b∈fs,b∈fs') (hx:∀b∈ex,b∈ex'):Un fs' ex' H H1 h h1 :=
 ⟨fun b ob q n hb he=>u.keep b ob q n (fun z=>hb (hs b z)) fun z=>he (hx b z),fun _ _ q n _ he=>u.any q n fun z=>he (hx _ z),fun b ob q n he=>u.free b ob q n fun z=>he (hx b z),fun b ob q he=>u.there b ob q fun z=>he (hx b z),u.tups,u.frzs,u.tbls⟩
end
def trk (h:Heap) (H:Hp):List Addr:=(List.range h.objs.size).filter fun a=>(H a).isSome
def oX (h:Heap) (H:Hp):Heap:=PySem.W.hideAll h (trk h H)
theorem xT (h:Heap) (H:Hp):(oX h H).objs.size=h.objs.size:=PySem.W.hideAll_size _ _
theorem yW {h:Heap}{H:Hp}{b:Addr}{o:Obj}(e:h.get? b=some o) (n:H b=none):(oX h H).get? b=some o :=
 PySem.W.hideAll_get _ e fun hm=>by
  have q:(H b).isSome=true:=(R_.mp hm).2;rw[n] at q;simp at q
theorem DX {h:Heap}{H:Hp}{b:Addr}{o:Obj}(e:(oX h H).get? b=some o):h.get? b=some o/\H b=none:=by
 have e':h.get? b=some o:=PySem.W.of_hideAll (trk h H) e;refine⟨e',?_⟩;cases q:H b with
 |none=>rfl
 |some x =>
  have hm:b∈trk h H:=R_.mpr ⟨C_.mpr (K_ e'),by simp [q]⟩
  have z:(oX h H).get? b=none:=PySem.W.hideAll_none (trk h H) hm
  rw[z] at e;cases e
def DY (g h : Heap) (L : Addr) : List (Addr × Obj):=(List.range h.objs.size).filterMap fun a => if a = L \/ (g.get? a).isSome = true then none else (h.get? a).map fun o => (a,o)
def rest (g h:Heap) (L d:Addr):List (Addr × Obj):=(DY g h L).filter fun p=>decide (p.1≠d)
structure Mod (K:Frag) (mg:Str->Option Value) (base:Heap):Prop where
 kin:K.In base
 glob:base.Ns mainGlobals mg
 blt:∃mb,base.Ns builtinsNs mb/\∀x:Str,x≠"__name__"->mb x=bootBuiltins x
 nolimit:base.NoLimit
structure Cx where
 prog:Program
 w:World
 K:Frag
 mg:Str->Option Value
 base:Heap
 A:Around
 N:List Str
 s₀:Shared
 H₀:Hp
 env:Env
 outer:List Env
 stack:List Env
 ex:List Addr
 fn:Str->Bool
 calm:Bool
 pn:List (Addr × Obj)
 xe:Value->Shared->Prop
def frs (l : List Env) : List Addr:=l.filterMap (·.frame)
abbrev Cx.fs (X:Cx):List Addr:=frs X.outer
def Vis (sc:Scope) (x:Str):Prop:=sc.names.lookup x=some .local\/sc.names.lookup x=some .cell\/sc.names.lookup x=some .free
def Loc (sc:Scope) (x:Str):Prop:=sc.names.lookup x=some .local\/sc.names.lookup x=some .cell
def Look (env:Env) (h:Heap) (m:Str->Option Value) (x:Str) (u:Value):Prop :=
 (env.kindOf x=some .local/\m x=some u)\/((env.kindOf x=some .cell\/env.kindOf x=some .free)/\∃c,env.cells.lookup x=some c/\h.IsCell c (some u))
structure Cx.Ok (X:Cx):Prop where
 mod:Mod X.K X.mg X.base
 kind:X.env.scope.kind=.function
 glob:X.env.globals=mainGlobals
 blt:X.env.builtins=builtinsNs
 above:X.s₀.heap.objs.size<=X.env.locals
 inj:∀x y c,X.env.cells.lookup x=some c->X.env.cells.lookup y=some c->x=y
 has:∀x,(X.env.kindOf x=some .cell\/X.env.kindOf x=some .free)->∃c,X.env.cells.lookup x=some c
 cab:∀x c,X.fn x=true->X.env.cells.lookup x=some c->X.s₀.heap.objs.size<=c
 hd:X.calm=true->X.A.handled=none
 frames:X.A.frames=some X.stack
 stk:X.stack=X.outer\/(X.stack=X.env::X.outer/\X.env.frame=some X.env.locals)
 exf:∀b∈X.ex,b≠X.env.locals/\∀x c,X.env.cells.lookup x=some c->c≠b
 bs:∀b o,X.base.get? b=some o->X.s₀.heap.get? b=some o/\X.H₀ b=none
 bsz:X.base.objs.size<=X.s₀.heap.objs.size
 noex:∀b o,X.base.get? b=some o->b∉X.ex
 exfs:∀b∈X.ex,b∉X.fs
 funs:X.s₀.heap.FunFrames X.base X.outer
 frf:∀b∈X.fs,X.H₀ b=none
structure Inv (X:Cx) (pins:List (Addr × Obj)) (Z:List (Option V)) (H:Hp) (s:Shared):Prop where
 ok:X.Ok
 os:s.os=X.s₀.os
 bare:AllBare s.gens
 base:Un X.fs X.ex X.H₀ H X.s₀.heap s.heap
 loc:∃m,s.heap.Ns X.env.locals m/\∀(i:Nat) (x:Str) (v:V),X.N[i]?=some x->Z[i]?=some (some v)->Vis X.env.scope x->∃u,RelV v u/\Look X.env s.heap m x u
 cell:∀x c,X.env.cells.lookup x=some c->∃v,s.heap.IsCell c v
 free:H X.env.locals=none
 freeC:∀x c,X.env.cells.lookup x=some c->H c=none
 pin:∀p∈X.pn++pins,s.heap.get? p.1=some p.2/\H p.1=none/\p.1≠X.env.locals/\p.1∉X.fs/\∀v,p.2.data≠.cell v
 hok:HOk X.prog X.w H s.heap
 len:Z.length=X.N.length
section
variable {X:Cx}{pins:List (Addr × Obj)}{Z:List (Option V)}{H H':Hp}{s:Shared}{h':Heap}
theorem Cx.Ok.nofr (ok:X.Ok) {b:Addr}{o:Obj}(e:X.base.get? b=some o):b∉X.fs:=fun hb=>by
 have:=(ok.funs.mem hb).1;rw[e] at this;cases this
theorem Inv.bs (I:Inv X pins Z H s):∀b o,X.base.get? b=some o->s.heap.get? b=some o/\H b=none:=fun b o e =>
 ⟨I.base.keep b o (I.ok.bs b o e).1 (I.ok.bs b o e).2 (I.ok.nofr e) (I.ok.noex b o e),I.base.free b o (I.ok.bs b o e).1 (I.ok.bs b o e).2 (I.ok.noex b o e)⟩
theorem Inv.bk (I:Inv X pins Z H s):∀b o,X.base.get? b=some o->s.heap.get? b=some o:=fun b o e=>(I.bs b o e).1
theorem Inv.mod (I:Inv X pins Z H s):Mod X.K X.mg X.base:=I.ok.mod
theorem Inv.kIn (I:Inv X pins Z H s):X.K.In s.heap:=I.ok.mod.kin.keeps I.bk
theorem Inv.nolimit (I:Inv X pins Z H s):s.heap.NoLimit:=I.ok.mod.nolimit.keeps I.bk
theorem Inv.lt (I:Inv X pins Z H s):X.env.locals<s.heap.objs.size:=let ⟨_,hn,_⟩:=I.loc;hn.lt
theorem Inv.sz (I:Inv X pins Z H s):X.s₀.heap.objs.size<=s.heap.objs.size:=J_ I.ok.above (Yl I.lt)
theorem Inv.nofs (I:Inv X pins Z H s) {a:Addr}(h:s.heap.objs.size<=a):a∉X.fs:=fun hb=>by
 obtain⟨_,o,ho,_⟩:=I.ok.funs.mem hb;exact absurd (U_ (K_ ho) (J_ I.sz h)) (X3 _)
theorem Inv.cne (I:Inv X pins Z H s):∀x c,X.env.cells.lookup x=some c->c≠X.env.locals:=fun x c e z=>by
 obtain⟨v,o,ho,hd⟩:=I.cell x c e;obtain⟨m,⟨o',es,ep,ho',hd',_⟩,_⟩:=I.loc;rw[z,ho'] at ho;cases ho;rw[hd'] at hd;cases hd
theorem Inv.funs (I:Inv X pins Z H s):s.heap.FunFrames X.base X.outer:=by
 have all:∀(l:List Env),(∀b∈frs l,b∈X.fs)->X.s₀.heap.FunFrames X.base l->s.heap.FunFrames X.base l:=by
  intro l;induction l with
  |nil=>intro _ _;trivial
  |cons env r ih =>
  intro hs hl;obtain ⟨hk,⟨L,o,hf,hn,ho,hd⟩,hr⟩:=hl;have hL : L ∈ X.fs:=hs L (by unfold frs; rw [List.filterMap_cons,hf]; exact i_);obtain ⟨sl,e⟩:=I.base.slot L o ho (I.ok.frf L hL) hL fun z => I.ok.exfs L z hL;exact ⟨hk,⟨L,_,hf,hn,e,hd⟩,ih (fun b hb => hs b (by unfold frs; rw [List.filterMap_cons,hf]; exact n_ _ hb)) hr⟩
 exact all X.outer (fun _ hb=>hb) I.ok.funs
theorem Inv.stack (I:Inv X pins Z H s):s.heap.FunFrames X.base X.stack:=by
 rcases I.ok.stk with e | ⟨e,hf⟩
 ·rw[e];exact I.funs
 rw[e];obtain⟨m,hn,_⟩:=I.loc;refine .cons (by rw[I.ok.kind];decide) hf hn ?_ I.funs;exact Heap.get?_none_of_le (J_ I.ok.bsz I.ok.above)
theorem Inv.stkSub (I:Inv X pins Z H s):∀b∈frs X.stack,b∈X.env.locals::X.fs:=fun b hb=>by
 rcases I.ok.stk with e | ⟨e,hf⟩
 ·rw[e] at hb;exact n_ _ hb
 rw [e] at hb;unfold frs at hb;rw [List.filterMap_cons,hf] at hb;exact hb
theorem Inv.stkFree (I:Inv X pins Z H s):∀b∈frs X.stack,H b=none:=fun b hb=>by
 rcases l_.mp (I.stkSub b hb) with e | hb
 ·rw[e];exact I.free
 obtain⟨_,o,ho,_⟩:=I.ok.funs.mem hb;exact I.base.free b o ho (I.ok.frf b hb) fun z=>I.ok.exfs b z hb
theorem Inv.step {g':Array GenState}{t':Nat}{d':Drawn}{ch:List Addr}(I:Inv X pins Z H s)
  (hch:∀b∈ch,(b∈X.ex\/X.s₀.heap.objs.size<=b)/\b≠X.env.locals/\(∀x c,X.env.cells.lookup x=some c->c≠b)/\∀p∈X.pn++pins,p.1≠b)
  (keep:∀b o,b≠X.env.locals->b∉X.fs->b∉ch->s.heap.get? b=some o->H b=none->h'.get? b=some o)
  (slot:∀b o,b≠X.env.locals->b∈X.fs->b∉ch->s.heap.get? b=some o->H b=none->∃sl,h'.get? b=some { o with slots:=sl}) (free:∀b o,b∉ch->s.heap.get? b=some o->H b=none->H' b=none)
  (there:∀b o,b∉ch->s.heap.get? b=some o->∃o',h'.get? b=some o')
  (tups:∀b xs,H b=some (.tup xs)->H' b=some (.tup xs)) (frzs:∀b o u,H b=some (.frz o u)->H' b=some (.frz o u)) (tbls:∀b ps,H b=some (.tbl ps)->∃more,H' b=some (.tbl (ps++more)))
  (ns:∀m,s.heap.Ns X.env.locals m->h'.Ns X.env.locals m) (hok:HOk X.prog X.w H' h') (hg:AllBare g') :
  Inv X pins Z H' { s with heap:=h',gens:=g',drawn:=d',toks:=t'}:=by
 have neL:∀b o,X.s₀.heap.get? b=some o->b≠X.env.locals:=fun b o e=>Xm (U_ (K_ e) I.ok.above);have neC:∀b o,X.s₀.heap.get? b=some o->b∉X.ex->b∉ch:=fun b o e hx hb=>by
  rcases (hch b hb).1 with z | z
  ·exact hx z
  exact absurd (U_ (K_ e) z) (X3 _)
 have cellK:∀x c,X.env.cells.lookup x=some c->∀v,s.heap.IsCell c v->h'.IsCell c v:=fun x c e v ⟨o,ho,hd⟩=>by
  have nch:c∉ch:=fun z=>(hch c z).2.2.1 x c e rfl;by_cases hc:c∈X.fs
  ·obtain⟨sl,q⟩:=slot c o (I.cne x c e) hc nch ho (I.freeC x c e);exact⟨_,q,hd⟩
  exact⟨o,keep c o (I.cne x c e) hc nch ho (I.freeC x c e),hd⟩
 refine⟨I.ok,I.os,hg,⟨fun b o e n hb hx=>?_,fun b o e n hb hx=>?_,fun b o e n hx=>?_,fun b o e hx=>?_,fun b xs e=>tups b xs (I.base.tups b xs e),fun b o xs e=>frzs b o xs (I.base.frzs b o xs e),fun b ps e=>?_⟩,?_,fun x c e=>?_,?_,fun x c e=>?_,fun p hp=>?_,hok,I.len⟩
 ·exact keep b o (neL b o e) hb (neC b o e hx) (I.base.keep b o e n hb hx) (I.base.free b o e n hx)
 ·obtain⟨sl,e1⟩:=I.base.slot b o e n hb hx;obtain⟨sl',e2⟩:=slot b _ (neL b o e) hb (neC b o e hx) e1 (I.base.free b o e n hx);exact⟨sl',e2⟩
 ·obtain⟨o',e1⟩:=I.base.there b o e hx;exact free b o' (neC b o e hx) e1 (I.base.free b o e n hx)
 ·obtain⟨o',e1⟩:=I.base.there b o e hx;exact there b o' (neC b o e hx) e1
 ·obtain⟨m1,e1⟩:=I.base.tbls b ps e;obtain⟨m2,e2⟩:=tbls b _ e1;exact⟨m1++m2,by rw[e2,Array.append_assoc]⟩
 ·obtain⟨m,hn,hl⟩:=I.loc;refine⟨m,ns m hn,fun i x v e1 e2 e3=>?_⟩;obtain⟨u,r,l⟩:=hl i x v e1 e2 e3;refine⟨u,r,?_⟩;rcases l with l | ⟨k,c,e,z⟩
  ·exact .inl l
  exact .inr ⟨k,c,e,cellK x c e _ z⟩
 ·obtain⟨v,z⟩:=I.cell x c e;exact⟨v,cellK x c e v z⟩
 ·obtain⟨m,⟨o,_,_,ho,_⟩,_⟩:=I.loc;exact free _ o (fun z=>(hch _ z).2.1 rfl) ho I.free
 ·obtain⟨v,o,ho,hd⟩:=I.cell x c e;exact free c o (fun z=>(hch c z).2.2.1 x c e rfl) ho (I.freeC x c e)
 obtain⟨e,n,ne,nf,d⟩:=I.pin p hp;have nch:p.1∉ch:=fun z=>(hch p.1 z).2.2.2 p hp rfl;exact⟨keep p.1 p.2 ne nf nch e n,free p.1 p.2 nch e n,ne,nf,d⟩
theorem Inv.un {t':Nat}(I:Inv X pins Z H s) (u:Un X.fs [] H H' s.heap h') (hok:HOk X.prog X.w H' h'):Inv X pins Z H' { s with heap:=h',toks:=t'}:=by
 obtain⟨m,⟨o,es,ep,ho,r⟩,_⟩:=id I.loc;obtain⟨sl,hL⟩:=u.any ho I.free (by simp);exact I.step (g':=s.gens) (d':=s.drawn) (ch:=[]) (fun _ z=>nomatch z) (fun b o _ hb _ e n=>u.keep b o e n hb (by simp)) (fun b o _ hb _ e n=>u.slot b o e n hb (by simp)) (fun b o _ e n=>u.free b o e n (by simp)) (fun b o _ e=>u.there b o e (by simp)) u.tups u.frzs u.tbls (fun m' hm=>by
  obtain⟨o',es',ep',ho',r'⟩:=hm
  rw[ho] at ho';cases ho'
  exact⟨_,es',ep',hL,r'⟩) hok I.bare
theorem Inv.call {g':Array GenState}{t':Nat}{d':Drawn}{ch:List Addr}(I:Inv X pins Z H s) (u:Un (frs X.stack) ch H H' s.heap h') (hok:HOk X.prog X.w H' h') (hg:AllBare g')
  (hch:∀b∈ch,(b∈X.ex\/X.s₀.heap.objs.size<=b)/\b≠X.env.locals/\(∀x c,X.env.cells.lookup x=some c->c≠b)/\∀p∈X.pn++pins,p.1≠b) :
  Inv X pins Z H' { s with heap:=h',gens:=g',drawn:=d',toks:=t'}:=by
 obtain⟨m,⟨o,es,ep,ho,r⟩,_⟩:=id I.loc;obtain⟨sl,hL⟩:=u.any ho I.free fun z=>(hch _ z).2.1 rfl;exact I.step (ch:=ch) hch (fun b o hL hb hc e n=>u.keep b o e n (fun z=>(l_.mp (I.stkSub b z)).elim hL hb) hc) (fun b o _ _ hc e n=>u.any e n hc) (fun b o hc e n=>u.free b o e n hc) (fun b o hc e=>u.there b o e hc) u.tups u.frzs u.tbls (fun m' hm=>by
  obtain⟨o',es',ep',ho',r'⟩:=hm
  rw[ho] at ho';cases ho'
  exact⟨_,es',ep',hL,r'⟩) hok hg
theorem Inv.turned {t':Nat}{it:Addr}(I:Inv X pins Z H s) (k:∀b o,b≠it->s.heap.get? b=some o->h'.get? b=some o) (hn:H it=none) (hL:it≠X.env.locals)
  (h1:it∈X.ex\/X.s₀.heap.objs.size<=it) (h2:∀x c,X.env.cells.lookup x=some c->c≠it) (h3:∀p∈X.pn++pins,p.1≠it):Inv X pins Z H { s with heap:=h',toks:=t'}:=by
 have nit:∀b u,H b=some u->b≠it:=fun b u e z=>by rw[z,hn] at e;cases e
 refine I.step (g':=s.gens) (d':=s.drawn) (ch:=[it]) (fun b hb=>?_) (fun b o _ _ hc e _=>k b o (fun z=>hc (by simp [z])) e) (fun b o _ _ hc e _=>⟨o.slots,k b o (fun z=>hc (by simp [z])) e⟩) (fun _ _ _ _ n=>n)
  (fun b o hc e=>⟨o,k b o (fun z=>hc (by simp [z])) e⟩) (fun _ _ e=>e) (fun _ _ _ e=>e) (fun b ps e=>⟨#[],by rw[e];simp⟩) (fun m hm=>?_) (fun b u e=>?_) I.bare
 ·have e:b=it:=by simpa using hb
  subst e;exact⟨h1,hL,h2,h3⟩
 ·obtain⟨o,es,ep,ho,r⟩:=hm;exact⟨o,es,ep,k _ o (Ne.symm hL) ho,r⟩
 refine (I.hok b u e).stay (fun c v hc q=>k c v ?_ q) (fun _ q=>q) fun _ _ q=>q;rcases hc with z | z
 ·rw[z];exact nit b u e
 exact nit c _ z
theorem Inv.tok (I:Inv X pins Z H s) (t:Nat):Inv X pins Z H { s with toks:=t}:=I.un (h':=s.heap) (t':=t) Un.refl I.hok
theorem Inv.kept {t':Nat}(I:Inv X pins Z H s) (k:∀b u,s.heap.get? b=some u->h'.get? b=some u):Inv X pins Z H { s with heap:=h',toks:=t'}:=I.un (Un.kept k) (I.hok.kept k)
theorem Inv.laid {a:Addr}{o:HO}{t':Nat}(I:Inv X pins Z H s) (k:∀b u,s.heap.get? b=some u->h'.get? b=some u) (hp:s.heap.objs.size<=a) (new:ObjOk X.prog X.w (upd H a o) h' a o) :
  Inv X pins Z (upd H a o) { s with heap:=h',toks:=t'}:=I.un (Un.laid k hp (I.hok.fresh hp)) (I.hok.laid k hp new)
theorem Inv.write {x e:Addr}{o:HO}{t':Nat}(I:Inv X pins Z H s) (mu:Mut (H x)) (he:e=x\/H e=some (.own x)) (k:∀b u,b≠e->s.heap.get? b=some u->h'.get? b=some u) (heo:∃u,h'.get? e=some u)
  (new:ObjOk X.prog X.w (upd H x o) h' x o):Inv X pins Z (upd H x o) { s with heap:=h',toks:=t'}:=I.un (Un.write mu he k heo) (I.hok.write mu he k heo new)
theorem Inv.pins_of {pins':List (Addr × Obj)}(I:Inv X pins Z H s) (h:∀p∈pins',s.heap.get? p.1=some p.2/\H p.1=none/\p.1≠X.env.locals/\p.1∉X.fs/\∀v,p.2.data≠.cell v):Inv X pins' Z H s :=
 ⟨I.ok,I.os,I.bare,I.base,I.loc,I.cell,I.free,I.freeC,fun p hp=>(E_.mp hp).elim (fun z=>I.pin p (Xx _ z)) (h p),I.hok,I.len⟩
theorem qH {N:List Str}(hN:N.Nodup) {i j:Nat}{x:Str}(a:N[i]?=some x) (b:N[j]?=some x):i=j:=by
 obtain⟨h1,e1⟩:=Xr.mp a;obtain⟨h2,e2⟩:=Xr.mp b;exact (List.getElem_inj hN).mp (e1.trans e2.symm)
theorem nJ {M:Model}{A:Around}{E:Value->Shared->Prop}{i:Nat}{x:Str}{v:V}{u:Value}{Q:Unit->Shared->Prop}(I:Inv X pins Z H s) (hN:X.N.Nodup) (hi:X.N[i]?=some x) (hx:Loc X.env.scope x) (r:RelV v u)
  (h:∀s',Inv X pins (Z.set i (some v)) H s'->(∃a,Heap.SameBut a s.heap s'.heap/\(a=X.env.locals\/X.env.cells.lookup x=some a))->Q () s') (hf:X.fn x=true\/X.env.scope.names.lookup x=some .local:=by first | exact .inl rfl | exact .inr rfl | assumption):wpAny M A (storeName X.env x u) Q E s:=by
 obtain⟨m,hn,hl⟩:=id I.loc;have hcls:(X.env.scope.kind==.class||(X.env.scope.kind==.module&&X.env.locals != X.env.globals))=false:=by rw[I.ok.kind];rfl
 have hiZ:i<Z.length:=by rw[I.len];exact (Xr.mp hi).1
 have cne:=I.cne;have tracked:∀{a:Addr} {h':Heap},(∃o,s.heap.get? a=some o/\H a=none)->Heap.SameBut a s.heap h'->HOk X.prog X.w H h':=fun {a h'} ha hs b ob e=>by
  obtain⟨_,_,hfree⟩:=ha;refine (I.hok b ob e).stay (fun c w' hc q=>(hs.2 c ?_).trans q) (fun _ q=>q) fun _ _ q=>q;rintro rfl;rcases hc with rfl | hc
  ·rw[hfree] at e;cases e
  rw[hfree] at hc;cases hc
 rcases hx with hk | hk
 ·refine wpAny_storeName_local hk hn (fun h' hn' hs=>?_) hcls;obtain⟨oL,_,_,hoL,_⟩:=id hn;refine h _ ⟨I.ok,I.os,I.bare,⟨fun b o e n hb hx=>?_,fun b o e n hb hx=>?_,I.base.free,fun b o e hx=>?_,I.base.tups,I.base.frzs,I.base.tbls⟩,⟨_,hn',fun j y v' e1 e2 e3=>?_⟩,fun y c e=>?_,I.free,I.freeC,fun p hp=>?_,tracked ⟨oL,hoL,I.free⟩ hs,by simpa using I.len⟩ ⟨_,hs,.inl rfl⟩
  ·exact (hs.2 b (Xm (U_ (K_ e) I.ok.above))).trans (I.base.keep b o e n hb hx)
  ·obtain⟨sl,e1⟩:=I.base.slot b o e n hb hx;exact⟨sl,(hs.2 b (Xm (U_ (K_ e) I.ok.above))).trans e1⟩
  ·obtain⟨o',e1⟩:=I.base.there b o e hx;exact⟨o',(hs.2 b (Xm (U_ (K_ e) I.ok.above))).trans e1⟩
  ·by_cases hj:j=i
   ·subst hj;rw[hi] at e1;cases e1;rw[Yd hiZ] at e2;cases e2;exact⟨u,r,.inl ⟨hk,by simp⟩⟩
   rw[Ym (Ne.symm hj)] at e2;obtain⟨u',r',q⟩:=hl j y v' e1 e2 e3;refine⟨u',r',?_⟩;rcases q with ⟨k,e⟩ | ⟨k,c,e,z⟩
   ·refine .inl ⟨k,?_⟩;have:y≠x:=fun e=>hj (qH hN e1 (e▸hi));simp [this,e]
   exact .inr ⟨k,c,e,z.sameBut hs (cne y c e)⟩
  ·obtain⟨w',z⟩:=I.cell y c e;exact⟨w',z.sameBut hs (cne y c e)⟩
  obtain⟨e,n,ne,nf,d⟩:=I.pin p hp;exact⟨(hs.2 p.1 ne).trans e,n,ne,nf,d⟩
 have hfn:X.fn x=true:=by
  rcases hf with z | z
  ·exact z
  rw[z] at hk;cases hk
 obtain⟨c,hc⟩:=I.ok.has x (.inl hk);obtain⟨w',z⟩:=I.cell x c hc;refine wpAny_storeName_cell I.ok.kind hk hc z (fun h' hc' hs=>?_);obtain⟨oc,hoc,hocd⟩:=id z;refine h { s with heap:=h'} ⟨I.ok,I.os,I.bare,⟨fun b o e n hb hx=>?_,fun b o e n hb hx=>?_,I.base.free,fun b o e hx=>?_,I.base.tups,I.base.frzs,I.base.tbls⟩,⟨m,hn.sameBut hs (Ne.symm (cne x c hc)),fun j y v' e1 e2 e3=>?_⟩,fun y c' e=>?_,I.free,I.freeC,fun p hp=>?_,tracked ⟨oc,hoc,I.freeC x c hc⟩ hs,by simpa using I.len⟩ ⟨c,hs,.inr hc⟩
 ·exact (hs.2 b (Xm (U_ (K_ e) (I.ok.cab x c hfn hc)))).trans (I.base.keep b o e n hb hx)
 ·obtain⟨sl,e1⟩:=I.base.slot b o e n hb hx;exact⟨sl,(hs.2 b (Xm (U_ (K_ e) (I.ok.cab x c hfn hc)))).trans e1⟩
 ·obtain⟨o',e1⟩:=I.base.there b o e hx;exact⟨o',(hs.2 b (Xm (U_ (K_ e) (I.ok.cab x c hfn hc)))).trans e1⟩
 ·by_cases hj:j=i
  ·subst hj;rw[hi] at e1;cases e1;rw[Yd hiZ] at e2;cases e2;exact⟨u,r,.inr ⟨.inl hk,c,hc,hc'⟩⟩
  rw[Ym (Ne.symm hj)] at e2;obtain⟨u',r',q⟩:=hl j y v' e1 e2 e3;refine⟨u',r',?_⟩;rcases q with q | ⟨k,c',e,z'⟩
  ·exact .inl q
  refine .inr ⟨k,c',e,z'.sameBut hs ?_⟩;rintro rfl;exact hj (qH hN e1 (I.ok.inj _ _ _ e hc▸hi))
 ·by_cases hcc:c'=c
  ·subst hcc;exact⟨_,hc'⟩
  obtain⟨w2,z2⟩:=I.cell y c' e;exact⟨w2,z2.sameBut hs hcc⟩
 obtain⟨e,n,ne,nf,d⟩:=I.pin p hp;refine⟨(hs.2 p.1 ?_).trans e,n,ne,nf,d⟩;intro q;rw[q,hoc] at e;have q':oc=p.2:=G_ e;exact d w' (by rw[<- q'];exact hocd)
theorem qI {M:Model}{A:Around}{E:Value->Shared->Prop}{i:Nat}{x:Str}{v:V}{u:Value}{Q:Unit->Shared->Prop}(I:Inv X pins Z H s) (hN:X.N.Nodup) (hi:X.N[i]?=some x) (hx:Loc X.env.scope x) (r:RelV v u)
  (h:∀s',Inv X pins (Z.set i (some v)) H s'->Q () s') (hf:X.fn x=true\/X.env.scope.names.lookup x=some .local:=by first | exact .inl rfl | exact .inr rfl | assumption):wpAny M A (storeName X.env x u) Q E s :=
 nJ I hN hi hx r (fun s' I' _=>h s' I') hf
theorem Inv.call' {s':Shared}{ch:List Addr}(I:Inv X pins Z H s) (ho:s'.os=s.os) (u:Un (frs X.stack) ch H H' s.heap s'.heap) (hok:HOk X.prog X.w H' s'.heap) (hg:AllBare s'.gens)
  (hch:∀b∈ch,(b∈X.ex\/X.s₀.heap.objs.size<=b)/\b≠X.env.locals/\(∀x c,X.env.cells.lookup x=some c->c≠b)/\∀p∈X.pn++pins,p.1≠b):Inv X pins Z H' s':=by
 obtain⟨h',g',d',t',o'⟩:=s';have e:o'=s.os:=ho;subst e;exact I.call (g':=g') (t':=t') (d':=d') u hok hg hch
end
abbrev XK:=Value->Option Addr->Hp->Prop
abbrev St:=List (Option V)
abbrev VK:=V->Hp->Prop
abbrev TE:=St->Hp->VK->Prop
abbrev TT:=St->Hp->(Bool->Hp->Prop)->Prop
abbrev TA:=St->Hp->(List V->Hp->Prop)->Prop
structure Ends where
 nx:St->Hp->Prop
 rt:VK
 bk:St->Hp->Prop:=fun _ _=>False
 ct:St->Hp->Prop:=fun _ _=>False
abbrev TS:=Ends->St->Hp->Prop
def EP (X:Cx) (pins:List (Addr × Obj)) (Z:St) (Q:VK) (u:Value) (s':Shared):Prop:=∃v H',Inv X pins Z H' s'/\RelV v u/\Q v H'
def TP (X:Cx) (pins:List (Addr × Obj)) (Z:St) (Q:Bool->Hp->Prop) (b:Bool) (s':Shared):Prop:=∃H',Inv X pins Z H' s'/\Q b H'
def AP (X:Cx) (pins:List (Addr × Obj)) (Z:St) (Q:List V->Hp->Prop) (us:List Value) (s':Shared):Prop:=∃vs H',Inv X pins Z H' s'/\Vals vs us/\Q vs H'
def SP (X:Cx) (pins:List (Addr × Obj)) (D:Ends) (f:Flow) (s':Shared):Prop :=
 match f with
 |.next=>∃Z' H',Inv X pins Z' H' s'/\D.nx Z' H'
 |.brk=>∃Z' H',Inv X pins Z' H' s'/\D.bk Z' H'
 |.cont=>∃Z' H',Inv X pins Z' H' s'/\D.ct Z' H'
 |.ret u=>∃v Z' H',Inv X pins Z' H' s'/\RelV v u/\D.rt v H'
def PE (X:Cx) (e:Expr) (t:TE):Prop :=
 ∀(pins:List (Addr × Obj)) (s:Shared) (Z:St) (H:Hp) (Q:VK),Inv X pins Z H s->t Z H Q->wpAny (model X.prog X.w) X.A (eval e X.env) (EP X pins Z Q) X.xe s
def PT (X:Cx) (e:Expr) (t:TT):Prop :=
 ∀(pins:List (Addr × Obj)) (s:Shared) (Z:St) (H:Hp) (Q:Bool->Hp->Prop),Inv X pins Z H s->t Z H Q->wpAny (model X.prog X.w) X.A (isTrue e X.env (eval e X.env)) (TP X pins Z Q) X.xe s
def PW (X:Cx) (e:Expr) (t:TT):Prop :=
 ∀(whole:Sem Value) (pins:List (Addr × Obj)) (s:Shared) (Z:St) (H:Hp) (Q:Bool->Hp->Prop),Inv X pins Z H s->t Z H Q->wpAny (model X.prog X.w) X.A (isTrue e X.env whole) (TP X pins Z Q) X.xe s
theorem PW.pt {X:Cx}{e:Expr}{t:TT}(h:PW X e t):PT X e t:=h _
def PA (X:Cx) (es:List Expr) (t:TA):Prop :=
 ∀(pos:Pos) (pins:List (Addr × Obj)) (s:Shared) (Z:St) (H:Hp) (Q:List V->Hp->Prop),Inv X pins Z H s->t Z H Q->wpAny (model X.prog X.w) X.A (spliced (backTo pos (starEach es X.env))) (AP X pins Z Q) X.xe s
def PS (X:Cx) (st:Stmt) (t:TS):Prop :=
 ∀(pins:List (Addr × Obj)) (s:Shared) (Z:St) (H:Hp) (D:Ends),Inv X pins Z H s->t D Z H->wpAny (model X.prog X.w) X.A (exec st X.env) (SP X pins D) X.xe s
def PSs (X:Cx) (st:List Stmt) (t:TS):Prop :=
 ∀(pins:List (Addr × Obj)) (s:Shared) (Z:St) (H:Hp) (D:Ends),Inv X pins Z H s->t D Z H->wpAny (model X.prog X.w) X.A (execs st X.env) (SP X pins D) X.xe s
theorem thn {α:Type}{t:Sem α}{Q Q':α->Shared->Prop}{M:Model}{A:Around}{E:Value->Shared->Prop}{s:Shared}(h:wpAny M A t Q E s) (hQ:∀a s,Q a s->Q' a s):wpAny M A t Q' E s:=XR h hQ fun _ _ x=>x
section
variable {X:Cx}
def QB (i:Nat):TE:=fun Z H Q=>∃v,Z[i]?=some (some v)/\Q v H
def tC (v:V):TE:=fun _ H Q=>Q v H
theorem Ko {i:Nat}{x:Str}{pos:Pos}(hN:X.N[i]?=some x) (hv:Vis X.env.scope x) (hd:(x==("__debug__":Str))=false:=by decide) (hcd:(x==("__classdict__":Str))=false:=by decide):PE X (.Name x pos) (QB i):=by
 intro pins s Z H Q I h;obtain⟨v,e,h⟩:=h;obtain⟨m,hn,hl⟩:=I.loc;obtain⟨u,r,l⟩:=hl i x v hN e hv;have fin:EP X pins Z Q u s:=⟨v,H,I,r,h⟩;rcases l with ⟨hk,hm⟩ | ⟨hk,c,hc,hcell⟩
 ·exact wpAny_Name (wpAny_loadName_local I.ok.kind hk hn hm fin) hd
 rcases hk with hk | hk
 ·exact wpAny_Name (wpAny_loadName_cell I.ok.kind hk hc hcell fin) hd
 exact wpAny_Name (wpAny_loadName_free I.ok.kind hk hc hcell fin hcd) hd
theorem Kp {i j pos}:PE X (.Constant (.int i) j pos) (tC (.int i)):=fun _ _ _ H _ I h=>wpAny_Constant_int ⟨.int i,H,I.tok _,⟨_,rfl⟩,h⟩
theorem QC {b j pos}:PE X (.Constant (.bool b) j pos) (tC (.bl b)):=fun _ _ _ H _ I h=>Constant_bool ⟨.bl b,H,I,rfl,h⟩
theorem Kq {j pos}:PE X (.Constant .none j pos) (tC .non):=fun _ _ _ H _ I h=>Constant_none ⟨.non,H,I,rfl,h⟩
theorem Kr {x j pos}:PE X (.Constant (.str x) j pos) (tC (.str x)):=fun _ _ _ H _ I h=>Calls.Constant_str ⟨.str x,H,I.tok _,⟨_,rfl⟩,h⟩
def Gl (X:Cx) (x:Str):Prop:=X.env.kindOf x=some .globalImplicit
theorem oY {E:Value->Shared->Prop}{pins:List (Addr × Obj)}{s:Shared}{Z:St}{H:Hp}{x:Str}{u:Value}{pos:Pos}{Q:Value->Shared->Prop}(I:Inv X pins Z H s) (hg:Gl X x) (hm:X.mg x=some u) (h:Q u s)
  (hd:(x==("__debug__":Str))=false:=by decide):wpAny (model X.prog X.w) X.A (eval (.Name x pos) X.env) Q E s :=
 Calls.Name_function_global I.ok.kind hg (Calls.loadGlobal_global (by rw[I.ok.glob];exact I.mod.glob.keeps I.bk) hm h) hd
theorem gQ {E:Value->Shared->Prop}{pins:List (Addr × Obj)}{s:Shared}{Z:St}{H:Hp}{x:Str}{u:Value}{pos:Pos}{Q:Value->Shared->Prop}(I:Inv X pins Z H s) (hg:Gl X x) (hm:X.mg x=none) (hv:bootBuiltins x=some u) (h:Q u s)
  (hn:x≠"__name__":=by decide) (hd:(x==("__debug__":Str))=false:=by decide):wpAny (model X.prog X.w) X.A (eval (.Name x pos) X.env) Q E s:=by
 obtain⟨mb,h1,h2⟩:=I.mod.blt;exact Calls.Name_function_global I.ok.kind hg (Calls.loadGlobal_builtin (by rw[I.ok.glob];exact I.mod.glob.keeps I.bk) hm (by rw[I.ok.blt];exact h1.keeps I.bk) ((h2 x hn).trans hv) h) hd
theorem Ea {x:Str}{v:V}{u:Value}{pos:Pos}(hg:Gl X x) (hm:X.mg x=some u) (r:RelV v u) (hd:(x==("__debug__":Str))=false:=by decide):PE X (.Name x pos) (tC v) :=
 fun _ _ _ H _ I h=>oY I hg hm ⟨v,H,I,r,h⟩ hd
theorem Eb {x:Str}{v:V}{u:Value}{pos:Pos}(hg:Gl X x) (hm:X.mg x=none) (hv:bootBuiltins x=some u) (r:RelV v u) (hn:x≠"__name__":=by decide) (hd:(x==("__debug__":Str))=false:=by decide):PE X (.Name x pos) (tC v) :=
 fun _ _ _ H _ I h=>gQ I hg hm hv ⟨v,H,I,r,h⟩ hn hd
variable {a b:Expr}{ta tb:TE}{pos:Pos}
def PC (X:Cx) (op:CmpOp) (a b:Expr) (t:TE):Prop :=
 ∀(pins:List (Addr × Obj)) (s:Shared) (Z:St) (H:Hp) (Q:VK),Inv X pins Z H s->t Z H Q ->
  wpAny (model X.prog X.w) X.A (eval a X.env) (fun v s₁=>wpAny (model X.prog X.w) X.A (eval b X.env) (fun u s₂=>wpAny (model X.prog X.w) X.A (compareOp op v u) (EP X pins Z Q) X.xe s₂) X.xe s₁) X.xe s
theorem yX (b:Expr) {op:CmpOp}(h:op≠.In) (h2:op≠.NotIn):behindInMarks op b=false:=by
 have e1:(op==CmpOp.In)=false:=by cases op <;> first | rfl | exact absurd rfl h
 have e2:(op==CmpOp.NotIn)=false:=by cases op <;> first | rfl | exact absurd rfl h2
 cases b <;> simp [behindInMarks,e1,e2]
def tB (t:TE):TT:=fun Z H Q=>t Z H fun x H1=>∃c,x=.bl c/\Q c H1
theorem tO {op:CmpOp}{t:TE}(h:PC X op a b t) (h1:behindInMarks op b=false:=by first | exact yX _ (by decide) (by decide) | rfl):PT X (.Compare a [op] [b] pos) (tB t):=by
 intro pins s Z H Q I hw;refine wpAny_isTrue_Compare1 (thn (h pins s Z H _ I hw) fun v s1 h1=>thn h1 fun u s2 h2=>thn h2 fun c s3 ⟨x,H1,I1,r1,q1⟩=>?_) h1;obtain⟨d,rfl,q⟩:=q1;cases r1;exact YH ⟨H1,I1,q⟩
theorem Ks {e:Expr}{t:TE}(h:PE X e t) (he:∀whole,isTrue e X.env whole=(do let v <- whole;standAt e.pos;holding [v] (truthy v)):=by intro _;rfl):PT X e (tB t):=by
 intro pins s Z H Q I hw;refine isTrue_plain (thn (h pins s Z H _ I hw) fun v s1 ⟨x,H1,I1,r1,q1⟩=>?_) (he _);obtain⟨d,rfl,q⟩:=q1;cases r1;exact YH ⟨H1,I1,q⟩
variable {tA tB':TT}{rest:List Expr}
def V5 (t u:TT):TT:=fun Z H Q=>t Z H fun c H1=>if c=true then u Z H1 Q else Q false H1
def tOr (t u:TT):TT:=fun Z H Q=>t Z H fun c H1=>if c=true then Q true H1 else u Z H1 Q
def V6 (t:TT):TT:=fun Z H Q=>t Z H fun c H1=>Q (!c) H1
theorem Ec (ha:PT X a tA):PW X (.BoolOp .And [a] pos) tA:=by
 intro wh pins s Z H Q I h;refine isTrue_and (thn (ha pins s Z H Q I h) fun c s1 e=>?_);cases c with
 |true=>exact isTrue_and_nil e
 |false=>exact e
theorem Ku (ha:PT X a tA):PW X (.BoolOp .Or [a] pos) tA:=by
 intro wh pins s Z H Q I h;refine isTrue_or (thn (ha pins s Z H Q I h) fun c s1 e=>?_);cases c with
 |false=>exact isTrue_or_nil e
 |true=>exact e
theorem Kv (ha:PT X a tA) (hb:PW X (.BoolOp .And (b::rest) pos) tB'):PW X (.BoolOp .And (a::b::rest) pos) (V5 tA tB'):=by
 intro wh pins s Z H Q I h;refine isTrue_and (thn (ha pins s Z H _ I h) fun c s1 ⟨H1,I1,q1⟩=>?_);cases c with
 |true=>exact hb wh pins s1 Z H1 Q I1 q1
 |false=>exact⟨H1,I1,q1⟩
theorem QD (ha:PT X a tA) (hb:PW X (.BoolOp .Or (b::rest) pos) tB'):PW X (.BoolOp .Or (a::b::rest) pos) (tOr tA tB'):=by
 intro wh pins s Z H Q I h;refine isTrue_or (thn (ha pins s Z H _ I h) fun c s1 ⟨H1,I1,q1⟩=>?_);cases c with
 |true=>exact⟨H1,I1,q1⟩
 |false=>exact hb wh pins s1 Z H1 Q I1 q1
theorem Kz (ha:PT X a tA):PT X (.UnaryOp .Not a pos) (V6 tA):=by
 intro pins s Z H Q I h;exact isTrue_not (ha pins s Z H (fun c H1=>Q (!c) H1) I h)
def QF (ta tb:TE):TE:=fun Z H Q=>ta Z H fun x H1=>∃c,x=.bl c/\if c=true then tb Z H1 Q else Q (.bl false) H1
def V7 (ta tb:TE):TE:=fun Z H Q=>ta Z H fun x H1=>∃c,x=.bl c/\if c=true then Q (.bl true) H1 else tb Z H1 Q
def QG (ta:TE):TE:=fun Z H Q=>ta Z H fun x H1=>∃c,x=.bl c/\Q (.bl (!c)) H1
theorem KD {op}{t:TE}(h:PE X a t):PE X (.BoolOp op [a] pos) t:=fun pins s Z H Q I hw=>BoolOp_one (h pins s Z H Q I hw)
theorem KH (ha:PE X a ta) (hb:PE X (.BoolOp .And (b::rest) pos) tb):PE X (.BoolOp .And (a::b::rest) pos) (QF ta tb):=by
 intro pins s Z H Q I h;refine BoolOp_and (thn (ha pins s Z H _ I h) fun v s1 ⟨x,H1,I1,r1,q1⟩=>?_);obtain⟨c,rfl,q1⟩:=q1;cases r1;refine YH ?_;cases c with
 |true=>exact hb pins s1 Z H1 Q I1 q1
 |false=>exact⟨.bl false,H1,I1,rfl,q1⟩
theorem QH (ha:PE X a ta) (hb:PE X (.BoolOp .Or (b::rest) pos) tb):PE X (.BoolOp .Or (a::b::rest) pos) (V7 ta tb):=by
 intro pins s Z H Q I h;refine BoolOp_or (thn (ha pins s Z H _ I h) fun v s1 ⟨x,H1,I1,r1,q1⟩=>?_);obtain⟨c,rfl,q1⟩:=q1;cases r1;refine YH ?_;cases c with
 |false=>exact hb pins s1 Z H1 Q I1 q1
 |true=>exact⟨.bl true,H1,I1,rfl,q1⟩
theorem KJ (ha:PE X a ta):PE X (.UnaryOp .Not a pos) (QG ta):=by
 intro pins s Z H Q I h;refine UnaryOp_ (thn (ha pins s Z H _ I h) fun v s1 ⟨x,H1,I1,r1,q1⟩=>?_);obtain⟨c,rfl,q1⟩:=q1;cases r1;exact not_of (YH ⟨.bl (!c),H1,I1,rfl,q1⟩)
end
def SqL (K:Frag) (H:Hp) (a:Addr) (xs:List V):Prop :=
 Rd H a (.lst xs) \/
  ∃(o:Obj) (its:Array Value) (n:Nat),K.lookup a=some o/\o.cls=.type "list"/\o.dict=none/\o.data=.seq its n/\its.size<=sizeLine/\Vals xs its.toList
def SqT (K:Frag) (H:Hp) (a:Addr) (xs:List V):Prop :=
 Rd H a (.tup xs) \/
  ∃(o:Obj) (its:Array Value) (n:Nat),K.lookup a=some o/\o.cls=.type "tuple"/\o.dict=none/\o.data=.seq its n/\its.size<=sizeLine/\Vals xs its.toList
def V8:Value->Option V
 |.none=>some .non
 |.bool b=>some (.bl b)
 |.int i _=>some (.int i)
 |.str x _=>some (.str x)
 |.bytes b _=>some (.byt b)
 |.float b _=>some (.flt b)
 |.ref a=>some (.ref a)
 |.type n=>some (.ty n)
 |_=>none
theorem RelV.abs {x:V}{u:Value}(r:RelV x u):V8 u=some x:=by
 cases x with
 |non=>cases r;rfl
 |bl _=>cases r;rfl
 |int _=>obtain⟨t,rfl⟩:=r;rfl
 |str _=>obtain⟨t,rfl⟩:=r;rfl
 |byt _=>obtain⟨t,rfl⟩:=r;rfl
 |flt _=>obtain⟨t,rfl⟩:=r;rfl
 |ref _=>cases r;rfl
 |ty _=>cases r;rfl
theorem RelV.inj {x y:V}{u:Value}(r:RelV x u) (q:RelV y u):x=y:=G_ (r.abs.symm.trans q.abs)
theorem Vals.inj {xs ys:List V}{us:List Value}(h:Vals xs us) (h':Vals ys us):xs=ys:=by
 induction h generalizing ys with
 |nil=>cases h';rfl
 |cons r t ih =>
 cases h' with
 |cons r' t'=>rw[r.inj r',ih t']
section
variable {X:Cx}{pins:List (Addr × Obj)}{Z:St}{H:Hp}{s:Shared}{a:Addr}{xs ys:List V}
theorem SqL.of {K:Frag}(h:H a=some (.lst xs)):SqL K H a xs:=.inl (.inl h)
theorem SqT.of {K:Frag}(h:H a=some (.tup xs)):SqT K H a xs:=.inl (.inl h)
theorem Inv.list (I:Inv X pins Z H s) (h:SqL X.K H a xs):∃its:List Value,Vals xs its/\PlainL s.heap a its.toArray/\xs.length<=sizeLine:=by
 rcases h with h | ⟨o,its,n,hk,hc,hd,hs,hz,r⟩
 ·obtain⟨z,its,n,r,e⟩:=h.ok I.hok;exact⟨its,r,⟨_,n,e,rfl,rfl,rfl⟩,z⟩
 refine⟨its.toList,r,⟨o,n,I.kIn a o hk,hc,hd,by simpa using hs⟩,?_⟩;have e:=r.length;simp only[Yg] at e;omega
theorem Inv.tuple (I:Inv X pins Z H s) (h:SqT X.K H a xs):∃its:List Value,Vals xs its/\IsTup s.heap a its.toArray/\xs.length<=sizeLine:=by
 rcases h with h | ⟨o,its,n,hk,hc,_,hs,hz,r⟩
 ·obtain⟨z,its,r,p⟩:=h.ok I.hok;exact⟨its,r,p.is,z⟩
 refine⟨its.toList,r,⟨o,I.kIn a o hk,hc,n,by simpa using hs⟩,?_⟩;have e:=r.length;simp only[Yg] at e;omega
theorem Inv.list_inj (I:Inv X pins Z H s) (h:SqL X.K H a xs) (h':SqL X.K H a ys):xs=ys:=by
 obtain⟨its,r,⟨o,n,e,_,_,d⟩,_⟩:=I.list h;obtain⟨its',r',⟨o',n',e',_,_,d'⟩,_⟩:=I.list h';rw[e] at e';cases e';rw[d] at d';injection d' with d1 _;have:its=its':=by simpa using T_ Array.toList d1
 subst this;exact r.inj r'
theorem Inv.tuple_inj (I:Inv X pins Z H s) (h:SqT X.K H a xs) (h':SqT X.K H a ys):xs=ys:=by
 obtain⟨its,r,⟨o,e,_,n,d⟩,_⟩:=I.tuple h;obtain⟨its',r',⟨o',e',_,n',d'⟩,_⟩:=I.tuple h';rw[e] at e';cases e';rw[d] at d';injection d' with d1 _;have:its=its':=by simpa using T_ Array.toList d1
 subst this;exact r.inj r'
end
abbrev Cx.wish (X:Cx) (E:Value->Shared->Prop):Cx:={ X with xe:=E}
abbrev Cx.nox (X:Cx):Cx:=X.wish fun _ _=>False
theorem Cx.Ok.wish {X:Cx}(ok:X.Ok) (E:Value->Shared->Prop):(X.wish E).Ok :=
 ⟨ok.mod,ok.kind,ok.glob,ok.blt,ok.above,ok.inj,ok.has,ok.cab,ok.hd,ok.frames,ok.stk,ok.exf,ok.bs,ok.bsz,ok.noex,ok.exfs,ok.funs,ok.frf⟩
theorem Cx.Ok.unwish {X:Cx}{E:Value->Shared->Prop}(ok:(X.wish E).Ok):X.Ok :=
 ⟨ok.mod,ok.kind,ok.glob,ok.blt,ok.above,ok.inj,ok.has,ok.cab,ok.hd,ok.frames,ok.stk,ok.exf,ok.bs,ok.bsz,ok.noex,ok.exfs,ok.funs,ok.frf⟩
section
variable {X:Cx}{pins:List (Addr × Obj)}{Z:St}{H:Hp}{s:Shared}{E:Value->Shared->Prop}
theorem Inv.wish (I:Inv X pins Z H s) (E:Value->Shared->Prop):Inv (X.wish E) pins Z H s:=⟨I.ok.wish E,I.os,I.bare,I.base,I.loc,I.cell,I.free,I.freeC,I.pin,I.hok,I.len⟩
theorem Inv.unwish (I:Inv (X.wish E) pins Z H s):Inv X pins Z H s:=⟨I.ok.unwish,I.os,I.bare,I.base,I.loc,I.cell,I.free,I.freeC,I.pin,I.hok,I.len⟩
theorem SP.unwish {D:Ends}{f:Flow}{s':Shared}(h:SP (X.wish E) pins D f s'):SP X pins D f s':=by
 cases f with
 |next=>obtain⟨Z',H',I,q⟩:=h;exact⟨Z',H',I.unwish,q⟩
 |brk=>obtain⟨Z',H',I,q⟩:=h;exact⟨Z',H',I.unwish,q⟩
 |cont=>obtain⟨Z',H',I,q⟩:=h;exact⟨Z',H',I.unwish,q⟩
 |ret u=>obtain⟨v,Z',H',I,r,q⟩:=h;exact⟨v,Z',H',I.unwish,r,q⟩
theorem PE.nox {e:Expr}{t:TE}(h:PE X.nox e t):PE X e t:=fun pins s Z H Q I hw =>
 XR (h pins s Z H Q (I.wish _) hw) (fun _ _ ⟨v,H',I',r,q⟩=>⟨v,H',I'.unwish,r,q⟩) fun _ _ z=>False.elim z
theorem PT.nox {e:Expr}{t:TT}(h:PT X.nox e t):PT X e t:=fun pins s Z H Q I hw =>
 XR (h pins s Z H Q (I.wish _) hw) (fun _ _ ⟨H',I',q⟩=>⟨H',I'.unwish,q⟩) fun _ _ z=>False.elim z
theorem PSs.nox {st:List Stmt}{t:TS}(h:PSs X.nox st t):PSs X st t:=fun pins s Z H D I hw =>
 XR (h pins s Z H D (I.wish _) hw) (fun _ _ q=>q.unwish) fun _ _ z=>False.elim z
variable {st:Stmt}{rest:List Stmt}{t u:TS}{e:Expr}{te:TE}{pos:Pos}
def QJ:TS:=fun D Z H=>D.nx Z H
def V9 (t u:TS):TS:=fun D Z H=>t { D with nx:=u D} Z H
theorem Ed:PSs X [] QJ:=fun _ _ Z H _ I h=>wpAny_execs_nil ⟨Z,H,I,h⟩
theorem yZ (h1:PS X st t) (h2:PSs X rest u):PSs X (st::rest) (V9 t u):=by
 intro pins s Z H D I h;refine wpAny_execs_cons (thn (h1 pins s Z H { D with nx:=u D} I h) fun f s1 q=>?_);cases f with
 |next=>obtain⟨Z',H',I',q⟩:=q;exact h2 pins s1 Z' H' D I' q
 |ret v=>exact q
 |brk=>exact q
 |cont=>exact q
theorem Ef (h1:PS X st t):PSs X [st] t:=by
 intro pins s Z H D I h;refine wpAny_execs_cons (thn (h1 pins s Z H D I h) fun f s1 q=>?_);cases f with
 |next=>exact wpAny_execs_nil q
 |ret v=>exact q
 |brk=>exact q
 |cont=>exact q
theorem Inv.quiet {pins:List (Addr × Obj)}{Z:St}{H:Hp}{s:Shared}(I:Inv X pins Z H s):interactive X.env=false:=by simp [interactive,I.ok.kind]
def QK (te:TE):TS:=fun D Z H=>te Z H fun _ H1=>D.nx Z H1
theorem Eg (he:PE X e te) (hs:swapsWith e none pos.line X.env=pure false:=by rfl):PS X (.Expr e pos) (QK te):=by
 intro pins s Z H D I h;exact wpAny_Expr_any (thn (he pins s Z H _ I h) fun v s1 ⟨x,H1,I1,r1,q1⟩=>⟨Z,H1,I1,q1⟩) I.quiet hs
def Wa (te:TE):TS:=fun D Z H=>te Z H D.rt
theorem KN (he:PE X e te):PS X (.Return (some e) pos) (Wa te):=by
 intro pins s Z H D I h;exact wpAny_Return_some (thn (he pins s Z H _ I h) fun v s1 ⟨x,H1,I1,r1,q1⟩=>⟨x,Z,H1,I1,r1,q1⟩)
def Wb (c:TT) (t u:TS):TS:=fun D Z H=>c Z H fun b H1=>if b=true then t D Z H1 else u D Z H1
theorem QL {c:Expr}{a b:List Stmt}{tc:TT}(hc:PT X c tc) (ha:PSs X a t) (hb:PSs X b u):PS X (.If c a b pos) (Wb tc t u):=by
 intro pins s Z H D I h;refine wpAny_If (thn (hc pins s Z H _ I h) fun d s1 ⟨H1,I1,q1⟩=>?_);cases d with
 |true=>exact ha pins s1 Z H1 D I1 q1
 |false=>exact hb pins s1 Z H1 D I1 q1
end
abbrev TG:=V->St->Hp->(St->Hp->Prop)->Prop
abbrev TGs:=List V->St->Hp->(St->Hp->Prop)->Prop
def PG (X:Cx) (target:Expr) (t:TG):Prop :=
 ∀(pins:List (Addr × Obj)) (s:Shared) (Z:St) (H:Hp) (v:V) (u:Value) (Q:St->Hp->Prop),Inv X pins Z H s->RelV v u->t v Z H Q ->
  wpAny (model X.prog X.w) X.A (assign target X.env u) (fun _ s'=>∃Z' H',Inv X pins Z' H' s'/\Q Z' H') X.xe s
def PGs (X:Cx) (ts:List Expr) (t:TGs):Prop :=
 ∀(pins:List (Addr × Obj)) (s:Shared) (Z:St) (H:Hp) (vs:List V) (us:List Value) (Q:St->Hp->Prop),Inv X pins Z H s->Vals vs us->t vs Z H Q ->
  wpAny (model X.prog X.w) X.A (assignInOrder ((assignEach ts X.env).map (·.2)) us) (fun _ s'=>∃Z' H',Inv X pins Z' H' s'/\Q Z' H') X.xe s
abbrev za:=V->V->V->Hp->(Hp->Prop)->Prop
def PSet (X:Cx) (t:za):Prop :=
 ∀(pins:List (Addr × Obj)) (s:Shared) (Z:St) (H:Hp) (o i v:V) (ov iv u:Value) (Q:Hp->Prop),Inv X pins Z H s->RelV o ov->RelV i iv->RelV v u->t o i v H Q ->
  wpAny (model X.prog X.w) X.A (setItem ov iv u) (fun _ s'=>∃H',Inv X pins Z H' s'/\Q H') X.xe s
section
variable {X:Cx}{pos:Pos}
def Ik (i:Nat):TG:=fun v Z H Q=>Q (Z.set i (some v)) H
theorem Eh {i:Nat}{x:Str}(hN:X.N.Nodup) (hi:X.N[i]?=some x) (hx:Loc X.env.scope x) (hf:X.fn x=true\/X.env.scope.names.lookup x=some .local:=by first | exact .inl rfl | exact .inr rfl | assumption):PG X (.Name x pos) (Ik i):=by
 intro pins s Z H v u Q I r h;exact wpAny_assign_Name (qI I hN hi hx r (fun s' I'=>⟨_,H,I',h⟩) hf)
def Wc:TGs:=fun vs Z H Q=>vs=[]/\Q Z H
def QM (t:TG) (u:TGs):TGs:=fun vs Z H Q=>∃v r,vs=v::r/\t v Z H fun Z' H'=>u r Z' H' Q
theorem Ei:PGs X [] Wc:=by
 intro pins s Z H vs us Q I r h;obtain⟨e,h⟩:=h;subst e;cases r;exact assignInOrder_nil ⟨Z,H,I,h⟩
theorem zb {e:Expr}{es:List Expr}{t:TG}{u:TGs}(h1:PG X e t) (h2:PGs X es u)
  (hs:(assignEach (e::es) X.env).map (·.2)=assign e X.env::(assignEach es X.env).map (·.2):=by rfl):PGs X (e::es) (QM t u):=by
 intro pins s Z H vs us Q I r h;obtain⟨v,vr,e1,h⟩:=h;subst e1;cases r with
 |cons r rr =>
 rw[hs];refine assignInOrder_cons (thn (h1 pins s Z H _ _ _ I r h) fun _ s1 ⟨Z1,H1,I1,q1⟩=>?_);exact h2 pins s1 Z1 H1 _ _ Q I1 rr q1
def Wd (K:Frag) (n:Nat) (t:TGs):TG:=fun v Z H Q=>∃a xs,v=.ref a/\SqT K H a xs/\xs.length=n/\t xs Z H Q
theorem KQ {es:List Expr}{k:Nat}{t:TGs}{n:Nat}(hc:X.calm=true) (h:PGs X es t)
  (hn:(assignEach es X.env).length=n:=by rfl) (hst:(assignEach es X.env).findIdx? (·.1)=none:=by rfl):PG X (.Tuple es k pos) (Wd X.K n t):=by
 intro pins s Z H v u Q I r hw;obtain⟨a,xs,e1,hq,hl,hw⟩:=hw;subst e1;cases r;obtain⟨its,rv,ht,hz⟩:=I.tuple hq;refine assign_Tuple_tuple (I.ok.hd hc) ht (by simp [hn,<- hl,rv.length]) hst fun h' hx=>?_;have I1:Inv X pins Z H { s with heap:=h'}:=I.kept (t':=s.toks) fun b o e=>hx b o (Xm (K_ e)) e;exact h pins _ Z H xs _ Q I1 (by simpa using rv) hw
def We (to ti:TE) (t:za):TG:=fun v Z H Q=>to Z H fun o H1=>ti Z H1 fun i H2=>t o i v H2 fun H3=>Q Z H3
theorem KR {o i:Expr}{to ti:TE}{t:za}(ho:PE X o to) (hi:PE X i ti) (hs:PSet X t)
  (ha:∀v,assign (.Subscript o i pos) X.env v=(do
   let ov <- holding [v] (eval o X.env)
   let iv <- holding [v,ov] (eval i X.env)
   standAt pos
   holding [v,ov,iv] (setItem ov iv v)
   release [v,ov,iv] []):=by intro _;rfl):PG X (.Subscript o i pos) (We to ti t):=by
 intro pins s Z H v u Q I r h;rw[ha];refine v_ (Zt (thn (ho pins s Z H _ I h) fun ov s1 ⟨x,H1,I1,r1,q1⟩=>?_));refine v_ (Zt (thn (hi pins s1 Z H1 _ I1 q1) fun iv s2 ⟨y,H2,I2,r2,q2⟩=>?_));refine v_ (wpAny_standAt (v_ (Zt (thn (hs pins s2 Z H2 x y v ov iv u _ I2 r1 r2 r q2) fun _ s3 ⟨H3,I3,q3⟩=>?_))));exact wpAny_release ⟨Z,H3,I3,q3⟩
def QQ (te:TE) (g:TG):TS:=fun D Z H=>te Z H fun x H1=>g x Z H1 D.nx
theorem KY {tg e:Expr}{te:TE}{g:TG}(he:PE X e te) (hg:PG X tg g) (hs:swapsWithSole [tg] e pos.line X.env=pure false:=by rfl) (hw:swappedStores [tg] e X.env=pure none:=by rfl)
  (h1:(assignEach [tg] X.env).map (·.2)=[assign tg X.env]:=by rfl):PS X (.Assign [tg] e pos) (QQ te g):=by
 intro pins s Z H D I h;refine wpAny_Assign_stores (thn (he pins s Z H _ I h) fun v s1 ⟨x,H1,I1,r1,q1⟩=>?_) hs hw;rw[h1];exact thn (hg pins s1 Z H1 x v _ I1 r1 q1) fun _ s2 q=>q
theorem KZ {i:Nat}{x:Str}{e:Expr}{te:TE}{pos':Pos}(hN:X.N.Nodup) (hi:X.N[i]?=some x) (hx:Loc X.env.scope x) (he:PE X e te) (hs:swapsWith e (some (.Name x pos')) pos.line X.env=pure false:=by rfl) (hf:X.fn x=true\/X.env.scope.names.lookup x=some .local:=by first | exact .inl rfl | exact .inr rfl | assumption) :
  PS X (.Assign [.Name x pos'] e pos) (QQ te (Ik i)):=by
 intro pins s Z H D I h;refine wpAny_Assign_Name (thn (he pins s Z H _ I h) fun v s1 ⟨y,H1,I1,r1,q1⟩=>?_) hs;exact qI I1 hN hi hx r1 (fun s2 I2=>⟨_,H1,I2,q1⟩) hf
def K1 (c:TT) (tb:TS):TS:=fun D Z H=>∃W:Nat->St->Hp->Prop,(∃m,W m Z H)/\∀m Z H,W m Z H ->
 c Z H fun b H1=>if b=true then ∃N:St->Hp->Prop,(∀Z' H',N Z' H'->∃m',m'<m/\W m' Z' H')/\tb { D with nx:=N,ct:=N,bk:=D.nx} Z H1 else D.nx Z H1
theorem zc {c:Expr}{body:List Stmt}{tc:TT}{tb:TS}(hp:PassesOwn (model X.prog X.w) X.A X.env X.xe) (hc:PT X c tc) (hb:PSs X body tb):PS X (.While c body [] pos) (K1 tc tb):=by
 intro pins s Z H D I h;obtain⟨W,⟨m0,w0⟩,turn⟩:=h;refine wpAny_While (codeAny_whileLoop (fun n s'=>∃Z' H',Inv X pins Z' H' s'/\W n Z' H') ?_ m0 ⟨Z,H,I,w0⟩);rintro n s1 ⟨Z1,H1,I1,w1⟩;refine YF hp (thn (hc pins s1 Z1 H1 _ I1 (turn n Z1 H1 w1)) fun b s2 ⟨H2,I2,q2⟩=>?_);cases b with
 |true =>
  obtain⟨N,hN,q2⟩:=q2;rw[if_pos rfl];refine YF hp (thn (hb pins s2 Z1 H2 _ I2 q2) fun f s3 q3=>?_);cases f with
  |next=>obtain⟨Z3,H3,I3,n3⟩:=q3;obtain⟨m',hm,w3⟩:=hN Z3 H3 n3;exact⟨m',hm,Z3,H3,I3,w3⟩
  |cont=>obtain⟨Z3,H3,I3,n3⟩:=q3;obtain⟨m',hm,w3⟩:=hN Z3 H3 n3;exact⟨m',hm,Z3,H3,I3,w3⟩
  |brk=>exact q3
  |ret v=>exact q3
 |false =>
 rw[if_neg u_];exact wpAny_execs_nil ⟨Z1,H2,I2,q2⟩
end
structure It where
 go:Nat->Hp->Prop
 yld:Nat->Hp->V->Hp->Prop
 stop:Nat->Hp->Prop
def mZ (X:Cx) (pins:List (Addr × Obj)) (H:Hp) (b:Addr):Prop :=
 H b=none/\b≠X.env.locals/\b∉X.fs/\(b∈X.ex\/X.s₀.heap.objs.size<=b)/\(∀x c,X.env.cells.lookup x=some c->c≠b)/\∀p∈X.pn++pins,p.1≠b
theorem Inv.fpOk {X:Cx}{pins:List (Addr × Obj)}{Z:St}{H H':Hp}{s:Shared}{b:Addr}(I:Inv X pins Z H s) (hb:s.heap.objs.size<=b) (hn:H' b=none):mZ X pins H' b:=by
 refine⟨hn,Zj (U_ I.lt hb),I.nofs hb,.inr (J_ I.sz hb),fun x c e z=>?_,fun p hp z=>?_⟩
 ·obtain⟨v,q⟩:=I.cell x c e;exact absurd (U_ q.lt (by rw[z];exact hb)) (X3 _)
 exact absurd (U_ (K_ (I.pin p hp).1) (by rw[z];exact hb)) (X3 _)
structure Turn (P:Program) (w:World) (K:Frag) (tg:Expr) (J:It) (fp:List Addr) (it:Addr) (tn:Nat->Heap->Prop):Prop where
 mem:it∈fp
 obj:∀i h,tn i h->∀b∈fp,∃o,h.get? b=some o/\∀v,o.data≠.cell v
 keep:∀i h h',tn i h->(∀b∈fp,∀o,h.get? b=some o->h'.get? b=some o)->tn i h'
 item:∀(X:Cx),X.prog=P->X.w=w->X.K=K->X.calm=true->∀(i:Nat) (pins:List (Addr × Obj)) (s:Shared) (Z:St) (H:Hp) (E:Value->Shared->Prop),Inv X pins Z H s->(∀b∈fp,mZ X pins H b)->tn i s.heap->J.go i H ->
  wpAny (model P w) X.A (pyNext (.ref it)) (fun r s1=>∃u,r=some u /\
   wpAny (model P w) X.A (letOwnedTupleGo tg (.ref it) u) (fun _ s2=>∃x H',Inv X pins Z H' s2/\RelV x u/\J.yld i H x H'/\tn (i+1) s2.heap/\∀b∈fp,H' b=none) E s1) E s
 done:∀(X:Cx),X.prog=P->X.w=w->X.K=K->X.calm=true->∀(i:Nat) (pins:List (Addr × Obj)) (s:Shared) (Z:St) (H:Hp) (E:Value->Shared->Prop),Inv X pins Z H s->(∀b∈fp,mZ X pins H b)->tn i s.heap->J.stop i H ->
  wpAny (model P w) X.A (pyNext (.ref it)) (fun r s1=>r=none/\Inv X pins Z H s1) E s
 self:∀(A:Around) (i:Nat) (s:Shared) (Q:Value->Shared->Prop) (E:Value->Shared->Prop),tn i s.heap->Q (.ref it) s->wpAny (model P w) A (pyIter (.ref it)) Q E s
abbrev TI:=St->Hp->(It->Hp->Prop)->Prop
def PIE (X:Cx) (pins:List (Addr × Obj)) (Z:St) (tg:Expr) (R:It->Hp->Prop) (itv:Value) (s2:Shared):Prop :=
 ∃(it:Addr) (fp:List Addr) (tn:Nat->Heap->Prop) (J:It) (H':Hp),itv=.ref it/\Inv X pins Z H' s2/\Turn X.prog X.w X.K tg J fp it tn/\tn 0 s2.heap/\(∀b∈fp,mZ X pins H' b)/\R J H'
def PI (X:Cx) (tg iter:Expr) (wi:TI):Prop :=
 ∀(pins:List (Addr × Obj)) (s:Shared) (Z:St) (H:Hp) (R:It->Hp->Prop),Inv X pins Z H s->wi Z H R ->
  wpAny (model X.prog X.w) X.A (eval iter X.env) (fun v s1=>wpAny (model X.prog X.w) X.A (pyIter v) (PIE X pins Z tg R) X.xe s1) X.xe s
theorem vJ {M:Model}{A:Around}{E:Value->Shared->Prop}{s:Shared}{tg:Expr}{it:Addr}{u:Value}{o:Obj}{n:String}{vs:Array Value}{Q:Unit->Shared->Prop}(ho:s.heap.get? it=some o) (hc:o.cls=.type n) (hd:o.data=.fields vs)
  (hn:["enumerate","zip","dict_itemiterator","dict_reverseitemiterator","odict_iterator","itertools.zip_longest","itertools.pairwise"].contains n=false) (hQ:Q () s):wpAny M A (letOwnedTupleGo tg (.ref it) u) Q E s:=by
 unfold letOwnedTupleGo;cases tg <;> first
  |exact O_ hQ
  | (cases u <;> first
    |exact O_ hQ
    | (refine v_ (wpAny_load ho ?_)
       rw[hc,hd]
       show wpAny M A (if (["enumerate","zip","dict_itemiterator","dict_reverseitemiterator","odict_iterator","itertools.zip_longest","itertools.pairwise"].contains n&&vs[0]?==some (rawInt _))=true then _ else _) Q E s
       rw[if_neg (by intro h;rw[hn,Yn] at h;cases h)]
       exact O_ hQ))
def Itl (K:Frag) (a:Addr):It :=
 ⟨fun i H=>∃xs x,SqL K H a xs/\xs[i]?=some x,fun i H x H'=>H'=H/\∀xs,SqL K H a xs->xs[i]?=some x,fun i H=>∃xs,SqL K H a xs/\xs.length<=i⟩
def Itt (K:Frag) (a:Addr):It :=
 ⟨fun i H=>∃xs x,SqT K H a xs/\xs[i]?=some x,fun i H x H'=>H'=H/\∀xs,SqT K H a xs->xs[i]?=some x,fun i H=>∃xs,SqT K H a xs/\xs.length<=i⟩
def Itr (lo:Int) (n:Nat):It:=⟨fun i _=>i<n,fun i H x H'=>H'=H/\x=.int (lo+i),fun i _=>n<=i⟩
theorem xU {P:Program}{w:World}{K:Frag}{tg:Expr}(a it:Addr):Turn P w K tg (Itl K a) [it] it (fun i h=>h.IsListIter it a i) where
 mem:=by simp
 obj:=fun i h st b hb=>by
  have e:b=it:=by simpa using hb
  subst e
  obtain⟨o,e,c,d⟩:=st
  exact⟨o,e,fun v z=>by rw[d] at z;cases z⟩
 keep:=fun i h h' st k=>st.at fun o e=>k it (by simp) o e
 item:=by
  intro X hP hw hK hc i pins s Z H E I hf st hg
  subst hP hw hK
  obtain⟨xs,x,hq,hx⟩:=hg
  obtain⟨its,rv,p,hz⟩:=I.list hq
  obtain⟨u,hu,ru⟩:=rv.get hx
  obtain⟨f0,f1,f2,f3,f4,f5⟩:=hf it (by simp)
  refine wpAny_pyNext_list_item st p.isList (x:=u) (by simpa using hu) fun h' st' sb=>?_
  have I1:Inv X pins Z H { s with heap:=h'}:=I.turned (t':=s.toks) (fun b o hb e=>(sb.2 b hb).trans e) f0 f1 f3 f4 f5
  obtain⟨o,e,c,d⟩:=id st'
  exact⟨u,rfl,vJ (s:={ s with heap:=h'}) e c d (by decide) ⟨x,H,I1,ru,⟨rfl,fun ys hy=>by rw[I.list_inj hy hq];exact hx⟩,st',fun b hb=>(hf b hb).1⟩⟩
 done:=by
  intro X hP hw hK hc i pins s Z H E I hf st hg
  subst hP hw hK
  obtain⟨xs,hq,hx⟩:=hg
  obtain⟨its,rv,p,hz⟩:=I.list hq
  obtain⟨f0,f1,f2,f3,f4,f5⟩:=hf it (by simp)
  have hl:=rv.length
  exact wpAny_pyNext_list_end (I.ok.hd hc) st p.isList (by simp;omega) fun h' eb=>⟨rfl,I.turned (t':=s.toks) (fun b o hb e=>eb b o hb e) f0 f1 f3 f4 f5⟩
 self:=fun _ _ _ _ _ st h=>wpAny_pyIter_listiter st h
theorem tQ {P:Program}{w:World}{K:Frag}{tg:Expr}(a it:Addr):Turn P w K tg (Itt K a) [it] it (fun i h=>h.IsTupleIter it a i) where
 mem:=by simp
 obj:=fun i h st b hb=>by
  have e:b=it:=by simpa using hb
  subst e
  obtain⟨o,e,c,d⟩:=st
  exact⟨o,e,fun v z=>by rw[d] at z;cases z⟩
 keep:=fun i h h' st k=>st.at fun o e=>k it (by simp) o e
 item:=by
  intro X hP hw hK hc i pins s Z H E I hf st hg
  subst hP hw hK
  obtain⟨xs,x,hq,hx⟩:=hg
  obtain⟨its,rv,p,hz⟩:=I.tuple hq
  obtain⟨u,hu,ru⟩:=rv.get hx
  obtain⟨f0,f1,f2,f3,f4,f5⟩:=hf it (by simp)
  refine wpAny_pyNext_tuple_item st (show s.heap.IsTuple a its.toArray from p) (x:=u) (by simpa using hu) fun h' st' sb=>?_
  have I1:Inv X pins Z H { s with heap:=h'}:=I.turned (t':=s.toks) (fun b o hb e=>(sb.2 b hb).trans e) f0 f1 f3 f4 f5
  obtain⟨o,e,c,d⟩:=id st'
  exact⟨u,rfl,vJ (s:={ s with heap:=h'}) e c d (by decide) ⟨x,H,I1,ru,⟨rfl,fun ys hy=>by rw[I.tuple_inj hy hq];exact hx⟩,st',fun b hb=>(hf b hb).1⟩⟩
 done:=by
  intro X hP hw hK hc i pins s Z H E I hf st hg
  subst hP hw hK
  obtain⟨xs,hq,hx⟩:=hg
  obtain⟨its,rv,p,hz⟩:=I.tuple hq
  obtain⟨f0,f1,f2,f3,f4,f5⟩:=hf it (by simp)
  have hl:=rv.length
  exact wpAny_pyNext_tuple_end (I.ok.hd hc) st (show s.heap.IsTuple a its.toArray from p) (by simp;omega) fun h' eb=>⟨rfl,I.turned (t':=s.toks) (fun b o hb e=>eb b o hb e) f0 f1 f3 f4 f5⟩
 self:=fun _ _ _ _ _ st h=>wpAny_pyIter_tupleiter st h
theorem tR {P:Program}{w:World}{K:Frag}{tg:Expr}(it:Addr) (lo:Int) (n:Nat):Turn P w K tg (Itr lo n) [it] it (fun i h=>IsRangeIter h it (lo+(i:Nat)*1) ((n:Int) - (i:Nat)) 1) where
 mem:=by simp
 obj:=fun i h st b hb=>by
  have e:b=it:=by simpa using hb
  subst e
  exact⟨_,st,fun v z=>by
   have z':Data.fields _=Data.cell v:=z
   cases z'⟩
 keep:=fun i h h' st k=>k it (by simp) _ st
 item:=by
  intro X hP hw hK hc i pins s Z H E I hf st hg
  subst hP hw hK
  obtain⟨f0,f1,f2,f3,f4,f5⟩:=hf it (by simp)
  have W:=Walks.range (prog:=X.prog) (w:=X.w) (I.ok.hd hc) it lo 1 n
  refine W.item i s _ _ hg st fun v h' tk hv st' kk=>?_
  obtain⟨t,rfl⟩:=hv
  have I1:Inv X pins Z H { s with heap:=h',toks:=tk}:=I.turned (fun b o hb e=>kk b o (by simpa using hb) e) f0 f1 f3 f4 f5
  refine⟨_,rfl,vJ (s:={ s with heap:=h',toks:=tk}) (n:="range_iterator") st' rfl rfl (by decide) ⟨.int (lo+i),H,I1,⟨t,?_⟩,⟨rfl,rfl⟩,st',fun b hb=>(hf b hb).1⟩⟩
  rw[Int.mul_one]
 done:=by
  intro X hP hw hK hc i pins s Z H E I hf st hg
  subst hP hw hK
  obtain⟨f0,f1,f2,f3,f4,f5⟩:=hf it (by simp)
  exact wpAny_pyNext_range_end (I.ok.hd hc) st (by have:n<=i:=hg;omega) fun h' eb=>⟨rfl,I.turned (t':=s.toks) (fun b o hb e=>eb b o hb e) f0 f1 f3 f4 f5⟩
 self:=fun _ _ _ _ _ st h=>wpAny_pyIter_rangeiter st h
section
variable {X:Cx}{tg:Expr}
def QR (K:Frag) (tl:TE):TI:=fun Z H R=>tl Z H fun x H1=>∃a,x=.ref a/\(∃xs,SqL K H1 a xs)/\R (Itl K a) H1
def Wf (K:Frag) (tl:TE):TI:=fun Z H R=>tl Z H fun x H1=>∃a,x=.ref a/\(∃xs,SqT K H1 a xs)/\R (Itt K a) H1
theorem Ej {l:Expr}{tl:TE}(hl:PE X l tl):PI X tg l (QR X.K tl):=by
 intro pins s Z H R I h;refine thn (hl pins s Z H _ I h) fun v s1 ⟨x,H1,I1,r1,q1⟩=>?_;obtain⟨a,e,⟨xs,hq⟩,q⟩:=q1;subst e;cases r1;obtain⟨its,rv,p,hz⟩:=I1.list hq;refine wpAny_pyIter_list p.isList ?_;refine⟨s1.heap.objs.size,[s1.heap.objs.size],_,_,H1,rfl,I1.kept (t':=s1.toks) fun b o e=>j_ _ e,xU a _,⟨_,Q_ _ rfl,rfl,rfl⟩,fun b hb=>?_,q⟩;have e:b=s1.heap.objs.size:=by simpa using hb
 subst e;exact I1.fpOk (o_ _) (I1.hok.fresh (o_ _))
theorem K3 {l:Expr}{tl:TE}(hl:PE X l tl):PI X tg l (Wf X.K tl):=by
 intro pins s Z H R I h;refine thn (hl pins s Z H _ I h) fun v s1 ⟨x,H1,I1,r1,q1⟩=>?_;obtain⟨a,e,⟨xs,hq⟩,q⟩:=q1;subst e;cases r1;obtain⟨its,rv,p,hz⟩:=I1.tuple hq;refine wpAny_pyIter_tuple (show s1.heap.IsTuple a its.toArray from p) ?_;refine⟨s1.heap.objs.size,[s1.heap.objs.size],_,_,H1,rfl,I1.kept (t':=s1.toks) fun b o e=>j_ _ e,tQ a _,⟨_,Q_ _ rfl,rfl,rfl⟩,fun b hb=>?_,q⟩;have e:b=s1.heap.objs.size:=by simpa using hb
 subst e;exact I1.fpOk (o_ _) (I1.hok.fresh (o_ _))
theorem qJ {pins:List (Addr × Obj)}{Z:St}{H:Hp}{s:Shared}{R:It->Hp->Prop}{E:Value->Shared->Prop}{lo hi:Int}{t u v:Tok}{tk:Nat}(I:Inv X pins Z H s) (h1 : -(2^62)<=lo) (h2:lo<2^62) (h3 : -(2^62)<=hi) (h4:hi<2^62)
  (q:R (Itr lo (hi - lo).toNat) H):wpAny (model X.prog X.w) X.A (pyIter (.ref s.heap.objs.size)) (PIE X pins Z tg R) E { s with heap:=s.heap.push { cls:=.type "range",data:=.fields #[.int lo t,.int hi u,.int 1 v]},toks:=tk}:=by
 refine wpAny_pyIter_range (IsRange.new ..) (small_one h1 h2 h3 h4) ?_;have I1:Inv X pins Z H { s with heap:=s.heap.push { cls:=.type "range",data:=.fields #[.int lo t,.int hi u,.int 1 v]},toks:=tk}:=I.kept fun b o e=>j_ _ e;refine⟨(s.heap.push { cls:=.type "range",data:=.fields #[.int lo t,.int hi u,.int 1 v]}).objs.size,[(s.heap.push { cls:=.type "range",data:=.fields #[.int lo t,.int hi u,.int 1 v]}).objs.size],_,_,H,rfl,
  I1.kept (t':=tk) fun b o e=>j_ _ e,tR _ lo (hi - lo).toNat,?_,fun b hb=>?_,q⟩
 ·have e1:lo+((0:Nat):Int)*1=lo:=by simp
  have e2:(((hi - lo).toNat:Nat):Int) - ((0:Nat):Int)=Builtin.Range.rangeSize lo hi 1:=by rw[rangeSize_one];split <;> omega
  show IsRangeIter _ _ (lo+((0:Nat):Int)*1) ((((hi - lo).toNat:Nat):Int) - ((0:Nat):Int)) 1;rw[e1,e2];exact Q_ _ rfl
 have e:b=(s.heap.push { cls:=.type "range",data:=.fields #[.int lo t,.int hi u,.int 1 v]}).objs.size:=by simpa using hb
 subst e;exact I1.fpOk (o_ _) (I1.hok.fresh (o_ _))
def QS (ta:TA):TI:=fun Z H R=>ta Z H fun vs H1=>∃j:Int,vs=[.int j] /\ -(2^62)<=j/\j<2^62/\R (Itr 0 j.toNat) H1
def QT (ta:TA):TI:=fun Z H R=>ta Z H fun vs H1=>∃i j:Int,vs=[.int i,.int j]/\(-(2^62)<=i/\i<2^62 /\ -(2^62)<=j/\j<2^62)/\R (Itr i (j - i).toNat) H1
theorem xV {a:Expr}{ta:TA}{p pos:Pos}(hg:Gl X "range") (hm:X.mg "range"=none) (ha:PA X [a] ta) (hs:starEach [a] X.env=[(false,eval a X.env)]:=by rfl):PI X tg (.Call (.Name "range" p) [a] [] pos) (QS ta):=by
 intro pins s Z H R I h;refine Call_ (gQ I hg hm boot_range (XS (thn (ha pos pins s Z H _ I h) fun us s1 ⟨vs,H1,I1,r1,q1⟩=>?_) hs rfl));obtain⟨j,e,q1,q2,q⟩:=q1;subst e;cases r1 with
 |cons r rr =>
 cases rr;obtain⟨t,rfl⟩:=r;exact call_range_1 (qJ I1 (by omega) (by omega) q1 q2 (by simpa using q))
theorem xW {a b:Expr}{ta:TA}{p pos:Pos}(hg:Gl X "range") (hm:X.mg "range"=none) (ha:PA X [a,b] ta) (hs:starEach [a,b] X.env=[(false,eval a X.env),(false,eval b X.env)]:=by rfl) (hs2:starEach [b] X.env=[(false,eval b X.env)]:=by rfl) :
  PI X tg (.Call (.Name "range" p) [a,b] [] pos) (QT ta):=by
 intro pins s Z H R I h;refine Call_ (gQ I hg hm boot_range (XS (thn (ha pos pins s Z H _ I h) fun us s1 ⟨vs,H1,I1,r1,q1⟩=>?_) (by rw[hs,hs2]) (by rw[hs2];rfl)));obtain⟨i,j,e,⟨q1,q2,q3,q4⟩,q⟩:=q1;subst e;cases r1 with
 |cons r rr =>
 cases rr with
 |cons r' rr =>
 cases rr;obtain⟨t,rfl⟩:=r;obtain⟨t',rfl⟩:=r';exact call_range_2 (qJ I1 q1 q2 q3 q4 q)
def Wg (wi:TI) (g:TG) (tb:TS):TS:=fun D Z H=>wi Z H fun J H1=>∃W:Nat->Nat->St->Hp->Prop,(∃m,W 0 m Z H1)/\∀i m Z H,W i m Z H ->
 (J.stop i H/\D.nx Z H)\/(J.go i H/\∃N:St->Hp->Prop,(∀Z' H',N Z' H'->∃m',m'<m/\W (i+1) m' Z' H')/\∀x H',J.yld i H x H'->g x Z H' fun Z2 H2=>tb { D with nx:=N,ct:=N,bk:=D.nx} Z2 H2)
def lA (fp : List Addr) (h : Heap) : List (Addr × Obj):=fp.filterMap fun b => (h.get? b).map fun o => (b,o)
theorem fW {fp : List Addr} {h : Heap} {b : Addr} {o : Obj} (hb : b ∈ fp) (e : h.get? b = some o) : (b,o) ∈ lA fp h:=List.mem_filterMap.mpr ⟨b,hb,by rw [e]; rfl⟩
theorem xX {fp:List Addr}{h:Heap}{p:Addr × Obj}(hp:p∈lA fp h):p.1∈fp/\h.get? p.1=some p.2:=by
 obtain ⟨b,hb,e⟩:=List.mem_filterMap.mp hp;cases q : h.get? b with
 |none=>rw[q] at e;cases e
 |some o =>
 rw[q] at e;have e':(b,o)=p:=G_ e;subst e';exact⟨hb,q⟩
theorem Inv.pinned {pins:List (Addr × Obj)}{Z:St}{H:Hp}{s:Shared}{fp:List Addr}(I:Inv X pins Z H s) (hf:∀b∈fp,mZ X pins H b) (ho:∀b∈fp,∃o,s.heap.get? b=some o/\∀v,o.data≠.cell v):Inv X (pins++lA fp s.heap) Z H s :=
 I.pins_of fun p hp=>(E_.mp hp).elim (fun z=>I.pin p (V_ _ z)) fun z=>by
  obtain⟨hb,e⟩:=xX z;obtain⟨f0,f1,f2,_⟩:=hf p.1 hb;obtain⟨o,e',d⟩:=ho p.1 hb;rw[e] at e';cases e';exact⟨e,f0,f1,f2,d⟩
theorem Inv.unpinned {pins pl:List (Addr × Obj)}{Z:St}{H:Hp}{s:Shared}(I:Inv X (pins++pl) Z H s):Inv X pins Z H s:=I.pins_of fun p hp=>I.pin p (V_ _ (Xx _ hp))
theorem K4 {iter:Expr}{body:List Stmt}{wi:TI}{g:TG}{tb:TS}{pos:Pos}(hp:PassesOwn (model X.prog X.w) X.A X.env X.xe) (hc:X.calm=true) (hi:PI X tg iter wi) (hg:PG X tg g) (hb:PSs X body tb)
  (hs:∀x,foldedSetIterable iter X.env x=pure x:=by intro _;rfl):PS X (.For tg iter body [] pos) (Wg wi g tb):=by
 intro pins s Z H D I h;refine wpAny_For (thn (hi pins s Z H _ I h) fun v s1 h1=>thn h1 fun itv s2 h2=>?_) hs;obtain⟨it,fp,tn,J,H2,e,I2,T,st2,f2,W,⟨m0,w0⟩,turn⟩:=h2;subst e
 have stat:∀{H':Hp},(∀b∈fp,H' b=none)->∀b∈fp,mZ X pins H' b:=fun hn b hb=>⟨hn b hb,(f2 b hb).2⟩;refine codeAny_forLoop_any (fun n s'=>∃i Z' H',Inv X pins Z' H' s'/\tn i s'.heap/\(∀b∈fp,H' b=none)/\W i n Z' H') ?_ m0 ⟨0,Z,H2,I2,st2,fun b hb=>(f2 b hb).1,w0⟩;rintro n s3 ⟨i,Z3,H3,I3,st3,fr3,w3⟩;rcases turn i n Z3 H3 w3 with ⟨stop,qn⟩ | ⟨go,N,hN,step⟩
 ·refine YF hp (thn (T.done X rfl rfl rfl hc i pins s3 Z3 H3 X.xe I3 (stat fr3) st3 stop) fun r s4 ⟨hr,I4⟩=>?_);subst hr;exact wpAny_execs_nil ⟨Z3,H3,I4,qn⟩
 refine YF hp (thn (T.item X rfl rfl rfl hc i pins s3 Z3 H3 X.xe I3 (stat fr3) st3 go) fun r s4 ⟨u,hr,h4⟩=>?_);subst hr;refine YF hp (thn h4 fun _ s5 ⟨x,H5,I5,r5,y5,st5,fr5⟩=>?_);have I5':=I5.pinned (stat fr5) (T.obj _ _ st5);refine YF hp (thn (hg _ s5 Z3 H5 x u _ I5' r5 (step x H5 y5)) fun _ s6 ⟨Z6,H6,I6,q6⟩=>?_);refine YF hp (thn (hb _ s6 Z6 H6 _ I6 q6) fun f s7 q7=>?_);have again:∀{Z7:St} {H7:Hp},Inv X (pins++lA fp s5.heap) Z7 H7 s7->N Z7 H7->∃m,m<n/\∃i Z' H',Inv X pins Z' H' s7/\tn i s7.heap/\(∀b∈fp,H' b=none)/\W i m Z' H':=fun {Z7 H7} I7 n7=>by obtain⟨m',hm,w7⟩:=hN Z7 H7 n7;refine⟨m',hm,i+1,Z7,H7,I7.unpinned,T.keep _ _ _ st5 fun b hb o e=>(I7.pin (b,o) (V_ _ (V_ _ (fW hb e)))).1,fun b hb=>?_,w7⟩;obtain⟨o,e,d⟩:=T.obj _ _ st5 b hb;exact (I7.pin (b,o) (V_ _ (V_ _ (fW hb e)))).2.1
 cases f with
 |next=>obtain⟨Z7,H7,I7,n7⟩:=q7;exact again I7 n7
 |cont=>obtain⟨Z7,H7,I7,n7⟩:=q7;exact again I7 n7
 |brk=>obtain⟨Z7,H7,I7,q7⟩:=q7;exact⟨Z7,H7,I7.unpinned,q7⟩
 |ret v=>obtain⟨x7,Z7,H7,I7,r7,q7⟩:=q7;exact⟨x7,Z7,H7,I7.unpinned,r7,q7⟩
end
abbrev R2:=V->V->Hp->VK->Prop
def OpR (X:Cx) (f:Value->Value->Sem Value) (r:R2):Prop :=
 ∀(pins:List (Addr × Obj)) (s:Shared) (Z:St) (H:Hp) (x y:V) (v u:Value) (Q:VK),Inv X pins Z H s->RelV x v->RelV y u->r x y H Q ->
  wpAny (model X.prog X.w) X.A (f v u) (EP X pins Z Q) X.xe s
def UnR (X:Cx) (f:Value->Sem Value) (r:V->Hp->VK->Prop):Prop :=
 ∀(pins:List (Addr × Obj)) (s:Shared) (Z:St) (H:Hp) (x:V) (v:Value) (Q:VK),Inv X pins Z H s->RelV x v->r x H Q ->
  wpAny (model X.prog X.w) X.A (f v) (EP X pins Z Q) X.xe s
def CallR (X:Cx) (f:Value) (r:List V->Hp->VK->Prop):Prop :=
 ∀(pins:List (Addr × Obj)) (s:Shared) (Z:St) (H:Hp) (xs:List V) (us:List Value) (Q:VK),Inv X pins Z H s->Vals xs us->r xs H Q ->
  wpAny (model X.prog X.w) X.A (call f us) (EP X pins Z Q) X.xe s
def tOp (r:R2) (ta tb:TE):TE:=fun Z H Q=>ta Z H fun x H1=>tb Z H1 fun y H2=>r x y H2 Q
def tUn (r:V->Hp->VK->Prop) (ta:TE):TE:=fun Z H Q=>ta Z H fun x H1=>r x H1 Q
def rI (C:Int->Int->Prop) (g:Int->Int->V):R2:=fun x y H Q=>∃i j,x=.int i/\y=.int j/\C i j/\Q (g i j) H
def rI0 (g:Int->Int->V):R2:=fun x y H Q=>∃i j,x=.int i/\y=.int j/\Q (g i j) H
def rU (g:Int->V):V->Hp->VK->Prop:=fun x H Q=>∃i,x=.int i/\Q (g i) H
section
variable {X:Cx}{a b c:Expr}{ta tb tc:TE}{pos:Pos}
theorem K5 (ha:PE X a ta) (hb:PE X b tb) {pins:List (Addr × Obj)}{s:Shared}{Z:St}{H:Hp}{R:V->V->Hp->Prop}(I:Inv X pins Z H s)
  (h:ta Z H fun x H1=>tb Z H1 fun y H2=>R x y H2) {Q:Value->Shared->Prop} {f:Value->Value->Sem Value}
  (hf:∀v u s2 x y H2,Inv X pins Z H2 s2->RelV x v->RelV y u->R x y H2->wpAny (model X.prog X.w) X.A (f v u) Q X.xe s2) :
  wpAny (model X.prog X.w) X.A (eval a X.env) (fun v s₁=>wpAny (model X.prog X.w) X.A (eval b X.env) (fun u s₂=>wpAny (model X.prog X.w) X.A (f v u) Q X.xe s₂) X.xe s₁) X.xe s:=by
 refine thn (ha pins s Z H _ I h) fun v s1 ⟨x,H1,I1,r1,q1⟩=>?_;refine thn (hb pins s1 Z H1 _ I1 q1) fun u s2 ⟨y,H2,I2,r2,q2⟩=>?_;exact hf v u s2 x y H2 I2 r1 r2 q2
theorem QV {op:Operator}{r:R2}(ho:OpR X (binaryOp op) r) (ha:PE X a ta) (hb:PE X b tb):PE X (.BinOp a op b pos) (tOp r ta tb):=by
 intro pins s Z H Q I h;exact wpAny_BinOp (K5 ha hb I h fun v u s2 x y H2 I2 rx ry q=>ho pins s2 Z H2 x y v u Q I2 rx ry q)
theorem QW {op:UnaryOp}{r:V->Hp->VK->Prop}(ho:UnR X (unaryOp op) r) (ha:PE X a ta):PE X (.UnaryOp op a pos) (tUn r ta):=by
 intro pins s Z H Q I h;exact UnaryOp_ (thn (ha pins s Z H _ I h) fun v s1 ⟨x,H1,I1,r1,q1⟩=>ho pins s1 Z H1 x v Q I1 r1 q1)
theorem opI {f:Value->Value->Sem Value}{C:Int->Int->Prop}{g:Int->Int->Int}
  (rule:∀(i j:Int) (t u:Tok) (s:Shared) (Q:Value->Shared->Prop) (E:Value->Shared->Prop),C i j->Q (.int (g i j) s.toks) { s with toks:=s.toks+1}->wpAny (model X.prog X.w) X.A (f (.int i t) (.int j u)) Q E s) :
  OpR X f (rI C fun i j=>.int (g i j)):=by
 intro pins s Z H x y v u Q I rx ry h;obtain⟨i,j,rfl,rfl,hc,q⟩:=h;obtain⟨t,rfl⟩:=rx;obtain⟨t',rfl⟩:=ry;exact rule i j t t' s _ _ hc ⟨.int (g i j),H,I.tok _,⟨_,rfl⟩,q⟩
theorem Ek {f:Value->Value->Sem Value}{g:Int->Int->Int}
  (rule:∀(i j:Int) (t u:Tok) (s:Shared) (Q:Value->Shared->Prop) (E:Value->Shared->Prop),Q (.int (g i j) s.toks) { s with toks:=s.toks+1}->wpAny (model X.prog X.w) X.A (f (.int i t) (.int j u)) Q E s) :
  OpR X f (rI0 fun i j=>.int (g i j)):=by
 intro pins s Z H x y v u Q I rx ry h;obtain⟨i,j,rfl,rfl,q⟩:=h;obtain⟨t,rfl⟩:=rx;obtain⟨t',rfl⟩:=ry;exact rule i j t t' s _ _ ⟨.int (g i j),H,I.tok _,⟨_,rfl⟩,q⟩
theorem El {f:Value->Value->Sem Value}{g:Int->Int->Bool}
  (rule:∀(i j:Int) (t u:Tok) (s:Shared) (Q:Value->Shared->Prop) (E:Value->Shared->Prop),Q (.bool (g i j)) s->wpAny (model X.prog X.w) X.A (f (.int i t) (.int j u)) Q E s) :
  OpR X f (rI0 fun i j=>.bl (g i j)):=by
 intro pins s Z H x y v u Q I rx ry h;obtain⟨i,j,rfl,rfl,q⟩:=h;obtain⟨t,rfl⟩:=rx;obtain⟨t',rfl⟩:=ry;exact rule i j t t' s _ _ ⟨.bl (g i j),H,I,rfl,q⟩
def Em (i j:Int):Prop:=0<=j/\j<=1000000/\i.natAbs<2^64
def CMul (i j:Int):Prop:=(-(2^64)<i/\i<2^64)\/(-(2^64)<j/\j<2^64)
theorem CMul.ok {i j:Int}(h:CMul i j):IntMulOk i j:=by
 rcases h with ⟨h1,h2⟩ | ⟨h1,h2⟩
 ·exact .of_left (intBits_le_64 h1 h2)
 exact .of_right (intBits_le_64 h1 h2)
theorem tU (k:Nat):(0:Int)<=2^k:=by
 rw[two_pow_cast];exact YC _
theorem op_add:OpR X (binaryOp .Add) (rI0 fun i j=>.int (i+j)):=Ek fun _ _ _ _ _ _ _ q=>add_int q
theorem K6:OpR X (binaryOp .Sub) (rI0 fun i j=>.int (i - j)):=Ek fun _ _ _ _ _ _ _ q=>sub_int q
theorem K7:OpR X (binaryOp .Mult) (rI CMul fun i j=>.int (i*j)):=opI fun _ _ _ _ _ _ _ hc q=>mul_int q hc.ok
theorem K8:OpR X (binaryOp .Mod) (rI (fun _ j=>0<j) fun i j=>.int (i%j)):=opI fun i j _ _ _ _ _ hc q=>by
 have h1:(0:Int)<j:=hc;exact mod_int' (by omega) (by rw[Int.fmod_eq_emod_of_nonneg i (by omega)];exact q)
theorem K9:OpR X (binaryOp .Pow) (rI Em fun i j=>.int (i^j.toNat)):=opI fun _ _ _ _ _ _ _ hc q=>pow_int_small hc.1 hc.2.1 hc.2.2 q
theorem La:OpR X (binaryOp .LShift) (rI Em fun i j=>.int (i*2^j.toNat)):=opI fun _ _ _ _ _ _ _ hc q=>lshift_int_small hc.1 hc.2.1 hc.2.2 q
theorem Lb:OpR X (binaryOp .RShift) (rI (fun _ j=>0<=j) fun i j=>.int (i / 2^j.toNat)):=opI fun i j _ _ _ _ _ hc q =>
 rshift_int hc (by rw[Int.fdiv_eq_ediv_of_nonneg i (tU _)];exact q)
theorem Ld:OpR X (binaryOp .BitAnd) (rI0 fun i j=>.int (Builtin.bitAnd i j)):=Ek fun _ _ _ _ _ _ _ q=>and_int q
theorem QX:OpR X (binaryOp .BitOr) (rI0 fun i j=>.int (Builtin.bitOr i j)):=Ek fun _ _ _ _ _ _ _ q=>or_int q
theorem unI {f:Value->Sem Value}{g:Int->Int}
  (rule:∀(i:Int) (t:Tok) (s:Shared) (Q:Value->Shared->Prop) (E:Value->Shared->Prop),Q (.int (g i) s.toks) { s with toks:=s.toks+1}->wpAny (model X.prog X.w) X.A (f (.int i t)) Q E s) :
  UnR X f (rU fun i=>.int (g i)):=by
 intro pins s Z H x v Q I rx h;obtain⟨i,rfl,q⟩:=h;obtain⟨t,rfl⟩:=rx;exact rule i t s _ _ ⟨.int (g i),H,I.tok _,⟨_,rfl⟩,q⟩
theorem Le:UnR X (unaryOp .USub) (rU fun i=>.int (-i)):=unI fun _ _ _ _ _ q=>neg_int q
end
def iV:V->V->Bool
 |.non,.non=>true | .non,.int _=>true | .int _,.non=>true | .non,.bl _=>true | .bl _,.non=>true | .non,.str _=>true | .str _,.non=>true
 |.int _,.int _=>true | .bl _,.bl _=>true | .str _,.str _=>true | .byt _,.byt _=>true
 |.int _,.str _=>true | .str _,.int _=>true | .bl _,.str _=>true | .str _,.bl _=>true
 |_,_=>false
def rEq:R2:=fun x y H Q=>iV x y=true/\Q (.bl (decide (x=y))) H
def rNe:R2:=fun x y H Q=>iV x y=true/\Q (.bl (!decide (x=y))) H
theorem vK {i j:Int}:decide (V.int i=V.int j)=(i==j):=by
 rw[Xg];simp
theorem zf {i j:Bool}:decide (V.bl i=V.bl j)=(i==j):=by
 rw[Xg];simp
theorem vL {i j:Str}:decide (V.str i=V.str j)=(i==j):=by
 rw[Xg];simp
theorem vM {i j:Array UInt8}:decide (V.byt i=V.byt j)=(i.toList==j.toList):=by
 rw[Xg];cases i;cases j;simp
section
variable {X:Cx}{a b c:Expr}{ta tb tc:TE}{pos:Pos}
theorem bf {pins:List (Addr × Obj)}{Z:St}{H:Hp}{s:Shared}{Q:VK}{k k':Bool}(I:Inv X pins Z H s) (q:Q (.bl k) H) (e:k=k'):EP X pins Z Q (.bool k') s:=by
 subst e;exact⟨.bl k,H,I,rfl,q⟩
theorem QZ:OpR X (compareOp .Eq) rEq:=by
 intro pins s Z H x y v u Q I rx ry h;obtain⟨hs,q⟩:=h;cases x with
 |non =>
  cases rx;cases y with
  |non=>cases ry;exact PySem.EqNone.eq_none_none (bf I q (by simp))
  |bl j=>cases ry;exact PySem.EqNone.eq_none_bool (bf I q (by simp))
  |int j=>obtain⟨t',rfl⟩:=ry;exact PySem.EqNone.eq_none_int (bf I q (by simp))
  |str j=>obtain⟨t',rfl⟩:=ry;exact PySem.EqNone.eq_none_str (bf I q (by simp))
  |_=>exact absurd (show false=true from hs) u_
 |bl i =>
  cases rx;cases y with
  |non=>cases ry;exact PySem.EqNone.eq_bool_none (bf I q (by simp))
  |bl j=>cases ry;exact eq_bool (bf I q zf)
  |str j=>obtain⟨t',rfl⟩:=ry;exact PySem.EqMixed.eq_bool_str (bf I q (by simp))
  |_=>exact absurd (show false=true from hs) u_
 |int i =>
  obtain⟨t,rfl⟩:=rx;cases y with
  |non=>cases ry;exact PySem.EqNone.eq_int_none (bf I q (by simp))
  |int j=>obtain⟨t',rfl⟩:=ry;exact eq_int (bf I q vK)
  |str j=>obtain⟨t',rfl⟩:=ry;exact PySem.EqMixed.eq_int_str (bf I q (by simp))
  |_=>exact absurd (show false=true from hs) u_
 |str i =>
  obtain⟨t,rfl⟩:=rx;cases y with
  |non=>cases ry;exact PySem.EqNone.eq_str_none (bf I q (by simp))
  |bl j=>cases ry;exact PySem.EqMixed.eq_str_bool (bf I q (by simp))
  |int j=>obtain⟨t',rfl⟩:=ry;exact PySem.EqMixed.eq_str_int (bf I q (by simp))
  |str j=>obtain⟨t',rfl⟩:=ry;exact eq_str (bf I q vL)
  |_=>exact absurd (show false=true from hs) u_
 |byt i =>
  obtain⟨t,rfl⟩:=rx;cases y with
  |byt j=>obtain⟨t',rfl⟩:=ry;exact PySem.W.eq_bytes (bf I q vM)
  |_=>exact absurd (show false=true from hs) u_
 |_=>cases y <;> exact absurd (show false=true from hs) u_
theorem Q0:OpR X (compareOp .NotEq) rNe:=by
 intro pins s Z H x y v u Q I rx ry h;obtain⟨hs,q⟩:=h;cases x with
 |non =>
  cases rx;cases y with
  |non=>cases ry;exact PySem.EqNone.ne_none_none (bf I q (by simp))
  |bl j=>cases ry;exact PySem.EqNone.ne_none_bool (bf I q (by simp))
  |int j=>obtain⟨t',rfl⟩:=ry;exact PySem.EqNone.ne_none_int (bf I q (by simp))
  |str j=>obtain⟨t',rfl⟩:=ry;exact PySem.EqNone.ne_none_str (bf I q (by simp))
  |_=>exact absurd (show false=true from hs) u_
 |bl i =>
  cases rx;cases y with
  |non=>cases ry;exact PySem.EqNone.ne_bool_none (bf I q (by simp))
  |bl j=>cases ry;exact ne_bool (bf I q (T_ not zf))
  |str j=>obtain⟨t',rfl⟩:=ry;exact PySem.EqMixed.ne_bool_str (bf I q (by simp))
  |_=>exact absurd (show false=true from hs) u_
 |int i =>
  obtain⟨t,rfl⟩:=rx;cases y with
  |non=>cases ry;exact PySem.EqNone.ne_int_none (bf I q (by simp))
  |int j=>obtain⟨t',rfl⟩:=ry;exact ne_int (bf I q (T_ not vK))
  |str j=>obtain⟨t',rfl⟩:=ry;exact PySem.EqMixed.ne_int_str (bf I q (by simp))
  |_=>exact absurd (show false=true from hs) u_
 |str i =>
  obtain⟨t,rfl⟩:=rx;cases y with
  |non=>cases ry;exact PySem.EqNone.ne_str_none (bf I q (by simp))
  |bl j=>cases ry;exact PySem.EqMixed.ne_str_bool (bf I q (by simp))
  |int j=>obtain⟨t',rfl⟩:=ry;exact PySem.EqMixed.ne_str_int (bf I q (by simp))
  |str j=>obtain⟨t',rfl⟩:=ry;exact ne_str (bf I q (T_ not vL))
  |_=>exact absurd (show false=true from hs) u_
 |byt i =>
  obtain⟨t,rfl⟩:=rx;cases y with
  |byt j=>obtain⟨t',rfl⟩:=ry;exact PySem.W.ne_bytes (bf I q (T_ not vM))
  |_=>exact absurd (show false=true from hs) u_
 |_=>cases y <;> exact absurd (show false=true from hs) u_
theorem Q4:OpR X (compareOp .Lt) (rI0 fun i j=>.bl (decide (i<j))):=El fun _ _ _ _ _ _ _ q=>lt_int q
theorem Q5:OpR X (compareOp .LtE) (rI0 fun i j=>.bl (decide (i<=j))):=El fun _ _ _ _ _ _ _ q=>le_int q
theorem Q6:OpR X (compareOp .Gt) (rI0 fun i j=>.bl (decide (j<i))):=El fun _ _ _ _ _ _ _ q=>gt_int q
theorem Q7:OpR X (compareOp .GtE) (rI0 fun i j=>.bl (decide (j<=i))):=El fun _ _ _ _ _ _ _ q=>ge_int q
theorem xY:OpR X (compareOp .In) (fun x y H Q=>∃i j,x=.str i/\y=.str j/\Q (.bl (!(Builtin.Str.occurrences j i 0 j.length 1).isEmpty)) H):=by
 intro pins s Z H x y v u Q I rx ry h;obtain⟨i,j,rfl,rfl,q⟩:=h;obtain⟨t,rfl⟩:=rx;obtain⟨t',rfl⟩:=ry;exact in_str (bf I q rfl)
theorem Lf:OpR X (compareOp .Is) (fun x y H Q=>y=.non/\Q (.bl (decide (x=.non))) H):=by
 intro pins s Z H x y v u Q I rx ry h;obtain⟨rfl,q⟩:=h;cases ry;refine is_none_gen (bf I q ?_);cases x <;> first
  | (cases rx;rfl)
  | (obtain⟨t,rfl⟩:=rx;rfl)
theorem oZ:OpR X (compareOp .NotIn) (fun x y H Q=>∃i j,x=.str i/\y=.str j/\Q (.bl (!(!(Builtin.Str.occurrences j i 0 j.length 1).isEmpty))) H):=by
 intro pins s Z H x y v u Q I rx ry h;obtain⟨i,j,rfl,rfl,q⟩:=h;obtain⟨t,rfl⟩:=rx;obtain⟨t',rfl⟩:=ry;exact notIn_str (bf I q rfl)
theorem OpR.or {f:Value->Value->Sem Value}{r r':R2}(h:OpR X f r) (h':OpR X f r'):OpR X f (fun x y H Q=>r x y H Q\/r' x y H Q):=by
 intro pins s Z H x y v u Q I rx ry q;rcases q with q | q
 ·exact h pins s Z H x y v u Q I rx ry q
 exact h' pins s Z H x y v u Q I rx ry q
theorem zg (b:Expr) {op:CmpOp}(h:op≠.In:=by decide) (h2:op≠.NotIn:=by decide):behindInMarks op b=false:=by
 have e1:(op==CmpOp.In)=false:=by cases op <;> first | rfl | exact absurd rfl h
 have e2:(op==CmpOp.NotIn)=false:=by cases op <;> first | rfl | exact absurd rfl h2
 cases b <;> simp [behindInMarks,e1,e2]
theorem En {op:CmpOp}{r:R2}(ho:OpR X (compareOp op) r) (ha:PE X a ta) (hb:PE X b tb) (hm:behindInMarks op b=false):PE X (.Compare a [op] [b] pos) (tOp r ta tb):=by
 intro pins s Z H Q I h;exact wpAny_Compare1 (K5 ha hb I h fun v u s2 x y H2 I2 rx ry q=>ho pins s2 Z H2 x y v u Q I2 rx ry q) hm
def Q8 (t:TE):TT:=fun Z H Q=>t Z H fun x H'=>∃k,x=.bl k/\Q k H'
theorem Eo {op:CmpOp}{r:R2}(ho:OpR X (compareOp op) r) (ha:PE X a ta) (hb:PE X b tb) (hm:behindInMarks op b=false):PT X (.Compare a [op] [b] pos) (Q8 (tOp r ta tb)):=by
 intro pins s Z H Q I h;refine wpAny_isTrue_Compare1 (thn (ha pins s Z H _ I h) fun v s1 ⟨x,H1,I1,r1,q1⟩=>thn (hb pins s1 Z H1 _ I1 q1) fun u s2 ⟨y,H2,I2,r2,q2⟩ =>
  thn (ho pins s2 Z H2 x y v u _ I2 r1 r2 q2) fun c s3 ⟨z,H3,I3,r3,k,e,q3⟩=>?_) hm
 subst e;cases r3;exact YH ⟨H3,I3,q3⟩
theorem iW:(sizeLine:Nat)<2^63:=by rw[sizeLine_eq];decide
theorem op_add_str:OpR X (binaryOp .Add) (fun x y H Q=>∃i j,x=.str i/\y=.str j/\i.length+j.length<=sizeLine/\Q (.str (i++j)) H):=by
 intro pins s Z H x y v u Q I rx ry h;obtain⟨i,j,rfl,rfl,hz,q⟩:=h;obtain⟨t,rfl⟩:=rx;obtain⟨t',rfl⟩:=ry;exact add_str (fun t' tk=>⟨.str (i++j),H,I.tok _,⟨_,rfl⟩,q⟩) hz
theorem vals1 {x:V}{us:List Value}(r:Vals [x] us):∃u,us=[u]/\RelV x u:=by
 cases r with
 |cons r1 r2=>cases r2;exact⟨_,rfl,r1⟩
theorem vals2 {x y:V}{us:List Value}(r:Vals [x,y] us):∃u w',us=[u,w']/\RelV x u/\RelV y w':=by
 cases r with
 |cons r1 r2 =>
 cases r2 with
 |cons r3 r4=>cases r4;exact⟨_,_,rfl,r1,r3⟩
theorem xZ:CallR X (.type "int") (fun xs H Q=>(∃i,xs=[.int i]/\Q (.int i) H)\/∃k,xs=[.bl k]/\Q (.int (if k then 1 else 0)) H):=by
 intro pins s Z H xs us Q I r h;rcases h with ⟨i,rfl,q⟩ | ⟨k,rfl,q⟩
 ·obtain⟨u,rfl,t,rfl⟩:=vals1 r;exact call_int_int ⟨.int i,H,I,⟨_,rfl⟩,q⟩
 obtain⟨u,rfl,r1⟩:=vals1 r;cases r1;exact call_int_bool ⟨.int (if k then 1 else 0),H,I.tok _,⟨_,rfl⟩,q⟩
end
structure ObjM (h:Heap) (x dx C:Addr) (mA:Str->Option Value):Prop where
 obj:h.get? x=some (instObj C dx)
 ns:h.Ns1 dx mA
 ne:dx≠x
theorem yc {h:Heap}{dx:Addr}{mA:Str->Option Value}(n:h.Ns1 dx mA):∃od,h.get? dx=some od/\∀name,lookIn name od=some (mA name):=by
 obtain⟨o,es,ep,ho,hd,hk,_,hm⟩:=n;refine⟨o,ho,fun name=>?_⟩;have e:=hm name;unfold nsFind findBy at e;rw[<- Array.find?_toList] at e;unfold lookIn;rw[hd];dsimp only;split
 ·rename_i y q;rw[q] at e;exact T_ some e
 rename_i q;rw[q] at e;have a:es.toList.any (·.refKey)=false:=by rw[List.any_eq_false];intro y hy;obtain⟨z,t,hkey⟩:=hk y (Array.mem_toList_iff.mp hy);simp [DictEntry.refKey,hkey]
 have a':¬es.toList.any (·.refKey)=true:=by rw[a];exact u_
 rw[if_neg a'];exact T_ some e
theorem ObjM.look {h:Heap}{x dx C:Addr}{mA:Str->Option Value}(I:ObjM h x dx C mA):∃od,InstAt h x (instObj C dx) C (some od)/\∀name,lookIn name od=some (mA name) :=
 let ⟨od,ho,hl⟩:=yc I.ns
 ⟨od,⟨I.obj,rfl,rfl,ho⟩,hl⟩
section
variable {prog:Program}{w:World}{A:Around}{E:Value->Shared->Prop}{s:Shared}{K:Frag}{x dx C f:Addr}{mA:Str->Option Value}{name:Str}{v:Value}
theorem Ep {expr:Bool}{Q:Value->Shared->Prop}(X:K.In s.heap) (I:ObjM s.heap x dx C mA) (hg:plainGet K C name=true) (hh:hasDictIn K C=true)
  (ha:findIn K (.ref C) name=some none) (hv:mA name=some v) (hv':handedIn v=true) (h:Q v { s with toks:=s.toks+1}) :
  wpAny (model prog w) A (getAttr (.ref x) name expr) Q E s:=by
 obtain⟨od,J,hl⟩:=I.look;exact PySem.W.get_value X J (plainGet_of hg).1 (PySem.W.findObj_own hh ha rfl (by rw[hl,hv])) hv' h
theorem zj {pl:Sem Bool}{Q:Value × List Value->Shared->Prop}(X:K.In s.heap) (I:ObjM s.heap x dx C mA) (hg:plainGet K C name=true)
  (hf:findIn K (.ref C) name=some (some (.ref f))) (ht:isFn K (.ref f)=true) (hv:mA name=none) (h:Q (.ref f,[.ref x]) s) :
  wpAny (model prog w) A (getMethod (.ref x) name pl) Q E s:=by
 obtain⟨od,J,hl⟩:=I.look;exact PySem.W.method_fn X J (plainGet_of hg).1 (plainGet_of hg).2 hf (Ze.mp ht) (by show (lookIn name od).map (·.isSome)=some false;rw[hl,hv];rfl) h
theorem Er {ns:List Str}{Q:Unit->Shared->Prop}(X:K.In s.heap) (I:ObjM s.heap x dx C mA)
  (hs:findIn K (.ref C) "__setattr__"=some (some (.builtin "object.__setattr__"))) (hp:plainOver K C=true) (ht:takerIn K C name=some none) (hh:hasDictIn K C=true)
  (hw:PySem.Within mA ns) (hsz:ns.length<=sizeLine)
  (h:∀h',ObjM h' x dx C (fun y=>if y=name then some v else mA y)->Heap.SameBut dx s.heap h'->Q () { s with heap:=h',toks:=s.toks+2}) :
  wpAny (model prog w) A (setAttr (.ref x) name v) Q E s:=by
 obtain⟨od,J,hl⟩:=I.look;refine PySem.W.set_plain X J hs (PySem.W.osa_open (s:={ s with toks:=s.toks+1}) (r:=none) X J hp ht fun b=>?_);obtain⟨cd,hc,hd'⟩:=PySem.W.any_some hh;have hx:s.heap.get? x=some ⟨.ref C,some dx,.plain,#[]⟩:=I.obj;refine v_ (O_ (v_ (v_ (wpAny_loadPart hx (v_ (PySem.W.Looks.here (s:={ s with toks:=s.toks+1}) (PySem.W.looks_clsIn X hc) ?_))))));rw[hd'];refine O_ (a:=some dx) (v_ (O_ (v_ ?_)));refine wpAny_nsSet1 (s:={ s with toks:=s.toks+1}) I.ns fun h' hn2 hs2=>?_;obtain⟨oD,esD,epD,hoD,hdD,hcD⟩:=hn2.count (PySem.Within.cons name v hw);refine v_ (wpAny_lookBehind hoD (by rw[hdD];exact pastItsLine_dict (J_ hcD (by rw[e_];omega))) ?_);exact O_ (h _ ⟨(hs2.2 _ (Ne.symm I.ne)).trans I.obj,hn2,I.ne⟩ hs2)
theorem zm {R:Result->Shared->Prop}{vs:List Value}{kw:List (Str × Value)}(X:K.In s.heap) (hm:makesIn K C=true)
  (hi:findIn K (.ref C) "__init__"=some (some (.ref f))) (hf:typeIn K (.ref f)=some (.type "function"))
  (h:codeAny (model prog w) (A.under (.builtin "type.__call__" ⟨.ref C::vs,kw⟩)) (.call (.ref f) ⟨.ref (s.heap.objs.size+1)::vs,kw⟩) (PySem.W.InitBack (s.heap.objs.size+1) R)
   { s with heap:=(s.heap.push emptyDict).push (instObj C s.heap.objs.size)}) :
  codeAny (model prog w) A (.call (.ref C) ⟨vs,kw⟩) R s:=by
 obtain⟨hh,g,d,t,os⟩:=s;exact PySem.W.make_core (PySem.W.makes_of X hm) (PySem.W.looks_findIn X hi) (fun self=>PySem.W.bind_fn X self hf) (.inl rfl) h
end
def fX (f:Str) (v:V):List (Str × V)->List (Str × V)
 |[]=>[(f,v)]
 | (g,x)::r=>if g=f then (g,v)::r else (g,x)::fX f v r
theorem jT (f g:Str) (v:V):∀fs:List (Str × V),(fX f v fs).lookup g=if g=f then some v else fs.lookup g
 |[]=>by
  show List.lookup g [(f,v)]=_
  by_cases h:g=f
  ·
   have hb:(g==f)=true:=Ze.mpr h
   simp only[List.lookup,hb,if_pos h]
  ·
   have hb:(g==f)=false:=XQ.mpr h
   simp only[List.lookup,hb,if_neg h]
 | (k,x)::r=>by
  have ih:=jT f g v r
  rw[show fX f v ((k,x)::r)=(if k=f then (k,v)::r else (k,x)::fX f v r) from rfl]
  by_cases hk:k=f
  ·
   rw[if_pos hk]
   by_cases h:g=k
   ·
    have hb:(g==k)=true:=Ze.mpr h
    simp only[List.lookup,hb,if_pos (h.trans hk)]
   ·
    have hb:(g==k)=false:=XQ.mpr h
    simp only[List.lookup,hb,if_neg (fun e:g=f=>h (e.trans hk.symm))]
  ·
   rw[if_neg hk]
   by_cases h:g=k
   ·
    have hb:(g==k)=true:=Ze.mpr h
    simp only[List.lookup,hb,if_neg (fun e:g=f=>hk (h.symm.trans e))]
   ·
    have hb:(g==k)=false:=XQ.mpr h
    simp only[List.lookup,hb]
    exact ih
theorem jH (f:Str) (v:V):∀fs:List (Str × V),f∈(fX f v fs).map (·.1)/\∀g,g∈fs.map (·.1)->g∈(fX f v fs).map (·.1)
 |[]=>⟨by simp [fX],fun g h=>by simp at h⟩
 | (k,x)::r=>by
  obtain⟨i1,i2⟩:=jH f v r
  rw[show fX f v ((k,x)::r)=(if k=f then (k,v)::r else (k,x)::fX f v r) from rfl]
  by_cases hk:k=f
  ·
   rw[if_pos hk]
   subst hk
   exact⟨by simp,fun g h=>by simpa using h⟩
  ·
   rw[if_neg hk]
   refine⟨?_,fun g h=>?_⟩
   ·
    rw[D_]
    exact n_ _ i1
   ·
    rw[D_] at h ⊢
    rcases l_.mp h with e | e
    ·
     exact l_.mpr (.inl e)
    ·
     exact n_ _ (i2 g e)
theorem jU (f:Str) (v:V):∀fs:List (Str × V),(fX f v fs).length<=fs.length+1
 |[]=>by simp [fX]
 | (k,x)::r=>by
  have ih:=jU f v r
  rw[show fX f v ((k,x)::r)=(if k=f then (k,v)::r else (k,x)::fX f v r) from rfl]
  by_cases hk:k=f
  ·
   rw[if_pos hk,e_,e_];omega
  ·
   rw[if_neg hk,e_,e_];omega
theorem RelO.some_of {v:V}{o:Option Value}(r:RelO (some v) o):∃u,o=some u/\RelV v u:=by
 cases o with
 |none=>exact (show False from r).elim
 |some u=>exact⟨u,rfl,r⟩
theorem RelO.none_of {o:Option Value}(r:RelO none o):o=none:=by
 cases o with
 |none=>rfl
 |some u=>exact (show False from r).elim
theorem yd {v:V}{u:Value}(r:RelV v u):handedIn u=true:=by
 cases v with
 |non=>cases (show u=Value.none from r);rfl
 |bl b=>cases (show u=Value.bool b from r);rfl
 |int i=>obtain⟨t,e⟩:=(show ∃t,u=Value.int i t from r);cases e;rfl
 |str x=>obtain⟨t,e⟩:=(show ∃t,u=Value.str x t from r);cases e;rfl
 |byt b=>obtain⟨t,e⟩:=(show ∃t,u=Value.bytes b t from r);cases e;rfl
 |flt b=>obtain⟨t,e⟩:=(show ∃t,u=Value.float b t from r);cases e;rfl
 |ref a=>cases (show u=Value.ref a from r);rfl
 |ty n=>cases (show u=Value.type n from r);rfl
section
variable {P:Program}{w:World}{H H':Hp}{h h':Heap}{a C dx:Addr}{fs fs':List (Str × V)}
theorem kE (hok:HOk P w H h) (e:H a=some (.ins C dx fs)):∃mA,ObjM h a dx C mA/\(∀f,RelO (fs.lookup f) (mA f))/\PySem.Within mA (fs.map (·.1))/\fs.length<=1000/\H dx=some (.own a):=by
 obtain⟨d,z,ne,ob,mA,n,r,q⟩:=(show ObjOk P w H h a (.ins C dx fs) from hok a _ e);exact⟨mA,⟨ob,n,ne⟩,r,q,z,d⟩
end
structure Cls (K:Frag) (C:Addr):Prop where
 pg:plainGet K C Str.empty=true
 hd:hasDictIn K C=true
 po:plainOver K C=true
 sa:findIn K (.ref C) "__setattr__"=some (some (.builtin "object.__setattr__"))
theorem Cls.get {K:Frag}{C:Addr}(c:Cls K C) (f:Str):plainGet K C f=true:=c.pg
def NoAttr (K:Frag) (C:Addr) (f:Str):Prop:=findIn K (.ref C) f=some none
theorem NoAttr.taker {K:Frag}{C:Addr}{f:Str}(n:NoAttr K C f):takerIn K C f=some none:=by
 unfold takerIn;rw[show findIn K (.ref C) f=some none from n];rfl
structure Meth (K:Frag) (C:Addr) (m:Str) (f:Addr):Prop where
 at_:findIn K (.ref C) m=some (some (.ref f))
 fn:isFn K (.ref f)=true
 kp:keepIn K (.ref f)=true
section
variable {X:Cx}{pins:List (Addr × Obj)}{Z:St}{H:Hp}{s:Shared}{a C dx:Addr}{fs:List (Str × V)}{f:Str}{v:V}{A:Around}{E:Value->Shared->Prop}
theorem tV {b:Bool}{Q:Value->Shared->Prop}(I:Inv X pins Z H s) (e:H a=some (.ins C dx fs)) (c:Cls X.K C) (n:NoAttr X.K C f) (l:fs.lookup f=some v)
  (h:∀u s',Inv X pins Z H s'->RelV v u->Q u s'):wpAny (model X.prog X.w) A (getAttr (.ref a) f b) Q E s:=by
 obtain⟨mA,O,r,_,_,_⟩:=kE I.hok e;obtain⟨u,hu,ru⟩:=RelO.some_of (v:=v) (o:=mA f) (by rw[<- l];exact r f);exact Ep I.kIn O (c.get f) c.hd n hu (yd ru) (h u _ (I.tok _) ru)
theorem tW {m:Str}{g:Addr}{pl:Sem Bool}{Q:Value × List Value->Shared->Prop}(I:Inv X pins Z H s) (e:H a=some (.ins C dx fs)) (c:Cls X.K C) (k:Meth X.K C m g) (l:fs.lookup m=none)
  (h:Q (.ref g,[.ref a]) s):wpAny (model X.prog X.w) A (getMethod (.ref a) m pl) Q E s:=by
 obtain⟨mA,O,r,_,_,_⟩:=kE I.hok e;have hn:mA m=none:=RelO.none_of (by rw[<- l];exact r m);exact zj I.kIn O (c.get m) k.at_ k.fn hn h
theorem tX {y:V}{u:Value}{Q:Unit->Shared->Prop}(I:Inv X pins Z H s) (e:H a=some (.ins C dx fs)) (c:Cls X.K C) (n:NoAttr X.K C f) (hl:fs.length<1000) (ry:RelV y u)
  (h:∀s',Inv X pins Z (upd H a (.ins C dx (fX f y fs))) s'->Q () s'):wpAny (model X.prog X.w) A (setAttr (.ref a) f u) Q E s:=by
 obtain⟨mA,O,r,wi,_,ho⟩:=kE I.hok e;have hz:(fs.map (·.1)).length<=sizeLine:=by rw[b_,sizeLine_eq];omega
 refine Er I.kIn O c.sa c.po n.taker c.hd wi hz fun h' O' sb=>h _ ?_;have hd:∃o,h'.get? dx=some o:=let ⟨o,_,_,e',_⟩:=O'.ns;⟨o,e'⟩;refine I.write (x:=a) (e:=dx) (by rw[e];exact True.intro) (.inr ho) (fun b q hb z=>(sb.2 b hb).trans z) hd ?_;refine⟨by rw[aV O.ne];exact ho,?_,O.ne,O'.obj,_,O'.ns,fun g=>?_,fun g hg=>?_⟩
 ·have:=jU f y fs;omega
 ·show RelO ((fX f y fs).lookup g) (if g=f then some u else mA g);rw[jT];by_cases q:g=f
  ·rw[if_pos q,if_pos q];exact ry
  rw[if_neg q,if_neg q];exact r g
 by_cases q:g=f
 ·rw[q];exact (jH f y fs).1
 refine (jH f y fs).2 g (wi g fun z=>hg ?_);show (if g=f then some u else mA g)=none;rw[if_neg q];exact z
theorem Inv.made (I:Inv X pins Z H s):Inv X pins Z (upd (upd H s.heap.objs.size (.own (s.heap.objs.size+1))) (s.heap.objs.size+1) (.ins C s.heap.objs.size []))
  { s with heap:=(s.heap.push emptyDict).push (instObj C s.heap.objs.size)}:=by
 have e1:(s.heap.push emptyDict).get? s.heap.objs.size=some emptyDict:=Q_ s.heap rfl;have e2:((s.heap.push emptyDict).push (instObj C s.heap.objs.size)).get? (s.heap.objs.size+1)=some (instObj C s.heap.objs.size):=by
  have:=Q_ (s.heap.push emptyDict) (o:=instObj C s.heap.objs.size) rfl
  rwa [Zf] at this
 have e3:(s.heap.push emptyDict).Ns s.heap.objs.size (fun _=>none):=⟨emptyDict,#[],_,e1,rfl,(fun e he=>absurd he (by simp)),fun _=>rfl⟩;have I1:=I.laid (a:=s.heap.objs.size) (o:=.own (s.heap.objs.size+1)) (h':=s.heap.push emptyDict) (t':=s.toks) (fun b u q=>j_ _ q) (o_ _) ⟨_,e1⟩;refine I1.laid (a:=s.heap.objs.size+1) (o:=.ins C s.heap.objs.size []) (t':=s.toks) (fun b u q=>j_ _ q) (Nat.le_of_eq (Zf _ _)) ?_;have ne:s.heap.objs.size≠s.heap.objs.size+1:=Xm (Zk _);refine⟨by rw[aV ne,bU],X8 _,ne,e2,fun _=>none,(Heap.Ns1.of_empty e3).at fun o q=>j_ _ q,fun _=>True.intro,fun y hy=>absurd rfl hy⟩
theorem Es {prog:Program}{w:World}{env:Env}{e:Expr}{f:Str}{pos:Pos}{s:Shared}{Q:Value->Shared->Prop}(hb:attributeBase e f env (eval e env)=eval e env)
  (h:wpAny (model prog w) A (eval e env) (fun o s₁=>wpAny (model prog w) A (getAttr o f true) Q E s₁) E s):wpAny (model prog w) A (eval (.Attribute e f pos) env) Q E s :=
 Attribute_any_ h (by rw[arm_eval_Attribute,hb])
end
def Wh (K:Frag) (ta:TE) (f:Str):TE:=fun Z H Q=>ta Z H fun x H1=>∃a C dx fs v,x=.ref a/\H1 a=some (.ins C dx fs)/\Cls K C/\NoAttr K C f/\fs.lookup f=some v/\Q v H1
def Wi (K:Frag) (ta tv:TE) (f:Str):TS:=fun D Z H=>tv Z H fun y H1=>ta Z H1 fun x H2=>∃a C dx fs,x=.ref a/\H2 a=some (.ins C dx fs)/\Cls K C/\NoAttr K C f/\fs.length<1000 /\
 D.nx Z (upd H2 a (.ins C dx (fX f y fs)))
section
variable {X:Cx}{o e value:Expr}{f:Str}{pos pos' tpos:Pos}{ta tv:TE}
theorem Lg (he:PE X e ta) (hb:attributeBase e f X.env (eval e X.env)=eval e X.env):PE X (.Attribute e f pos) (Wh X.K ta f):=by
 intro pins s Z H Q I h;refine Es hb (thn (he pins s Z H _ I h) fun u s1 ⟨x,H1,I1,rx,a,C,dx,fs,v,ex,ea,c,n,l,q⟩=>?_);subst ex;obtain rfl:u=Value.ref a:=rx;exact tV I1 ea c n l fun u' s2 I2 ru=>⟨v,H1,I2,ru,q⟩
theorem Lh (ha:PE X o ta) (hv:PE X value tv) (hs:swapsWith value (some (.Attribute o f pos')) pos.line X.env=pure false):PS X (.Assign [.Attribute o f pos'] value pos) (Wi X.K ta tv f):=by
 intro pins s Z H D I h;refine plainObj_wpAny_Assign_Attribute (thn (hv pins s Z H _ I h) fun u s1 ⟨y,H1,I1,ry,q⟩=>thn (ha pins s1 Z H1 _ I1 q) fun ov s2 ⟨x,H2,I2,rx,a,C,dx,fs,ex,ea,c,n,l,q2⟩=>?_) hs;subst ex;obtain rfl:ov=Value.ref a:=rx;exact tX I2 ea c n l ry fun s3 I3=>⟨Z,_,I3,q2⟩
variable {pins:List (Addr × Obj)}{Z:St}{H:Hp}{s:Shared}{A:Around}{E Q:Value->Shared->Prop}{c:Value}{b:Bool}
inductive TyOf (K:Frag) (H:Hp):V->Value->Prop where
 |non:TyOf K H .non (.type "NoneType")
 |bl (x:Bool):TyOf K H (.bl x) (.type "bool")
 |int (i:Int):TyOf K H (.int i) (.type "int")
 |str (x:Str):TyOf K H (.str x) (.type "str")
 |flt (x:UInt64):TyOf K H (.flt x) (.type "float")
 |lst {a:Addr} {xs:List V} (e:H a=some (.lst xs)):TyOf K H (.ref a) (.type "list")
 |frz {a:Addr} {o:Obj} {xs:List V} (e:H a=some (.frz o (.lst xs))):TyOf K H (.ref a) (.type "list")
 |tup {a:Addr} {xs:List V} (e:H a=some (.tup xs)):TyOf K H (.ref a) (.type "tuple")
 |dK {a:Addr} {kvs:List (Key × V)} (e:H a=some (.dK kvs)):TyOf K H (.ref a) (.type "dict")
 |dT {a:Addr} {kvs:List (List Key × V)} (e:H a=some (.dT kvs)):TyOf K H (.ref a) (.type "dict")
 |ins {a C dx:Addr} {fs:List (Str × V)} (e:H a=some (.ins C dx fs)) (cl:Cls K C) (ha:findIn K (.ref C) "__class__"=some (some (.builtin "object.__class__")))
   (hn:PySem.W.specialIn K (.builtin "object.__class__") "__get__"=some (some (.builtin "getset_descriptor.__get__"))) (htk:PySem.W.takesIn K (.builtin "object.__class__")=some true)
   (hm:mroIn K C (.type "object")=some true):TyOf K H (.ref a) (.ref C)
theorem dZ {x:V}{u t:Value}(I:Inv X pins Z H s) (rx:RelV x u) (ty:TyOf X.K H x t) (e:kitOne X.K t c=some b) (h:∀tk,Q (.bool b) { s with toks:=tk}) :
  wpAny (model X.prog X.w) A (call (.builtin "isinstance") [u,c]) Q E s:=by
 cases ty with
 |non=>cases (show u=Value.none from rx);exact kia_one PySem.W.kitx_none I.kIn True.intro e (fun z=>nomatch z) h
 |bl y=>cases (show u=Value.bool y from rx);exact kia_one PySem.W.kitx_bool I.kIn True.intro e (fun z=>nomatch z) h
 |int i=>obtain⟨t,q⟩:=(show ∃t,u=Value.int i t from rx);cases q;exact kia_one PySem.W.kitx_int I.kIn True.intro e (fun z=>nomatch z) h
 |str y=>obtain⟨t,q⟩:=(show ∃t,u=Value.str y t from rx);cases q;exact kia_one PySem.W.kitx_str I.kIn True.intro e (fun z=>nomatch z) h
 |flt y=>obtain⟨t,q⟩:=(show ∃t,u=Value.float y t from rx);cases q;exact kia_one PySem.W.kitx_float I.kIn True.intro e (fun z=>nomatch z) h
 |@lst a xs ea=>cases (show u=Value.ref a from rx);obtain⟨_,_,n,_,h1⟩:=(show ObjOk X.prog X.w H s.heap a (.lst xs) from I.hok a _ ea);exact kia_one kitx_list I.kIn ⟨_,h1,rfl⟩ e (fun z=>nomatch z) h
 |@frz a ob xs ea=>cases (show u=Value.ref a from rx);obtain⟨_,_,_,n,_,h1⟩:=(show ObjOk X.prog X.w H s.heap a (.frz ob (.lst xs)) from I.hok a _ ea);exact kia_one kitx_list I.kIn ⟨_,h1,rfl⟩ e (fun z=>nomatch z) h
 |@tup a xs ea=>cases (show u=Value.ref a from rx);obtain⟨_,_,_,p⟩:=(show ObjOk X.prog X.w H s.heap a (.tup xs) from I.hok a _ ea);obtain⟨o,h1,h2,_⟩:=p;exact kia_one kitx_tuple I.kIn ⟨o,h1,h2⟩ e (fun z=>nomatch z) h
 |@dK a kvs ea=>cases (show u=Value.ref a from rx);obtain⟨_,_,vs,_,p⟩:=(show ObjOk X.prog X.w H s.heap a (.dK kvs) from I.hok a _ ea);obtain⟨o,es,ep,h1,h2,_⟩:=p;exact kia_one kitx_dict I.kIn ⟨o,h1,h2.1⟩ e (fun z=>nomatch z) h
 |@dT a kvs ea=>cases (show u=Value.ref a from rx);obtain⟨_,_,xs,_,o,es,ep,h1,h2,_⟩:=(show ObjOk X.prog X.w H s.heap a (.dT kvs) from I.hok a _ ea);exact kia_one kitx_dict I.kIn ⟨o,h1,h2.1⟩ e (fun z=>nomatch z) h
 |@ins a C dx fs ea cl ha hn htk hm =>
 cases (show u=Value.ref a from rx);obtain⟨mA,O,_⟩:=kE I.hok ea;obtain⟨od,J,_⟩:=O.look;exact kia_one (PySem.W.kitx_own (cl.get _) cl.hd ha hn htk hm) I.kIn J e (fun z=>nomatch z) h
end
structure Room (k:Nat) (A:Around):Prop where
 hd:A.handled=none
 dp:A.depth+3*k+5<recursionLimit
 un:A.units+16*k+200<cLine
 gd:A.guards=some []
theorem Room.mono {j k:Nat}{A:Around}(r:Room k A) (h:j<=k):Room j A:=⟨r.hd,by have:=r.dp;omega,by have:=r.un;omega,r.gd⟩
theorem Room.deeper {k:Nat}{A:Around}(r:Room (k+1) A) (env:Env):Room k (A.deeper env) :=
 ⟨r.hd,by have:=r.dp;show A.depth+1+3*k+5<_;omega,by have:=r.un;show A.units+3+16*k+200<_;omega,r.gd⟩
theorem Room.in1 {k:Nat}{A:Around}(r:Room (k+1) A):Room k A.in1 :=
 ⟨r.hd,by have:=r.dp;show A.depth+3*k+5<_;omega,by have:=r.un;show A.units+1+16*k+200<_;omega,r.gd⟩
theorem tY {A:Around}{C:Addr}{us:List Value}{kw:List (Str × Value)}:(A.under (.builtin "type.__call__" ⟨.ref C::us,kw⟩)).depth=A.depth+1:=by
 first | rfl | simp [Around.under,Code.weight,Code.isCreation,Code.isGuard,Code.isCaller,Code.frames,Code.isFrame,guardIds]
theorem tZ {A:Around}{C:Addr}{us:List Value}{kw:List (Str × Value)}:(A.under (.builtin "type.__call__" ⟨.ref C::us,kw⟩)).units=A.units+1:=by
 first | rfl | simp [Around.under,Code.cUnits,Code.frames,Code.isFrame]
theorem Room.make {k:Nat}{A:Around}(r:Room (k+1) A) (C:Addr) (us:List Value) (kw:List (Str × Value)):Room k (A.under (.builtin "type.__call__" ⟨.ref C::us,kw⟩)) :=
 ⟨r.hd,by have:=r.dp;rw[tY];omega,by have:=r.un;rw[tZ];omega,by first | exact r.gd | (simp [Around.under,Code.guards,Code.isGuard,guardIds,pushGuards,r.gd])⟩
theorem Room.depth {k:Nat}{A:Around}(r:Room k A):A.depth<recursionLimit:=by have:=r.dp;omega
theorem Room.units {k:Nat}{A:Around}(r:Room k A):A.units+64<cLine:=by have:=r.un;omega
def Wj:TA:=fun _ H Q=>Q [] H
def Q9 (ta:TE) (tr:TA):TA:=fun Z H Q=>ta Z H fun x H1=>tr Z H1 fun xs H2=>Q (x::xs) H2
section
variable {X:Cx}{e:Expr}{es:List Expr}{te:TE}{t:TA}{pos:Pos}
theorem Li:PA X [] Wj:=fun _ _ _ _ H Q I h=>Zb ⟨[],H,I,.nil,h⟩
theorem Et (ha:PE X e te) (hr:PA X es t) (hs:starEach (e::es) X.env=(false,eval e X.env)::starEach es X.env:=by rfl):PA X (e::es) (Q9 te t):=by
 intro pos pins s Z H Q I h;rw[hs];show wpAny _ _ (spliced ((false,eval e X.env)::backTo pos (starEach es X.env))) _ _ s;refine YD (thn (ha pins s Z H _ I h) fun u s1 ⟨x,H1,I1,r1,q1⟩=>?_);exact thn (hr pos pins s1 Z H1 _ I1 q1) fun us s2 ⟨xs,H2,I2,r2,q2⟩=>⟨x::xs,H2,I2,.cons r1 r2,q2⟩
def Wl (t:TA):TE:=fun Z H Q=>t Z H fun xs H1=>xs.length<=sizeLine/\∀p,H1 p=none->Q (.ref p) (upd H1 p (.tup xs))
def Wm (t:TA):TE:=fun Z H Q=>t Z H fun xs H1=>xs.length<=sizeLine/\∀p,H1 p=none->Q (.ref p) (upd H1 p (.lst xs))
theorem Lj {x1}(h:PA X es t):PE X (.Tuple es x1 pos) (Wl t):=by
 intro pins s Z H Q I hq;refine wpAny_Tuple_spliced (thn (h pos pins s Z H _ I hq) fun us s1 ⟨xs,H1,I1,r,z,q⟩=>⟨by rw[<- r.length];exact z,?_⟩);have hf:H1 s1.heap.objs.size=none:=I1.hok.fresh (o_ _);refine⟨.ref s1.heap.objs.size,upd H1 s1.heap.objs.size (.tup xs),I1.laid (t':=s1.toks) (fun b u e=>j_ _ e) (o_ _) ?_,rfl,q _ hf⟩;exact⟨z,us,r,⟨_,Q_ _ rfl,rfl,_,rfl,rfl⟩⟩
theorem Lk (h:PA X es t):PE X (.List es pos) (Wm t):=by
 intro pins s Z H Q I hq;refine wpAny_List_spliced (thn (h pos pins s Z H _ I hq) fun us s1 ⟨xs,H1,I1,r,z,q⟩=>⟨by rw[<- r.length];exact z,?_⟩);have hf:H1 s1.heap.objs.size=none:=I1.hok.fresh (o_ _);refine⟨.ref s1.heap.objs.size,upd H1 s1.heap.objs.size (.lst xs),I1.laid (t':=s1.toks) (fun b u e=>j_ _ e) (o_ _) ?_,rfl,q _ hf⟩;exact⟨z,us,0,r,Q_ _ rfl⟩
end
abbrev Sp:=List V->Hp->VK->XK->Prop
abbrev CXT:=List Env->Hp->Shared->XK->Value->Shared->Prop
structure Env0 (P:Program) (w:World) (K:Frag) (mg:Str->Option Value) (base:Heap) (A:Around) (outer:List Env) (s:Shared) (H:Hp):Prop where
 frames:A.frames=some outer
 mod:Mod K mg base
 bs:∀b o,base.get? b=some o->s.heap.get? b=some o/\H b=none
 bsz:base.objs.size<=s.heap.objs.size
 funs:s.heap.FunFrames base outer
 frf:∀b∈frs outer,H b=none
 hok:HOk P w H s.heap
 bare:AllBare s.gens
def CE (outer:List Env) (P:Program) (w:World) (H:Hp) (s:Shared) (Q:VK) (u:Value) (s':Shared):Prop :=
 ∃v H',s'.os=s.os/\AllBare s'.gens/\Un (frs outer) [] H H' s.heap s'.heap/\HOk P w H' s'.heap/\RelV v u/\Q v H'
def CR (CX:CXT) (outer:List Env) (P:Program) (w:World) (H:Hp) (s:Shared) (Q:VK) (E:XK) (r:Result) (s':Shared):Prop :=
 match r with
 |.ok (.ret u)=>CE outer P w H s Q u s'
 |.ok _=>False
 |.error e=>CX outer H s E e s'
structure FnOk (P:Program) (w:World) (K:Frag) (mg:Str->Option Value) (base:Heap) (CX:CXT) (k:Nat) (f:Addr) (fd:FuncData) (ps:List Str) (sp:Sp):Prop where
 len:∀vs H Q E,sp vs H Q E->vs.length=ps.length
 run:∀(A:Around) (outer:List Env) (s:Shared) (H:Hp) (args:Args) (us:List Value) (vs:List V) (Q:VK) (E:XK),Room k A->Env0 P w K mg base A outer s H->BindsTo s fd args (ps.zip us)->Vals vs us->sp vs H Q E ->
  codeAny (model P w) A (.call (.ref f) args) (CR CX outer P w H s Q E) s
theorem FnOk.mono {P:Program}{w:World}{K:Frag}{mg:Str->Option Value}{base:Heap}{CX:CXT}{j k:Nat}{f:Addr}{fd:FuncData}{ps:List Str}{sp:Sp}(F:FnOk P w K mg base CX j f fd ps sp) (h:j<=k) :
  FnOk P w K mg base CX k f fd ps sp:=⟨F.len,fun A outer s H args us vs Q E hr=>F.run A outer s H args us vs Q E (hr.mono h)⟩
theorem FnOk.imp {P:Program}{w:World}{K:Frag}{mg:Str->Option Value}{base:Heap}{CX:CXT}{k:Nat}{f:Addr}{fd:FuncData}{ps:List Str}{sp sp':Sp}(F:FnOk P w K mg base CX k f fd ps sp)
  (h:∀vs H Q E,sp' vs H Q E->sp vs H Q E):FnOk P w K mg base CX k f fd ps sp' :=
 ⟨fun vs H Q E q=>F.len vs H Q E (h _ _ _ _ q),fun A outer s H args us vs Q E hr he hb hv hs=>F.run A outer s H args us vs Q E hr he hb hv (h _ _ _ _ hs)⟩
theorem Env0.make {P:Program}{w:World}{K:Frag}{mg:Str->Option Value}{base:Heap}{A:Around}{outer:List Env}{s:Shared}{H:Hp}(e:Env0 P w K mg base A outer s H) (C:Addr) (us:List Value) (kw:List (Str × Value)) :
  Env0 P w K mg base (A.under (.builtin "type.__call__" ⟨.ref C::us,kw⟩)) outer s H:=⟨by first | exact e.frames | (simpa [Around.under,Code.envs,Code.isFrame,pushEnvs] using e.frames),e.mod,e.bs,e.bsz,e.funs,e.frf,e.hok,e.bare⟩
theorem Env0.in1 {P:Program}{w:World}{K:Frag}{mg:Str->Option Value}{base:Heap}{A:Around}{outer:List Env}{s:Shared}{H:Hp}(e:Env0 P w K mg base A outer s H) :
  Env0 P w K mg base A.in1 outer s H:=⟨e.frames,e.mod,e.bs,e.bsz,e.funs,e.frf,e.hok,e.bare⟩
section
variable {X:Cx}{pins:List (Addr × Obj)}{Z:St}{H:Hp}{s s':Shared}
theorem Inv.env0 (I:Inv X pins Z H s):Env0 X.prog X.w X.K X.mg X.base X.A X.stack s H :=
 ⟨I.ok.frames,I.ok.mod,I.bs,J_ I.ok.bsz I.sz,I.stack,I.stkFree,I.hok,I.bare⟩
theorem Inv.after {Q:VK}{u:Value}(I:Inv X pins Z H s) (h:CE X.stack X.prog X.w H s Q u s'):EP X pins Z Q u s':=by
 obtain⟨v,H',os,bare,un,hok,r,q⟩:=h;obtain⟨hh,g,d,t,os'⟩:=s';obtain rfl:os'=s.os:=os;exact⟨v,H',I.call (h':=hh) (g':=g) (d':=d) (t':=t) (ch:=[]) un hok bare (fun b z=>absurd z (by simp)),r,q⟩
end
def Ra (sp:Sp) (dvs:List V) (E:XK) (t:TA):TE:=fun Z H Q=>t Z H fun vs H1=>sp (vs++dvs) H1 Q E
def Rb (C:Addr) (m:Str) (sp:Sp) (dvs:List V) (E:XK) (ta:TE) (t:TA):TE:=fun Z H Q=>ta Z H fun x H1=>∃a dx fs,x=.ref a/\H1 a=some (.ins C dx fs)/\fs.lookup m=none /\
 t Z H1 fun vs H2=>sp (x::(vs++dvs)) H2 Q E
def Rc (C:Addr) (sp:Sp) (dvs:List V) (E:XK) (t:TA):TE:=fun Z H Q=>t Z H fun vs H1=>∀x dx,H1 x=none->H1 dx=none->dx≠x ->
 sp (.ref x::(vs++dvs)) (upd (upd H1 dx (.own x)) x (.ins C dx [])) (fun v H2=>v=.non/\Q (.ref x) H2) E
def Binds (K:Frag) (fd:FuncData) (ps:List Str) (ds:List Value):Prop :=
 ∀(s:Shared) (us:List Value),K.In s.heap->(us++ds).length=ps.length->BindsTo s fd ⟨us,[]⟩ (ps.zip (us++ds))
theorem Binds.all {K:Frag}{fd:FuncData}{ps:List Str}(h:∀us:List Value,us.length=ps.length->bindArgs fd ⟨us,[]⟩=pure (ps.zip us)):Binds K fd ps []:=fun s us _ hl=>by
 rw[I_] at hl ⊢;exact .of_eq (h us hl)
def jJ (CX:CXT) (X:Cx) (E:XK):Prop:=∀(pins:List (Addr × Obj)) (Z:St) (H:Hp) (s:Shared) (e:Value) (s':Shared),Inv X pins Z H s->CX X.stack H s E e s'->X.xe e s'
section
variable {X:Cx}{CX:CXT}{k:Nat}{f C:Addr}{fd:FuncData}{ps:List Str}{sp:Sp}{dvs:List V}{ds:List Value}{E:XK}{x m:Str}{p pos apos:Pos}{e o:Expr}{es:List Expr}{ta:TE}{t:TA}
theorem zp {pins:List (Addr × Obj)}{Z:St}{H:Hp}{s:Shared}{Q:VK}{us:List Value}{vs:List V}(F:FnOk X.prog X.w X.K X.mg X.base CX k f fd ps sp) (hr:Room k X.A) (hb:Binds X.K fd ps ds) (hd:Vals dvs ds) (hx:jJ CX X E)
  (I:Inv X pins Z H s) (r:Vals vs us) (h:sp (vs++dvs) H Q E):wpAny (model X.prog X.w) X.A (call (.ref f) us) (EP X pins Z Q) X.xe s:=by
 have r2:Vals (vs++dvs) (us++ds):=r.append hd;have hl:(us++ds).length=ps.length:=by rw[<- r2.length];exact F.len _ _ _ _ h
 refine wpAny_call (codeAny_mono (F.run X.A X.stack s H ⟨us,[]⟩ (us++ds) (vs++dvs) Q E hr I.env0 (hb s us I.kIn hl) r2 h) fun r s' hq=>?_);cases r with
 |error e=>exact hx pins Z H s e s' I hq
 |ok fl =>
 cases fl with
 |ret u=>exact I.after hq
 |next=>exact False.elim hq
 |brk=>exact False.elim hq
 |cont=>exact False.elim hq
theorem Eu (F:FnOk X.prog X.w X.K X.mg X.base CX k f fd ps sp) (hr:Room k X.A) (hg:Gl X x) (hm:X.mg x=some (.ref f)) (hk:keepIn X.K (.ref f)=true) (hb:Binds X.K fd ps ds) (hd:Vals dvs ds) (hx:jJ CX X E)
  (ha:PA X (e::es) t) (hdb:(x==("__debug__":Str))=false:=by decide) (he:starEach (e::es) X.env=(false,eval e X.env)::starEach es X.env:=by rfl) (hpl:(backTo pos (starEach es X.env)).any (·.1)=false:=by rfl) :
  PE X (.Call (.Name x p) (e::es) [] pos) (Ra sp dvs E t):=by
 intro pins s Z H Q I h;refine Yk (oY I hg hm ?_ hdb);refine callWith_K (h₀:=X.base) I.ok.mod.kin hk (thn (ha pos pins s Z H _ I h) fun us s1 ⟨vs,H1,I1,r,q⟩=>⟨I1.kIn,?_⟩) he hpl;exact zp F hr hb hd hx I1 r q
theorem Ew {pl:Sem Bool}(he:PE X o ta) (c:Cls X.K C) (hm:Meth X.K C m f) (F:FnOk X.prog X.w X.K X.mg X.base CX k f fd ps sp) (hr:Room k X.A) (hb:Binds X.K fd ps ds) (hd:Vals dvs ds) (hx:jJ CX X E) (ha:PA X (e::es) t)
  (hst:starEach (e::es) X.env=(false,eval e X.env)::starEach es X.env:=by rfl) (hpl:(backTo pos (starEach es X.env)).any (·.1)=false:=by rfl)
  (ht:eval (.Call (.Attribute o m apos) (e::es) [] pos) X.env=(do
   let ov <- eval o X.env
   standAt apos.atName
   let (f,first) <- holding [ov] (getMethod ov m pl)
   callWith pos f first (backTo pos (starEach (e::es) X.env)) (backToKw pos (keywordEach [] X.env))):=by rfl) :
  PE X (.Call (.Attribute o m apos) (e::es) [] pos) (Rb C m sp dvs E ta t):=by
 intro pins s Z H Q I h;refine PySem.W.methodCall_KW (pl:=pl) (thn (he pins s Z H _ I h) fun u s1 ⟨x,H1,I1,rx,a,dx,fs,ex,ea,l,q⟩=>?_) ht;subst ex;obtain rfl:u=Value.ref a:=rx;refine tW I1 ea c hm l ?_;refine callWith_K (first:=[.ref a]) (h₀:=X.base) I.ok.mod.kin hm.kp (thn (ha pos pins s1 Z H1 _ I1 q) fun us s2 ⟨vs,H2,I2,r,q2⟩=>⟨I2.kIn,?_⟩) hst hpl;exact zp (us:=.ref a::us) (vs:=.ref a::vs) F hr hb hd hx I2 (.cons rfl r) q2
structure Mk (K:Frag) (C f:Addr):Prop where
 makes:makesIn K C=true
 init:findIn K (.ref C) "__init__"=some (some (.ref f))
 fn:isFn K (.ref f)=true
 kp:keepIn K (.ref C)=true
theorem zq {pins:List (Addr × Obj)}{Z:St}{H:Hp}{s:Shared}{Q:VK}{us:List Value}{vs:List V}(M:Mk X.K C f) (F:FnOk X.prog X.w X.K X.mg X.base CX k f fd ps sp) (hr:Room (k+1) X.A) (hb:Binds X.K fd ps ds) (hd:Vals dvs ds)
  (hx:jJ CX X E) (I:Inv X pins Z H s) (r:Vals vs us)
  (h:∀x dx,H x=none->H dx=none->dx≠x->sp (.ref x::(vs++dvs)) (upd (upd H dx (.own x)) x (.ins C dx [])) (fun v H2=>v=.non/\Q (.ref x) H2) E) :
  wpAny (model X.prog X.w) X.A (call (.ref C) us) (EP X pins Z Q) X.xe s:=by
 have hq:=h (s.heap.objs.size+1) s.heap.objs.size (I.hok.fresh (Nat.le_succ _)) (I.hok.fresh (o_ _)) (Xm (Zk _));have I2:=Inv.made (C:=C) I;have r2:Vals (V.ref (s.heap.objs.size+1)::(vs++dvs)) (Value.ref (s.heap.objs.size+1)::(us++ds)):=.cons rfl (r.append hd);have hl:(Value.ref (s.heap.objs.size+1)::us++ds).length=ps.length:=by have e:=r2.length;rw[F.len _ _ _ _ hq] at e;exact e.symm
 refine wpAny_call (zm (f:=f) I.kIn M.makes M.init (Ze.mp M.fn) (codeAny_mono (F.run _ X.stack _ _ ⟨Value.ref (s.heap.objs.size+1)::us,[]⟩ (Value.ref (s.heap.objs.size+1)::(us++ds)) _ _ E (hr.make C us [])
  (I2.env0.make C us []) (hb _ (Value.ref (s.heap.objs.size+1)::us) I2.kIn hl) r2 hq) fun r s' hq'=>?_))
 cases r with
 |error e=>exact hx pins Z _ _ e s' I2 hq'
 |ok fl =>
 cases fl with
 |ret u=>obtain⟨v,H',I3,rv,ev,q3⟩:=I2.after hq';subst ev;exact⟨rv,⟨V.ref (s.heap.objs.size+1),H',I3,rfl,q3⟩⟩
 |next=>exact False.elim hq'
 |brk=>exact False.elim hq'
 |cont=>exact False.elim hq'
theorem Ex (M:Mk X.K C f) (F:FnOk X.prog X.w X.K X.mg X.base CX k f fd ps sp) (hr:Room (k+1) X.A) (hg:Gl X x) (hm:X.mg x=some (.ref C)) (hb:Binds X.K fd ps ds) (hd:Vals dvs ds) (hx:jJ CX X E)
  (ha:PA X (e::es) t) (hdb:(x==("__debug__":Str))=false:=by decide) (he:starEach (e::es) X.env=(false,eval e X.env)::starEach es X.env:=by rfl) (hpl:(backTo pos (starEach es X.env)).any (·.1)=false:=by rfl) :
  PE X (.Call (.Name x p) (e::es) [] pos) (Rc C sp dvs E t):=by
 intro pins s Z H Q I h;refine Yk (oY I hg hm ?_ hdb);refine callWith_K (h₀:=X.base) I.ok.mod.kin M.kp (thn (ha pos pins s Z H _ I h) fun us s1 ⟨vs,H1,I1,r,q⟩=>⟨I1.kIn,?_⟩) he hpl;exact zq M F hr hb hd hx I1 r q
variable {ks:List Str}{kpos:Pos}{kws:List Keyword}{te:TE}{tk:TA}{nm:Option Str}{g:List Value->List Value->List Value}{gV:List V->List V->List V}
end
structure FnScope (N P:List Str) (sc:Scope):Prop where
 kind:sc.kind=.function
 co:sc.isCoroutine=false
 gen:sc.isGenerator=false
 nd:N.Nodup
 pre:N.take P.length=P
 par:∀x∈P,sc.names.lookup x=some .local\/sc.names.lookup x=some .cell
 nofree:∀y∈sc.names,y.2≠.free
theorem nM {kindOf:Str->Option NameKind}{x:Str}:∀{binds:List (Str × Value)}{m:Str->Option Value},(∀v,(x,v)∉binds)->bindL kindOf binds m x=m x
 |[],_,_=>rfl
 | (n,v)::r,m,h=>by
  unfold bindL
  rw[nM fun w hw=>h w (n_ _ hw)]
  split
  ·
   have:x≠n:=by rintro rfl;exact h v i_
   simp [this]
  ·
   rfl
theorem nO {kindOf:Str->Option NameKind}{x:Str}:∀{binds:List (Str × Value)}{m:Str->Option Value},(∀v,(x,v)∉binds)->bindC kindOf binds m x=m x
 |[],_,_=>rfl
 | (n,v)::r,m,h=>by
  unfold bindC
  rw[nO fun w hw=>h w (n_ _ hw)]
  split
  ·
   rfl
  ·
   have:x≠n:=by rintro rfl;exact h v i_
   simp [this]
theorem nP {kindOf:Str->Option NameKind}{x:Str}{v:Value}:∀{P:List Str}{vs:List Value}{i:Nat}{m:Str->Option Value},P.Nodup->P[i]?=some x->vs[i]?=some v->kindOf x=some .local ->
  bindL kindOf (P.zip vs) m x=some v
 |[],_,_,_,_,h,_,_=>by simp at h
 |_::_,[],_,_,_,_,h,_=>by simp at h
 |p::P,w::vs,0,m,nd,h1,h2,hk=>by
  simp at h1 h2;subst h1;subst h2
  show bindL kindOf ((p,w)::P.zip vs) m p=_
  unfold bindL
  rw[nM fun v hv=>(Xl.mp nd).1 (List.of_mem_zip hv).1,if_pos hk]
  simp
 |p::P,w::vs,i+1,m,nd,h1,h2,hk=>by
  show bindL kindOf ((p,w)::P.zip vs) m x=_
  unfold bindL
  exact nP (i:=i) (Xl.mp nd).2 (by simpa using h1) (by simpa using h2) hk
theorem nQ {kindOf:Str->Option NameKind}{x:Str}{v:Value}:∀{P:List Str}{vs:List Value}{i:Nat}{m:Str->Option Value},P.Nodup->P[i]?=some x->vs[i]?=some v->kindOf x≠some .local ->
  bindC kindOf (P.zip vs) m x=some v
 |[],_,_,_,_,h,_,_=>by simp at h
 |_::_,[],_,_,_,_,h,_=>by simp at h
 |p::P,w::vs,0,m,nd,h1,h2,hk=>by
  simp at h1 h2;subst h1;subst h2
  show bindC kindOf ((p,w)::P.zip vs) m p=_
  unfold bindC
  rw[nO fun v hv=>(Xl.mp nd).1 (List.of_mem_zip hv).1,if_neg hk]
  simp
 |p::P,w::vs,i+1,m,nd,h1,h2,hk=>by
  show bindC kindOf ((p,w)::P.zip vs) m x=_
  unfold bindC
  exact nQ (i:=i) (Xl.mp nd).2 (by simpa using h1) (by simpa using h2) hk
def start (N:List Str) (vs:List V):St:=vs.map some++List.replicate (N.length - vs.length) none
def t6 (CX:CXT) (P:Program) (w:World) (K:Frag) (mg:Str->Option Value) (base:Heap) (N:List Str) (qual:Str) (scope:Scope) (f:Addr) (cd:Value) (A:Around) (outer:List Env) (s:Shared) (H:Hp) (E:XK):Cx where
 prog:=P
 w:=w
 K:=K
 mg:=mg
 base:=base
 A:=A.deeper (envOfC qual scope s.heap.objs.size f cd)
 N:=N
 s₀:=s
 H₀:=H
 env:=envOfC qual scope s.heap.objs.size f cd
 outer:=outer
 stack:=envOfC qual scope s.heap.objs.size f cd::outer
 ex:=[]
 calm:=true
 fn:=fun _=>true
 pn:=[]
 xe:=fun e s'=>wpAny (model P w) (A.deeper (envOfC qual scope s.heap.objs.size f cd)) (leaving (envOfC qual scope s.heap.objs.size f cd) e) (fun _ s''=>CX outer H s E e s'') (fun e' s''=>CX outer H s E e' s'') s'
theorem jk {sc:Scope}{n:Nat}{x:Str}(h:sc.names.lookup x=some .cell):∃c,(cellsFrom n sc.names []).lookup x=some c:=by
 have q:=cellsFrom_some sc.names n [] (.inl h);exact Option.isSome_iff_exists.mp q
theorem ye {CX:CXT}{P:Program}{w:World}{K:Frag}{mg:Str->Option Value}{base:Heap}{N ps:List Str}{qual:Str}{scope:Scope}{f:Addr}{cd:Value}{A:Around}{outer:List Env}{s s1:Shared}{H:Hp}{E:XK}{us:List Value}{vs:List V}
  (S:FnScope N ps scope) (hd:A.handled=none) (e0:Env0 P w K mg base A outer s H) (hl:vs.length=ps.length) (r:Vals vs us)
  (x:InCallC s s.heap.objs.size (bindL (envOfC qual scope s.heap.objs.size f cd).kindOf (ps.zip us) fun _=>none) (cellsFrom (s.heap.objs.size+1) scope.names []) (bindC (envOfC qual scope s.heap.objs.size f cd).kindOf (ps.zip us) fun _=>none) s1) :
  Inv (t6 CX P w K mg base N qual scope f cd A outer s H E) [] (start N vs) H s1:=by
 have hpl:ps.length<=N.length:=by have:=T_ List.length S.pre;rw[X_] at this;omega
 obtain⟨h1,tk,rfl,hk⟩:=x.done;have noA:∀b:Addr,b∉(t6 CX P w K mg base N qual scope f cd A outer s H E).ex:=fun b z=>absurd (show b∈([]:List Addr) from z) (by simp);refine⟨⟨e0.mod,S.kind,rfl,rfl,o_ _,fun y z c h1 h2=>?_,fun y hy=>?_,fun y c _ h=>?_,fun _=>hd,Around.frames_deeper e0.frames,.inr ⟨rfl,rfl⟩,fun b z=>absurd z (noA b),e0.bs,e0.bsz,fun b _ _=>noA b,fun b z=>absurd z (noA b),e0.funs,e0.frf⟩,
  rfl,e0.bare,Un.kept hk,⟨_,x.toInCall.ns,fun i y v h1 h2 h3=>?_⟩,fun y c h=>⟨_,x.cell y c h⟩,e0.hok.fresh (o_ _),fun y c h=>?_,fun p hp=>absurd (show p∈([]:List (Addr × Obj)) from hp) (by simp),e0.hok.kept hk,?_⟩
 ·exact name_of_addr x.apart (mem_of_lookup h1) (mem_of_lookup h2)
 ·have hy:scope.names.lookup y=some .cell\/scope.names.lookup y=some .free:=hy;rcases hy with hy | hy
  ·exact jk hy
  exact absurd rfl (S.nofree _ (mem_of_lookup hy))
 ·exact Yl (x.above y c (mem_of_lookup h))
 ·have hi:i<vs.length:=by
   unfold start at h2;by_cases hi:i<vs.length
   ·exact hi
   rw[F_ (by simpa using hi)] at h2;rw[YZ] at h2;split at h2 <;> cases h2
  have ha:vs[i]?=some v:=by
   unfold start at h2;rw[Xj (by simpa using hi),y_] at h2;cases e:vs[i]? with
   |none=>rw[e] at h2;cases h2
   |some a=>rw[e] at h2;cases h2;rfl
  obtain⟨u,hu,rv⟩:=r.get ha;have hp:ps[i]?=some y:=by rw[<- S.pre,List.getElem?_take_of_lt (by omega)];exact h1
  have ndP:ps.Nodup:=by rw[<- S.pre];exact S.nd.sublist (List.take_sublist _ _)
  refine⟨u,rv,?_⟩;rcases S.par y (XX hp) with k | k
  ·exact .inl ⟨k,nP ndP hp hu k⟩
  obtain⟨c,e⟩:=jk (n:=s.heap.objs.size+1) k;refine .inr ⟨.inl k,c,e,?_⟩;have q:=x.cell y c e;rw[nQ ndP hp hu (by show scope.names.lookup y≠_;rw[k];decide)] at q;exact q
 ·exact e0.hok.fresh (Yl (x.above y c (mem_of_lookup h)))
 unfold start;show _=N.length;rw[a_,b_,Za];omega
theorem Rf {CX:CXT}{P:Program}{w:World}{K:Frag}{mg:Str->Option Value}{base:Heap}{k:Nat}{f:Addr}{name qual:Str}{params:Arguments}{body:List Stmt}{scope:Scope}{dV kV doc pm cdv ct oc:Value}{an od:Option Addr}
  {osl:Array (Option Value)} {N ps:List Str} {sp:Sp} (lk:K.lookup f=some ⟨oc,od,.func (fnOf name qual params body scope dV kV doc pm an cdv ct),osl⟩) (hcd:codeIn K cdv qual=true) (S:FnScope N ps scope)
  (len:∀vs H Q E,sp vs H Q E->vs.length=ps.length)
  (hbody:∀(A:Around) (outer:List Env) (s:Shared) (H:Hp) (vs:List V) (Q:VK) (E:XK),Room k (A.deeper (envOfC qual scope s.heap.objs.size f cdv))->sp vs H Q E ->
   ∃t,PSs (t6 CX P w K mg base N qual scope f cdv A outer s H E) body t/\t { nx:=fun _ H'=>Q .non H',rt:=Q} (start N vs) H) :
  FnOk P w K mg base CX (k+1) f (fnOf name qual params body scope dV kV doc pm an cdv ct) ps sp:=by
 refine⟨len,fun A outer s H args us vs Q E hr e0 hb r hsp=>?_⟩;have hl:=len _ _ _ _ hsp;have KX:K.In s.heap:=e0.mod.kin.keeps fun b o e=>(e0.bs b o e).1;have lim:s.heap.NoLimit:=e0.mod.nolimit.keeps fun b o e=>(e0.bs b o e).1;have hkind:∀y∈ps.zip us,scope.names.lookup y.1=some .local\/(scope.names.lookup y.1=some .cell/\((cellsFrom (s.heap.objs.size+1) scope.names []).lookup y.1).isSome=true):=fun ⟨n,v⟩ hy=>by
  rcases S.par n (List.of_mem_zip hy).1 with q | q
  ·exact .inl q
  exact .inr ⟨q,cellsFrom_some _ _ _ (.inl q)⟩
 refine codeAny_call_function hr.depth (KX _ _ lk) rfl S.co S.gen rfl (PySem.W.codeRec_of KX hcd) (hb _ _ _ _ ?_);refine wpAny_newFunctionEnv_cells S.kind hkind fun env he s1 x=>?_;subst he;refine⟨lim.keeps x.toInCall.keep,codeAny_func ?_⟩;obtain⟨t,ht,hq⟩:=hbody A outer s H vs Q E (hr.deeper _) hsp;have I:Inv (t6 CX P w K mg base N qual scope f cdv A outer s H E) [] (start N vs) H s1:=ye S hr.hd e0 hl r x;refine XR (ht [] s1 (start N vs) H _ I hq) (fun fl s' hs=>?_) fun e s' hs=>hs;have fin:∀{Z':St} {H':Hp} {v:V} {u:Value},Inv (t6 CX P w K mg base N qual scope f cdv A outer s H E) [] Z' H' s'->RelV v u->Q v H'->CE outer P w H s Q u s' :=
  fun {Z' H' v u} J rv q=>⟨v,H',J.os,J.bare,J.base,J.hok,rv,q⟩
 cases fl with
 |ret u=>obtain⟨v,Z',H',J,rv,q⟩:=hs;exact fin J rv q
 |next=>obtain⟨Z',H',J,q⟩:=hs;exact fin (v:=V.non) (u:=Value.none) J rfl q
 |brk=>obtain⟨_,_,_,q⟩:=hs;exact False.elim q
 |cont =>
 obtain⟨_,_,_,q⟩:=hs;exact False.elim q
section
variable {X:Cx}{x:Str}{p pos:Pos}{e:Expr}{es:List Expr}{t:TA}{id T:String}{r:List V->Hp->VK->Prop}
def tCB (r:List V->Hp->VK->Prop) (t:TA):TE:=fun Z H Q=>t Z H fun vs H1=>r vs H1 Q
theorem zr (hc:CallR X (.builtin id) r) (hg:Gl X x) (hm:X.mg x=none) (hv:bootBuiltins x=some (.builtin id)) (ha:PA X (e::es) t) (hn:x≠"__name__":=by decide) (hdb:(x==("__debug__":Str))=false:=by decide)
  (he:starEach (e::es) X.env=(false,eval e X.env)::starEach es X.env:=by rfl) (hpl:(backTo pos (starEach es X.env)).any (·.1)=false:=by rfl):PE X (.Call (.Name x p) (e::es) [] pos) (tCB r t):=by
 intro pins s Z H Q I h;refine Yk (gQ I hg hm hv ?_ hn hdb);exact PyProof.Rows.callWith_builtin1 (thn (ha pos pins s Z H _ I h) fun us s1 ⟨vs,H1,I1,r1,q1⟩=>hc pins s1 Z H1 vs us Q I1 r1 q1) he hpl
theorem yf (hc:CallR X (.type T) r) (hg:Gl X x) (hm:X.mg x=none) (hv:bootBuiltins x=some (.type T)) (ha:PA X (e::es) t) (hn:x≠"__name__":=by decide) (hdb:(x==("__debug__":Str))=false:=by decide)
  (he:starEach (e::es) X.env=(false,eval e X.env)::starEach es X.env:=by rfl) (hpl:(backTo pos (starEach es X.env)).any (·.1)=false:=by rfl):PE X (.Call (.Name x p) (e::es) [] pos) (tCB r t):=by
 intro pins s Z H Q I h;refine Yk (gQ I hg hm hv ?_ hn hdb);exact XS (thn (ha pos pins s Z H _ I h) fun us s1 ⟨vs,H1,I1,r1,q1⟩=>hc pins s1 Z H1 vs us Q I1 r1 q1) he hpl
end
end L2
namespace HT
open PySem PyProof.Rows
section
open PySem.SeqAt
open PySem.AutoSeq1 (wpAny_loadPart')
open PySem.MeetsSeq PySem.MeetsSeq2 PySem.MeetsSeq3
variable {prog:Program}{w:World}{A:Around}{E:Value->Shared->Prop}{s:Shared}
theorem cat_tup {t b:Addr}{vs ws:List Value}{Q:Value->Shared->Prop}(ht:IsTup s.heap t vs.toArray) (hb:IsTup s.heap b ws.toArray) (hv:vs≠[])
  (h1:ws=[]->Q (.ref t) s) (h2:ws≠[]->Q (.ref s.heap.objs.size) { s with heap:=s.heap.push { cls:=.type "tuple",data:=.seq (vs++ws).toArray}})
  (hsz:vs.length+ws.length<=sizeLine):wpAny (model prog w) A (binaryOp .Add (.ref t) (.ref b)) Q E s:=by
 obtain⟨⟨cls,dd,data,sl⟩,ho,hc,n,hd⟩:=id ht;obtain⟨⟨cls2,dd2,data2,sl2⟩,ho2,hc2,n2,hd2⟩:=id hb;simp only at hc hd hc2 hd2;subst hc hd hc2 hd2;have e:vs.toArray++ws.toArray=(vs++ws).toArray:=by simp
 by_cases hw:ws=[]
 ·exact concat_meets ⟨_,ho,rfl⟩ ⟨_,ho2,rfl⟩ noFill_tuple_add seq_tuple_add PySem.F.slot_tuple_add PySem.F.entry_tuple_add (Zu _ _)
   (tuple_addW1 t b vs.toArray ws.toArray n n2 dd dd2 sl sl2 (by simpa using hv) (by simp [hw])) ⟨ho,ho2,h1 hw⟩
 refine concat_meets ⟨_,ho,rfl⟩ ⟨_,ho2,rfl⟩ noFill_tuple_add seq_tuple_add PySem.F.slot_tuple_add PySem.F.entry_tuple_add (Zu _ _)
  (tuple_addW2 t b vs.toArray ws.toArray n n2 dd dd2 sl sl2 (by simpa using hv) (by simpa using hw) (by rw[k_,k_];exact hsz)) ⟨ho,ho2,?_⟩
 rw[e];exact h2 hw
def sIx (n d:Nat):Option Int->Nat
 |none=>d
 |some v=>if v<0 then (v+(n:Int)).toNat else min v.toNat n
theorem sIx_none (n d:Nat):sIx n d none=d:=rfl
theorem sIx_nat (n d k:Nat):sIx n d (some (k:Int))=min k n:=by
 show (if (k:Int)<0 then ((k:Int)+(n:Int)).toNat else min (k:Int).toNat n)=min k n;rw[if_neg (by omega),YJ]
theorem Ln (n d:Nat) (hd:d<=n) (o:Option Int):sIx n d o<=n:=by
 cases o with
 |none=>exact hd
 |some v =>
  show (if v<0 then (v+(n:Int)).toNat else min v.toNat n)<=n
  by_cases hv:v<0
  ·
   rw[if_pos hv];omega
  ·
   rw[if_neg hv];exact Nat.min_le_right _ _
theorem vN (v:Int) (n d:Nat):(if v<0 then max (v+(n:Int)) 0 else min v (n:Int))=((sIx n d (some v):Nat):Int):=by
 show (if v<0 then max (v+(n:Int)) 0 else min v (n:Int))=(((if v<0 then (v+(n:Int)).toNat else min v.toNat n):Nat):Int);by_cases hv:v<0
 ·simp only[if_pos hv];omega
 simp only[if_neg hv];omega
theorem t7 (lo hi:Option Int) (n:Nat):Builtin.Slice.sliceAdjust lo hi 1 (n:Int)=(((sIx n 0 lo:Nat):Int),((sIx n n hi:Nat):Int)):=by
 have h1:¬((1:Int)<0):=by omega
 unfold Builtin.Slice.sliceAdjust;simp only[h1,Xh];refine Prod.ext ?_ ?_
 ·cases lo with
  |none=>rfl
  |some v=>exact vN v n 0
 cases hi with
 |none=>rfl
 |some v=>exact vN v n n
theorem ud (i j:Nat):Builtin.Slice.slicePlaces (i:Int) (j:Int) 1=j - i:=by
 unfold Builtin.Slice.slicePlaces;have h1:(1:Int)>0:=by omega
 simp only[h1,if_true,Int.ediv_one];split <;> omega
theorem lB {v:Value}{o:Option Int}{Q:Option Int->Shared->Prop}(p:IsPart v o) (h:Q o s):wpAny (model prog w) A (Builtin.Slice.slicePartIndex v) Q E s:=by
 cases p with
 |none=>exact slicePart_none h
 |int i t=>exact slicePart_int h
theorem jK {sl:Addr}{vl vu:Value}{lo hi:Option Int}{n:Nat}{Q:Int × Int × Nat->Shared->Prop}(hs:s.heap.IsSliceOf sl vl vu .none) (pl:IsPart vl lo) (pu:IsPart vu hi)
  (h:Q (((sIx n 0 lo:Nat):Int),1,sIx n n hi - sIx n 0 lo) s):wpAny (model prog w) A (Builtin.Slice.sliceApplied (.ref sl) (pure (n:Int))) Q E s:=by
 obtain⟨os,hos,hcs,hds⟩:=id hs;unfold Builtin.Slice.sliceApplied Builtin.Slice.sliceFields;refine v_ (v_ (wpAny_field hos hds (x:=vl) rfl (v_ (wpAny_field hos hds (x:=vu) rfl (v_ (wpAny_field hos hds (x:=.none) rfl (O_ ?_)))))));refine v_ (slicePart_none ?_);show wpAny _ _ (if ((1:Int)==0)=true then _ else _) _ _ s;rw[if_neg (by decide)];refine v_ (lB pl (v_ (lB pu (v_ (O_ ?_)))));show wpAny _ _ (match Builtin.Slice.sliceAdjust lo hi 1 (n:Int) with | (lo,hi)=>pure (lo,(1:Int),Builtin.Slice.slicePlaces lo hi 1)) _ _ s;rw[t7 lo hi n];show wpAny _ _ (pure (((sIx n 0 lo:Nat):Int),(1:Int),Builtin.Slice.slicePlaces ((sIx n 0 lo:Nat):Int) ((sIx n n hi:Nat):Int) 1)) _ _ s;rw[ud];exact O_ h
theorem zu (xs : Array Value) (i k : Nat) : ((List.range k).filterMap fun (m : Nat) => xs[((i : Int) + (m : Int) * 1).toNat]?).toArray = ((xs.toList.drop i).take k).toArray:=by
 have e:(fun (m:Nat)=>xs[((i:Int)+(m:Int)*1).toNat]?)=fun m=>xs[i+m]?:=by
  funext m;have:((i:Int)+(m:Int)*1).toNat=i+m:=by omega
  rw[this]
 rw [e];have:=pick_run xs i k;rw [List.filterMap_map] at this;have e2 : ((fun x => xs[x]?) ∘ fun x => i + x) = fun m => xs[i + m]?:=rfl;rw [e2] at this;rw [this]
theorem getItem_tuple_cut {t sl:Addr}{items:Array Value}{vl vu:Value}{lo hi:Option Int}{Q:Value->Shared->Prop}(ht:IsTup s.heap t items) (hs:s.heap.IsSliceOf sl vl vu .none) (pl:IsPart vl lo) (pu:IsPart vu hi)
  (hw:¬(sIx items.size 0 lo=0/\sIx items.size items.size hi=items.size))
  (h:Q (.ref s.heap.objs.size) { s with heap:=s.heap.push { cls:=.type "tuple",data:=.seq ((items.toList.drop (sIx items.size 0 lo)).take (sIx items.size items.size hi - sIx items.size 0 lo)).toArray}})
  (hsz:items.size<=sizeLine):wpAny (model prog w) A (getItem (.ref t) (.ref sl)) Q E s:=by
 have htake:sizeOk (.seq ((items.toList.drop (sIx items.size 0 lo)).take (sIx items.size items.size hi - sIx items.size 0 lo)).toArray):=by show ((items.toList.drop (sIx items.size 0 lo)).take (sIx items.size items.size hi - sIx items.size 0 lo)).toArray.size<=sizeLine;rw[k_,X_,Yz,Yg];omega
 have hj:sIx items.size items.size hi<=items.size:=Ln _ _ (o_ _) hi;obtain⟨os,hos,hcs,hds⟩:=id hs;have hTs:s.TypeIs (.ref sl) "slice":=⟨os,hos,hcs⟩;unfold getItem;try with_reducible refine Zt ?_
 first | refine v_ (O_ ?_) | skip
 refine v_ (wpAny_sequenceKey ht.typeIs (by decide) ?_);refine v_ (wpAny_callSpecial?_slot (name:=Str.ofString "__getitem__") ht.typeIs YT
  (wpAny_call_entry YT ht.typeIs entry_tuple_getitem ?_ (args_tuple_getitem _ _)))
 show wpAny _ _ (Builtin.Tuple.tupleItemsOf (.ref t) >>= _) _ _ s;refine v_ (tupleItemsOf_ ht ?_);refine v_ (wpAny_typeOf hTs ?_);rw[if_pos (by decide)];refine v_ (jK hs pl pu ?_);have hno:¬((((sIx items.size 0 lo:Nat):Int)==0&&(1:Int)==1&&(sIx items.size items.size hi - sIx items.size 0 lo)==items.size)=true):=by intro q;rw[L_,L_] at q;have q1:((sIx items.size 0 lo:Nat):Int)=0:=eq_of_beq q.1.1;have q2:sIx items.size items.size hi - sIx items.size 0 lo=items.size:=eq_of_beq q.2;exact hw ⟨by omega,by omega⟩
 show wpAny _ _ (if (((sIx items.size 0 lo:Nat):Int)==0&&(1:Int)==1&&(sIx items.size items.size hi - sIx items.size 0 lo)==items.size)=true then _ else _) _ _ s;rw[if_neg hno,zu];first
  |exact v_ (m:=Builtin.Tuple.tupleExact _) (Zc (O_ ⟨_,rfl,O_ h⟩) htake)
  |exact v_ (m:=Builtin.Tuple.tupleExact _) (Zc (v_ (O_ (O_ ⟨_,rfl,O_ h⟩))) htake)
  |exact v_ (v_ (m:=Builtin.Tuple.tupleExact _) (Zc (O_ (O_ ⟨_,rfl,O_ h⟩)) htake))
  |exact v_ (v_ (m:=Builtin.Tuple.tupleExact _) (Zc (O_ ⟨_,rfl,O_ h⟩) htake))
end
end HT
namespace L2
abbrev TO:=St->Hp->(Option Int->Hp->Prop)->Prop
def PO (X:Cx) (e:Option Expr) (t:TO):Prop :=
 ∀(pins:List (Addr × Obj)) (s:Shared) (Z:St) (H:Hp) (Q:Option Int->Hp->Prop),Inv X pins Z H s->t Z H Q ->
  wpAny (model X.prog X.w) X.A (evalPart e X.env) (fun u s'=>∃o H',Inv X pins Z H' s'/\IsPart u o/\Q o H') X.xe s
def Ey:TO:=fun _ H Q=>Q none H
def Rg (t:TE):TO:=fun Z H Q=>t Z H fun x H1=>∃i,x=.int i/\Q (some i) H1
section
variable {X:Cx}{e:Expr}{te:TE}{lo hi:Option Expr}{tl th:TO}{pos p2:Pos}
theorem Ez:PO X none Ey:=by
 intro pins s Z H Q I h;rw[evalPart_none];exact O_ ⟨none,H,I,.none,h⟩
theorem EY (h:PE X e te):PO X (some e) (Rg te):=by
 intro pins s Z H Q I hw;rw[evalPart_some];refine thn (h pins s Z H _ I hw) fun u s1 ⟨x,H1,I1,r1,q1⟩=>?_;obtain⟨i,rfl,q⟩:=q1;obtain⟨t,rfl⟩:=r1;exact⟨some i,H1,I1,.int i t,q⟩
def SlR (X:Cx) (r:V->Option Int->Option Int->Hp->VK->Prop):Prop :=
 ∀(pins:List (Addr × Obj)) (s:Shared) (Z:St) (H:Hp) (x:V) (v vl vu:Value) (lo hi:Option Int) (sl:Addr) (Q:VK),Inv X pins Z H s->RelV x v->s.heap.IsSliceOf sl vl vu .none->IsPart vl lo->IsPart vu hi->r x lo hi H Q ->
  ∃T id,typeLookup (.type T) "__getitem__"=pure (some (.builtin id))/\s.TypeIs v T/\wpAny (model X.prog X.w) X.A (getItem v (.ref sl)) (EP X pins Z Q) X.xe s
theorem SlR.or {r r':V->Option Int->Option Int->Hp->VK->Prop}(h:SlR X r) (h':SlR X r'):SlR X (fun x lo hi H Q=>r x lo hi H Q\/r' x lo hi H Q):=by
 intro pins s Z H x v vl vu lo hi sl Q I rx hs pl pu q;rcases q with q | q
 ·exact h pins s Z H x v vl vu lo hi sl Q I rx hs pl pu q
 exact h' pins s Z H x v vl vu lo hi sl Q I rx hs pl pu q
def tSl (r:V->Option Int->Option Int->Hp->VK->Prop) (te:TE) (tl th:TO):TE:=fun Z H Q=>te Z H fun x H1=>tl Z H1 fun l H2=>th Z H2 fun u H3=>r x l u H3 Q
theorem zx {r:V->Option Int->Option Int->Hp->VK->Prop}(hr:SlR X r) (he:PE X e te) (hl:PO X lo tl) (hu:PO X hi th):PE X (.Subscript e (.Slice lo hi none p2) pos) (tSl r te tl th):=by
 intro pins s Z H Q I h;refine Subscript_ (thn (he pins s Z H _ I h) fun v s1 ⟨x,H1,I1,r1,q1⟩=>?_);refine wpAny_Slice (thn (hl pins s1 Z H1 _ I1 q1) fun vl s2 ⟨l,H2,I2,pl,q2⟩=>thn (hu pins s2 Z H2 _ I2 q2) fun vu s3 ⟨u,H3,I3,pu,q3⟩=>?_);rw[evalPart_none];refine O_ ?_;have I4:Inv X pins Z H3 { s3 with heap:=s3.heap.push { cls:=.type "slice",data:=.fields #[vl,vu,.none]}}:=I3.kept (t':=s3.toks) fun b ob q=>j_ _ q;obtain⟨T,id,hT,ht,hg⟩:=hr pins { s3 with heap:=s3.heap.push { cls:=.type "slice",data:=.fields #[vl,vu,.none]}} Z H3 x v vl vu l u s3.heap.objs.size Q I4 r1 (Heap.IsSliceOf.new ..) pl pu q3;show wpAny (model X.prog X.w) X.A (subscriptTail e (.Slice lo hi none p2) v (.ref s3.heap.objs.size)) (EP X pins Z Q) X.xe { s3 with heap:=s3.heap.push { cls:=.type "slice",data:=.fields #[vl,vu,.none]}};exact tail_any (ops:=[.ref s3.heap.objs.size,v]) ht hT hg (by with_unfolding_all rfl)
def qK (xs:List V) (lo hi:Option Int):List V:=(xs.drop (HT.sIx xs.length 0 lo)).take (HT.sIx xs.length xs.length hi - HT.sIx xs.length 0 lo)
theorem jV (xs:List V) (lo hi:Option Int):(qK xs lo hi).length<=xs.length:=by
 unfold qK;rw[X_,Yz];omega
def Wn (K:Frag):V->Option Int->Option Int->Hp->VK->Prop:=fun x lo hi H Q=>∃a xs,x=.ref a/\SqT K H a xs /\
 ¬(HT.sIx xs.length 0 lo=0/\HT.sIx xs.length xs.length hi=xs.length)/\∀p,H p=none->Q (.ref p) (upd H p (.tup (qK xs lo hi)))
theorem sl_tup:SlR X (Wn X.K):=by
 intro pins s Z H x v vl vu lo hi sl Q I rx hs pl pu h;obtain⟨a,xs,rfl,hx,hw,q⟩:=h;cases rx;obtain⟨its,r,ht,hz⟩:=I.tuple hx;have hlen:its.toArray.size=xs.length:=by rw[k_];exact r.length.symm
 refine⟨"tuple",_,YT.lookup,ht.typeIs,?_⟩;refine HT.getItem_tuple_cut ht hs pl pu (by rw[hlen];exact hw) ?_ (by rw[hlen];exact hz);rw[hlen];refine⟨.ref s.heap.objs.size,_,I.laid (t':=s.toks) (o:=.tup (qK xs lo hi)) (fun b ob q=>j_ _ q) (o_ _) ?_,rfl,q _ (I.hok.fresh (o_ _))⟩;exact⟨J_ (jV xs lo hi) hz,_,(r.drop (HT.sIx xs.length 0 lo)).take (HT.sIx xs.length xs.length hi - HT.sIx xs.length 0 lo),Tup0.new _ _⟩
def Rh (K:Frag):R2:=fun x y H Q=>∃a b xs ys,x=.ref a/\y=.ref b/\SqT K H a xs/\SqT K H b ys/\xs≠[]/\xs.length+ys.length<=sizeLine /\
 (ys=[]->Q (.ref a) H)/\(ys≠[]->∀p,H p=none->Q (.ref p) (upd H p (.tup (xs++ys))))
theorem Vals.nil_iff {xs:List V}{us:List Value}(r:Vals xs us):us=[]↔xs=[]:=by
 cases r with
 |nil=>simp
 |cons _ _=>simp
theorem op_catT:OpR X (binaryOp .Add) (Rh X.K):=by
 intro pins s Z H x y v u Q I rx ry h;obtain⟨a,b,xs,ys,rfl,rfl,ha,hb,hx,hz,q1,q2⟩:=h;cases rx;cases ry;obtain⟨its,r1,p1,_⟩:=I.tuple ha;obtain⟨its2,r2,p2,_⟩:=I.tuple hb;refine HT.cat_tup p1 p2 (fun z=>hx (r1.nil_iff.mp z)) (fun z=>⟨.ref a,H,I,rfl,q1 (r2.nil_iff.mp z)⟩) (fun z=>?_) (by rw[<- r1.length,<- r2.length];exact hz);refine⟨.ref s.heap.objs.size,_,I.laid (t':=s.toks) (o:=.tup (xs++ys)) (fun b ob q=>j_ _ q) (o_ _) ?_,rfl,q2 (fun w=>z (r2.nil_iff.mpr w)) _ (I.hok.fresh (o_ _))⟩;exact⟨by rw[a_];exact hz,_,r1.append r2,Tup0.new _ _⟩
end
def ixN (n:Nat) (i:Int):Option Nat:=if 0<=i then (if i<n then some i.toNat else none) else if -(n:Int)<=i then some (i+n).toNat else none
def atI {α:Type}(xs:List α) (i:Int):Option α:=(ixN xs.length i).bind fun j=>xs[j]?
theorem o4 {n:Nat}{i:Int}{j:Nat}(h:ixN n i=some j):seqIndex? i n=some j/\j<n /\ -(n:Int)<=i/\i<n:=by
 unfold ixN at h;by_cases h0:0<=i
 ·rw[if_pos h0] at h;by_cases h1:i<n
  ·rw[if_pos h1] at h;have e:i.toNat=j:=G_ h;exact⟨by rw[seqIndex_of h0 h1,e],by omega,by omega,h1⟩
  rw[if_neg h1] at h;cases h
 rw[if_neg h0] at h;by_cases h1 : -(n:Int)<=i
 ·rw[if_pos h1] at h;have e:(i+n).toNat=j:=G_ h;exact⟨by rw[seqIndex_neg (by omega) h1,e],by omega,h1,by omega⟩
 rw[if_neg h1] at h;cases h
theorem o5 {α:Type}{xs:List α}{i:Int}{v:α}(h:atI xs i=some v):∃j,seqIndex? i xs.length=some j/\xs[j]?=some v/\j<xs.length /\ -(xs.length:Int)<=i/\i<xs.length:=by
 unfold atI at h;cases e:ixN xs.length i with
 |none=>rw[e] at h;cases h
 |some j =>
 rw[e] at h;obtain⟨h1,h2,h3,h4⟩:=o4 e;exact⟨j,h1,h,h2,h3,h4⟩
theorem bu {α:Type}{xs:List α}{j:Nat}{v:α}(h:xs[j]?=some v):atI xs (j:Int)=some v:=by
 have hj:j<xs.length:=(Xr.mp h).1;have e:ixN xs.length (j:Int)=some j:=by unfold ixN;rw[if_pos (by omega),if_pos (by omega)];simp
 unfold atI;rw[e];exact h
def vO (b:Expr):Prop:=∀o i,subscripted b false o i=operate [o,i] (getItem o i)
def IxR (X:Cx) (r:R2):Prop :=
 ∀(value slice:Expr) (pins:List (Addr × Obj)) (s:Shared) (Z:St) (H:Hp) (x y:V) (v u:Value) (Q:VK),Inv X pins Z H s->RelV x v->RelV y u->r x y H Q ->
  subscripted slice false v u=operate [v,u] (getItem v u)->wpAny (model X.prog X.w) X.A (subscriptTail value slice v u) (EP X pins Z Q) X.xe s
def MtR (X:Cx) (id:String) (r:V->List V->Hp->VK->Prop):Prop :=
 ∀(pins:List (Addr × Obj)) (s:Shared) (Z:St) (H:Hp) (x:V) (xs:List V) (v:Value) (us:List Value) (Q:VK),Inv X pins Z H s->RelV x v->Vals xs us->r x xs H Q ->
  wpAny (model X.prog X.w) X.A (call (.builtin id) (v::us)) (EP X pins Z Q) X.xe s
section
variable {X:Cx}{a b:Expr}{ta tb:TE}{pos:Pos}
theorem IxR.or {r r':R2}(h:IxR X r) (h':IxR X r'):IxR X (fun x y H Q=>r x y H Q\/r' x y H Q):=by
 intro value slice pins s Z H x y v u Q I rx ry q hs;rcases q with q | q
 ·exact h value slice pins s Z H x y v u Q I rx ry q hs
 exact h' value slice pins s Z H x y v u Q I rx ry q hs
theorem MtR.or {id:String}{r r':V->List V->Hp->VK->Prop}(h:MtR X id r) (h':MtR X id r'):MtR X id (fun x xs H Q=>r x xs H Q\/r' x xs H Q):=by
 intro pins s Z H x xs v us Q I rx rs q;rcases q with q | q
 ·exact h pins s Z H x xs v us Q I rx rs q
 exact h' pins s Z H x xs v us Q I rx rs q
theorem Ri {r:R2}(hr:IxR X r) (ha:PE X a ta) (hb:PE X b tb) (hs:vO b):PE X (.Subscript a b pos) (tOp r ta tb):=by
 intro pins s Z H Q I h;exact Subscript_ (K5 ha hb I h fun v u s2 x y H2 I2 rx ry q=>hr a b pins s2 Z H2 x y v u Q I2 rx ry q (hs _ _))
def Rj (K:Frag):R2:=fun x y H Q=>∃p xs i v,x=.ref p/\y=.int i/\SqL K H p xs/\atI xs i=some v/\Q v H
def Rk (K:Frag):R2:=fun x y H Q=>∃p xs i v,x=.ref p/\y=.int i/\SqT K H p xs/\atI xs i=some v/\Q v H
def Rm:R2:=fun x y H Q=>∃z i c,x=.str z/\y=.int i/\z.length<=sizeLine/\atI z.cps.toList i=some c/\Q (.str ⟨#[c]⟩) H
theorem ix_list:IxR X (Rj X.K):=by
 intro value slice pins s Z H x y v u Q I rx ry h hs;obtain⟨p,xs,i,z,rfl,rfl,hq,he,q⟩:=h;cases rx;obtain⟨t,rfl⟩:=ry;obtain⟨its,r,pl,hz⟩:=I.list hq;obtain⟨j,h1,h2,h3,h4,h5⟩:=o5 he;obtain⟨w,ew,rw'⟩:=r.get h2;have hl:=r.length;have hn:=iW;have fin:EP X pins Z Q w s:=⟨z,H,I,rw',q⟩;by_cases h0:0<=i
 ·have hj:i.toNat=j:=by rw[seqIndex_of h0 h5] at h1;exact G_ h1
  exact item_listR pl.isList h0 (by omega) (by rw[hj];simpa using ew) fin hs
 have hj:(i+(its.toArray.size:Int)).toNat=j:=by rw[seqIndex_neg (by omega) h4] at h1;rw[k_,<- hl];exact G_ h1
 exact subscriptTail_builtinR (x:=w) pl.isList.typeIs slot_list_getitem.lookup
  (wpAny_getItem_list_neg (Q:=fun r s'=>r=w/\EP X pins Z Q r s') pl.isList (by omega) (by rw[k_] <;> omega) (by omega) (by rw[hj];simpa using ew) ⟨rfl,fin⟩) hs
theorem ix_tup:IxR X (Rk X.K):=by
 intro value slice pins s Z H x y v u Q I rx ry h hs;obtain⟨p,xs,i,z,rfl,rfl,hq,he,q⟩:=h;cases rx;obtain⟨t,rfl⟩:=ry;obtain⟨its,r,pl,hz⟩:=I.tuple hq;obtain⟨j,h1,h2,h3,h4,h5⟩:=o5 he;obtain⟨w,ew,rw'⟩:=r.get h2;have hl:=r.length;have hn:=iW;have fin:EP X pins Z Q w s:=⟨z,H,I,rw',q⟩;exact subscriptTail_builtinR (x:=w) pl.typeIs slot_tuple_getitem.lookup
  (getItem_tuple (j:=j) (Q:=fun r s'=>r=w/\EP X pins Z Q r s') pl (by omega) (by omega) (by rw[k_,<- hl];exact h1) (by simpa using ew) ⟨rfl,fin⟩) hs
theorem Lp:IxR X Rm:=by
 intro value slice pins s Z H x y v u Q I rx ry h hs;obtain⟨z,i,c,rfl,rfl,hz,he,q⟩:=h;obtain⟨t,rfl⟩:=rx;obtain⟨t',rfl⟩:=ry;obtain⟨j,h1,h2,h3,h4,h5⟩:=o5 he;have hl:z.cps.toList.length=z.length:=by simp [Str.length]
 rw[hl] at h1 h4 h5;have hn:=iW;exact tail_any (typeIs_str s z t) slot_str_getitem.lookup (getItem_str (c:=c) (by
  have e1:decide (i < -(2^63:Int))=false:=B_ (by omega)
  have e2:decide (i ≥ 2^63)=false:=B_ (by omega)
  rw[e1,e2,Bool.or_false]) (by rw[h1];simpa using h2) ⟨.str ⟨#[c]⟩,H,I.tok _,⟨_,rfl⟩,q⟩) hs
def rIx (K:Frag):R2:=fun x y H Q=>Rj K x y H Q\/Rk K x y H Q\/Rm x y H Q
theorem Lq:IxR X (rIx X.K):=ix_list.or (ix_tup.or Lp)
theorem ue (its:List Value) (n j:Nat) (u:Value):Obj.mapSeq (·.setIfInBounds j u) { cls:=.type "list",data:=.seq its.toArray n}={ cls:=.type "list",data:=.seq (its.set j u).toArray n}:=by
 simp [Obj.mapSeq]
theorem Inv.lst {pins:List (Addr × Obj)}{Z:St}{H:Hp}{s:Shared}{p:Addr}{xs:List V}(I:Inv X pins Z H s) (h:H p=some (.lst xs)) :
  ∃(its:List Value) (n:Nat),Vals xs its/\s.heap.get? p=some { cls:=.type "list",data:=.seq its.toArray n}/\xs.length<=sizeLine:=by
 obtain⟨z,its,n,r,e⟩:=I.hok p _ h;exact⟨its,n,r,e,z⟩
theorem Inv.lstUpd {pins:List (Addr × Obj)}{Z:St}{H:Hp}{s:Shared}{p:Addr}{xs ys:List V}{its its':List Value}{n n':Nat}{f:Obj->Obj}(I:Inv X pins Z H s) (h:H p=some (.lst xs))
  (ho:s.heap.get? p=some { cls:=.type "list",data:=.seq its.toArray n}) (hf:f { cls:=.type "list",data:=.seq its.toArray n}={ cls:=.type "list",data:=.seq its'.toArray n'}) (r:Vals ys its') (hz:ys.length<=sizeLine) (t:Nat) :
  Inv X pins Z (upd H p (.lst ys)) { s with heap:=s.heap.update p f,toks:=t}:=by
 have e:(s.heap.update p f).get? p=some { cls:=.type "list",data:=.seq its'.toArray n'}:=by rw[Heap.get?_update_self f ho (by rw[hf] <;> rfl),hf]
 refine I.write (x:=p) (e:=p) (by rw[h];trivial) (.inl rfl) (fun b u hb q=>(Heap.get?_update_other _ _ (Ne.symm hb)).trans q) ⟨_,e⟩ ?_;exact⟨hz,its',n',r,e⟩
def Rn:V->V->V->Hp->(Hp->Prop)->Prop:=fun o i v H Q=>∃p xs k j,o=.ref p/\i=.int k/\H p=some (.lst xs)/\ixN xs.length k=some j/\Q (upd H p (.lst (xs.set j v)))
theorem set_list:PSet X Rn:=by
 intro pins s Z H o i v ov iv u Q I ro ri rv h;obtain⟨p,xs,k,j,rfl,rfl,hp,hj,q⟩:=h;cases ro;obtain⟨t,rfl⟩:=ri;obtain⟨its,n,r,ho,hz⟩:=I.lst hp;obtain⟨h1,h2,h3,h4⟩:=o4 hj;have hl:=r.length;have hn:=iW;have I':Inv X pins Z (upd H p (.lst (xs.set j v))) { s with heap:=s.heap.update p (Obj.mapSeq (·.setIfInBounds j u))} :=
  I.lstUpd hp ho (ue its n j u) (r.set rv j) (by rw[Zx];exact hz) s.toks
 by_cases h0:0<=k
 ·have hk:k.toNat=j:=by rw[seqIndex_of h0 h4] at h1;exact G_ h1
  exact PySem.W.ki_setAt ho h0 (by omega) (by rw[k_,<- hl];exact h4) (by rw[hk];exact⟨_,I',q⟩)
 have hk:(k+(its.toArray.size:Int)).toNat=j:=by rw[seqIndex_neg (by omega) h3] at h1;rw[k_,<- hl];exact G_ h1
 exact PySem.W.ki_setBack ho (by omega) (by rw[k_,<- hl];exact h3) (by omega) (by rw[hk];exact⟨_,I',q⟩)
theorem o6 (lo hi:Option Int) (n:Nat):(sliceBounds lo hi none n).1=((HT.sIx n 0 lo:Nat):Int)/\(sliceBounds lo hi none n).2.1=((HT.sIx n n hi:Nat):Int)/\(sliceBounds lo hi none n).2.2=1:=by
 refine⟨?_,?_,rfl⟩
 ·cases lo with
  |none=>simp [sliceBounds,HT.sIx]
  |some i =>
  simp only[sliceBounds,HT.sIx,Option.getD_none,show (1:Int)>0 by decide,if_true];by_cases h:i<0
  ·simp only[h,if_true] <;> omega
  simp only[h,Xh] <;> omega
 cases hi with
 |none=>simp [sliceBounds,HT.sIx]
 |some i =>
 simp only[sliceBounds,HT.sIx,Option.getD_none,show (1:Int)>0 by decide,if_true];by_cases h:i<0
 ·simp only[h,if_true] <;> omega
 simp only[h,Xh] <;> omega
theorem m5 (its:List Value) (lo hi:Option Int):slicePick its.toArray lo hi none=((its.drop (HT.sIx its.length 0 lo)).take (HT.sIx its.length its.length hi - HT.sIx its.length 0 lo)).toArray:=by
 obtain⟨h1,h2,h3⟩:=o6 lo hi its.toArray.size;unfold slicePick;rw[h1,h2,h3];simp only[sliceRange_one,pick_run,k_] <;> rfl
def Wo (K:Frag):V->Option Int->Option Int->Hp->VK->Prop:=fun x lo hi H Q=>∃a xs,x=.ref a/\SqL K H a xs/\∀p,H p=none->Q (.ref p) (upd H p (.lst (qK xs lo hi)))
theorem sl_list:SlR X (Wo X.K):=by
 intro pins s Z H x v vl vu lo hi sl Q I rx hs pl pu h;obtain⟨a,xs,rfl,hx,q⟩:=h;cases rx;obtain⟨its,r,ht,hz⟩:=I.list hx;have hlen:=r.length;refine⟨"list",_,slot_list_getitem.lookup,ht.isList.typeIs,?_⟩;refine wpAny_getItem_list_slice ht.isList hs pl pu .none (by simp) ?_ (by rw[k_] <;> omega);rw[m5,<- hlen];refine⟨.ref s.heap.objs.size,_,I.laid (t':=s.toks) (o:=.lst (qK xs lo hi)) (fun b ob q=>j_ _ q) (o_ _) ?_,rfl,q _ (I.hok.fresh (o_ _))⟩;exact⟨J_ (jV xs lo hi) hz,_,0,(r.drop (HT.sIx xs.length 0 lo)).take (HT.sIx xs.length xs.length hi - HT.sIx xs.length 0 lo),Q_ _ rfl⟩
theorem call_len_seq:CallR X (.builtin "len") (fun xs H Q=>∃p ys,xs=[.ref p]/\(SqL X.K H p ys\/SqT X.K H p ys)/\Q (.int ys.length) H):=by
 intro pins s Z H xs us Q I r h;obtain⟨p,ys,rfl,hq,q⟩:=h;obtain⟨u,rfl,rx⟩:=vals1 r;cases rx;have hn:=iW;rcases hq with hq | hq
 ·obtain⟨its,r',pl,hz⟩:=I.list hq;have hlen:=r'.length;exact Calls.call_len_list pl.isList (by simp only[k_] <;> omega) ⟨.int ys.length,H,I.tok _,⟨s.toks+1,by rw[k_,hlen]⟩,q⟩
 obtain⟨its,r',pl,hz⟩:=I.tuple hq;have hlen:=r'.length;exact len_tuple pl (by simp only[k_] <;> omega) ⟨.int ys.length,H,I.tok _,⟨s.toks+1,by rw[k_,hlen]⟩,q⟩
theorem o7:CallR X (.builtin "len") (fun xs H Q=>∃z,xs=[.str z]/\z.length<=sizeLine/\Q (.int z.length) H):=by
 intro pins s Z H xs us Q I r h;obtain⟨z,rfl,hz,q⟩:=h;obtain⟨u,rfl,t,rfl⟩:=vals1 r;have hn:=iW;exact len_str (by omega) ⟨.int z.length,H,I.tok _,⟨_,rfl⟩,q⟩
theorem CallR.or {f:Value}{r r':List V->Hp->VK->Prop}(h:CallR X f r) (h':CallR X f r'):CallR X f (fun xs H Q=>r xs H Q\/r' xs H Q):=by
 intro pins s Z H xs us Q I rs q;rcases q with q | q
 ·exact h pins s Z H xs us Q I rs q
 exact h' pins s Z H xs us Q I rs q
theorem o8:CallR X (.type "list") (fun xs H Q=>∃p ys,xs=[.ref p]/\(SqL X.K H p ys\/SqT X.K H p ys)/\∀l,H l=none->Q (.ref l) (upd H l (.lst ys))):=by
 intro pins s Z H xs us Q I r h;obtain⟨p,ys,rfl,hq,q⟩:=h;obtain⟨u,rfl,rx⟩:=vals1 r;cases rx;have fin:∀(its:List Value),Vals ys its->ys.length<=sizeLine->∀(h':Heap) (c':Nat),(∀b o',s.heap.get? b=some o'->h'.get? b=some o') ->
   h'.get? s.heap.objs.size=some { cls:=.type "list",dict:=none,data:=.seq its.toArray c',slots:=#[]}->EP X pins Z Q (.ref s.heap.objs.size) { s with heap:=h'}:=fun its r' hz h' c' kp e =>
  ⟨.ref s.heap.objs.size,_,I.laid (t':=s.toks) kp (o_ _) (show ObjOk X.prog X.w _ h' _ (.lst ys) from ⟨hz,its,c',r',e⟩),rfl,q _ (I.hok.fresh (o_ _))⟩
 rcases hq with hq | hq
 ·obtain⟨its,r',pl,hz⟩:=I.list hq;have hlen:=r'.length;obtain⟨o,ho,hc,n,hd⟩:=pl.isList;exact call_list_seq p (.inl rfl) ho hc hd (fun h' c' kp e=>fin its r' hz h' c' kp e) (by simp only[k_] <;> omega)
 obtain⟨its,r',pl,hz⟩:=I.tuple hq;have hlen:=r'.length;obtain⟨o,ho,hc,n,hd⟩:=pl;exact call_list_seq p (.inr rfl) ho hc hd (fun h' c' kp e=>fin its r' hz h' c' kp e) (by simp only[k_] <;> omega)
theorem m6:CallR X (.type "tuple") (fun xs H Q=>∃p ys,xs=[.ref p]/\((SqL X.K H p ys/\∀l,H l=none->Q (.ref l) (upd H l (.tup ys)))\/(SqT X.K H p ys/\Q (.ref p) H))):=by
 intro pins s Z H xs us Q I r h;obtain⟨p,ys,rfl,h⟩:=h;obtain⟨u,rfl,rx⟩:=vals1 r;cases rx;rcases h with ⟨hq,q⟩ | ⟨hq,q⟩
 ·obtain⟨its,r',pl,hz⟩:=I.list hq;have hlen:=r'.length;refine call_tuple_list pl.isList (fun h' kp=>?_) (by simp only[k_] <;> omega);have I1:Inv X pins Z H { s with heap:=h'}:=I.kept (t':=s.toks) kp;have I2:Inv X pins Z (upd H h'.objs.size (.tup ys)) { s with heap:=h'.push { cls:=.type "tuple",data:=.seq its.toArray}} :=
   I1.laid (t':=s.toks) (fun b o e=>j_ _ e) (o_ _) (show ObjOk X.prog X.w _ _ _ (.tup ys) from ⟨hz,its,r',Tup0.new _ _⟩)
  exact⟨.ref h'.objs.size,_,I2,rfl,q _ (I1.hok.fresh (o_ _))⟩
 obtain⟨its,r',pl,hz⟩:=I.tuple hq;exact call_tuple_same pl ⟨.ref p,H,I,rfl,q⟩
def tyV (K:Frag) (T:String) (x:V) (H:Hp):Prop:=match x with
 |.str _=>T="str"
 |.int _=>T="int"
 |.ref p=>(T="list"/\∃xs,SqL K H p xs)\/(T="tuple"/\∃xs,SqT K H p xs) \/
   (T="dict"/\((∃kvs,H p=some (.dK kvs))\/∃kvs,H p=some (.dT kvs)))\/(T="set"/\∃S n,H p=some (.set S n))
 |_=>False
theorem zy {pins:List (Addr × Obj)}{Z:St}{H:Hp}{s:Shared}{T:String}{x:V}{v:Value}(I:Inv X pins Z H s) (r:RelV x v) (ty:tyV X.K T x H) :
  s.TypeIs v T/\∀a,v=.ref a->∃ob,s.heap.get? a=some ob/\ob.dict=none:=by
 cases x with
 |str z=>obtain⟨t,rfl⟩:=r;cases (show T="str" from ty);exact⟨typeIs_str s z t,fun _ e=>nomatch e⟩
 |int i=>obtain⟨t,rfl⟩:=r;cases (show T="int" from ty);exact⟨typeIs_int s i t,fun _ e=>nomatch e⟩
 |ref p =>
  cases r;rcases ty with ⟨rfl,xs,hq⟩ | ⟨rfl,xs,hk⟩ | ⟨rfl,hk⟩ | ⟨rfl,S,n,hk⟩
  ·obtain⟨its,_,pl,_⟩:=I.list hq;refine⟨pl.isList.typeIs,fun a e=>?_⟩;cases e;obtain⟨o,n,e,c,hd,_⟩:=pl;exact⟨o,e,hd⟩
  ·rcases hk with hk | ⟨o,its,n,hk,hc,hd,_⟩
   ·obtain⟨_,its,r,o,ho,hc,n,hd,hn⟩:=hk.ok I.hok;refine⟨⟨o,ho,hc⟩,fun a e=>?_⟩;cases e;exact⟨o,ho,hn⟩
   refine⟨⟨o,I.kIn p o hk,hc⟩,fun a e=>?_⟩;cases e;exact⟨o,I.kIn _ o hk,hd⟩
  ·have z:∃o,s.heap.get? p=some o/\o.ExactDict:=by
    rcases hk with ⟨kvs,hk⟩ | ⟨kvs,hk⟩
    ·obtain⟨_,_,_,_,o,_,_,e,ex,_⟩:=I.hok p _ hk;exact⟨o,e,ex⟩
    obtain⟨_,_,_,_,o,_,_,e,ex,_⟩:=I.hok p _ hk;exact⟨o,e,ex⟩
   obtain⟨o,e,ex⟩:=z;refine⟨⟨o,e,ex.1⟩,fun a e2=>?_⟩;cases e2;exact⟨o,e,ex.2.1⟩
  obtain⟨o,_,_,_,e,ex,_⟩:=I.hok p _ hk;refine⟨⟨o,e,ex.1⟩,fun a e2=>?_⟩;cases e2;exact⟨o,e,ex.2.1⟩
 |_=>exact False.elim ty
def Wq (K:Frag) (T:String) (r:V->List V->Hp->VK->Prop) (to:TE):TE:=fun Z H Q=>to Z H fun x H1=>tyV K T x H1/\r x [] H1 Q
def tBM (K:Frag) (T:String) (r:V->List V->Hp->VK->Prop) (to:TE) (t:TA):TE:=fun Z H Q=>to Z H fun x H1=>tyV K T x H1/\t Z H1 fun xs H2=>r x xs H2 Q
variable {o e:Expr}{es:List Expr}{to:TE}{t:TA}{name:Str}{apos cpos:Pos}{T id:String}{r:V->List V->Hp->VK->Prop}
theorem Lr (pa:PlainAttrs T) (slot:Slot T name id) (hty:typeOf (.builtin id)=pure (.type "method_descriptor")) (hm:MtR X id r) (ho:PE X o to)
  (hbase:attributeBase o name X.env (eval o X.env)=eval o X.env:=by rfl) (hline:(apos.endLine==cpos.line)=true:=by rfl):PE X (.Call (.Attribute o name apos) [] [] cpos) (Wq X.K T r to):=by
 intro pins s Z H Q I h;refine wpAny_Call_method0_late hbase hline (thn (ho pins s Z H _ I h) fun v s1 ⟨x,H1,I1,r1,ty,q1⟩=>?_);obtain⟨h1,h2⟩:=zy I1 r1 ty;exact⟨T,id,pa,slot,hty,h1,h2,Y6 rfl (PySem.evalArgs_none (hm pins s1 Z H1 x [] v [] Q I1 r1 .nil q1))⟩
theorem Ro (pa:PlainAttrs T) (slot:Slot T name id) (hty:typeOf (.builtin id)=pure (.type "method_descriptor")) (hm:MtR X id r) (ho:PE X o to) (ha:PA X (e::es) t)
  (hbase:attributeBase o name X.env (eval o X.env)=eval o X.env:=by rfl)
  (hfew:((backTo cpos (starEach (e::es) X.env)).all (fun x=>!x.1)&&(backToKw cpos (keywordEach [] X.env)).all (fun x=>x.1.isSome)
   && decide ((e::es).length+([]:List Keyword).length+(if ([]:List Keyword).isEmpty then 0 else 1)<30))=true:=by rfl)
  (hline:(apos.endLine==cpos.line)=true:=by rfl) (hs:starEach (e::es) X.env=(false,eval e X.env)::starEach es X.env:=by rfl) (hplain:(backTo cpos (starEach es X.env)).any (·.1)=false:=by rfl) :
  PE X (.Call (.Attribute o name apos) (e::es) [] cpos) (tBM X.K T r to t):=by
 intro pins s Z H Q I h;refine wpAny_Call_method_late hbase hfew hline rfl (thn (ho pins s Z H _ I h) fun v s1 ⟨x,H1,I1,r1,ty,q1⟩=>?_);obtain⟨h1,h2⟩:=zy I1 r1 ty;refine⟨T,id,pa,slot,hty,h1,h2,?_⟩;have hA:=ha cpos pins s1 Z H1 _ I1 q1;rw[hs] at hA ⊢;refine Y6 (by show (false||(backTo cpos (starEach es X.env)).any (·.1))=false;rw[hplain] <;> rfl) (Calls.evalArgs_plain ?_);exact thn hA fun us s2 ⟨vs,H2,I2,r2,q2⟩=>hm pins s2 Z H2 x vs v us Q I2 r1 r2 q2
/- xs.append(e),list.index on a module's tuple .. are MtR facts of 06m -/
end
def MtM (X:Cx) (id:String) (r:V->List V->Hp->VK->Prop):Prop :=
 ∀(pins:List (Addr × Obj)) (s:Shared) (Z:St) (H:Hp) (x:V) (xs:List V) (v:Value) (us:List Value) (Q:VK),Inv X pins Z H s->RelV x v->Vals xs us->r x xs H Q ->
  wpAny (model X.prog X.w) X.A (call (.builtin id) (v::us)) (EP X pins Z Q) X.xe s
theorem Vals.one {x:V}{us:List Value}(r:Vals [x] us):∃u,us=[u]/\RelV x u:=vals1 r
theorem Vals.two {x y:V}{us:List Value}(r:Vals [x,y] us):∃u v,us=[u,v]/\RelV x u/\RelV y v:=vals2 r
theorem Vals.zero:∀{us:List Value},Vals [] us->us=[]
 |_,.nil=>rfl
theorem Vals.dropLast {xs:List V}{us:List Value}(h:Vals xs us):Vals xs.dropLast us.dropLast:=by
 induction h with
 |nil=>exact .nil
 |cons r t ih =>
 cases t with
 |nil=>exact .nil
 |cons q t'=>exact .cons r ih
theorem Vals.eraseIdx:∀{xs:List V}{us:List Value}(i:Nat),Vals xs us->Vals (xs.eraseIdx i) (us.eraseIdx i)
 |_,_,_,.nil=>.nil
 |_,_,0,.cons _ t=>t
 |_,_,i+1,.cons r t=>.cons r (Vals.eraseIdx i t)
theorem Vals.reverse {xs:List V}{us:List Value}(h:Vals xs us):Vals xs.reverse us.reverse:=by
 induction h with
 |nil=>exact .nil
 |cons r t ih=>rw[List.reverse_cons,List.reverse_cons];exact Vals.append ih (.cons r .nil)
theorem Vals.rep {xs:List V}{us:List Value}(h:Vals xs us):∀k:Nat,Vals (List.replicate k xs).flatten (List.replicate k us).flatten
 |0=>.nil
 |k+1=>by
  rw[Yh,Yh,Ys,Ys]
  exact Vals.append h (Vals.rep h k)
theorem uf {α:Type}(l:List α):l.eraseIdx (l.length - 1)=l.dropLast:=by
 induction l with
 |nil=>rfl
 |cons a r ih =>
 cases r with
 |nil=>rfl
 |cons b r =>
  have e:(a::b::r).length - 1=((b::r).length - 1)+1:=by
   have h1:(a::b::r).length=r.length+2:=rfl
   have h2:(b::r).length=r.length+1:=rfl
   omega
  rw[e,List.eraseIdx_cons_succ,ih]
  all_goals rfl
theorem nR {α:Type}:∀(l:List α) (i:Nat),(l.eraseIdx i).length<=l.length
 |[],_=>o_ _
 |_::_,0=>Nat.le_succ _
 |_::r,i+1=>Nat.succ_le_succ (nR r i)
theorem foldl_rep (its:List Value):∀(k:Nat) (acc:List Value),
  List.foldl (fun x1 x2=>x1++x2) acc.toArray (List.replicate k its.toArray)=(acc++(List.replicate k its).flatten).toArray
 |0,acc=>by simp
 |k+1,acc=>by
  have e:acc.toArray++its.toArray=(acc++its).toArray:=by simp
  have e2:(acc++its)++(List.replicate k its).flatten=acc++(List.replicate (k+1) its).flatten:=by
   rw[Yh,Ys,Xn]
  rw[<- e2,<- foldl_rep its k (acc++its),<- e,Yh,List.foldl_cons]
section
variable {X:Cx}{pins:List (Addr × Obj)}{Z:St}{H:Hp}{s:Shared}{l b:Addr}{xs ys zs:List V}
theorem Inv.lset {its its':List Value}{n:Nat}{f:Array Value->Array Value}{t':Nat}(I:Inv X pins Z H s) (hH:H l=some (.lst xs))
  (e:s.heap.get? l=some { cls:=.type "list",data:=.seq its.toArray n}) (hf:f its.toArray=its'.toArray) (hv:Vals ys its') (hz:ys.length<=sizeLine) :
  Inv X pins Z (upd H l (.lst ys)) { s with heap:=s.heap.update l (Obj.mapSeq f),toks:=t'}:=by
 have q:=PySem.IsL.update e f;rw[hf] at q;refine I.write (x:=l) (e:=l) (by rw[hH];exact trivial) (.inl rfl) (fun b' u hb hu=>(Heap.get?_update_other s.heap (Obj.mapSeq f) (Ne.symm hb)).trans hu) ⟨_,q⟩ ?_;exact⟨hz,its',_,hv,q⟩
theorem Inv.lnew {its:List Value}{t':Nat}(I:Inv X pins Z H s) (hv:Vals ys its) (hz:ys.length<=sizeLine) :
  Inv X pins Z (upd H s.heap.objs.size (.lst ys)) { s with heap:=s.heap.push { cls:=.type "list",data:=.seq its.toArray},toks:=t'} :=
 I.laid (fun _ _ q=>j_ _ q) (o_ _) ⟨hz,its,0,hv,Q_ _ rfl⟩
theorem Inv.fresh (I:Inv X pins Z H s):H s.heap.objs.size=none:=I.hok.fresh (o_ _)
theorem Inv.lstM (I:Inv X pins Z H s) (hH:H l=some (.lst xs)):xs.length<=sizeLine/\∃(its:List Value) (n:Nat),Vals xs its/\xs.length=its.length/\s.heap.get? l=some { cls:=.type "list",data:=.seq its.toArray n}:=by
 obtain⟨z,its,n,r,e⟩:=I.hok l _ hH;exact⟨z,its,n,r,r.length,e⟩
theorem qL {n:Nat}(h:n<=sizeLine):Builtin.List.listTooLong n=false:=by
 unfold Builtin.List.listTooLong;exact B_ (by omega)
def Fb:V->List V->Hp->VK->Prop:=fun x vs H Q=>∃l xs y,x=.ref l/\vs=[y]/\H l=some (.lst xs)/\xs.length<sizeLine/\Q .non (upd H l (.lst (xs++[y])))
theorem yg:MtM X "list.append" Fb:=by
 intro pins s Z H x vs v us Q I rx rv h;obtain⟨l,xs,y,rfl,rfl,hH,hz,q⟩:=h;cases rx;obtain⟨u,rfl,ru⟩:=rv.one;obtain⟨z,its,n,r,hl,e⟩:=I.lstM hH;refine Y7 F.slot_list_append ⟨_,e,rfl⟩ F.entry_list_append (F.args_list_append_2 _ _) (list_append l its.toArray n u (by rw[k_];omega)) ⟨e,?_⟩;refine⟨.non,_,I.lset (its':=its++[u]) hH e (by simp) (r.append (.cons ru .nil)) ?_,rfl,q⟩;rw[a_,q_];omega
def Fd:V->List V->Hp->VK->Prop:=fun x vs H Q=>∃l b xs zs,x=.ref l/\vs=[.ref b]/\H l=some (.lst xs)/\H b=some (.lst zs)/\xs.length+zs.length<=sizeLine/\Q .non (upd H l (.lst (xs++zs)))
theorem yh:MtM X "list.extend" Fd:=by
 intro pins s Z H x vs v us Q I rx rv h;obtain⟨l,b,xs,zs,rfl,rfl,hH,hB,hz,q⟩:=h;cases rx;obtain⟨u,rfl,ru⟩:=rv.one;cases ru;obtain⟨z,its,n,r,hl,e⟩:=I.lstM hH;obtain⟨z2,its2,n2,r2,hl2,e2⟩:=I.lstM hB;have hsz:its.toArray.size+its2.toArray.size<=sizeLine:=by rw[k_,k_];omega
 have hlong:¬(!its.toArray.isEmpty&&Builtin.List.listTooLong (its.toArray.size+its2.toArray.size))=true:=by rw[qL hsz,Zg];exact u_
 refine Y7 F.slot_list_extend ⟨_,e,rfl⟩ F.entry_list_extend (F.args_list_extend_2 _ _)
  (AutoSeq1.list_extend_list_list_0 l its.toArray n b its2.toArray n2 hlong (by rw[k_];omega) (by omega)) ⟨e,e2,?_⟩
 refine⟨.non,_,I.lset (its':=its++its2) hH e (by simp) (r.append r2) ?_,rfl,q⟩;rw[a_];omega
def Wr:V->List V->Hp->VK->Prop:=fun x vs H Q=>∃l xs y,x=.ref l/\vs=[]/\H l=some (.lst xs)/\xs[xs.length - 1]?=some y/\Q y (upd H l (.lst xs.dropLast))
theorem Ls:MtM X "list.pop" Wr:=by
 intro pins s Z H x vs v us Q I rx rv h;obtain⟨l,xs,y,rfl,rfl,hH,hy,q⟩:=h;cases rx;have hus:=rv.zero;subst hus;obtain⟨z,its,n,r,hl,e⟩:=I.lstM hH;obtain⟨u,hu,ru⟩:=r.get hy;have hy':its.toArray[its.toArray.size - 1]?=some u:=by show its.toArray[its.length - 1]?=some u;rw[<- Yj,<- hl];exact hu
 refine Y7 F.slot_list_pop ⟨_,e,rfl⟩ F.entry_list_pop (F.args_list_pop_1 _) (MeetsSeq.list_pop_last l its.toArray n u hy' (by rw[k_];omega)) ⟨e,?_⟩;refine⟨y,_,I.lset (its':=its.dropLast) hH e ?_ r.dropLast ?_,ru,q⟩
 ·show its.toArray.eraseIdxIfInBounds (its.toArray.size - 1)=its.dropLast.toArray;rw[k_,List.eraseIdxIfInBounds_toArray,uf]
 rw[List.length_dropLast];omega
def Lw:V->List V->Hp->VK->Prop:=fun x vs H Q=>∃l xs i k y,x=.ref l/\vs=[.int i]/\H l=some (.lst xs) /\ -(2^63)<=i/\i<2^63/\seqIndex? i xs.length=some k/\xs[k]?=some y/\Q y (upd H l (.lst (xs.eraseIdx k)))
theorem zz:MtM X "list.pop" Lw:=by
 intro pins s Z H x vs v us Q I rx rv h;obtain⟨l,xs,i,k,y,rfl,rfl,hH,h1,h2,hk,hy,q⟩:=h;cases rx;obtain⟨u,rfl,ru⟩:=rv.one;obtain⟨t,rfl⟩:=ru;obtain⟨z,its,n,r,hl,e⟩:=I.lstM hH;obtain⟨w,hw,rw'⟩:=r.get hy;refine Y7 F.slot_list_pop ⟨_,e,rfl⟩ F.entry_list_pop (F.args_list_pop_2 _ _)
  (MeetsSeq.list_pop_at l its.toArray n i t k w (fitsIndex_both h1 h2) (by rw[k_,<- hl];exact hk) (by rw[<- Yj];exact hw) (by rw[k_];omega)) ⟨e,?_⟩
 refine⟨y,_,I.lset (its':=its.eraseIdx k) hH e ?_ (r.eraseIdx k) ?_,rw',q⟩
 ·show its.toArray.eraseIdxIfInBounds k=(its.eraseIdx k).toArray;rw[List.eraseIdxIfInBounds_toArray]
 have:=nR xs k;omega
def Lx:V->List V->Hp->VK->Prop:=fun x vs H Q=>∃l xs,x=.ref l/\vs=[]/\H l=some (.lst xs)/\Q .non (upd H l (.lst []))
theorem zA:MtM X "list.clear" Lx:=by
 intro pins s Z H x vs v us Q I rx rv h;obtain⟨l,xs,rfl,rfl,hH,q⟩:=h;cases rx;have hus:=rv.zero;subst hus;obtain⟨z,its,n,r,hl,e⟩:=I.lstM hH;refine Y7 F.slot_list_clear ⟨_,e,rfl⟩ F.entry_list_clear (F.args_list_clear_1 _) (AutoSeq1.list_clear_list_0 l its.toArray n (by rw[k_];omega)) ⟨e,?_⟩;exact⟨.non,_,I.lset (its':=[]) (ys:=[]) hH e rfl .nil (X8 _),rfl,q⟩
def Ws:R2:=fun x y H Q=>∃l b xs zs,x=.ref l/\y=.ref b/\H l=some (.lst xs)/\H b=some (.lst zs)/\xs.length+zs.length<=sizeLine/\∀p,H p=none->Q (.ref p) (upd H p (.lst (xs++zs)))
theorem op_cat:OpR X (binaryOp .Add) Ws:=by
 intro pins s Z H x y v u Q I rx ry h;obtain⟨l,b,xs,zs,rfl,rfl,hH,hB,hz,q⟩:=h;cases rx;cases ry;obtain⟨z,its,n,r,hl,e⟩:=I.lstM hH;obtain⟨z2,its2,n2,r2,hl2,e2⟩:=I.lstM hB;refine PySem.P.add_list e e2 ?_ (by rw[k_,k_];omega);have ea:its.toArray++its2.toArray=(its++its2).toArray:=by simp
 rw[ea];exact⟨.ref _,_,I.lnew (t':=s.toks) (r.append r2) (by rw[a_];omega),rfl,q _ I.fresh⟩
def Wu:R2:=fun x y H Q=>∃l k xs,x=.ref l/\y=.int k/\H l=some (.lst xs) /\ -(2^63)<=k/\k<2^63/\xs.length*k.toNat<=sizeLine /\
 ∀p,H p=none->Q (.ref p) (upd H p (.lst (List.replicate k.toNat xs).flatten))
theorem len_rep {α:Type}(xs:List α) (k:Nat):(List.replicate k xs).flatten.length=k*xs.length:=by
 induction k with
 |zero=>simp
 |succ k ih=>rw[Yh,Ys,a_,ih,Nat.succ_mul,Nat.add_comm]
theorem Ly:OpR X (binaryOp .Mult) Wu:=by
 intro pins s Z H x y v u Q I rx ry h;obtain⟨l,k,xs,rfl,rfl,hH,h1,h2,hz,q⟩:=h;cases rx;obtain⟨t,rfl⟩:=ry;obtain⟨z,its,n,r,hl,e⟩:=I.lstM hH;have hlen:its.toArray.size*k.toNat<=sizeLine:=by rw[k_,<- hl];exact hz
 have hcap:¬its.toArray.size*k.toNat>(2^63 - 1) / 8:=by
  have:(sizeLine:Nat)<=(2^63 - 1) / 8:=by decide
  omega
 have hfit:¬(!Builtin.List.listFitsIndex k)=true:=by rw[fitsIndex_both h1 h2];exact u_
 have hlong:¬Builtin.List.listTooLong (its.toArray.size*k.toNat)=true:=by rw[qL hlen];exact u_
 have hnew:List.foldl (fun x1 x2=>x1++x2) #[] (List.replicate (if its.toArray.isEmpty=true then 0 else k.toNat) its.toArray)=(List.replicate k.toNat its).flatten.toArray:=by
  have f0:∀m:Nat,List.foldl (fun x1 x2=>x1++x2) #[] (List.replicate m its.toArray)=(List.replicate m its).flatten.toArray:=fun m=>by have:=foldl_rep its m [];rw[List.nil_append] at this;exact this
  rw[f0];cases its with
  |nil=>simp
  |cons a r'=>rw[if_neg (by simp)]
 refine wpAny_binaryOp_repeat_ref (T:="list") (U:="int") (by decide) ⟨_,e,rfl⟩ (fun s'=>typeIs_int s' k t) noFill_list_mul F.fills_int_mul F.slot_int_rmul repeat_list F.slot_int_index.lookup
  (Y7 F.slot_int_rmul (typeIs_int s k t) F.entry_int_rmul (F.args_int_rmul_2 _ _) (int___rmul___int_list k t l its.toArray n)
   ⟨e,rfl,⟨_,e,rfl⟩,Y7 F.slot_list_mul ⟨_,e,rfl⟩ F.entry_list_mul (F.args_list_mul_2 _ _) (AutoListH.list___mul___list_int_3 l its.toArray n k t hfit hcap hlong) ⟨e,?_⟩⟩)
 rw[hnew];exact⟨.ref _,_,I.lnew (t':=s.toks) (r.rep k.toNat) (by rw[len_rep,Nat.mul_comm];exact hz),rfl,q _ I.fresh⟩
variable {prog:Program}{w:World}{A:Around}{E:Value->Shared->Prop}
set_option maxRecDepth 100000 in
end
section
variable {κ:Type} [DecidableEq κ]
def fC (kvs:List (κ × V)) (k:κ):Option V:=(kvs.find? fun kv=>decide (kv.1=k)).map (·.2)
def putK (kvs:List (κ × V)) (k:κ) (v:V):List (κ × V) :=
 if (kvs.any fun kv=>decide (kv.1=k))=true then kvs.map (fun kv=>if kv.1=k then (kv.1,v) else kv) else kvs++[(k,v)]
def Il (kvs:List (κ × V)) (k:κ):List (κ × V):=kvs.filter fun kv=>decide (kv.1≠k)
theorem fG {p:κ × V}{r:List (κ × V)}{k:κ}(e:p.1=k):fC (p::r) k=some p.2:=by simp [fC,Y9,e]
theorem fH {p:κ × V}{r:List (κ × V)}{k:κ}(e:¬p.1=k):fC (p::r) k=fC r k:=by simp [fC,Y9,e]
theorem qM (k:κ):∀kvs:List (κ × V),(kvs.any fun kv=>decide (kv.1=k))=(fC kvs k).isSome
 |[]=>rfl
 |p::r=>by
  rw[Zv]
  by_cases e:p.1=k
  ·
   simp only[fG e,P_ e,Bool.true_or,Option.isSome_some]
  ·
   rw[fH e,B_ e,YQ];exact qM k r
theorem gR (kvs:List (κ × V)) (k:κ) (v:V):(putK kvs k v).length<=kvs.length+1:=by
 unfold putK;split
 ·rw[b_];omega
 rw[a_,e_,Yv];omega
theorem RelO.isSome_eq {o:Option V}{u:Option Value}(r:RelO o u):o.isSome=u.isSome:=by
 cases o with
 |none=>cases u with
  |none=>rfl
  |some _=>exact (show False from r).elim
 |some _=>cases u with
  |none=>exact (show False from r).elim
  |some _=>rfl
theorem RelO.getD {o:Option V}{u:Option Value}{d:V}{d':Value}(r:RelO o u) (rd:RelV d d'):RelV (o.getD d) (u.getD d'):=by
 cases o with
 |none=>cases u with
  |none=>exact rd
  |some _=>exact (show False from r).elim
 |some _=>cases u with
  |none=>exact (show False from r).elim
  |some _=>exact r
theorem KV.val {kvs:List (κ × V)}{vs:List (κ × Value)}(r:KV kvs vs) (k:κ):RelO (fC kvs k) (valueAt vs k):=by
 unfold KV at r;induction r with
 |nil=>exact True.intro
 |@cons p q ps qs h t ih =>
 obtain⟨h1,h2⟩:=h;by_cases e:p.1=k
 ·have e':q.1=k:=h1.symm.trans e;have b:valueAt (q::qs) k=some q.2:=by simp [valueAt,Y9,e']
  rw[fG e,b];exact h2
 have e':¬q.1=k:=fun z=>e (h1.trans z);have b:valueAt (q::qs) k=valueAt qs k:=by simp [valueAt,Y9,e']
 rw[fH e,b];exact ih
theorem KV.any {kvs:List (κ × V)}{vs:List (κ × Value)}(r:KV kvs vs) (k:κ):(kvs.any fun kv=>decide (kv.1=k))=vs.any fun kv=>decide (kv.1=k):=by
 unfold KV at r;induction r with
 |nil=>rfl
 |cons h t ih=>rw[Zv,Zv,ih,h.1]
theorem KV.repl {kvs:List (κ × V)}{vs:List (κ × Value)}(r:KV kvs vs) (k:κ) {y:V}{u:Value}(ry:RelV y u) :
  KV (kvs.map fun kv=>if kv.1=k then (kv.1,y) else kv) (vs.map fun kv=>if kv.1=k then (kv.1,u) else kv):=by
 unfold KV at r ⊢;induction r with
 |nil=>exact .nil
 |@cons p q ps qs h t ih =>
 rw[D_,D_];refine .cons ?_ ih;obtain⟨h1,h2⟩:=h;by_cases e:p.1=k
 ·rw[if_pos e,if_pos (h1.symm.trans e)];exact⟨h1,ry⟩
 rw[if_neg e,if_neg (fun z=>e (h1.trans z))];exact⟨h1,h2⟩
theorem KV.put {kvs:List (κ × V)}{vs:List (κ × Value)}(r:KV kvs vs) (k:κ) {y:V}{u:Value}(ry:RelV y u):KV (putK kvs k y) (stored vs k u):=by
 unfold putK stored;rw[r.any k];by_cases e:(vs.any fun kv=>decide (kv.1=k))=true
 ·rw[if_pos e,if_pos e];exact r.repl k ry
 rw[if_neg e,if_neg e];exact Paired.snoc r ⟨rfl,ry⟩
theorem KV.drop {kvs:List (κ × V)}{vs:List (κ × Value)}(r:KV kvs vs) (k:κ):KV (Il kvs k) (without vs k):=by
 unfold KV at r ⊢;unfold Il without;induction r with
 |nil=>exact .nil
 |@cons p q ps qs h t ih =>
 obtain⟨h1,h2⟩:=h;rw[Xu,Xu];by_cases e:p.1=k
 ·have a:¬decide (p.1≠k)=true:=by simp [e]
  have b:¬decide (q.1≠k)=true:=by simp [h1.symm.trans e]
  rw[if_neg a,if_neg b];exact ih
 have e':¬q.1=k:=fun z=>e (h1.trans z);have a:decide (p.1≠k)=true:=by simp [e]
 have b:decide (q.1≠k)=true:=by simp [e']
 rw[if_pos a,if_pos b];exact .cons ⟨h1,h2⟩ ih
theorem KV.keys {kvs:List (κ × V)}{vs:List (κ × Value)}(r:KV kvs vs):kvs.map (·.1)=vs.map (·.1):=by
 unfold KV at r;induction r with
 |nil=>rfl
 |cons h t ih=>rw[D_,D_,ih,h.1]
theorem KV.length {kvs:List (κ × V)}{vs:List (κ × Value)}(r:KV kvs vs):kvs.length=vs.length:=Yy r
end
theorem lC {P:Program}{w:World}{k:Key}{u:Value}(r:RelV (kV k) u):(bC P w).is k u=true:=by
 cases k with
 |inl i=>obtain⟨t,e⟩:=(show ∃t,u=Value.int i t from r);subst e;exact qF P w i t
 |inr x=>obtain⟨t,e⟩:=(show ∃t,u=Value.str x t from r);subst e;exact qG P w x t
theorem nT {P:Program}{w:World}:∀{ks:List Key}{us:List Value},Vals (ks.map kV) us->ItemsAre (bC P w) ks us
 |[],_,r=>by rw[Xy] at r;cases r;exact .nil
 |k::ks,_,r=>by
  rw[D_] at r
  cases r with
  |cons h t=>exact .cons (lC h) (nT t)
abbrev KT (H:Hp):List (List Key × V)->List (List Key × Addr × Value)->Prop:=Paired fun p q=>p.1=q.1/\H q.2.1=some (.tup (p.1.map kV))/\RelV p.2 q.2.2
theorem KT.val {H:Hp}{kvs:List (List Key × V)}{xs:List (List Key × Addr × Value)}(r:KT H kvs xs) (k:List Key):RelO (fC kvs k) ((atKey xs k).map (·.2)):=by
 induction r with
 |nil=>exact True.intro
 |@cons p q ps qs h t ih =>
 obtain⟨h1,_,h2⟩:=h;by_cases e:p.1=k
 ·have e':q.1=k:=h1.symm.trans e;have b:atKey (q::qs) k=some q.2:=by simp [atKey,Y9,e']
  rw[fG e,b];exact h2
 have e':¬q.1=k:=fun z=>e (h1.trans z);have b:atKey (q::qs) k=atKey qs k:=by simp [atKey,Y9,e']
 rw[fH e,b];exact ih
theorem KT.repl {H:Hp}{kvs:List (List Key × V)}{xs:List (List Key × Addr × Value)}(r:KT H kvs xs) (k:List Key) {y:V}{u:Value}(ry:RelV y u) :
  KT H (kvs.map fun kv=>if kv.1=k then (kv.1,y) else kv) (xs.map (putAt k u)):=by
 induction r with
 |nil=>exact .nil
 |@cons p q ps qs h t ih =>
 rw[D_,D_];refine .cons ?_ ih;obtain⟨h1,h2,h3⟩:=h;unfold putAt;by_cases e:p.1=k
 ·rw[if_pos e,if_pos (h1.symm.trans e)];exact⟨h1,h2,ry⟩
 rw[if_neg e,if_neg (fun z=>e (h1.trans z))];exact⟨h1,h2,h3⟩
theorem KT.put {H:Hp}{kvs:List (List Key × V)}{xs:List (List Key × Addr × Value)}(r:KT H kvs xs) (k:List Key) {b:Addr}{y:V}{u:Value}(hb:H b=some (.tup (k.map kV))) (ry:RelV y u) :
  KT H (putK kvs k y) (storedH xs k b u):=by
 have e:(kvs.any fun kv=>decide (kv.1=k))=(atKey xs k).isSome:=by rw[qM,(r.val k).isSome_eq,Option.isSome_map]
 unfold putK storedH;rw[e];by_cases q:(atKey xs k).isSome=true
 ·rw[if_pos q,if_pos q];exact r.repl k ry
 rw[if_neg q,if_neg q];exact Paired.snoc r ⟨rfl,hb,ry⟩
theorem KT.keeps {H H':Hp}{kvs:List (List Key × V)}{xs:List (List Key × Addr × Value)}(r:KT H kvs xs) (ht:∀b ys,H b=some (.tup ys)->H' b=some (.tup ys)):KT H' kvs xs :=
 Paired.mapP r fun _ _ z=>⟨z.1,ht _ _ z.2.1,z.2.2⟩
section
variable {P:Program}{w:World}{H:Hp}{h:Heap}{a:Addr}
theorem Im {u:HO}(ok:HOk P w H h) (e:Rd H a u):ObjOk P w H h a u:=e.ok ok
theorem lD {kvs:List (Key × V)}(ok:HOk P w H h) (e:Rd H a (.dK kvs)):kvs.length<=sizeLine/\(a==sysModules)=false/\∃vs,KV kvs vs/\h.DictOf (bC P w) a vs :=
 show ObjOk P w H h a (.dK kvs) from Im ok e
theorem qN {kvs:List (Key × V)}(ok:HOk P w H h) (e:H a=some (.dK kvs)):kvs.length<=sizeLine/\(a==sysModules)=false/\∃vs,KV kvs vs/\h.DictOf (bC P w) a vs:=lD ok (.inl e)
theorem lE {ks:List Key}(ok:HOk P w H h) (e:H a=some (.tup (ks.map kV))):(tupleKind (bC P w)).is h ks a:=by
 obtain⟨_,its,r,o,h1,h2,n,h3,_⟩:=(show ObjOk P w H h a (.tup (ks.map kV)) from ok a _ e);exact⟨o,its.toArray,n,h1,h2,h3,by simpa using nT r⟩
theorem nU {kvs:List (List Key × V)}(ok:HOk P w H h) (e:Rd H a (.dT kvs)):kvs.length<=sizeLine/\(a==sysModules)=false /\
  ∃xs,KT H kvs xs/\h.DictOfH (tupleKind (bC P w)) a xs:=by
 obtain⟨z,y,xs,r,o,es,ep,h1,h2,h3,h4,h5⟩:=(show ObjOk P w H h a (.dT kvs) from Im ok e);refine⟨z,y,xs,r,o,es,ep,h1,h2,h3,h4,fun x hx=>?_,h5⟩;have all:∀{l:List (List Key × V)} {m:List (List Key × Addr × Value)},KT H l m->∀x∈m,(tupleKind (bC P w)).is h x.1 x.2.1:=by
  intro l m q;induction q with
  |nil=>intro x hx;exact nomatch hx
  |@cons p q ps qs hq t ih =>
  intro x hx;rcases l_.mp hx with e | hx
  ·subst e;exact lE ok (by rw[<- hq.1];exact hq.2.1)
  exact ih x hx
 exact all r x hx
theorem Rp {kvs:List (List Key × V)}(ok:HOk P w H h) (e:H a=some (.dT kvs)):kvs.length<=sizeLine/\(a==sysModules)=false /\
  ∃xs,KT H kvs xs/\h.DictOfH (tupleKind (bC P w)) a xs:=nU ok (.inl e)
end
def DGet (H:Hp) (a:Addr) (y:V) (r:Option V):Prop :=
 (∃kvs k,Rd H a (.dK kvs)/\y=kV k/\r=fC kvs k)\/∃kvs k b,Rd H a (.dT kvs)/\y=.ref b/\H b=some (.tup (k.map kV))/\r=fC kvs k
def DPut (H:Hp) (a:Addr) (y v:V) (H':Hp):Prop :=
 (∃kvs k,H a=some (.dK kvs)/\y=kV k/\kvs.length<sizeLine/\H'=upd H a (.dK (putK kvs k v))) \/
 ∃kvs k b,H a=some (.dT kvs)/\y=.ref b/\H b=some (.tup (k.map kV))/\kvs.length<sizeLine/\H'=upd H a (.dT (putK kvs k v))
theorem DGet.k {H:Hp}{a:Addr}{kvs:List (Key × V)}{k:Key}(e:H a=some (.dK kvs)):DGet H a (kV k) (fC kvs k):=.inl ⟨kvs,k,.inl e,rfl,rfl⟩
theorem DGet.t {H:Hp}{a b:Addr}{kvs:List (List Key × V)}{k:List Key}(e:H a=some (.dT kvs)) (eb:H b=some (.tup (k.map kV))):DGet H a (.ref b) (fC kvs k):=.inr ⟨kvs,k,b,.inl e,rfl,eb,rfl⟩
theorem DPut.k {H:Hp}{a:Addr}{kvs:List (Key × V)}{k:Key}{v:V}(e:H a=some (.dK kvs)) (hl:kvs.length<sizeLine):DPut H a (kV k) v (upd H a (.dK (putK kvs k v))):=.inl ⟨kvs,k,e,rfl,hl,rfl⟩
theorem DPut.t {H:Hp}{a b:Addr}{kvs:List (List Key × V)}{k:List Key}{v:V}(e:H a=some (.dT kvs)) (eb:H b=some (.tup (k.map kV))) (hl:kvs.length<sizeLine) :
  DPut H a (.ref b) v (upd H a (.dT (putK kvs k v))):=.inr ⟨kvs,k,b,e,rfl,eb,hl,rfl⟩
section
variable {X:Cx}{pins:List (Addr × Obj)}{Z:St}{H:Hp}{s:Shared}{a:Addr}{y v:V}{u r:Value}{o:Option V}{A:Around}{E:Value->Shared->Prop}
theorem Inv.big (I:Inv X pins Z H s):sysModules<s.heap.objs.size:=by
 have h:mainGlobals<s.heap.objs.size:=(I.mod.glob.keeps I.bk).lt;exact Zm (by decide) h
theorem yj {Q:Value->Shared->Prop}(hu:A.units+1<cLine) (I:Inv X pins Z H s) (g:DGet H a y (some v)) (ry:RelV y u) (h:∀w' s',Inv X pins Z H s'->RelV v w'->Q w' s') :
  wpAny (model X.prog X.w) A (getItem (.ref a) u) Q E s:=by
 rcases g with ⟨kvs,k,e,ey,l⟩ | ⟨kvs,k,b,e,ey,eb,l⟩
 ·subst ey;obtain⟨z,hd,vs,rel,dd⟩:=lD I.hok e;obtain⟨w',hw,rw'⟩:=RelO.some_of (v:=v) (o:=valueAt vs k) (by rw[l];exact rel.val k);exact wpAny_getItem_of (lC ry) dd.mapOf hw (h w' _ (I.tok _) rw')
 subst ey;cases (show u=Value.ref b from ry);obtain⟨z,hd,xs,rel,dd⟩:=nU I.hok e;obtain⟨w',hw,rw'⟩:=RelO.some_of (v:=v) (o:=(atKey xs k).map (·.2)) (by rw[l];exact rel.val k);obtain⟨p,hp,hp2⟩:=Option.map_eq_some_iff.mp hw;refine wpAny_getItem_heap (Zz hu) (lE I.hok eb) dd hp ?_;rw[hp2];exact h w' _ (I.tok _) rw'
theorem Wv {Q:Value->Shared->Prop}(hu:A.units+1<cLine) (I:Inv X pins Z H s) (g:DGet H a y o) (ry:RelV y u) (h:∀s',Inv X pins Z H s'->Q (.bool o.isSome) s') :
  wpAny (model X.prog X.w) A (compareOp .In u (.ref a)) Q E s:=by
 rcases g with ⟨kvs,k,e,ey,l⟩ | ⟨kvs,k,b,e,ey,eb,l⟩
 ·subst ey;obtain⟨z,hd,vs,rel,dd⟩:=lD I.hok e;refine wpAny_in_of (lC ry) hd dd.mapOf ?_;rw[<- (rel.val k).isSome_eq,<- l];exact h _ (I.tok _)
 subst ey;cases (show u=Value.ref b from ry);obtain⟨z,hd,xs,rel,dd⟩:=nU I.hok e;refine wpAny_in_heap (Zz hu) (lE I.hok eb) hd dd ?_;have q:=(rel.val k).isSome_eq;rw[Option.isSome_map] at q;rw[<- q,<- l];exact h _ (I.tok _)
theorem Fe {Q:Value->Shared->Prop}(hu:A.units+1<cLine) (I:Inv X pins Z H s) (g:DGet H a y o) (ry:RelV y u) (h:∀s',Inv X pins Z H s'->Q (.bool (!o.isSome)) s') :
  wpAny (model X.prog X.w) A (compareOp .NotIn u (.ref a)) Q E s:=by
 rcases g with ⟨kvs,k,e,ey,l⟩ | ⟨kvs,k,b,e,ey,eb,l⟩
 ·subst ey;obtain⟨z,hd,vs,rel,dd⟩:=lD I.hok e;refine wpAny_notIn_of (lC ry) hd dd.mapOf ?_;rw[<- (rel.val k).isSome_eq,<- l];exact h _ (I.tok _)
 subst ey;cases (show u=Value.ref b from ry);obtain⟨z,hd,xs,rel,dd⟩:=nU I.hok e;refine wpAny_notIn_heap (Zz hu) (lE I.hok eb) hd dd ?_;have q:=(rel.val k).isSome_eq;rw[Option.isSome_map] at q;rw[<- q,<- l];exact h _ (I.tok _)
theorem o9 {h':Heap}{t':Nat}{ob:HO}(I:Inv X pins Z H s) (mu:Mut (H a)) (hs:Heap.SameBut a s.heap h') (he:∃q,h'.get? a=some q) (new:ObjOk X.prog X.w (upd H a ob) h' a ob) :
  Inv X pins Z (upd H a ob) { s with heap:=h',toks:=t'} :=
 I.write (x:=a) (e:=a) mu (.inl rfl) (fun b q hb z=>(hs.2 b hb).trans z) he new
theorem zB {P:Program}{w:World}{H':Hp}{h':Heap}{kvs:List (Key × V)}{vs:List (Key × Value)}(z:kvs.length<=sizeLine) (hd:(a==sysModules)=false) (rel:KV kvs vs) (dd:h'.DictOf (bC P w) a vs) :
  ObjOk P w H' h' a (.dK kvs):=⟨z,hd,vs,rel,dd⟩
theorem ym {H':Hp}{Q:Unit->Shared->Prop}(hu:A.units+1<cLine) (I:Inv X pins Z H s) (g:DPut H a y v H') (ry:RelV y u) (rv:RelV v r) (h:∀s',Inv X pins Z H' s'->Q () s') :
  wpAny (model X.prog X.w) A (setItem (.ref a) u r) Q E s:=by
 rcases g with ⟨kvs,k,e,ey,l,eH⟩ | ⟨kvs,k,b,e,ey,eb,l,eH⟩
 ·subst ey eH;obtain⟨z,hd,vs,rel,dd⟩:=qN I.hok e;have hz:vs.length<=sizeLine:=by rw[<- rel.length];exact z
  have hl:(putK kvs k v).length<=sizeLine:=by have:=gR kvs k v;omega
  refine wpAny_setItem_pairs (hsz:=hz) (lC ry) dd fun h' dd' hs=>h _ ?_;have he:∃q,h'.get? a=some q:=let ⟨q,_,_,hq,_⟩:=dd';⟨q,hq⟩;exact o9 I (by rw[e];exact True.intro) hs he (zB hl hd (rel.put k rv) dd')
 subst ey eH;cases (show u=Value.ref b from ry);obtain⟨z,hd,xs,rel,dd⟩:=Rp I.hok e;have hz:xs.length<=sizeLine:=by rw[<- Yy rel];exact z
 have hl:(putK kvs k v).length<=sizeLine:=by have:=gR kvs k v;omega
 refine wpAny_setItem_heap (hsz:=hz) (Zz hu) (lE I.hok eb) dd fun h' dd' hs=>h _ ?_;obtain⟨q,es,ep,hq,h2,h3,h4,_,h5⟩:=dd';refine o9 I (by rw[e];exact True.intro) hs ⟨q,hq⟩ ⟨hl,hd,_,(rel.put k eb rv).keeps fun c ys ec=>?_,q,es,ep,hq,h2,h3,h4,h5⟩;rw[aV (Qz ec e (fun z=>nomatch z))];exact ec
variable {kvs:List (Key × V)}{k:Key}
end
def Lz (i:Expr):Prop:=∀ov iv,subscripted i false ov iv=operate [ov,iv] (getItem ov iv)
theorem Ff {prog:Program}{w:World}{A:Around}{E:Value->Shared->Prop}{s:Shared}{env:Env}{value slice:Expr}{pos:Pos}{T id:String}{Q:Value->Shared->Prop}
  (hl:typeLookup (.type T) "__getitem__"=pure (some (.builtin id))) (hs:Lz slice)
  (h:wpAny (model prog w) A (eval value env) (fun o s₁=>wpAny (model prog w) A (eval slice env) (fun i s₂=>s₂.TypeIs o T/\wpAny (model prog w) A (getItem o i) Q E s₂) E s₁) E s) :
  wpAny (model prog w) A (eval (.Subscript value slice pos) env) Q E s:=by
 refine Subscript_ (XR h (fun o s₁ h₁=>XR h₁ (fun i s₂ h₂=>?_) fun _ _ x=>x) fun _ _ x=>x);obtain⟨hT,h₂⟩:=h₂;unfold subscriptTail;refine v_ ?_;rw[getitemInPython_of_ne hT.not_modules];refine v_ (wpAny_specialOf hT hl ?_);have fin:wpAny (model prog w) A (subscripted slice false o i) (fun r s₃=>wpAny (model prog w) A (letTemporaryGo value o r >>= fun _=>pure r) Q E s₃) E s₂:=by rw[hs o i];exact wpAny_operating (XR h₂ (fun r s₃ h₃=>v_ (wpAny_letTemporaryGo (O_ h₃))) fun _ _ x=>x)
 first
  |exact O_ (v_ fin)
  |exact v_ (O_ (v_ fin))
  |exact v_ fin
theorem qO {X:Cx}{pins:List (Addr × Obj)}{Z:St}{H:Hp}{s:Shared}{a:Addr}{y:V}{o:Option V}(I:Inv X pins Z H s) (g:DGet H a y o):s.TypeIs (.ref a) "dict":=by
 rcases g with ⟨kvs,k,e,_,_⟩ | ⟨kvs,k,b,e,_,_,_⟩
 ·obtain⟨_,_,vs,_,dd⟩:=lD I.hok e;exact dd.typeIs
 obtain⟨_,_,xs,_,dd⟩:=nU I.hok e;exact dd.typeIs
def Rq (td ty:TE):TE:=fun Z H Q=>td Z H fun x H1=>ty Z H1 fun y H2=>∃a v,x=.ref a/\DGet H2 a y (some v)/\Q v H2
def Ww (ty td:TE):TE:=fun Z H Q=>ty Z H fun y H1=>td Z H1 fun x H2=>∃a o,x=.ref a/\DGet H2 a y o/\Q (.bl o.isSome) H2
def Fg (ty td:TE):TE:=fun Z H Q=>ty Z H fun y H1=>td Z H1 fun x H2=>∃a o,x=.ref a/\DGet H2 a y o/\Q (.bl (!o.isSome)) H2
def Rr (td ty tv:TE):TS:=fun D Z H=>tv Z H fun v H1=>td Z H1 fun x H2=>ty Z H2 fun y H3=>∃a H4,x=.ref a/\DPut H3 a y v H4/\D.nx Z H4
section
variable {X:Cx}{o i e value:Expr}{pos pos' tpos:Pos}{td ty tv:TE}
theorem Fi (hu:X.A.units+1<cLine) (ho:PE X o td) (hi:PE X i ty) (hs:Lz i):PE X (.Subscript o i pos) (Rq td ty):=by
 intro pins s Z H Q I h;refine Ff PySem.F.slot_dict_getitem.lookup hs (thn (ho pins s Z H _ I h) fun u s1 ⟨x,H1,I1,rx,q1⟩=>thn (hi pins s1 Z H1 _ I1 q1) fun iv s2 ⟨y,H2,I2,ry,a,v,ex,g,q2⟩=>?_);subst ex;obtain rfl:u=Value.ref a:=rx;exact⟨qO I2 g,yj hu I2 g ry fun w' s3 I3 rw'=>⟨v,H2,I3,rw',q2⟩⟩
theorem LC (hu:X.A.units+1<cLine) (hi:PE X i ty) (ho:PE X o td):PC X .In i o (Ww ty td):=by
 intro pins s Z H Q I h;refine thn (hi pins s Z H _ I h) fun iv s1 ⟨y,H1,I1,ry,q1⟩=>thn (ho pins s1 Z H1 _ I1 q1) fun u s2 ⟨x,H2,I2,rx,a,ov,ex,g,q2⟩=>?_;subst ex;obtain rfl:u=Value.ref a:=rx;exact Wv hu I2 g ry fun s3 I3=>⟨.bl ov.isSome,H2,I3,rfl,q2⟩
theorem nW (hu:X.A.units+1<cLine) (hi:PE X i ty) (ho:PE X o td):PC X .NotIn i o (Fg ty td):=by
 intro pins s Z H Q I h;refine thn (hi pins s Z H _ I h) fun iv s1 ⟨y,H1,I1,ry,q1⟩=>thn (ho pins s1 Z H1 _ I1 q1) fun u s2 ⟨x,H2,I2,rx,a,ov,ex,g,q2⟩=>?_;subst ex;obtain rfl:u=Value.ref a:=rx;exact Fe hu I2 g ry fun s3 I3=>⟨.bl (!ov.isSome),H2,I3,rfl,q2⟩
theorem vP (hu:X.A.units+1<cLine) (ho:PE X o td) (hi:PE X i ty) (hv:PE X value tv) (hs:swapsWith value (some (.Subscript o i pos')) pos.line X.env=pure false) :
  PS X (.Assign [.Subscript o i pos'] value pos) (Rr td ty tv):=by
 intro pins s Z H D I h;refine wpAny_Assign_Subscript (thn (hv pins s Z H _ I h) fun r s1 ⟨v,H1,I1,rv,q1⟩=>thn (ho pins s1 Z H1 _ I1 q1) fun u s2 ⟨x,H2,I2,rx,q2⟩=>thn (hi pins s2 Z H2 _ I2 q2) fun iv s3 ⟨y,H3,I3,ry,a,H4,ex,g,q3⟩=>?_) hs;subst ex;obtain rfl:u=Value.ref a:=rx;exact ym hu I3 g ry rv fun s4 I4=>⟨Z,H4,I4,q3⟩
end
theorem qP {P:Program}{w:World}{H:Hp}(h:Heap) (hb:sysModules<h.objs.size):ObjOk P w H (h.push { cls:=.type "dict",data:=.dict #[]}) h.objs.size (.dK []) :=
 ⟨X8 _,XQ.mpr (Ne.symm (Xm hb)),[],.nil,Heap.DictOf.new h⟩
def LK:TE:=fun _ H Q=>∀p,H p=none->Q (.ref p) (upd H p (.dK []))
section
variable {X:Cx}{pos:Pos}
theorem zE:PE X (.Dict [] [] pos) LK:=fun pins s Z H Q I h =>
 wpAny_Dict_empty ⟨.ref s.heap.objs.size,_,I.laid (a:=s.heap.objs.size) (o:=.dK []) (t':=s.toks) (fun _ _ q=>j_ _ q) (o_ _) (qP s.heap I.big),rfl,h _ (I.hok.fresh (o_ _))⟩
end
def ug:List (TE × TE)->St->Hp->(List (V × V)->Hp->Prop)->Prop
 |[],_,H,Q=>Q [] H
 | (tk,tv)::r,Z,H,Q=>tk Z H fun x H1=>tv Z H1 fun y H2=>ug r Z H2 fun ps H3=>Q ((x,y)::ps) H3
abbrev VV:List (V × V)->List (Value × Value)->Prop:=Paired fun p q=>RelV p.1 q.1/\RelV p.2 q.2
def PPs (X:Cx) (pos:Pos) (keys:List (Option Expr)) (values:List Expr) (trs:List (TE × TE)):Prop :=
 ∀(pins:List (Addr × Obj)) (s:Shared) (Z:St) (H:Hp) (Q:List (V × V)->Hp->Prop),Inv X pins Z H s->ug trs Z H Q ->
  wpAny (model X.prog X.w) X.A (evalPairs (pairTrees keys values X.env pos)) (fun vs s'=>∃ps H',Inv X pins Z H' s'/\VV ps vs/\Q ps H') X.xe s
theorem vQ {X:Cx}{pos:Pos}:PPs X pos [] [] []:=fun pins s Z H Q I h=>pairTrees_nil_walk ⟨[],H,I,.nil,h⟩
theorem qQ {X:Cx}{pos:Pos}{k v:Expr}{ks:List (Option Expr)}{vs:List Expr}{tk tv:TE}{trs:List (TE × TE)}(hk:PE X k tk) (hv:PE X v tv) (hr:PPs X pos ks vs trs) :
  PPs X pos (some k::ks) (v::vs) ((tk,tv)::trs):=fun pins s Z H Q I h =>
 pairTrees_cons_walk (thn (hk pins s Z H _ I h) fun u s1 ⟨x,H1,I1,rx,q1⟩=>thn (hv pins s1 Z H1 _ I1 q1) fun w2 s2 ⟨y,H2,I2,ry,q2⟩ =>
  thn (hr pins s2 Z H2 _ I2 q2) fun ws s3 ⟨ps,H3,I3,rel,q3⟩=>⟨(x,y)::ps,H3,I3,.cons ⟨rx,ry⟩ rel,q3⟩)
def iY (kvs more:List (Key × V)):List (Key × V):=more.foldl (fun acc kv=>putK acc kv.1 kv.2) kvs
theorem KV.merge:∀{more:List (Key × V)}{rs:List (Key × Value)}{kvs:List (Key × V)}{vs:List (Key × Value)},KV more rs->KV kvs vs->KV (iY kvs more) (merged vs rs):=by
 intro more rs kvs vs r;unfold KV at r;induction r generalizing kvs vs with
 |nil=>intro q;exact q
 |@cons p q ps qs h t ih =>
 intro r0;have e:KV (putK kvs p.1 p.2) (stored vs q.1 q.2):=by have:=r0.put p.1 h.2;rw[<- h.1];exact this
 exact ih e
theorem iU:∀(more kvs:List (Key × V)),(iY kvs more).length<=kvs.length+more.length
 |[],kvs=>by show kvs.length<=kvs.length+0;omega
 |p::r,kvs=>by
  have h1:=iU r (putK kvs p.1 p.2)
  have h2:=gR kvs p.1 p.2
  show (iY (putK kvs p.1 p.2) r).length<=_
  rw[e_];omega
theorem lF {P:Program}{w:World}:∀{kvs:List (Key × V)}{ws:List (Value × Value)},VV (kvs.map fun kv=>(kV kv.1,kv.2)) ws->∃rs,Carries (bC P w) ws rs/\KV kvs rs
 |[],_,r=>by rw[Xy] at r;cases r;exact⟨[],True.intro,.nil⟩
 |p::kvs,_,r=>by
  rw[D_] at r
  cases r with
  |@cons a b as bs h t =>
   obtain⟨rs,c,q⟩:=lF (P:=P) (w:=w) t
   obtain⟨b1,b2⟩:=b
   exact⟨(p.1,b2)::rs,⟨lC h.1,rfl,c⟩,.cons ⟨rfl,h.2⟩ q⟩
def Rt (trs:List (TE × TE)):TE:=fun Z H Q=>∀p,H p=none->ug trs Z (upd H p (.dK [])) fun ps H2=>H2 p=some (.dK [])/\∃kvs:List (Key × V),ps=kvs.map (fun kv=>(kV kv.1,kv.2))/\kvs.length<=15/\Q (.ref p) (upd H2 p (.dK (iY [] kvs)))
theorem vR {X:Cx}{pos:Pos}{keys:List (Option Expr)}{values:List Expr}{trs:List (TE × TE)}(h:PPs X pos keys values trs) (hall:keys.all (·.isSome)=true) (hl:keys.length=values.length) (h0:keys≠[])
  (h15:keys.length<=15):PE X (.Dict keys values pos) (Rt trs):=by
 intro pins s Z H Q I q;have hn:=I.hok.fresh (o_ s.heap.objs.size);have I1:=I.laid (a:=s.heap.objs.size) (o:=.dK []) (h':=s.heap.push { cls:=.type "dict",data:=.dict #[]}) (t':=s.toks) (fun _ _ q=>j_ _ q) (o_ _) (qP s.heap I.big);refine wpAny_Dict_walk (knd:=bC X.prog X.w) hall hl h0 h15 (thn (h pins _ Z _ _ I1 (q _ hn)) fun ws s2 ⟨ps,H2,I2,rel,e,kvs,ep,lk,q2⟩=>?_);subst ep;obtain⟨rs,c,rk⟩:=lF (P:=X.prog) (w:=X.w) rel;obtain⟨z,hd,vs0,r0,dd⟩:=qN I2.hok e;cases r0;refine⟨rs,c,dd,fun h' dd' hs=>⟨.ref s.heap.objs.size,_,?_,rfl,q2⟩⟩;have hz:(iY [] kvs).length<=sizeLine:=by have h1:=iU kvs [];rw[Yv] at h1;rw[sizeLine_eq];omega
 have he:∃q,h'.get? s.heap.objs.size=some q:=let ⟨q,_,_,hq,_⟩:=dd';⟨q,hq⟩;exact o9 I2 (by rw[e];exact True.intro) hs he (zB hz hd (rk.merge .nil) dd')
structure M2 (X:Cx) (o:Expr) (m:Str) (apos:Pos) (e f:Expr) (cpos:Pos):Prop where
 base:attributeBase o m X.env (eval o X.env)=eval o X.env
 few:((backTo cpos (starEach [e,f] X.env)).all (fun x=>!x.1)&&(backToKw cpos (keywordEach [] X.env)).all (fun x=>x.1.isSome)
  && decide (([e,f]:List Expr).length+([]:List Keyword).length+(if ([]:List Keyword).isEmpty then 0 else 1)<30))=true
 line:(apos.endLine==cpos.line)=true
 trees:backTo cpos (starEach [e,f] X.env)=[(false,eval e X.env),(false,eval f X.env)]
def IsD (H:Hp) (a:Addr):Prop:=(∃kvs,Rd H a (.dK kvs))\/∃kvs,Rd H a (.dT kvs)
theorem zF {X:Cx}{pins:List (Addr × Obj)}{Z:St}{H:Hp}{s:Shared}{a:Addr}(I:Inv X pins Z H s) (d:IsD H a) :
  s.TypeIs (.ref a) "dict"/\(∀b,Value.ref a=.ref b->∃ob,s.heap.get? b=some ob/\ob.dict=none)/\(a==sysModules)=false:=by
 rcases d with ⟨kvs,e⟩ | ⟨kvs,e⟩
 ·obtain⟨_,hd,vs,_,dd⟩:=lD I.hok e;refine⟨dd.typeIs,fun b q=>?_,hd⟩;cases q;obtain⟨ob,_,_,h1,h2,_⟩:=dd;exact⟨ob,h1,h2.2.1⟩
 obtain⟨_,hd,xs,_,dd⟩:=nU I.hok e;refine⟨dd.typeIs,fun b q=>?_,hd⟩;cases q;obtain⟨ob,_,_,h1,h2,_⟩:=dd;exact⟨ob,h1,h2.2.1⟩
section
variable {X:Cx}{pins:List (Addr × Obj)}{Z:St}{H:Hp}{s:Shared}{a:Addr}{y d:V}{u r:Value}{o:Option V}{A:Around}{E:Value->Shared->Prop}
end
section
variable {X:Cx}{o e f:Expr}{apos cpos:Pos}{td ty tx:TE}
variable {pins:List (Addr × Obj)}{Z:St}{H:Hp}{s:Shared}{a:Addr}{kvs:List (Key × V)}{A:Around}{E:Value->Shared->Prop}
variable {y:V}{u:Value}
end
end L2
namespace Att
open PySem PySem.W PySem.Calls PyProof.Rows
theorem j7 {P:Params}{h:Heap}:∀(ns:List Int) (vs:List Value),WellAll P h vs (ns.map WData.int)->IntsAre vs ns:=by
 intro ns;induction ns with
 |nil=>intro vs w;rw[Xy] at w;cases w;exact .nil
 |cons n ns ih =>
 intro vs w;rw[D_] at w;cases w with
 |cons a b =>
 cases a;exact .cons _ _ (ih _ b)
theorem yo {l:OpenLaw}{n:Nat}(hn:l.most=some n) {P:Params}{h:Heap}{args:List WData}{vals:List Value}
  (hpre:l.row.toRowW.claim.pre args=true) (hwl:WellAll P h vals args) :
  ∃a vs ns,vals=[Value.ref a]/\args=[WData.list (ns.map WData.int)]/\h.get? a=some { cls:=.type "list",data:=.seq vs.toArray}/\IntsAre vs ns/\ns.length<=n:=by
 have hsh:WShape.hasAll [] args [.list .int]=true:=(pre_splitW hpre).1;have hc:l.pre.holds [] { args:=args}=true:=(pre_splitW hpre).2;obtain⟨d,r,rfl,h1,h2⟩:=hasAllW_cons hsh;obtain rfl:=hasAllW_nil h2;obtain⟨xs,rfl,h3⟩:=hasW_list h1;obtain⟨ns,rfl⟩:=items_int h3;have hlen:ns.length<=n:=by
  unfold OpenLaw.pre at hc;have h4:(WTm.not (.lt (.lit (.int (n:Int))) (.len (.arg 0)))).holds [] { args:=[.list (ns.map .int)]}=true:=by have h4:=(holds_andW hc).1;rw[hn] at h4;exact h4
  have h5:=condW_of h4 (w_not (w_lt w_lit (w_len_list (w_arg rfl))));rw[b_] at h5;refine Nat.le_of_not_lt fun q=>?_;have q':(n:Int)<((ns.length:Nat):Int):=by omega
  first
   | (rw[P_ q'] at h5;exact absurd h5 (by decide))
   | (simp at h5;omega)
 cases hwl with
 |cons w1 w2 =>
 cases w2;cases w1 with
 |list ho hall=>exact⟨_,_,ns,rfl,rfl,ho,j7 ns _ hall,hlen⟩
theorem yp (l:OpenLaw) (args:List WData):l.row.toRowW.claim.post args (.bool true) args=true :=
 postW_of (r:=l.row.toRowW) (X:=(true==true))
  (show WShape.has [] (.bool true) .bool=true by first | rfl | decide | simp [WShape.has,WShape.arms,WShape.armsAll])
  (show (WTm.eq .res (.lit (.bool true))).value [] { args:=args,res:=some (.bool true),after:=args}=some (.bool (true==true)) from w_eq_bool (w_res rfl) w_lit) rfl
theorem attach_call {l:OpenLaw}{n:Nat}{q:Program}{loose:List Str}{XP:(Str->Option Value)->Heap->Prop}{YP:World->Heap->Prop}{d:DefRec}
  (hn:l.most=some n) (hdf:d.params.defaults=[])
  (call:∀(w:World) (s₀ s₁:Shared) (mg mb:Str->Option Value) (fa:Addr) (o:Obj) (pm cd doc:Value) (a:Addr) (vs:List Value) (ns:List Int),
   Ground q loose [] XP w s₀ mg mb s₁.heap->YP w s₁.heap ->
   s₁.heap.get? fa=some o->o.data=.func (docDef d.name d.params d.body d.scope pm cd doc)->s₁.heap.CodeRec cd d.name->mg d.name=some (.ref fa) ->
   s₁.heap.get? a=some { cls:=.type "list",data:=.seq vs.toArray}->IntsAre vs ns->ns.length<=n->s₁.gens=#[] ->
   codeAny (model l.prog w) callerA (.call (.ref fa) ⟨[.ref a],[]⟩) (fun r s'=>r=.ok (.ret (.bool true))/\OldK s₁.heap s'.heap/\s'.os=s₁.os/\AllBare s'.gens) s₁) :
  WalkO q loose XP YP l.row.toRowW d [] (fun f vs=>PySem.call f vs):=by
 intro w s₀ s₁ mg mb G Y fa o pm cd doc dV kV ho hd hcd hD hmg hg args vals as hpre hlay hrd hwl hlo;obtain rfl:dV=.none:=Dflts.none hD hdf;obtain rfl:kV=.none:=Dflts.noKw hD;obtain⟨a,vs,ns,rfl,rfl,hobj,hints,hlen⟩:=yo hn hpre hwl;refine enter_call (codeAny_mono (call w s₀ s₁ mg mb fa o pm cd doc a vs ns G Y ho (fd_plain hd) hcd hmg hobj hints hlen hg) fun r s' hq=>?_);obtain⟨rfl,h2,h3,h4⟩:=hq;exact⟨.inl ⟨.bool true,.bool true,[],rfl,fun _=>rfl,.bool true,yp l _,fun _=>⟨List.Pairwise.nil,fun _ hm=>(nomatch hm)⟩⟩,h2,h3,h4⟩
section
variable {prog:Program}{w:World}{A:Around}{E:Value->Shared->Prop}{s:Shared}{K:Frag}
def ledger (h : Heap) (L d : Addr) : List (Addr × Obj):=(List.range h.objs.size).filterMap fun a => if a = L \/ a = d then none else (h.get? a).map fun o => (a,o)
end
end Att
namespace L2
theorem nZ:∀{vs:List Value}{ns:List Int},IntsAre vs ns->Vals (ns.map V.int) vs
 |_,_,.nil=>.nil
 |_,_,.cons n t h=>.cons ⟨t,rfl⟩ (nZ h)
def Only (H:Hp):Prop:=∀b,H b=none\/∃o xs,H b=some (.frz o (.lst xs))
theorem zG {P:Program}{w:World}{K:Frag}{mg mb:Str->Option Value}{CX:CXT}{k:Nat}{fa a:Addr}{fd:FuncData}{x:Str}{sp:Sp}{s₁:Shared}{vs:List Value}{ns:List Int}
  (KX:K.In s₁.heap) (hns:s₁.heap.Ns mainGlobals mg) (hb:s₁.heap.Ns builtinsNs mb) (hbb:∀x:Str,x≠"__name__"->mb x=bootBuiltins x) (hlim:s₁.heap.NoLimit) (hg:s₁.gens=#[])
  (ha:s₁.heap.get? a=some { cls:=.type "list",data:=.seq vs.toArray}) (hi:IntsAre vs ns) (hl:ns.length<=sizeLine) (hr:Room k callerA)
  (F:∀base:Heap,K.In base->base.Ns mainGlobals mg->FnOk P w K mg base CX k fa fd [x] sp) (hbind:∀(s:Shared) (u:Value),BindsTo s fd ⟨[u],[]⟩ [(x,u)])
  (hsp:∀H:Hp,Only H->SqL K H a (ns.map V.int)->sp [.ref a] H (fun v _=>v=.bl true) fun _ _ _=>False)
  (hCX:∀H e s',CX [] H s₁ (fun _ _ _=>False) e s'->False) :
  codeAny (model P w) callerA (.call (.ref fa) ⟨[.ref a],[]⟩) (fun r s'=>r=.ok (.ret (.bool true))/\OldK s₁.heap s'.heap/\s'.os=s₁.os/\AllBare s'.gens) s₁:=by
 have rv:=nZ hi;have lenV:=hi.length
 have core:∀H:Hp,Only H->SqL K H a (ns.map V.int)->HOk P w H s₁.heap->(∀b,H b≠none->b=a)->(H a≠none->K.lookup a=none) ->
   codeAny (model P w) callerA (.call (.ref fa) ⟨[.ref a],[]⟩) (fun r s'=>r=.ok (.ret (.bool true))/\OldK s₁.heap s'.heap/\s'.os=s₁.os/\AllBare s'.gens) s₁:=by
  intro H hO hS hok hA hK
  have base_of:∀{b:Addr} {o:Obj},s₁.heap.get? b=some o->H b=none->(oX s₁.heap H).get? b=some o:=fun e n=>yW e n
  have noA:∀{b:Addr} {o:Obj} {es:Array DictEntry} {ep:Nat},s₁.heap.get? b=some o->o.data=.dict es ep->H b=none:=fun {b o es ep} e d=>by
   cases q:H b with
   |none=>rfl
   |some u =>
    have e':b=a:=hA b (by rw[q];simp)
    subst e'
    rw[ha] at e;cases e
    have d':Data.seq vs.toArray _=Data.dict es ep:=d
    cases d'
  have nsK:∀{b:Addr} {m:Str->Option Value},s₁.heap.Ns b m->(oX s₁.heap H).Ns b m:=fun {b m} ⟨o,es,ep,e,d,r⟩=>⟨o,es,ep,base_of e (noA e d),d,r⟩
  have hKb:K.In (oX s₁.heap H):=fun b o e=>base_of (KX b o e) (by
   cases q:H b with
   |none=>rfl
   |some u =>
    have e':b=a:=hA b (by rw[q];simp)
    subst e'
    rw[hK (by rw[q];simp)] at e;cases e)
  have hM:Mod K mg (oX s₁.heap H):=⟨hKb,nsK hns,⟨mb,nsK hb,hbb⟩,let ⟨mc,h1,h2⟩:=hlim;⟨mc,nsK h1,h2⟩⟩
  have e0:Env0 P w K mg (oX s₁.heap H) callerA [] s₁ H:=⟨rfl,hM,fun b o e=>DX e,Nat.le_of_eq (xT _ _),trivial,fun b hb=>absurd (show b∈([]:List Addr) from hb) (by simp),hok,.of_eq hg⟩
  refine codeAny_mono ((F _ hKb (nsK hns)).run callerA [] s₁ H ⟨[.ref a],[]⟩ [.ref a] [.ref a] _ _ hr e0 (hbind s₁ (.ref a)) (.cons rfl .nil) (hsp H hO hS)) fun r s' h=>?_
  cases r with
  |error e=>exact (hCX H e s' h).elim
  |ok fl =>
   cases fl with
   |next=>exact False.elim h
   |brk=>exact False.elim h
   |cont=>exact False.elim h
   |ret u =>
    obtain⟨v,H',os,bare,un,hok',r',q⟩:=h
    have q':v=.bl true:=q
    subst q'
    obtain rfl:u=Value.bool true:=r'
    refine⟨rfl,OldK.of_keep fun b o e=>?_,os,bare⟩
    cases q:H b with
    |none=>exact un.keep b o e q (by intro z;exact absurd (show b∈([]:List Addr) from z) (by simp)) (by simp)
    |some u =>
     rcases hO b with z | ⟨ob,xs,z⟩
     ·
      rw[q] at z;cases z
     ·
      have z2:=un.frzs b ob _ z
      obtain⟨e1,_⟩:=hok b _ z
      obtain⟨e2,_⟩:=hok' b _ z2
      rw[e] at e1;cases e1
      exact e2
 cases hk:K.lookup a with
 |some o =>
  have e:=KX a o hk
  rw[ha] at e
  cases e
  refine core (fun _=>none) (fun _=>.inl rfl) (.inr ⟨_,vs.toArray,_,hk,rfl,rfl,rfl,by rw[k_,lenV];exact hl,by simpa using rv⟩) (fun b u z=>by have z':(none:Option HO)=some u:=z;cases z') (fun b z=>absurd rfl z) fun z=>absurd rfl z
 |none =>
 refine core (fun b=>if b=a then some (.frz { cls:=.type "list",data:=.seq vs.toArray} (.lst (ns.map V.int))) else none) (fun b=>?_) (.inl (.inr ⟨{ cls:=.type "list",data:=.seq vs.toArray},if_pos rfl⟩)) (fun b u z=>?_) (fun b z=>?_) fun _=>hk
 ·by_cases hb:b=a
  ·exact .inr ⟨_,_,if_pos hb⟩
  exact .inl (if_neg hb)
 ·by_cases hb:b=a
  ·have z':=(if_pos hb).symm.trans z;cases z';subst hb;exact⟨ha,by rw[b_];exact hl,vs,_,rv,ha⟩
  have z':=(if_neg hb).symm.trans z;cases z'
 by_cases hb:b=a
 ·exact hb
 exact absurd (if_neg hb) z
abbrev KOf {K:Frag}{h:Heap}(_:K.In h):Frag:=K
theorem walk_of {l:PySem.W.OpenLaw}{n k:Nat}{q:Program}{loose:List Str}{XP:(Str->Option Value)->Heap->Prop}{YP:World->Heap->Prop}{d:DefRec}{K:Params->Frag}{CX:World->CXT}{sp:World->Sp}{x:Str}
  (hn:l.most=some n) (hn2:n<=sizeLine) (hdf:d.params.defaults=[]) (hr:Room k callerA)
  (hY:∀(w:World) (h:Heap),YP w h->(K w.params).In h)
  (F:∀(w:World) (mg:Str->Option Value) (fa:Addr) (h:Heap),(K w.params).In h->h.Ns mainGlobals mg->mg d.name=some (.ref fa) ->
   ∃fd:FuncData,(∀(s:Shared) (u:Value),BindsTo s fd ⟨[u],[]⟩ [(x,u)]) /\
    ∀base:Heap,(K w.params).In base->base.Ns mainGlobals mg->FnOk l.prog w (K w.params) mg base (CX w) k fa fd [x] (sp w))
  (hsp:∀(w:World) (H:Hp) (a:Addr) (ns:List Int),ns.length<=n->Only H->SqL (K w.params) H a (ns.map V.int)->sp w [.ref a] H (fun v _=>v=.bl true) fun _ _ _=>False)
  (hCX:∀(w:World) (H:Hp) (s:Shared) (e:Value) (s':Shared),CX w [] H s (fun _ _ _=>False) e s'->False) :
  PySem.W.WalkO q loose XP YP l.row.toRowW d [] (fun f vs=>PySem.call f vs):=by
 refine Att.attach_call hn hdf fun w s₀ s₁ mg mb fa o pm cd doc a vs ns G Y ho hd hcd hmg hobj hints hlen hg=>?_;have KX:=hY w _ Y;obtain⟨fd,hb,hF⟩:=F w mg fa _ KX G.T.g hmg;exact zG KX G.T.g G.T.b G.T.builtins G.T.nolimit hg hobj hints (J_ hlen hn2) hr hF hb (fun H hO hS=>hsp w H a ns hlen hO hS) fun H e s'=>hCX w H s₁ e s'
end L2
/- THE LAST THEOREM (shape;LID,My.* are yours):
  My.Adr: a structure of the addresses that your layer names (classes,functions);My.Txt K t: a structure (Prop) of the equations over K;
  My.txt_mk:{K} {implicit addresses ..} (e1:nsIn K mainGlobals "law"=some (some (.ref f))) (e2:K.lookup f=some ⟨oc,od,.func (fnOf "law" "law" params body scope dV kV doc pm an cdv ct),sl⟩) (e3:codeIn K cdv "law"=true) .. : ∃t,My.Txt K t
set_option maxRecDepth 100000 in
set_option maxHeartbeats 0 in
theorem PySem.Challenge.cw_LID_holds : PySem.Challenge.rw_LID.Holds := by
 w_on;o_law;k_head;(case hw=>w_witness2)
 k_fill
 refine L2.walk_of (l:=PySem.Challenge.rw_LID) (n:=63) (k:=40) (x:="script") (CX:=fun w=>..) (sp:=fun _=>My.sp_law) rfl (by decide) rfl ⟨rfl,by decide,by decide⟩ (fun w h Y=>PySem.W.kIn_of Y) ?F ?S ?C
 case F =>
  intro w mg fa h KX G hmg
  have T:∃t,My.Txt (L2.KOf KX) t:=by
   dsimp only[L2.KOf]                          -- K must stand as «<heap const> w.params» for k_is
   refine' My.txt_mk ?e1 ?e2 ?e3 ..
   (case e1=>PySem.W.k_is)                    -- in the order: a name->its address->its object->its parts
   (case e2=>PySem.W.k_is)
   ..
  obtain⟨t,T⟩:=T
  have e0:=hmg.symm.trans (mg_of KX G T.law)
  cases e0                                       -- fa is the law's own address
  exact⟨_,fun s u=>.of_eq rfl,fun base kb nb=>My.law_fn T kb nb⟩     -- if «.of_eq rfl» comes too early: refine'⟨_,?b,fun base kb nb=>My.law_fn T kb nb⟩;exact fun s u=>.of_eq rfl
 case S=>exact fun w H a ns hl hO hS=>..
 case C=>exact ..
(the tactic k_is has no namespace: write k_is) -/
namespace L2
abbrev CX0:CXT:=fun _ _ _ _ _ _=>False
abbrev E0:XK:=fun _ _ _=>False
theorem zH {X:Cx}:jJ CX0 X E0:=fun _ _ _ _ _ _ _ h=>h.elim
structure Fun (K:Frag) (x qual:Str) (st:Stmt) (f:Addr) (fd:FuncData):Prop where
 ex:∃(oc:Value) (od:Option Addr) (kV doc pm:Value) (an:Option Addr) (cdv ct:Value) (osl:Array (Option Value)),
  fd=fnOf x qual (cA st) (bV st) (aB st) .none kV doc pm an cdv ct/\K.lookup f=some ⟨oc,od,.func fd,osl⟩/\codeIn K cdv qual=true
 kp:keepIn K (.ref f)=true
section
variable {P:Program}{w:World}{K:Frag}{mg:Str->Option Value}{base:Heap}
theorem Fun.ok {x qual:Str}{st:Stmt}{f:Addr}{fd:FuncData}{N ps:List Str}{k:Nat}{sp:Sp}(F:Fun K x qual st f fd) (S:FnScope N ps (aB st)) (len:∀vs H Q E,sp vs H Q E->vs.length=ps.length)
  (hbody:∀(cdv:Value) (A:Around) (outer:List Env) (s:Shared) (H:Hp) (vs:List V) (Q:VK) (E:XK),Room k (A.deeper (envOfC qual (aB st) s.heap.objs.size f cdv))->sp vs H Q E ->
   ∃t,PSs (t6 CX0 P w K mg base N qual (aB st) f cdv A outer s H E).nox (bV st) t/\t { nx:=fun _ H'=>Q .non H',rt:=Q} (start N vs) H):FnOk P w K mg base CX0 (k+1) f fd ps sp:=by
 obtain⟨oc,od,kV,doc,pm,an,cdv,ct,osl,rfl,lk,hcd⟩:=F.ex;refine Rf lk hcd S len fun A outer s H vs Q E hr hsp=>?_;obtain⟨t,h,q⟩:=hbody cdv A outer s H vs Q E hr hsp;exact⟨t,h.nox,q⟩
theorem Fun.binds {x qual:Str}{st:Stmt}{f:Addr}{fd:FuncData}{ps:List Str}(F:Fun K x qual st f fd)
  (h:∀(kV doc pm:Value) (an:Option Addr) (cdv ct:Value) (us:List Value),us.length=ps.length->bindArgs (fnOf x qual (cA st) (bV st) (aB st) .none kV doc pm an cdv ct) ⟨us,[]⟩=pure (ps.zip us)):Binds K fd ps []:=by
 obtain⟨oc,od,kV,doc,pm,an,cdv,ct,osl,rfl,lk,hcd⟩:=F.ex;exact .all (h kV doc pm an cdv ct)
theorem ph {x qual:Str}{st:Stmt}{f:Addr}{oc:Value}{od an:Option Addr}{osl:Array (Option Value)}{kV doc pm cdv ct:Value}(l:K.lookup f=some ⟨oc,od,.func (fnOf x qual (cA st) (bV st) (aB st) .none kV doc pm an cdv ct),osl⟩)
  (c:codeIn K cdv qual=true) (k:keepIn K (.ref f)=true):Fun K x qual st f (fnOf x qual (cA st) (bV st) (aB st) .none kV doc pm an cdv ct):=⟨⟨oc,od,kV,doc,pm,an,cdv,ct,osl,rfl,l,c⟩,k⟩
variable {X:Cx}
theorem pv (i:Nat) {x:Str}{pos:Pos}(hN:X.N[i]?=some x:=by rfl) (hv:Vis X.env.scope x:=by first | exact Or.inl rfl | exact Or.inr (Or.inl rfl) | exact Or.inr (Or.inr rfl)) (hd:(x==("__debug__":Str))=false:=by decide)
  (hcd:(x==("__classdict__":Str))=false:=by decide):PE X (.Name x pos) (QB i):=Ko hN hv hd hcd
end
theorem Wx {A B:Prop}(h:B):if false=true then A else B:=by
 rw[if_neg u_];exact h
theorem Wy {A B:Prop}(h:A):if true=true then A else B:=by
 rw[if_pos rfl];exact h
section
variable {κ:Type} [DecidableEq κ]
theorem kI:∀{l:List κ}{k:κ},l.Nodup->¬k∈l->(l++[k]).Nodup
 |[],k,_,_=>by simp
 |a::r,k,h,hk=>by
  obtain⟨h1,h2⟩:=Xl.mp h
  show (a::(r++[k])).Nodup
  refine Xl.mpr ⟨fun m=>?_,kI h2 fun m=>hk (l_.mpr (Or.inr m))⟩
  rcases E_.mp m with q | q
  ·
   exact h1 q
  ·
   exact hk (l_.mpr (Or.inl (g_.mp q).symm))
end
theorem jW {F:Str × NameKind->Str × NameKind}(hF:∀p,(F p).1=p.1) {x:Str}{k:NameKind}:∀{names:List (Str × NameKind)},names.lookup x=some k->(names.map F).lookup x=some (F (x,k)).2
 |[],h=>by cases h
 | (m,q)::r,h=>by
  have hm:=hF (m,q)
  rw[D_,show F (m,q)=(m,(F (m,q)).2) from Prod.ext hm rfl]
  by_cases e:x=m
  ·
   subst e
   rw[List.lookup_cons_self] at h ⊢
   cases h
   rfl
  ·
   have eb:(x==m)=false:=XQ.mpr e
   simp only[List.lookup,eb] at h ⊢
   exact jW hF h
theorem iT {env:Env}{x:Str}{names:List (Str × NameKind)}(h:names.lookup x=some .free) :
  (names.map fun (n,k)=>if (k==NameKind.free&&env.scope.kind==.function&&env.kindOf n==some .cell) then (n,NameKind.cell) else (n,k)).lookup x=some .cell \/
  (names.map fun (n,k)=>if (k==NameKind.free&&env.scope.kind==.function&&env.kindOf n==some .cell) then (n,NameKind.cell) else (n,k)).lookup x=some .free:=by
 rw[jW (F:=fun (n,k)=>if (k==NameKind.free&&env.scope.kind==.function&&env.kindOf n==some .cell) then (n,NameKind.cell) else (n,k)) (fun p=>by dsimp only;split <;> rfl) h];dsimp only;split
 ·exact .inl rfl
 exact .inr rfl
theorem lG {scope:Scope}{env:Env}(h:∀y∈scope.names,y.2=.free->∃c,env.cells.lookup y.1=some c) :
  ∃cl,closureFor scope env=pure cl/\(∀x c,cl.lookup x=some c->env.cells.lookup x=some c)/\∀y∈scope.names,y.2=.free->∃c,cl.lookup y.1=some c:=by
 have key:∀(names:List (Str × NameKind)) (cs:List (Str × Addr)),(∀y∈names,y.2=.free->∃c,env.cells.lookup y.1=some c)->(∀x c,cs.lookup x=some c->env.cells.lookup x=some c) ->
   ∃cl:List (Str × Addr),(forIn names cs (fun (x:Str × NameKind) (r:List (Str × Addr))=>(do
    if x.2==.free then do
     let a <- cellOf env x.1
     pure (ForInStep.yield ((x.1,a)::r))
    else pure (ForInStep.yield r):Sem (ForInStep (List (Str × Addr))))):Sem (List (Str × Addr)))=pure cl/\(∀x c,cl.lookup x=some c->env.cells.lookup x=some c) /\
    (∀x c,cs.lookup x=some c->∃c',cl.lookup x=some c')/\∀y∈names,y.2=.free->∃c,cl.lookup y.1=some c:=by
  intro names
  induction names with
  |nil=>intro cs _ hc;exact⟨cs,rfl,hc,fun x c e=>⟨c,e⟩,fun y hy=>nomatch hy⟩
  |cons y r ih =>
   intro cs hn hc
   obtain⟨n,k⟩:=y
   by_cases hk:k=.free
   ·
    subst hk
    obtain⟨c,ec⟩:=hn (n,.free) i_ rfl
    have hcell:cellOf env n=pure c:=by unfold cellOf;rw[ec]
    obtain⟨cl,e,h1,h2,h3⟩:=ih ((n,c)::cs) (fun y hy=>hn y (n_ _ hy)) (fun x c' q=>by
     simp only[X4] at q
     cases hx:x==n with
     |true=>rw[hx] at q;cases q;rw[eq_of_beq hx];exact ec
     |false=>rw[hx] at q;exact hc x c' q)
    refine⟨cl,?_,h1,fun x c' q=>?_,fun y hy hf=>?_⟩
    ·
     rw[List.forIn_cons]
     show ((if (NameKind.free==NameKind.free)=true then (cellOf env n >>= fun a=>pure (ForInStep.yield ((n,a)::cs))) else pure (ForInStep.yield cs)) >>= _)=_
     rw[hcell]
     exact e
    ·
     cases hx:x==n with
     |true=>exact h2 x c (by simp only[X4,hx])
     |false=>exact h2 x c' (by simp only[X4,hx];exact q)
    ·
     rcases l_.mp hy with rfl | hy
     ·
      exact h2 n c (by simp [X4])
     ·
      exact h3 y hy hf
   ·
    obtain⟨cl,e,h1,h2,h3⟩:=ih cs (fun y hy=>hn y (n_ _ hy)) hc
    have hb:(k==NameKind.free)=false:=by simpa using hk
    refine⟨cl,?_,h1,h2,fun y hy hf=>?_⟩
    ·
     rw[List.forIn_cons]
     show ((if (k==NameKind.free)=true then (cellOf env n >>= fun a=>pure (ForInStep.yield ((n,a)::cs))) else pure (ForInStep.yield cs)) >>= _)=_
     rw[hb]
     exact e
    ·
     rcases l_.mp hy with rfl | hy
     ·
      exact absurd hf hk
     ·
      exact h3 y hy hf
 obtain⟨cl,e,h1,_,h3⟩:=key scope.names [] h (fun x c q=>by simp at q);refine⟨cl,?_,h1,h3⟩;unfold closureFor;exact T_ (fun m=>m >>= fun r=>pure r) e
def bM (X:Cx) (N':List Str) (scope:Scope) (cl:List (Str × Addr)) (pins:List (Addr × Obj)) (s:Shared) (H:Hp) (C:Addr) (fp:List Addr):Cx where
 prog:=X.prog
 w:=X.w
 K:=X.K
 mg:=X.mg
 base:=X.base
 A:=X.A
 N:=N'
 s₀:=s
 H₀:=H
 env:=compEnvC scope cl C X.env
 outer:=X.stack
 stack:=X.stack
 ex:=fp
 fn:=fun x=>scope.names.lookup x==some .cell
 calm:=X.calm
 pn:=X.pn++pins
 xe:=fun _ _=>False
def PIf (X:Cx) (ifs:List Expr) (t:TT):Prop :=
 ∀(pins:List (Addr × Obj)) (s:Shared) (Z:St) (H:Hp) (Q:Bool->Hp->Prop),Inv X pins Z H s->t Z H Q ->
  wpAny (model X.prog X.w) X.A (forIn ifs true fun c r=>if r=true then do let ok <- isTrue c X.env (eval c X.env);pure (ForInStep.yield ok) else pure (ForInStep.yield r)) (TP X pins Z Q) X.xe s
def Wz:TT:=fun _ H Q=>Q true H
theorem Fj {X:Cx}:PIf X [] Wz:=fun _ _ _ H _ I h=>wpAny_tests_nil ⟨H,I,h⟩
theorem Fl {X:Cx}{c:Expr}{t:TT}(h:PT X c t):PIf X [c] t:=fun pins s Z H Q I hq=>wpAny_tests_one (h pins s Z H Q I hq)
section
variable {prog:Program}{w:World}{A:Around}{R:Result->Shared->Prop}{s:Shared}
theorem pA {elt target iter:Expr}{ifs:List Expr}{scope:Scope}{pos:Pos}{it acc:Value}{env:Env}(I:Nat->Shared->Prop)
  (turn:∀n s,I n s->wpAny (model prog w) A (pyNext it) (fun r s₁=>match r with | .none=>R (.ok .next) s₁ | .some v=>wpAny (model prog w) A (letOwnedTupleGo target it v) (fun _ s₁'=>wpAny (model prog w) A (assign target env v) (fun _ s₂=>wpAny (model prog w) A (forIn ifs true fun c r=>if r=true then do let ok <- isTrue c env (eval c env);pure (ForInStep.yield ok) else pure (ForInStep.yield r)) (fun ok s₃=>if ok=true then wpAny (model prog w) A (eval elt env) (fun x s₄=>wpAny (model prog w) A (call (.builtin "list.append") [acc,x]) (fun _ s₅=>∃m,m<n/\I m s₅) (fun _ _=>False) s₄) (fun _ _=>False) s₃ else ∃m,m<n/\I m s₃) (fun _ _=>False) s₂) (fun _ _=>False) s₁') (fun _ _=>False) s₁) (fun _ _=>False) s)
  (n:Nat) (h:I n s):codeAny (model prog w) A (.compLoop (.ListComp elt [⟨target,iter,ifs,0⟩] scope pos) 0 it acc env) R s:=by
 refine codeAny_loop rfl I (fun j s₀ hI=>?_) n h;show wpAny _ A ((compTurn (.ListComp elt [⟨target,iter,ifs,0⟩] scope pos) 0 it acc env).onRaise (fun x=>do noteFrame x env;theTreesLotGoes x)) _ _ s₀;refine wpAny_noted ?_;rw[compTurn_list];refine v_ (wpAny_standAt (v_ (XR (turn j s₀ hI) (fun r s₁ h₁=>?_) fun _ _ h'=>h'.elim)));cases r with
 |none=>exact O_ h₁
 |some v =>
 refine v_ (XR h₁ (fun _ s₁' h₁'=>?_) fun _ _ h'=>h'.elim);refine v_ (XR h₁' (fun _ s₂ h₂=>v_ (XR h₂ (fun ok s₃ h₃=>?_) fun _ _ h'=>h'.elim)) fun _ _ h'=>h'.elim);cases ok with
 |false=>exact (O_ (And.intro rfl h₃))
 |true =>
 exact v_ (v_ (XR h₃ (fun x s₄ h₄=>v_ (XR h₄ (fun _ s₅ h₅=>O_ (O_ ⟨rfl,h₅⟩)) fun _ _ h'=>h'.elim)) fun _ _ h'=>h'.elim))
end
def vU (J:It) (g:TG) (tt:TT) (te:TE) (fin:List V->Hp->Prop) (Z₀:St) (H₁:Hp):Prop :=
 ∃W:Nat->Nat->List V->St->Hp->Prop,(∃m,W 0 m [] Z₀ H₁)/\∀i m ys Z H,W i m ys Z H ->
  (J.stop i H/\ys.length<=sizeLine/\fin ys H) \/
  (J.go i H/\∀x H',J.yld i H x H'->g x Z H' fun Z2 H2=>tt Z2 H2 fun b H3=>if b=true then te Z2 H3 fun y H4=>ys.length<sizeLine/\∃m',m'<m/\W (i+1) m' (ys++[y]) Z2 H4 else ∃m',m'<m/\W (i+1) m' ys Z2 H3)
def m7 (nt:Nat) (cap:List Nat) (Z:St):St:=List.replicate nt none++cap.map fun j=>(Z[j]?).getD none
structure CompSc (X:Cx) (N':List Str) (nt:Nat) (cap:List Nat) (scope:Scope):Prop where
 kind:scope.kind=.function
 cells:∀y∈scope.names,y.2=.cell->scope.names.lookup y.1=some .cell
 names:∀x∈scope.names,x.2=.local->scope.names.lookup x.1=some .local
 free:∀y∈scope.names,y.2=.free->X.env.kindOf y.1=some .cell\/X.env.kindOf y.1=some .free
 len:N'.length=nt+cap.length
 caps:∀(j:Nat) (x:Str),N'[nt+j]?=some x->∃i,cap[j]?=some i/\X.N[i]?=some x/\scope.names.lookup x=some .free
theorem j8 {l:Addr}{its:List Value}{n:Nat}{u:Value}{P:Program}{w:World}{A:Around}{E:Value->Shared->Prop}{s:Shared}{Q:Value->Shared->Prop}
  (e:s.heap.get? l=some { cls:=.type "list",data:=.seq its.toArray n}) (hz:its.length<sizeLine)
  (h:∀h' n',h'.get? l=some { cls:=.type "list",data:=.seq (its++[u]).toArray n'}->(∀b o,b≠l->s.heap.get? b=some o->h'.get? b=some o)->Q .none { s with heap:=h'}) :
  wpAny (model P w) A (call (.builtin "list.append") [.ref l,u]) Q E s:=by
 refine Y7 F.slot_list_append ⟨_,e,rfl⟩ F.entry_list_append (F.args_list_append_2 _ _) (list_append l its.toArray n u (by rw[k_];omega)) ⟨e,?_⟩;have q:=PySem.IsL.update e (·.push u);rw[List.push_toArray] at q;exact h _ _ q (fun b o hb hu=>(Heap.get?_update_other s.heap _ (Ne.symm hb)).trans hu)
theorem bO:∀(names:List (Str × NameKind)) (n:Nat) (acc:List (Str × Addr)),cellsFrom n names acc=cellsFrom n names []++acc
 |[],_,_=>rfl
 | (x,k)::r,n,acc=>by
  unfold cellsFrom
  split
  ·
   rw[bO r (n+1) ((x,n)::acc),bO r (n+1) [(x,n)],Xn]
   rfl
  ·
   exact bO r n acc
theorem dB {α:Type}(x:Str):∀(l m:List (Str × α)),(l++m).lookup x=(l.lookup x).or (m.lookup x)
 |[],_=>rfl
 | (y,v)::r,m=>by
  rw[YB,X4,X4,dB x r m]
  cases x==y <;> rfl
theorem f9 {names:List (Str × NameKind)}{n:Nat}{cl:List (Str × Addr)}{x:Str}{c:Addr}(h:(cellsFrom n names cl).lookup x=some c):(cellsFrom n names []).lookup x=some c\/((cellsFrom n names []).lookup x=none/\cl.lookup x=some c):=by
 rw[bO,dB] at h;cases e:(cellsFrom n names []).lookup x with
 |some d=>rw[e] at h;exact .inl h
 |none=>rw[e] at h;exact .inr ⟨rfl,h⟩
theorem iZ {x:Str}{c:Addr}:∀{names:List (Str × NameKind)}{n:Nat}{acc:List (Str × Addr)},(x,c)∈cellsFrom n names acc->(x,NameKind.cell)∈names\/(x,c)∈acc
 |[],_,_,h=>.inr h
 | (y,k)::r,n,acc,h=>by
  unfold cellsFrom at h
  split at h
  ·
   rename_i hk
   rcases iZ h with q | q
   ·
    exact .inl (n_ _ q)
   ·
    rcases l_.mp q with q | q
    ·
     cases q
     have:k=.cell:=by simpa using hk
     subst this
     exact .inl i_
    ·
     exact .inr q
  ·
   rcases iZ h with q | q
   ·
    exact .inl (n_ _ q)
   ·
    exact .inr q
theorem Fo {M:Model}{A:Around}{E:Value->Shared->Prop}{s:Shared}{scope:Scope}{globals:Addr}{closure:List (Str × Addr)}{qual:Str}{env:Env}{Q:Env->Shared->Prop}
  (hQ:Q (newEnv scope s.heap.objs.size globals (cellsFrom (s.heap.objs.size+1) scope.names closure) qual none .none (some env) builtinsNs) { s with heap:=pushCells (s.heap.push { cls:=.type "dict",data:=.dict #[]}) scope.names}) :
  wpAny M A (newFunctionEnv scope globals closure [] qual none .none (some env)) Q E s:=by
 simp only[newFunctionEnv,Option.isSome_some,if_true];refine v_ (wpAny_alloc ?_);refine v_ (wpAny_layCells _ (fun name kind cells=>by cases hkc:kind==NameKind.cell <;> simp [hkc]) _ _ _ _ ?_);rw[show ({ s with heap:=s.heap.push { cls:=.type "dict",data:=.dict #[]}}:Shared).heap.objs.size=s.heap.objs.size+1 from Zf ..];refine v_ ?_;rw[List.forIn_nil];exact O_ (O_ hQ)
theorem zJ {X:Cx}{pins:List (Addr × Obj)}{Z:St}{H:Hp}{s:Shared}{N':List Str}{nt:Nat}{cap:List Nat}{scope:Scope}{cl:List (Str × Addr)}{fp:List Addr}{h':Heap}{C:Addr}{tk:Nat}{pl:List (Addr × Obj)}
  (S:CompSc X N' nt cap scope) (I:Inv X pins Z H s) (hcl:∀x c,cl.lookup x=some c->X.env.cells.lookup x=some c) (hclh:∀y∈scope.names,y.2=.free->∃c,cl.lookup y.1=some c)
  (hf:∀b∈fp,mZ X pins H b) (hfl:∀b∈fp,b<s.heap.objs.size) (hC:s.heap.objs.size<C) (hn:h'.Ns C fun _=>none) (hk:∀b o,s.heap.get? b=some o->h'.get? b=some o)
  (hp:∀p∈pl,h'.get? p.1=some p.2/\s.heap.objs.size=p.1/\∀v,p.2.data≠.cell v) (hcc:CellsOk h' (C+1) (cellsFrom (C+1) scope.names [])) :
  Inv (bM X N' scope (cellsFrom (C+1) scope.names cl) pins s H C fp) pl (m7 nt cap Z) H { s with heap:=h',toks:=tk}:=by
 have two:∀x c,(cellsFrom (C+1) scope.names cl).lookup x=some c->(C+1<=c/\(cellsFrom (C+1) scope.names []).lookup x=some c)\/X.env.cells.lookup x=some c:=fun x c e=>by
  rcases f9 e with q | q
  ·exact .inl ⟨(hcc.empty x c (mem_of_lookup q)).2,q⟩
  exact .inr (hcl x c q.2)
 have low:∀x c,X.env.cells.lookup x=some c->c<s.heap.objs.size:=fun x c e=>by obtain⟨v,q⟩:=I.cell x c e;exact q.lt
 have hok:(bM X N' scope (cellsFrom (C+1) scope.names cl) pins s H C fp).Ok:=by
  refine⟨I.ok.mod,S.kind,I.ok.glob,I.ok.blt,Yl hC,fun x y c e1 e2=>?_,fun x hx=>?_,fun x c z e=>?_,I.ok.hd,I.ok.frames,.inl rfl,fun b hb=>?_,I.bs,J_ I.ok.bsz I.sz,fun b o e hb=>?_,fun b hb z=>?_,I.stack,I.stkFree⟩
  ·rcases two x c e1 with ⟨q1,p1⟩ | q1
   ·rcases two y c e2 with ⟨q2,p2⟩ | q2
    ·exact name_of_addr hcc.apart (mem_of_lookup p1) (mem_of_lookup p2)
    exact absurd (U_ (YK (Zm (low y c q2) hC)) q1) (X3 _)
   rcases two y c e2 with ⟨q2,p2⟩ | q2
   ·exact absurd (U_ (YK (Zm (low x c q1) hC)) q2) (X3 _)
   exact I.ok.inj x y c q1 q2
  ·have hx':(relabel scope X.env).names.lookup x=some .cell\/(relabel scope X.env).names.lookup x=some .free:=hx;have hm:∃k,(x,k)∈(relabel scope X.env).names/\(k=.cell\/k=.free):=by
    rcases hx' with z | z
    ·exact⟨_,mem_of_lookup z,.inl rfl⟩
    exact⟨_,mem_of_lookup z,.inr rfl⟩
   obtain⟨k,hm,hk⟩:=hm;obtain⟨⟨n,k0⟩,hm0,e⟩:=x_.mp hm;have e':(if (k0==NameKind.free&&X.env.scope.kind==.function&&X.env.kindOf n==some .cell)=true then (n,NameKind.cell) else (n,k0))=(x,k):=e;by_cases hk0:k0=.free
   ·subst hk0;have en:n=x:=by split at e' <;> exact T_ Prod.fst e'
    subst en;obtain⟨c,ec⟩:=hclh (n,.free) hm0 rfl;show ∃c,(cellsFrom (C+1) scope.names cl).lookup n=some c;rw[bO,dB,ec];cases (cellsFrom (C+1) scope.names []).lookup n with
    |none=>exact⟨c,rfl⟩
    |some d=>exact⟨d,rfl⟩
   have hb:(k0==NameKind.free)=false:=by simpa using hk0
   rw[hb] at e';simp only[Yn,H_,Xh] at e';cases e';rcases hk with rfl | rfl
   ·obtain⟨c,ec⟩:=jk (n:=C+1) (S.cells _ hm0 rfl);refine⟨c,?_⟩;show (cellsFrom (C+1) scope.names cl).lookup _=some c;rw[bO,dB,ec];rfl
   exact absurd rfl hk0
  ·have z':scope.names.lookup x=some .cell:=by simpa [bM] using z
   obtain⟨d,ed⟩:=jk (n:=C+1) z';have e':(cellsFrom (C+1) scope.names cl).lookup x=some c:=e;rw[bO,dB,ed] at e';cases e';have:=(hcc.empty x _ (mem_of_lookup ed)).2;show s.heap.objs.size<=_;omega
  ·obtain⟨f0,f1,f2,f3,f4,f5⟩:=hf b hb;refine⟨fun z=>absurd (hfl b hb) (ZC.mpr (by rw[show b=C from z];exact Yl hC)),fun x c e=>?_⟩;rcases two x c e with ⟨q,_⟩ | q
   ·intro z;rw[z] at q;exact absurd (U_ (YK (Zm (hfl b hb) hC)) q) (X3 _)
   exact f4 x c q
  ·obtain⟨f0,f1,f2,f3,f4,f5⟩:=hf b hb;rcases f3 with q | q
   ·exact I.ok.noex b o e q
   exact absurd (K_ (I.ok.bs b o e).1) (ZC.mpr q)
  obtain⟨f0,f1,f2,f3,f4,f5⟩:=hf b hb;rcases l_.mp (I.stkSub b z) with q | q
  ·exact f1 q
  exact f2 q
 obtain⟨m,hnm,hl⟩:=id I.loc;refine⟨hok,rfl,I.bare,Un.kept hk,⟨_,hn,fun i x v e1 e2 e3=>?_⟩,fun x c e=>?_,I.hok.fresh (Yl hC),fun x c e=>?_,fun p hp'=>?_,I.hok.kept hk,?_⟩
 ·-- a name of the block: one that it takes from around
  unfold m7 at e2;by_cases hi:i<nt
  ·rw[Xj (by simpa using hi),YZ] at e2;split at e2 <;> cases e2
  obtain⟨j,rfl⟩:∃j,i=nt+j:=⟨i - nt,by omega⟩;obtain⟨k,ck,hN,hfree⟩:=S.caps j x e1;rw[F_ (by simp),Za,Nat.add_sub_cancel_left,y_,ck] at e2;have e2':(Z[k]?).getD none=some v:=G_ e2;have e2'':Z[k]?=some (some v):=by
   cases q:Z[k]? with
   |none=>rw[q] at e2';cases e2'
   |some z=>rw[q] at e2';exact T_ some e2'
  have hkd:=S.free (x,.free) (mem_of_lookup hfree) rfl;obtain⟨u,ru,lk⟩:=hl k x v hN e2'' (.inr hkd);refine⟨u,ru,.inr ⟨iT hfree,?_⟩⟩;rcases lk with ⟨kl,_⟩ | ⟨_,c,hc,hcell⟩
  ·rcases hkd with z | z <;> (rw[kl] at z;cases z)
  obtain⟨c',hc'⟩:=hclh (x,.free) (mem_of_lookup hfree) rfl;have e:=hcl x c' hc';rw[hc] at e;cases e;obtain⟨o,ho,hd⟩:=hcell;refine⟨c,?_,o,hk _ _ ho,hd⟩;show (cellsFrom (C+1) scope.names cl).lookup x=some c;rw[bO,dB];cases q:(cellsFrom (C+1) scope.names []).lookup x with
  |none=>exact hc'
  |some d =>
  rcases iZ (mem_of_lookup q) with z | z
  ·have:=S.cells _ z rfl;rw[hfree] at this;cases this
  cases z
 ·rcases two x c e with ⟨_,q⟩ | q
  ·exact⟨none,(hcc.empty x c (mem_of_lookup q)).1⟩
  obtain⟨v,o,ho,hd⟩:=I.cell x c q;exact⟨v,o,hk _ _ ho,hd⟩
 ·rcases two x c e with ⟨q,_⟩ | q
  ·exact I.hok.fresh (Yl (U_ (YK hC) q))
  exact I.freeC x c q
 ·rcases E_.mp hp' with z | z
  ·obtain⟨e,n,n1,n2,d⟩:=I.pin p z;refine⟨hk _ _ e,n,fun q=>?_,fun q=>?_,d⟩
   ·exact absurd (K_ e) (ZC.mpr (by rw[show p.1=C from q];exact Yl hC))
   rcases l_.mp (I.stkSub p.1 q) with q | q
   ·exact n1 q
   exact n2 q
  obtain⟨e,n,d⟩:=hp p z;refine⟨e,I.hok.fresh (by omega),fun q=>?_,fun q=>?_,d⟩
  ·exact absurd (n.trans (show p.1=C from q)) (Xm hC)
  have:=I.stkSub p.1 q;rcases l_.mp this with q | q
  ·exact absurd I.lt (ZC.mpr (by rw[<- q,n];exact o_ _))
  exact I.nofs (by omega) q
 unfold m7;show _=N'.length;rw[a_,Za,b_,S.len]
theorem HOk.track {P:Program}{w:World}{H:Hp}{h h':Heap}{a C:Addr}{o:HO}(x:HOk P w H h) (hn:H a=none) (hC:H C=none) (k:∀b u,b≠C->h.get? b=some u->h'.get? b=some u) (new:ObjOk P w (upd H a o) h' a o):HOk P w (upd H a o) h':=fun b u e=>by
 by_cases hb:b=a
 ·subst hb;rw[bU] at e;cases e;exact new
 rw[aV hb] at e;have nC:∀c z,H c=some z->c≠C:=fun c z q r=>by rw[r,hC] at q;cases q
 refine (x b u e).stay (fun c v hc q=>k c v ?_ q) (fun c q=>by rw[aV (cu q hn)];exact q) fun c xs q=>by rw[aV (cu q hn)];exact q
 rcases hc with rfl | hc
 ·exact nC c u e
 exact nC c _ hc
theorem qR {X:Cx}{pins:List (Addr × Obj)}{Z:St}{H₂:Hp}{s₂:Shared}{N':List Str}{nt:Nat}{cap:List Nat}{scope:Scope}{cl:List (Str × Addr)}{elt tg iter:Expr}{ifs:List Expr}{pos:Pos}{g:TG}{tt:TT}{te:TE}
  {it:Addr} {fp:List Addr} {tn:Nat->Heap->Prop} {J:It} {fin:List V->Hp->Prop} {E:Value->Shared->Prop} {RR:Value->Addr->Result->Shared->Prop}
  (hc:X.calm=true) (S:CompSc X N' nt cap scope) (hcl:∀x c,cl.lookup x=some c->X.env.cells.lookup x=some c) (hclh:∀y∈scope.names,y.2=.free->∃c,cl.lookup y.1=some c)
  (hX:∀cl pins s H C fp,PG (bM X N' scope cl pins s H C fp) tg g/\PIf (bM X N' scope cl pins s H C fp) ifs tt/\PE (bM X N' scope cl pins s H C fp) elt te)
  (I:Inv X pins Z H₂ s₂) (T:Turn X.prog X.w X.K tg J fp it tn) (st:tn 0 s₂.heap) (hf:∀b∈fp,mZ X pins H₂ b) (hw:vU J g tt te fin (m7 nt cap Z) H₂)
  (hRR:∀(D C:Addr) (s₄:Shared) (m:Str->Option Value) (ys:List V) (H':Hp),s₄.heap.Ns C m->s₂.heap.objs.size<=D->s₂.heap.objs.size<=C->C≠D->H' D=none->H' C=none->ys.length<=sizeLine->fin ys H' ->
   (∀h',(∀b o,b≠C->s₄.heap.get? b=some o->h'.get? b=some o)->Inv X pins Z (upd H' D (.lst ys)) { s₄ with heap:=h'})->RR (.ref D) C (.ok .next) s₄) :
  wpAny (model X.prog X.w) X.A (newList []) (fun acc s₃=>wpAny (model X.prog X.w) X.A (newFunctionEnv scope X.env.globals cl [] X.env.qual none .none (some X.env)) (fun cenv s₄ =>
   codeAny (model X.prog X.w) X.A (.compStart (.ListComp elt [⟨tg,iter,ifs,0⟩] scope pos) 0 (.ref it) acc { cenv with scope:=relabel scope X.env}) (RR acc cenv.locals) s₄) E s₃) E s₂:=by
 refine Zc (Fo ?_);dsimp only;generalize hH2:s₂.heap.push { cls:=.type "list",dict:=none,data:=.seq ([]:List Value).toArray}=B;generalize hD:s₂.heap.objs.size=D;have hB:B.objs.size=D+1:=by rw[<- hH2,Zf,hD]
 have hcc0:CellsOk (pushCells (B.push { cls:=.type "dict",data:=.dict #[]}) scope.names) (B.objs.size+1) (cellsFrom (B.objs.size+1) scope.names []):=by have:=cellsFrom_ok scope.names (B.push { cls:=.type "dict",data:=.dict #[]}) (B.objs.size+1) [] ⟨fun _ _ hm=>(nomatch hm),List.Pairwise.nil⟩ (by rw[Zf];exact o_ _);rw[Zf] at this;exact this
 have hns₁:(pushCells (B.push { cls:=.type "dict",data:=.dict #[]}) scope.names).Ns B.objs.size fun _=>none:=(Heap.Ns.new B (.type "dict")).keeps (pushCells_keeps _ _);have kp₁:∀b o,B.get? b=some o->(pushCells (B.push { cls:=.type "dict",data:=.dict #[]}) scope.names).get? b=some o:=fun b o e=>pushCells_keeps _ _ b o (j_ _ e);generalize hCe:B.objs.size=C at hns₁ hcc0 ⊢;generalize pushCells (B.push { cls:=.type "dict",data:=.dict #[]}) scope.names=h₁ at hns₁ hcc0 kp₁ ⊢;have hCD:C=D+1:=hCe.symm.trans hB;have hDC:D≠C:=by rw[hCD];exact Xm (Zk _)
 have hDlt:s₂.heap.objs.size<C:=by rw[hD,hCD];exact Zk _
 have below:∀b o,s₂.heap.get? b=some o->b≠C/\b≠D:=fun b o e=>by have:=K_ e;rw[hD] at this;exact⟨by rw[hCD];exact Xm (YK this),Xm this⟩
 have old:∀b o,s₂.heap.get? b=some o->h₁.get? b=some o:=fun b o e=>kp₁ b o (hH2▸j_ _ e);have hacc:h₁.get? D=some { cls:=.type "list",data:=.seq ([]:List Value).toArray 0}:=kp₁ _ _ (hH2▸hD▸Q_ _ rfl);have hst₁:tn 0 h₁:=T.keep _ _ _ st fun b hb o e=>old b o e;have hfl:∀b∈fp,b<s₂.heap.objs.size:=fun b hb=>by obtain⟨o,e,_⟩:=T.obj _ _ st b hb;exact K_ e
 obtain⟨W,⟨m0,w0⟩,turn⟩:=hw;obtain⟨hg,hi,he⟩:=hX (cellsFrom (C+1) scope.names cl) pins s₂ H₂ C fp;have stat:∀{H':Hp} {k:Nat} {its:List Value},(∀b∈fp,H' b=none)->∀b∈fp,mZ (bM X N' scope (cellsFrom (C+1) scope.names cl) pins s₂ H₂ C fp) [(D,{ cls:=.type "list",data:=.seq its.toArray k})] H' b:=fun {H' k its} hn b hb=>by
  obtain⟨f0,f1,f2,f3,f4,f5⟩:=hf b hb;have hlt:=hfl b hb;refine⟨hn b hb,fun z=>?_,fun z=>?_,.inl hb,fun x c e=>?_,fun p hp=>?_⟩
  ·rw[show b=C from z] at hlt;exact absurd hlt (ZC.mpr (Yl hDlt))
  ·rcases l_.mp (I.stkSub b z) with q | q
   ·exact f1 q
   exact f2 q
  ·rcases f9 e with q | q
   ·have:=(hcc0.empty x c (mem_of_lookup q)).2;intro z;rw[z] at this;exact absurd (U_ (YK (Zm hlt hDlt)) this) (X3 _)
   exact f4 x c (hcl x c q.2)
  rcases E_.mp hp with z | z
  ·exact f5 p z
  rw[g_.mp z];intro e;rw[<- (show D=b from e),hD] at hlt;exact X3 _ hlt
 have loop:∀s₃:Shared,s₃={ s₂ with heap:=h₁}->codeAny (model X.prog X.w) X.A (.compLoop (.ListComp elt [⟨tg,iter,ifs,0⟩] scope pos) 0 (.ref it) (.ref D) (compEnvC scope (cellsFrom (C+1) scope.names cl) C X.env)) (RR (.ref D) C) s₃:=by
  rintro s₃ rfl;refine pA (fun n s'=>∃i ys its k Z' H',Inv (bM X N' scope (cellsFrom (C+1) scope.names cl) pins s₂ H₂ C fp) [(D,{ cls:=.type "list",data:=.seq its.toArray k})] Z' H' s'/\Vals ys its/\tn i s'.heap/\(∀b∈fp,H' b=none)/\W i n ys Z' H'/\ys.length<=sizeLine) ?_ m0
   ⟨0,[],[],0,m7 nt cap Z,H₂,zJ (tk:=s₂.toks) S I hcl hclh hf hfl hDlt hns₁ old (fun p hp=>?_) hcc0,.nil,hst₁,fun b hb=>(hf b hb).1,w0,X8 _⟩
  ·rintro n s3 ⟨i,ys,its,k,Z3,H3,I3,rv,st3,fr3,w3,hz⟩;have pD:=I3.pin (D,{ cls:=.type "list",data:=.seq its.toArray k}) (V_ _ (g_.mpr rfl));rcases turn i n ys Z3 H3 w3 with ⟨stop,hz',hfin⟩ | ⟨go,step⟩
   ·refine thn (T.done (bM X N' scope (cellsFrom (C+1) scope.names cl) pins s₂ H₂ C fp) rfl rfl rfl hc i _ s3 Z3 H3 (fun _ _=>False) I3 (stat fr3) st3 stop) fun r s4 ⟨hr,I4⟩=>?_;subst hr;obtain⟨m4,hn4,_⟩:=I4.loc;have pD4:=I4.pin (D,{ cls:=.type "list",data:=.seq its.toArray k}) (V_ _ (g_.mpr rfl));refine hRR D C s4 m4 ys H3 hn4 (by rw[hD];exact o_ _) (Yl hDlt) (Ne.symm hDC) pD4.2.1 I4.free hz' hfin fun h' k'=>?_;have nD:∀b u,H3 b=some u->b≠D:=fun b u e z=>by rw[z,pD4.2.1] at e;cases e
    have nDs:∀b o,s₂.heap.get? b=some o->b≠D/\b≠C:=fun b o e=>⟨(below b o e).2,(below b o e).1⟩;have B4:=I4.base;refine I.call' (s':={ s4 with heap:=h'}) (ch:=fp) I4.os ⟨fun b o e n hb hx=>k' b o (nDs b o e).2 (B4.keep b o e n hb hx),fun b o e n hb hx=>?_,fun b o e n hx=>?_,fun b o e hx=>?_,fun b xs e=>?_,fun b o u e=>?_,fun b ps e=>?_⟩ ?_ I4.bare fun b hb=>?_
    ·obtain⟨sl,q⟩:=B4.slot b o e n hb hx;exact⟨sl,k' b _ (nDs b o e).2 q⟩
    ·rw[aV (nDs b o e).1];exact B4.free b o e n hx
    ·obtain⟨o',q⟩:=B4.there b o e hx;exact⟨o',k' b _ (nDs b o e).2 q⟩
    ·have q:=B4.tups b xs e;rw[aV (nD _ _ q)];exact q
    ·have q:=B4.frzs b o u e;rw[aV (nD _ _ q)];exact q
    ·obtain⟨more,q⟩:=B4.tbls b ps e;exact⟨more,by rw[aV (nD _ _ q)];exact q⟩
    ·exact I4.hok.track pD4.2.1 I4.free k' ⟨hz',its,k,rv,k' D _ hDC pD4.1⟩
    obtain⟨f0,f1,f2,f3,f4,f5⟩:=hf b hb;exact⟨f3,f1,f4,f5⟩
   refine thn (T.item (bM X N' scope (cellsFrom (C+1) scope.names cl) pins s₂ H₂ C fp) rfl rfl rfl hc i _ s3 Z3 H3 (fun _ _=>False) I3 (stat fr3) st3 go) fun r s4 ⟨u,hr,h4⟩=>?_;subst hr;refine thn h4 fun _ s5 ⟨x,H5,I5,r5,y5,st5,fr5⟩=>?_;have I5':=I5.pinned (stat fr5) (T.obj _ _ st5);refine thn (hg _ s5 Z3 H5 x u _ I5' r5 (step x H5 y5)) fun _ s6 ⟨Z6,H6,I6,q6⟩=>?_;refine thn (hi _ s6 Z6 H6 _ I6 q6) fun ok s7 ⟨H7,I7,q7⟩=>?_;have back:∀{Z8:St} {H8:Hp} {s8:Shared},Inv (bM X N' scope (cellsFrom (C+1) scope.names cl) pins s₂ H₂ C fp) ([(D,{ cls:=.type "list",data:=.seq its.toArray k})]++lA fp s5.heap) Z8 H8 s8->tn (i+1) s8.heap/\∀b∈fp,H8 b=none:=fun {Z8 H8 s8} I8 =>
    ⟨T.keep _ _ _ st5 fun b hb o e=>(I8.pin (b,o) (V_ _ (V_ _ (fW hb e)))).1,fun b hb=>by
     obtain⟨o,e,d⟩:=T.obj _ _ st5 b hb
     exact (I8.pin (b,o) (V_ _ (V_ _ (fW hb e)))).2.1⟩
   cases ok with
   |false=>rw[if_neg u_] at q7 ⊢;obtain⟨m',hm,w7⟩:=q7;exact⟨m',hm,i+1,ys,its,k,Z6,H7,I7.unpinned,rv,(back I7).1,(back I7).2,w7,hz⟩
   |true =>
   rw[if_pos rfl] at q7 ⊢;refine thn (he _ s7 Z6 H7 _ I7 q7) fun uy s8 ⟨y,H8,I8,ry,hz8,m',hm,w8⟩=>?_;have pD8:=I8.pin (D,{ cls:=.type "list",data:=.seq its.toArray k}) (V_ _ (Xx _ (g_.mpr rfl)));have hl:=rv.length;refine j8 pD8.1 (by omega) fun h' k' e' kk=>?_;have I9:Inv (bM X N' scope (cellsFrom (C+1) scope.names cl) pins s₂ H₂ C fp) [] Z6 H8 { s8 with heap:=h'}:=by
    refine Inv.turned (t':=s8.toks) (it:=D) (I8.pins_of (pins':=[]) (fun p hp=>nomatch hp)) (fun b o hb e=>kk b o hb e) pD8.2.1 pD8.2.2.1 (.inr (by show s₂.heap.objs.size<=D;rw[hD];exact o_ _)) (fun x c e z=>?_) (fun p hp z=>?_)
    ·rcases f9 e with q | q
     ·have:=(hcc0.empty x c (mem_of_lookup q)).2;rw[z,hCD] at this;omega
     obtain⟨v,q⟩:=I.cell x c (hcl x c q.2);have:=q.lt;rw[z,hD] at this;exact X3 _ this
    rw[I_] at hp;have:=K_ (I.pin p hp).1;rw[z,hD] at this;exact X3 _ this
   refine⟨m',hm,i+1,ys++[y],its++[uy],k',Z6,H8,I9.pins_of fun p hp=>?_,rv.append (.cons ry .nil),?_,(back I8).2,w8,?_⟩
   ·rw[g_.mp hp];exact⟨e',pD8.2.1,pD8.2.2.1,pD8.2.2.2.1,fun v z=>by cases z⟩
   ·refine T.keep _ _ _ (back I8).1 fun b hb o e=>kk b o (fun z=>?_) e;have:=hfl b hb;rw[z,hD] at this;exact X3 _ this
   rw[a_,q_];omega
  rw[g_.mp hp];exact⟨hacc,hD,fun v z=>by cases z⟩
 exact codeAny_compStart_list (loop _ rfl) (T.self _ 0 _ _ _ hst₁ (loop _ rfl))
def Ru (wi:TI) (g:TG) (tt:TT) (te:TE) (nt:Nat) (cap:List Nat):TE:=fun Z H Q=>wi Z H fun J H1=>vU J g tt te (fun ys H'=>∀p,H' p=none->Q (.ref p) (upd H' p (.lst ys))) (m7 nt cap Z) H1
theorem Fp {X:Cx}{N':List Str}{nt:Nat}{cap:List Nat}{scope:Scope}{elt tg iter:Expr}{ifs:List Expr}{pos:Pos}{wi:TI}{g:TG}{tt:TT}{te:TE}(hc:X.calm=true) (S:CompSc X N' nt cap scope) (hi:PI X tg iter wi)
  (hX:∀cl pins s H C fp,PG (bM X N' scope cl pins s H C fp) tg g/\PIf (bM X N' scope cl pins s H C fp) ifs tt/\PE (bM X N' scope cl pins s H C fp) elt te)
  (hs:∀x,foldedSetIterable iter X.env x=pure x:=by intro _;rfl):PE X (.ListComp elt [⟨tg,iter,ifs,0⟩] scope pos) (Ru wi g tt te nt cap):=by
 intro pins s Z H Q I h;rw[eval_ListComp];obtain⟨cl,hclos,hcl,hclh⟩:=lG (scope:=scope) (env:=X.env) fun y hy hf=>I.ok.has y.1 (S.free y hy hf);refine wpAny_comprehension_free (use:=none) rfl hs hclos S.kind S.names (thn (hi pins s Z H _ I h) fun v s1 h1=>thn h1 fun itv s2 h2=>?_);obtain⟨it,fp,tn,J,H2,rfl,I2,T,st2,f2,hw⟩:=h2;refine qR (RR:=fun acc C=>compPost (model X.prog X.w) X.A X.xe none (EP X pins Z Q) acc C) hc S hcl hclh hX I2 T st2 f2 hw fun D C s4 m ys H' hn hD hC hDC nD nC hz hfin k=>?_;refine⟨m,hn,fun h' hs'=>?_⟩;exact⟨.ref D,_,k h' fun b o hb e=>hs'.extBut b o hb e,rfl,hfin D nD⟩
def zK (wi:TI) (g:TG) (tt:TT) (te:TE) (nt:Nat) (cap:List Nat) (i:Nat):TS:=fun D Z H=>wi Z H fun J H1=>vU J g tt te (fun ys H'=>∀p,H' p=none->D.nx (Z.set i (some (.ref p))) (upd H' p (.lst ys))) (m7 nt cap Z) H1
theorem Fq {X:Cx}{N':List Str}{nt:Nat}{cap:List Nat}{scope:Scope}{elt tg iter:Expr}{ifs:List Expr}{pos pos' spos:Pos}{wi:TI}{g:TG}{tt:TT}{te:TE}{i:Nat}{x:Str}(hc:X.calm=true) (hN:X.N.Nodup) (hi':X.N[i]?=some x) (hx:Loc X.env.scope x) (S:CompSc X N' nt cap scope) (hi:PI X tg iter wi)
  (hX:∀cl pins s H C fp,PG (bM X N' scope cl pins s H C fp) tg g/\PIf (bM X N' scope cl pins s H C fp) ifs tt/\PE (bM X N' scope cl pins s H C fp) elt te)
  (hsw:swapsWith (.ListComp elt [⟨tg,iter,ifs,0⟩] scope pos) (some (.Name x pos')) spos.line X.env=pure true:=by rfl)
  (hs:∀x,foldedSetIterable iter X.env x=pure x:=by intro _;rfl) (hf:X.fn x=true\/X.env.scope.names.lookup x=some .local:=by first | exact .inl rfl | exact .inr rfl | assumption) :
  PS X (.Assign [.Name x pos'] (.ListComp elt [⟨tg,iter,ifs,0⟩] scope pos) spos) (zK wi g tt te nt cap i):=by
 intro pins s Z H Dn I h;rw[exec_Assign_Name_used _ _ _ _ hsw];obtain⟨cl,hclos,hcl,hclh⟩:=lG (scope:=scope) (env:=X.env) fun y hy hf=>I.ok.has y.1 (S.free y hy hf);refine v_ (wpAny_standAt (v_ ?_));show wpAny _ X.A (do let _ <- comprehension (.ListComp elt [⟨tg,iter,ifs,0⟩] scope pos) scope X.env _ (newList []) false (eval iter X.env) (some (assign (.Name x pos') X.env))) _ _ s;refine v_ (XR (wpAny_comprehension_free (use:=some (assign (.Name x pos') X.env)) (Q:=fun _ s'=>SP X pins Dn .next s') rfl hs hclos S.kind S.names
  (thn (hi pins s Z H _ I h) fun v s1 h1=>thn h1 fun itv s2 h2=>?_)) (fun _ s' hq=>O_ (O_ hq)) fun _ _ e=>e)
 obtain⟨it,fp,tn,J,H2,rfl,I2,T,st2,f2,hw⟩:=h2;refine qR (RR:=fun acc C=>compPost (model X.prog X.w) X.A X.xe (some (assign (.Name x pos') X.env)) (fun _ s'=>SP X pins Dn .next s') acc C) hc S hcl hclh hX I2 T st2 f2 hw fun D C s4 m ys H' hn hD hC hDC nD nC hz hfin k=>?_;show wpAny _ X.A (assign (.Name x pos') X.env (.ref D)) _ _ s4;have I4:=k s4.heap fun b o _ e=>e;have nCL:C≠X.env.locals:=fun z=>by have:=I2.lt;rw[<- z] at this;exact absurd this (ZC.mpr hC)
 have nCc:∀y c,X.env.cells.lookup y=some c->c≠C:=fun y c e z=>by obtain⟨v,q⟩:=I2.cell y c e;have:=q.lt;rw[z] at this;exact absurd this (ZC.mpr hC)
 refine wpAny_assign_Name (nJ I4 hN hi' hx (show RelV (.ref D) (.ref D) from rfl) (fun s5 I5 ⟨a,sb,ha⟩=>?_) hf);have nCa:C≠a:=by
  rcases ha with rfl | ha
  ·exact nCL
  exact fun z=>nCc x a ha z.symm
 refine⟨m,hn.sameBut sb nCa,fun h' hs'=>⟨_,_,Inv.turned (t':=s5.toks) (it:=C) I5 (fun b o hb e=>hs'.extBut b o hb e) (by rw[aV hDC];exact nC) nCL (.inr (J_ I2.sz hC)) nCc (fun p hp z=>?_),hfin D nD⟩⟩;have:=K_ (I2.pin p hp).1;rw[z] at this;exact absurd this (ZC.mpr hC)
def exP (e C:Addr) (d:Option Addr) (rd:Bool) (h:Heap):Prop:=∃vs sl,h.get? e=some ⟨.ref C,d,.fields vs,sl⟩/\(rd=true->vs[1]?=some .none)
def exO (e C:Addr) (d:Option Addr) (rd:Bool):HO:=.ext (exP e C d rd)
def dxP (dx:Addr) (fs:List (Str × V)) (h:Heap):Prop:=∃mA,h.Ns1 dx mA/\(∀f,RelO (fs.lookup f) (mA f))/\PySem.Within mA (fs.map (·.1))
def dxO (dx:Addr) (fs:List (Str × V)):HO:=.ext (dxP dx fs)
section
variable {P:Program}{w:World}{H:Hp}{h:Heap}{e C dx:Addr}{d:Option Addr}{rd:Bool}{fs:List (Str × V)}
theorem exP.at {h1 h2:Heap}(x:exP e C d rd h1) (k:∀o,h1.get? e=some o->h2.get? e=some o):exP e C d rd h2:=let ⟨vs,sl,a,b⟩:=x;⟨vs,sl,k _ a,b⟩
theorem dxP.at {h1 h2:Heap}(x:dxP dx fs h1) (k:∀o,h1.get? dx=some o->h2.get? dx=some o):dxP dx fs h2:=let ⟨mA,a,b⟩:=x;⟨mA,a.at k,b⟩
theorem exO.ok (x:exP e C d rd h):ObjOk P w H h e (exO e C d rd):=⟨x,let ⟨_,_,a,_⟩:=x;⟨_,a⟩,fun _ _ y k=>y.at k⟩
theorem dxO.ok (x:dxP dx fs h):ObjOk P w H h dx (dxO dx fs):=⟨x,let ⟨_,⟨_,_,_,a,_⟩,_⟩:=x;⟨_,a⟩,fun _ _ y k=>y.at k⟩
theorem exO.of (x:HOk P w H h) (q:H e=some (exO e C d rd)):exP e C d rd h:=(x e _ q).1
theorem dxO.of (x:HOk P w H h) (q:H dx=some (dxO dx fs)):dxP dx fs h:=(x dx _ q).1
end
end L2
set_option maxHeartbeats 1000000
namespace L3
open L2
inductive T where
 |non | bl (b:Bool) | int (i:Int) | str (x:Str) | tup (ts:List T) | ref (a:Addr) | ty (n:String)
mutual
def Rep (K:Frag) (H:Hp):T->V->Prop
 |.non,v=>v=.non
 |.bl b,v=>v=.bl b
 |.int i,v=>v=.int i
 |.str x,v=>v=.str x
 |.tup ts,v=>∃a xs,v=.ref a/\SqT K H a xs/\Reps K H ts xs
 |.ref a,v=>v=.ref a
 |.ty n,v=>v=.ty n
def Reps (K:Frag) (H:Hp):List T->List V->Prop
 |[],xs=>xs=[]
 |t::ts,xs=>∃x r,xs=x::r/\Rep K H t x/\Reps K H ts r
end
def TupLe (K:Frag) (H H':Hp):Prop:=∀a xs,SqT K H a xs->SqT K H' a xs
theorem TupLe.refl {K:Frag}{H:Hp}:TupLe K H H:=fun _ _ h=>h
theorem TupLe.trans {K:Frag}{H H1 H2:Hp}(a:TupLe K H H1) (b:TupLe K H1 H2):TupLe K H H2:=fun c xs h=>b c xs (a c xs h)
mutual
theorem Rep.mono {K:Frag}{H H':Hp}(le:TupLe K H H'):∀{t:T}{v:V},Rep K H t v->Rep K H' t v
 |.non,_,h=>by simp only[Rep] at h ⊢;exact h
 |.bl _,_,h=>by simp only[Rep] at h ⊢;exact h
 |.int _,_,h=>by simp only[Rep] at h ⊢;exact h
 |.str _,_,h=>by simp only[Rep] at h ⊢;exact h
 |.ref _,_,h=>by simp only[Rep] at h ⊢;exact h
 |.ty _,_,h=>by simp only[Rep] at h ⊢;exact h
 |.tup ts,_,h=>by
  simp only[Rep] at h ⊢
  obtain⟨a,xs,e,s,r⟩:=h
  exact⟨a,xs,e,le a xs s,Reps.mono le r⟩
theorem Reps.mono {K:Frag}{H H':Hp}(le:TupLe K H H'):∀{ts:List T}{xs:List V},Reps K H ts xs->Reps K H' ts xs
 |[],_,h=>by simp only[Reps] at h ⊢;exact h
 |t::ts,_,h=>by
  simp only[Reps] at h ⊢
  obtain⟨x,r,e,a,b⟩:=h
  exact⟨x,r,e,Rep.mono le a,Reps.mono le b⟩
end
section
variable {K:Frag}{H:Hp}
theorem Reps.nil:Reps K H [] []:=by simp only[Reps]
theorem Reps.cons {t:T}{v:V}{ts:List T}{vs:List V}(a:Rep K H t v) (b:Reps K H ts vs):Reps K H (t::ts) (v::vs):=by simp only[Reps];exact⟨v,vs,rfl,a,b⟩
theorem Reps.inv {t:T}{ts:List T}{vs:List V}(h:Reps K H (t::ts) vs):∃v r,vs=v::r/\Rep K H t v/\Reps K H ts r:=by simp only[Reps] at h;exact h
theorem Reps.inv0 {vs:List V}(h:Reps K H [] vs):vs=[]:=by simp only[Reps] at h;exact h
theorem Reps.length:∀{ts:List T}{vs:List V},Reps K H ts vs->ts.length=vs.length
 |[],_,h=>by rw[h.inv0];rfl
 |t::ts,_,h=>by obtain⟨v,r,rfl,_,b⟩:=h.inv;simp [Reps.length b]
theorem Reps.get:∀{ts:List T}{vs:List V}{i:Nat}{t:T},Reps K H ts vs->ts[i]?=some t->∃v,vs[i]?=some v/\Rep K H t v
 |[],_,_,_,_,e=>by simp at e
 |a::ts,_,0,t,h,e=>by obtain⟨v,r,rfl,q,_⟩:=h.inv;simp at e;subst e;exact⟨v,rfl,q⟩
 |a::ts,_,i+1,t,h,e=>by obtain⟨v,r,rfl,_,b⟩:=h.inv;simpa using Reps.get b (by simpa using e)
theorem Reps.get':∀{ts:List T}{vs:List V}{i:Nat}{v:V},Reps K H ts vs->vs[i]?=some v->∃t,ts[i]?=some t/\Rep K H t v
 |[],_,_,_,h,e=>by rw[h.inv0] at e;simp at e
 |a::ts,_,0,v,h,e=>by obtain⟨x,r,rfl,q,_⟩:=h.inv;simp at e;subst e;exact⟨a,rfl,q⟩
 |a::ts,_,i+1,v,h,e=>by obtain⟨x,r,rfl,_,b⟩:=h.inv;simpa using Reps.get' b (by simpa using e)
theorem Reps.append:∀{ts us:List T}{xs ys:List V},Reps K H ts xs->Reps K H us ys->Reps K H (ts++us) (xs++ys)
 |[],_,_,_,h,h'=>by rw[h.inv0];exact h'
 |t::ts,_,_,_,h,h'=>by obtain⟨v,r,rfl,a,b⟩:=h.inv;exact .cons a (Reps.append b h')
theorem Reps.take:∀{ts:List T}{xs:List V}(n:Nat),Reps K H ts xs->Reps K H (ts.take n) (xs.take n)
 |[],_,n,h=>by rw[h.inv0];simp only[List.take_nil];exact .nil
 |t::ts,_,0,h=>.nil
 |t::ts,_,n+1,h=>by obtain⟨v,r,rfl,a,b⟩:=h.inv;exact .cons a (Reps.take n b)
theorem Reps.drop:∀{ts:List T}{xs:List V}(n:Nat),Reps K H ts xs->Reps K H (ts.drop n) (xs.drop n)
 |[],_,n,h=>by rw[h.inv0];simp only[List.drop_nil];exact .nil
 |t::ts,_,0,h=>h
 |t::ts,_,n+1,h=>by obtain⟨v,r,rfl,a,b⟩:=h.inv;exact Reps.drop n b
theorem Reps.set:∀{ts:List T}{xs:List V}{t:T}{v:V}(n:Nat),Reps K H ts xs->Rep K H t v->Reps K H (ts.set n t) (xs.set n v)
 |[],_,_,_,n,h,r=>by rw[h.inv0];exact .nil
 |t::ts,_,_,_,0,h,q=>by obtain⟨v,r,rfl,a,b⟩:=h.inv;exact .cons q b
 |t::ts,_,_,_,n+1,h,q=>by obtain⟨v,r,rfl,a,b⟩:=h.inv;exact .cons a (Reps.set n b q)
theorem Reps.reverse {ts:List T}{xs:List V}(h:Reps K H ts xs):Reps K H ts.reverse xs.reverse:=by
 induction ts generalizing xs with
 |nil=>rw[h.inv0];exact .nil
 |cons t ts ih=>obtain⟨v,r,rfl,a,b⟩:=h.inv;simp only[List.reverse_cons];exact (ih b).append (.cons a .nil)
theorem Reps.eraseIdx:∀{ts:List T}{xs:List V}(n:Nat),Reps K H ts xs->Reps K H (ts.eraseIdx n) (xs.eraseIdx n)
 |[],_,n,h=>by rw[h.inv0];exact .nil
 |t::ts,_,0,h=>by obtain⟨v,r,rfl,a,b⟩:=h.inv;exact b
 |t::ts,_,n+1,h=>by obtain⟨v,r,rfl,a,b⟩:=h.inv;exact .cons a (Reps.eraseIdx n b)
theorem Rep.non {v:V}(h:Rep K H .non v):v=.non:=by simp only[Rep] at h;exact h
theorem Rep.bl {b:Bool}{v:V}(h:Rep K H (.bl b) v):v=.bl b:=by simp only[Rep] at h;exact h
theorem Rep.int {i:Int}{v:V}(h:Rep K H (.int i) v):v=.int i:=by simp only[Rep] at h;exact h
theorem Rep.str {x:Str}{v:V}(h:Rep K H (.str x) v):v=.str x:=by simp only[Rep] at h;exact h
theorem Rep.ref {a:Addr}{v:V}(h:Rep K H (.ref a) v):v=.ref a:=by simp only[Rep] at h;exact h
theorem Rep.ty {n:String}{v:V}(h:Rep K H (.ty n) v):v=.ty n:=by simp only[Rep] at h;exact h
theorem Rep.tup {ts:List T}{v:V}(h:Rep K H (.tup ts) v):∃a xs,v=.ref a/\SqT K H a xs/\Reps K H ts xs:=by simp only[Rep] at h;exact h
theorem Rep.ofNon:Rep K H .non .non:=by simp only[Rep]
theorem Rep.ofBl {b:Bool}:Rep K H (.bl b) (.bl b):=by simp only[Rep]
theorem Rep.ofInt {i:Int}:Rep K H (.int i) (.int i):=by simp only[Rep]
theorem Rep.ofStr {x:Str}:Rep K H (.str x) (.str x):=by simp only[Rep]
theorem Rep.ofRef {a:Addr}:Rep K H (.ref a) (.ref a):=by simp only[Rep]
theorem Rep.ofTy {n:String}:Rep K H (.ty n) (.ty n):=by simp only[Rep]
theorem Rep.ofTup {ts:List T}{a:Addr}{xs:List V}(h:SqT K H a xs) (r:Reps K H ts xs):Rep K H (.tup ts) (.ref a):=by simp only[Rep];exact⟨a,xs,rfl,h,r⟩
end
inductive O3 where
 |lst (ts:List T) | rol (ts:List T) | dct (kvs:List (Str × T)) | dcp (kvs:List (List Key × T))
 |exc (C dx:Addr) | xdt (fs:List (Str × T))
 |dci (kvs:List (Int × T)) | dif (o:Obj) (kvs:List (Int × T)) | ins (C:Addr) (fs:List (Str × T))
abbrev Hp3:=Addr->Option O3
def up3 (H:Hp3) (a:Addr) (o:O3):Hp3:=fun b=>if b=a then some o else H b
theorem aA {H:Hp3}{a:Addr}{o:O3}:up3 H a o a=some o:=by unfold up3;rw[if_pos rfl]
theorem aC {H:Hp3}{a b:Addr}{o:O3}(h:b≠a):up3 H a o b=H b:=by unfold up3;rw[if_neg h]
theorem vV {H:Hp3}{a:Addr}{o u:O3}:up3 (up3 H a o) a u=up3 H a u:=by funext b;unfold up3;split <;> rfl
def RepD (K:Frag) (H:Hp):List (Str × T)->List (Key × V)->Prop:=Paired fun (p:Str × T) (q:Key × V)=>q.1=Sum.inr p.1/\Rep K H p.2 q.2
def RepP (K:Frag) (H:Hp):List (List Key × T)->List (List Key × V)->Prop:=Paired fun (p:List Key × T) (q:List Key × V)=>q.1=p.1/\Rep K H p.2 q.2
def RepF (K:Frag) (H:Hp):List (Str × T)->List (Str × V)->Prop:=Paired fun (p:Str × T) (q:Str × V)=>q.1=p.1/\Rep K H p.2 q.2
def RepI (K:Frag) (H:Hp):List (Int × T)->List (Key × V)->Prop:=Paired fun (p:Int × T) (q:Key × V)=>q.1=Sum.inl p.1/\Rep K H p.2 q.2
def RepO (K:Frag) (H:Hp) (a:Addr):O3->Prop
 |.lst ts=>∃xs,H a=some (.lst xs)/\Reps K H ts xs
 |.rol ts=>∃xs,Rd H a (.lst xs)/\Reps K H ts xs
 |.dct kvs=>∃vs,H a=some (.dK vs)/\RepD K H kvs vs
 |.dcp kvs=>∃vs,H a=some (.dT vs)/\RepP K H kvs vs
 |.exc C dx=>H a=some (exO a C (some dx) false)
 |.xdt fs=>∃vs,H a=some (dxO a vs)/\RepF K H fs vs
 |.dci kvs=>∃vs,H a=some (.dK vs)/\RepI K H kvs vs
 |.dif o kvs=>∃vs,H a=some (.frz o (.dK vs))/\RepI K H kvs vs
 |.ins C fs=>∃dx vs,H a=some (.ins C dx vs)/\RepF K H fs vs
def SimH (K:Frag) (H3:Hp3) (H:Hp):Prop:=∀a o,H3 a=some o->RepO K H a o
abbrev St3:=List (Option T)
structure SimS (K:Frag) (H:Hp) (Z3:St3) (Z:L2.St):Prop where
 len:Z3.length=Z.length
 at':∀(i:Nat) (t:T),Z3[i]?=some (some t)->∃v,Z[i]?=some (some v)/\Rep K H t v
section
variable {K:Frag}{H H':Hp}{H3:Hp3}{Z3:St3}{Z:L2.St}
theorem SimS.mono (s:SimS K H Z3 Z) (le:TupLe K H H'):SimS K H' Z3 Z:=⟨s.len,fun i t e=>let ⟨v,e',r⟩:=s.at' i t e;⟨v,e',r.mono le⟩⟩
theorem SimS.set (s:SimS K H Z3 Z) {i:Nat}{t:T}{v:V}(r:Rep K H t v):SimS K H (Z3.set i (some t)) (Z.set i (some v)):=by
 refine⟨by simp [s.len],fun j u e=>?_⟩;by_cases hj:i=j
 ·subst hj;by_cases hl:i<Z3.length
  ·rw[Yd hl] at e;have e':t=u:=G_ (G_ e);subst e';exact⟨v,by rw[Yd (by rw[<- s.len];exact hl)],r⟩
  rw[W_ (by simpa using hl)] at e;cases e
 rw[Ym hj] at e;rw[Ym hj];exact s.at' j u e
theorem RepD.mono {kvs:List (Str × T)}{vs:List (Key × V)}(h:RepD K H kvs vs) (le:TupLe K H H'):RepD K H' kvs vs:=Paired.mapP h fun _ _ ⟨a,b⟩=>⟨a,b.mono le⟩
theorem RepF.mono {kvs:List (Str × T)}{vs:List (Str × V)}(h:RepF K H kvs vs) (le:TupLe K H H'):RepF K H' kvs vs:=Paired.mapP h fun _ _ ⟨a,b⟩=>⟨a,b.mono le⟩
theorem RepI.mono {kvs:List (Int × T)}{vs:List (Key × V)}(h:RepI K H kvs vs) (le:TupLe K H H'):RepI K H' kvs vs:=Paired.mapP h fun _ _ ⟨a,b⟩=>⟨a,b.mono le⟩
theorem RepP.mono {kvs:List (List Key × T)}{vs:List (List Key × V)}(h:RepP K H kvs vs) (le:TupLe K H H'):RepP K H' kvs vs:=Paired.mapP h fun _ _ ⟨a,b⟩=>⟨a,b.mono le⟩
theorem ne3 {a b:Addr}{o u:O3}(h:H3 a=some o) (h':H3 b=some u) (d:o≠u):a≠b:=by
 intro e;subst e;rw[h] at h';exact d (G_ h')
theorem aX {a b:Addr}{o:O3}(h:H3 a=some o) (h':H3 b=none):a≠b:=by
 intro e;subst e;rw[h] at h';cases h'
theorem aP {p:Addr}{o:HO}(hp:H p=none):TupLe K H (upd H p o):=fun a xs h=>by
 rcases h with (h | ⟨ob,h⟩) | h
 ·exact .inl (.inl (by rw[aV (cu h hp)];exact h))
 ·exact .inl (.inr ⟨ob,by rw[aV (cu h hp)];exact h⟩)
 exact .inr h
theorem bA {p:Addr}{o:HO}(hp:Mut (H p)):TupLe K H (upd H p o):=fun a xs h=>by
 have key:∀u,H a=some u->¬Mut (some u)->a≠p:=fun u e nm z=>by subst z;rw[e] at hp;exact nm hp
 rcases h with (h | ⟨ob,h⟩) | h
 ·exact .inl (.inl (by rw[aV (key _ h fun z=>z)];exact h))
 ·exact .inl (.inr ⟨ob,by rw[aV (key _ h fun z=>z)];exact h⟩)
 exact .inr h
theorem RepO.stay {a:Addr}{o:O3}(h:RepO K H a o) (le:TupLe K H H') (keep:∀u,H a=some u->H' a=some u):RepO K H' a o:=by
 cases o with
 |lst ts=>obtain⟨xs,e,r⟩:=h;exact⟨xs,keep _ e,r.mono le⟩
 |rol ts =>
  obtain⟨xs,e,r⟩:=h;refine⟨xs,?_,r.mono le⟩;rcases e with e | ⟨ob,e⟩
  ·exact .inl (keep _ e)
  exact .inr ⟨ob,keep _ e⟩
 |dct kvs=>obtain⟨vs,e,r⟩:=h;exact⟨vs,keep _ e,r.mono le⟩
 |dcp kvs=>obtain⟨vs,e,r⟩:=h;exact⟨vs,keep _ e,r.mono le⟩
 |exc C dx=>exact keep _ h
 |xdt fs=>obtain⟨vs,e,r⟩:=h;exact⟨vs,keep _ e,r.mono le⟩
 |dci kvs=>obtain⟨vs,e,r⟩:=h;exact⟨vs,keep _ e,r.mono le⟩
 |dif o kvs=>obtain⟨vs,e,r⟩:=h;exact⟨vs,keep _ e,r.mono le⟩
 |ins C fs=>obtain⟨dx,vs,e,r⟩:=h;exact⟨dx,vs,keep _ e,r.mono le⟩
theorem SimH.new {p:Addr}{o:HO}(s:SimH K H3 H) (hp:H p=none):SimH K H3 (upd H p o):=fun a u e =>
 (s a u e).stay (aP hp) fun w q=>by rw[aV (cu q hp)];exact q
theorem SimH.fresh {p:Addr}(s:SimH K H3 H) (hp:H p=none):H3 p=none:=by
 cases e:H3 p with
 |none=>rfl
 |some o =>
  have q:=s p o e
  cases o with
  |lst ts=>obtain⟨xs,z,_⟩:=q;rw[hp] at z;cases z
  |dct ts=>obtain⟨xs,z,_⟩:=q;rw[hp] at z;cases z
  |dcp ts=>obtain⟨xs,z,_⟩:=q;rw[hp] at z;cases z
  |exc C dx=>have z:H p=_:=q;rw[hp] at z;cases z
  |xdt ts=>obtain⟨xs,z,_⟩:=q;rw[hp] at z;cases z
  |dci ts=>obtain⟨xs,z,_⟩:=q;rw[hp] at z;cases z
  |dif o ts=>obtain⟨xs,z,_⟩:=q;rw[hp] at z;cases z
  |ins C ts=>obtain⟨dx,xs,z,_⟩:=q;rw[hp] at z;cases z
  |rol ts =>
   obtain⟨xs,z,_⟩:=q
   rcases z with z | ⟨ob,z⟩
   ·
    rw[hp] at z;cases z
   ·
    rw[hp] at z;cases z
end
abbrev VK3:=T->Hp3->Prop
abbrev TE3:=St3->Hp3->VK3->Prop
abbrev TT3:=St3->Hp3->(Bool->Hp3->Prop)->Prop
abbrev TA3:=St3->Hp3->(List T->Hp3->Prop)->Prop
structure Ends3 where
 nx:St3->Hp3->Prop
 rt:VK3
 bk:St3->Hp3->Prop:=fun _ _=>False
 ct:St3->Hp3->Prop:=fun _ _=>False
abbrev TS3:=Ends3->St3->Hp3->Prop
abbrev TG3:=T->St3->Hp3->(St3->Hp3->Prop)->Prop
abbrev m9:=List T->St3->Hp3->(St3->Hp3->Prop)->Prop
abbrev R3:=T->T->Hp3->VK3->Prop
section
variable (K:Frag)
def KV3 (H:Hp) (Q3:VK3) (Q:VK):Prop:=∀v H' t H3',TupLe K H H'->SimH K H3' H'->Rep K H' t v->Q3 t H3'->Q v H'
def KS3 (H:Hp) (N3:St3->Hp3->Prop) (N:L2.St->Hp->Prop):Prop:=∀Z' H' Z3' H3',TupLe K H H'->SimS K H' Z3' Z'->SimH K H3' H'->N3 Z3' H3'->N Z' H'
def lft (t3:TE3):TE:=fun Z H Q=>∃Z3 H3 Q3,SimS K H Z3 Z/\SimH K H3 H/\t3 Z3 H3 Q3/\KV3 K H Q3 Q
def yq (t3:TT3):TT:=fun Z H Q=>∃Z3 H3 Q3,SimS K H Z3 Z/\SimH K H3 H/\t3 Z3 H3 Q3/\∀b H' H3',TupLe K H H'->SimH K H3' H'->Q3 b H3'->Q b H'
def WD (t3:TA3):TA:=fun Z H Q=>∃Z3 H3 Q3,SimS K H Z3 Z/\SimH K H3 H/\t3 Z3 H3 Q3/\∀vs H' ts H3',TupLe K H H'->SimH K H3' H'->Reps K H' ts vs->Q3 ts H3'->Q vs H'
def Rv (t3:TS3):TS:=fun D Z H=>∃Z3 H3 D3,SimS K H Z3 Z/\SimH K H3 H/\t3 D3 Z3 H3/\KS3 K H D3.nx D.nx/\KV3 K H D3.rt D.rt/\KS3 K H D3.bk D.bk/\KS3 K H D3.ct D.ct
def Ft (t3:TG3):TG:=fun v Z H Q=>∃t Z3 H3 Q3,Rep K H t v/\SimS K H Z3 Z/\SimH K H3 H/\t3 t Z3 H3 Q3/\KS3 K H Q3 Q
def Rx (t3:m9):TGs:=fun vs Z H Q=>∃ts Z3 H3 Q3,Reps K H ts vs/\SimS K H Z3 Z/\SimH K H3 H/\t3 ts Z3 H3 Q3/\KS3 K H Q3 Q
def LQ (r3:R3):R2:=fun x y H Q=>∃tx ty H3 Q3,Rep K H tx x/\Rep K H ty y/\SimH K H3 H/\r3 tx ty H3 Q3/\KV3 K H Q3 Q
def WF (r3:List T->Hp3->VK3->Prop):List V->Hp->VK->Prop:=fun xs H Q=>∃ts H3 Q3,Reps K H ts xs/\SimH K H3 H/\r3 ts H3 Q3/\KV3 K H Q3 Q
def WK (r3:T->List T->Hp3->VK3->Prop):V->List V->Hp->VK->Prop:=fun x xs H Q=>∃tx ts H3 Q3,Rep K H tx x/\Reps K H ts xs/\SimH K H3 H/\r3 tx ts H3 Q3/\KV3 K H Q3 Q
end
section
variable {K:Frag}{H H1:Hp}
theorem KV3.at {Q3:VK3}{Q:VK}(k:KV3 K H Q3 Q) (le:TupLe K H H1):KV3 K H1 Q3 Q:=fun v H' t H3' l=>k v H' t H3' (le.trans l)
theorem KS3.at {N3:St3->Hp3->Prop}{N:L2.St->Hp->Prop}(k:KS3 K H N3 N) (le:TupLe K H H1):KS3 K H1 N3 N:=fun a b c d l=>k a b c d (le.trans l)
end
def PE3 (X:Cx) (e:Expr) (t:TE3):Prop:=PE X e (lft X.K t)
def PT3 (X:Cx) (e:Expr) (t:TT3):Prop:=PT X e (yq X.K t)
def PW3 (X:Cx) (e:Expr) (t:TT3):Prop:=PW X e (yq X.K t)
def PA3 (X:Cx) (es:List Expr) (t:TA3):Prop:=PA X es (WD X.K t)
def PS3 (X:Cx) (st:Stmt) (t:TS3):Prop:=PS X st (Rv X.K t)
def pB (X:Cx) (st:List Stmt) (t:TS3):Prop:=PSs X st (Rv X.K t)
def PG3 (X:Cx) (e:Expr) (t:TG3):Prop:=PG X e (Ft X.K t)
def Fv (X:Cx) (es:List Expr) (t:m9):Prop:=PGs X es (Rx X.K t)
def du (X:Cx) (f:Value->Value->Sem Value) (r:R3):Prop:=OpR X f (LQ X.K r)
def dR (X:Cx) (f:Value) (r:List T->Hp3->VK3->Prop):Prop:=CallR X f (WF X.K r)
def Ry (X:Cx) (r:R3):Prop:=IxR X (LQ X.K r)
def ni (X:Cx) (id:String) (r:T->List T->Hp3->VK3->Prop):Prop:=MtR X id (WK X.K r)
theorem PE.imp {X:Cx}{e:Expr}{t t':TE}(h:PE X e t) (w:∀Z H Q,t' Z H Q->t Z H Q):PE X e t':=fun pins s Z H Q I q=>h pins s Z H Q I (w Z H Q q)
theorem PT.imp {X:Cx}{e:Expr}{t t':TT}(h:PT X e t) (w:∀Z H Q,t' Z H Q->t Z H Q):PT X e t':=fun pins s Z H Q I q=>h pins s Z H Q I (w Z H Q q)
theorem PW.imp {X:Cx}{e:Expr}{t t':TT}(h:PW X e t) (w:∀Z H Q,t' Z H Q->t Z H Q):PW X e t':=fun wh pins s Z H Q I q=>h wh pins s Z H Q I (w Z H Q q)
theorem PA.imp {X:Cx}{es:List Expr}{t t':TA}(h:PA X es t) (w:∀Z H Q,t' Z H Q->t Z H Q):PA X es t':=fun pos pins s Z H Q I q=>h pos pins s Z H Q I (w Z H Q q)
theorem PS.imp {X:Cx}{e:Stmt}{t t':TS}(h:PS X e t) (w:∀D Z H,t' D Z H->t D Z H):PS X e t':=fun pins s Z H D I q=>h pins s Z H D I (w D Z H q)
theorem PSs.imp {X:Cx}{e:List Stmt}{t t':TS}(h:PSs X e t) (w:∀D Z H,t' D Z H->t D Z H):PSs X e t':=fun pins s Z H D I q=>h pins s Z H D I (w D Z H q)
theorem PG.imp {X:Cx}{e:Expr}{t t':TG}(h:PG X e t) (w:∀v Z H Q,t' v Z H Q->t v Z H Q):PG X e t':=fun pins s Z H v u Q I r q=>h pins s Z H v u Q I r (w v Z H Q q)
theorem PGs.imp {X:Cx}{e:List Expr}{t t':TGs}(h:PGs X e t) (w:∀v Z H Q,t' v Z H Q->t v Z H Q):PGs X e t':=fun pins s Z H v u Q I r q=>h pins s Z H v u Q I r (w v Z H Q q)
theorem OpR.imp {X:Cx}{f:Value->Value->Sem Value}{t t':R2}(h:OpR X f t) (w:∀x y H Q,t' x y H Q->t x y H Q):OpR X f t':=fun pins s Z H x y v u Q I r1 r2 q=>h pins s Z H x y v u Q I r1 r2 (w x y H Q q)
theorem UnR.imp {X:Cx}{f:Value->Sem Value}{t t':V->Hp->VK->Prop}(h:UnR X f t) (w:∀x H Q,t' x H Q->t x H Q):UnR X f t':=fun pins s Z H x v Q I r1 q=>h pins s Z H x v Q I r1 (w x H Q q)
theorem CallR.imp {X:Cx}{f:Value}{t t':List V->Hp->VK->Prop}(h:CallR X f t) (w:∀x H Q,t' x H Q->t x H Q):CallR X f t':=fun pins s Z H x v Q I r1 q=>h pins s Z H x v Q I r1 (w x H Q q)
theorem IxR.imp {X:Cx}{t t':R2}(h:IxR X t) (w:∀x y H Q,t' x y H Q->t x y H Q):IxR X t':=fun a b pins s Z H x y v u Q I r1 r2 q=>h a b pins s Z H x y v u Q I r1 r2 (w x y H Q q)
theorem MtR.imp {X:Cx}{id:String}{t t':V->List V->Hp->VK->Prop}(h:MtR X id t) (w:∀x xs H Q,t' x xs H Q->t x xs H Q):MtR X id t':=fun pins s Z H x xs v us Q I r1 r2 q=>h pins s Z H x xs v us Q I r1 r2 (w x xs H Q q)
section
variable {X:Cx}{pos:Pos}
def qT (i:Nat):TE3:=fun Z H Q=>match Z[i]? with
 |some (some t)=>Q t H
 |_=>False
def tC3 (t:T):TE3:=fun _ H Q=>Q t H
theorem v3 (i:Nat) {x:Str}{pos:Pos}(hN:X.N[i]?=some x:=by rfl) (hv:Vis X.env.scope x:=by first | exact Or.inl rfl | exact Or.inr (Or.inl rfl) | exact Or.inr (Or.inr rfl)) (hd:(x==("__debug__":Str))=false:=by decide)
  (hcd:(x==("__classdict__":Str))=false:=by decide):PE3 X (.Name x pos) (qT i):=by
 refine PE.imp (pv i hN hv hd hcd) ?_;rintro Z H Q ⟨Z3,H3,Q3,ss,sh,h,k⟩;unfold qT at h;split at h
 ·rename_i t e;obtain⟨v,e',r⟩:=ss.at' i t e;exact⟨v,e',k v H t H3 .refl sh r h⟩
 exact h.elim
theorem aq {i:Int}{j:Nat}:PE3 X (.Constant (.int i) j pos) (tC3 (.int i)):=by
 refine PE.imp Kp ?_;rintro Z H Q ⟨Z3,H3,Q3,ss,sh,h,k⟩;exact k _ _ _ H3 .refl sh .ofInt h
theorem eQ {b:Bool}{j:Nat}:PE3 X (.Constant (.bool b) j pos) (tC3 (.bl b)):=by
 refine PE.imp QC ?_;rintro Z H Q ⟨Z3,H3,Q3,ss,sh,h,k⟩;exact k _ _ _ H3 .refl sh .ofBl h
theorem pC {j:Nat}:PE3 X (.Constant .none j pos) (tC3 .non):=by
 refine PE.imp Kq ?_;rintro Z H Q ⟨Z3,H3,Q3,ss,sh,h,k⟩;exact k _ _ _ H3 .refl sh .ofNon h
theorem d9 {x:Str}{j:Nat}:PE3 X (.Constant (.str x) j pos) (tC3 (.str x)):=by
 refine PE.imp Kr ?_;rintro Z H Q ⟨Z3,H3,Q3,ss,sh,h,k⟩;exact k _ _ _ H3 .refl sh .ofStr h
theorem g3 {x:Str}{t:T}{v:V}{u:Value}(hg:Gl X x) (hm:X.mg x=some u) (r:RelV v u) (rt:∀H,Rep X.K H t v) (hd:(x==("__debug__":Str))=false:=by decide):PE3 X (.Name x pos) (tC3 t):=by
 refine PE.imp (Ea hg hm r hd) ?_;rintro Z H Q ⟨Z3,H3,Q3,ss,sh,h,k⟩;exact k _ _ _ H3 .refl sh (rt H) h
variable {a b c:Expr}{ta tb tc:TE3}
def uh (r:R3) (ta tb:TE3):TE3:=fun Z H Q=>ta Z H fun x H1=>tb Z H1 fun y H2=>r x y H2 Q
theorem iI {r:R3}{Z:L2.St}{H:Hp}{Q:VK}(h:lft X.K (uh r ta tb) Z H Q):tOp (LQ X.K r) (lft X.K ta) (lft X.K tb) Z H Q:=by
 obtain⟨Z3,H3,Q3,ss,sh,h,k⟩:=h;exact⟨Z3,H3,_,ss,sh,h,fun x H1 tx H31 le1 sh1 rx q1=>⟨Z3,H31,_,ss.mono le1,sh1,q1,fun y H2 ty H32 le2 sh2 ry q2=>⟨tx,ty,H32,Q3,rx.mono le2,ry,sh2,q2,k.at (le1.trans le2)⟩⟩⟩
theorem aH {op:Operator}{r:R3}(ho:du X (binaryOp op) r) (ha:PE3 X a ta) (hb:PE3 X b tb):PE3 X (.BinOp a op b pos) (uh r ta tb):=PE.imp (QV ho ha hb) fun _ _ _ h=>iI h
theorem dU {op:CmpOp}{r:R3}(ho:du X (compareOp op) r) (ha:PE3 X a ta) (hb:PE3 X b tb) (hm:behindInMarks op b=false:=by first | exact zg _ | rfl):PE3 X (.Compare a [op] [b] pos) (uh r ta tb):=PE.imp (En ho ha hb hm) fun _ _ _ h=>iI h
theorem aK {r:R3}(hr:Ry X r) (ha:PE3 X a ta) (hb:PE3 X b tb) (hs:vO b:=by exact fun _ _=>rfl):PE3 X (.Subscript a b pos) (uh r ta tb):=PE.imp (Ri hr ha hb hs) fun _ _ _ h=>iI h
def jL (t:TE3):TT3:=fun Z H Q=>t Z H fun x H'=>match x with
 |.bl k=>Q k H'
 |_=>False
theorem aW {op:CmpOp}{r:R3}(ho:du X (compareOp op) r) (ha:PE3 X a ta) (hb:PE3 X b tb) (hm:behindInMarks op b=false:=by first | exact zg _ | rfl):PT3 X (.Compare a [op] [b] pos) (jL (uh r ta tb)):=by
 refine PT.imp (Eo ho ha hb hm) ?_;rintro Z H Q ⟨Z3,H3,Q3,ss,sh,h,k⟩;refine iI (X:=X) ⟨Z3,H3,_,ss,sh,h,fun v H' t H3' le sh' r q=>?_⟩;cases t with
 |bl b=>exact⟨b,r.bl,k b H' H3' le sh' q⟩
 |_=>exact q.elim
def Fw (r r':R3) (ta tb tc:TE3):TE3:=fun Z H Q=>ta Z H fun x H1=>tb Z H1 fun y H2=>r x y H2 fun z H3=>match z with
 |.bl k=>if k=true then tc Z H3 fun w H4=>r' y w H4 Q else Q (.bl false) H3
 |_=>False
variable {tA tB':TT3}{rest:List Expr}
theorem bY (h:PE3 X a ta) (he:∀whole,isTrue a X.env whole=(do let v <- whole;standAt a.pos;holding [v] (truthy v)):=by intro _;rfl):PT3 X a (jL ta):=by
 refine PT.imp (Ks h he) ?_;rintro Z H Q ⟨Z3,H3,Q3,ss,sh,h,k⟩;refine⟨Z3,H3,_,ss,sh,h,fun v H' t H3' le sh' r q=>?_⟩;cases t with
 |bl b=>exact⟨b,r.bl,k b H' H3' le sh' q⟩
 |_=>exact q.elim
def Io (t u:TT3):TT3:=fun Z H Q=>t Z H fun c H1=>if c=true then u Z H1 Q else Q false H1
def Rz (t u:TT3):TT3:=fun Z H Q=>t Z H fun c H1=>if c=true then Q true H1 else u Z H1 Q
def Ip (t:TT3):TT3:=fun Z H Q=>t Z H fun c H1=>Q (!c) H1
theorem PW3.pt (h:PW3 X a tA):PT3 X a tA:=PW.pt h
theorem cG (ha:PT3 X a tA):PW3 X (.BoolOp .And [a] pos) tA:=Ec ha
theorem gh (ha:PT3 X a tA):PW3 X (.BoolOp .Or [a] pos) tA:=Ku ha
theorem cB (ha:PT3 X a tA) (hb:PW3 X (.BoolOp .And (b::rest) pos) tB'):PW3 X (.BoolOp .And (a::b::rest) pos) (Io tA tB'):=by
 refine PW.imp (Kv ha hb) ?_;rintro Z H Q ⟨Z3,H3,Q3,ss,sh,h,k⟩;refine⟨Z3,H3,_,ss,sh,h,fun b H' H3' le sh' q=>?_⟩;cases b with
 |true=>exact⟨Z3,H3',_,ss.mono le,sh',q,fun b H'' H3'' le' sh'' q'=>k b H'' H3'' (le.trans le') sh'' q'⟩
 |false=>exact k false H' H3' le sh' q
theorem jl (ha:PT3 X a tA) (hb:PW3 X (.BoolOp .Or (b::rest) pos) tB'):PW3 X (.BoolOp .Or (a::b::rest) pos) (Rz tA tB'):=by
 refine PW.imp (QD ha hb) ?_;rintro Z H Q ⟨Z3,H3,Q3,ss,sh,h,k⟩;refine⟨Z3,H3,_,ss,sh,h,fun b H' H3' le sh' q=>?_⟩;cases b with
 |true=>exact k true H' H3' le sh' q
 |false=>exact⟨Z3,H3',_,ss.mono le,sh',q,fun b H'' H3'' le' sh'' q'=>k b H'' H3'' (le.trans le') sh'' q'⟩
theorem gU (ha:PT3 X a tA):PT3 X (.UnaryOp .Not a pos) (Ip tA):=by
 refine PT.imp (Kz ha) ?_;rintro Z H Q ⟨Z3,H3,Q3,ss,sh,h,k⟩;exact⟨Z3,H3,_,ss,sh,h,fun b H' H3' le sh' q=>k _ H' H3' le sh' q⟩
def zL (ta tb:TE3):TE3:=fun Z H Q=>ta Z H fun x H1=>match x with
 |.bl c=>if c=true then tb Z H1 Q else Q (.bl false) H1
 |_=>False
def Ir (ta tb:TE3):TE3:=fun Z H Q=>ta Z H fun x H1=>match x with
 |.bl c=>if c=true then Q (.bl true) H1 else tb Z H1 Q
 |_=>False
def zM (ta:TE3):TE3:=fun Z H Q=>ta Z H fun x H1=>match x with
 |.bl c=>Q (.bl (!c)) H1
 |_=>False
theorem lH {op:PySem.BoolOp}{t:TE3}(h:PE3 X a t):PE3 X (.BoolOp op [a] pos) t:=KD h
theorem pF (ha:PE3 X a ta) (hb:PE3 X (.BoolOp .And (b::rest) pos) tb):PE3 X (.BoolOp .And (a::b::rest) pos) (zL ta tb):=by
 refine PE.imp (KH ha hb) ?_;rintro Z H Q ⟨Z3,H3,Q3,ss,sh,h,k⟩;refine⟨Z3,H3,_,ss,sh,h,fun v H' t H3' le sh' r q=>?_⟩;cases t with
 |bl b =>
  refine⟨b,r.bl,?_⟩;cases b with
  |true=>exact⟨Z3,H3',_,ss.mono le,sh',q,k.at le⟩
  |false=>exact k _ H' _ H3' le sh' .ofBl q
 |_=>exact q.elim
theorem Iu (ha:PE3 X a ta) (hb:PE3 X (.BoolOp .Or (b::rest) pos) tb):PE3 X (.BoolOp .Or (a::b::rest) pos) (Ir ta tb):=by
 refine PE.imp (QH ha hb) ?_;rintro Z H Q ⟨Z3,H3,Q3,ss,sh,h,k⟩;refine⟨Z3,H3,_,ss,sh,h,fun v H' t H3' le sh' r q=>?_⟩;cases t with
 |bl b =>
  refine⟨b,r.bl,?_⟩;cases b with
  |true=>exact k _ H' _ H3' le sh' .ofBl q
  |false=>exact⟨Z3,H3',_,ss.mono le,sh',q,k.at le⟩
 |_=>exact q.elim
theorem LR (ha:PE3 X a ta):PE3 X (.UnaryOp .Not a pos) (zM ta):=by
 refine PE.imp (KJ ha) ?_;rintro Z H Q ⟨Z3,H3,Q3,ss,sh,h,k⟩;refine⟨Z3,H3,_,ss,sh,h,fun v H' t H3' le sh' r q=>?_⟩;cases t with
 |bl b=>exact⟨b,r.bl,k _ H' _ H3' le sh' .ofBl q⟩
 |_=>exact q.elim
def WL (t:TT3) (ta tb:TE3):TE3:=fun Z H Q=>t Z H fun c H1=>if c=true then ta Z H1 Q else tb Z H1 Q
variable {e:Expr}{es:List Expr}{te:TE3}{t:TA3}
def vW:TA3:=fun _ H Q=>Q [] H
def pG (ta:TE3) (tr:TA3):TA3:=fun Z H Q=>ta Z H fun x H1=>tr Z H1 fun xs H2=>Q (x::xs) H2
theorem ak:PA3 X [] vW:=by
 refine PA.imp Li ?_;rintro Z H Q ⟨Z3,H3,Q3,ss,sh,h,k⟩;exact k _ _ _ _ .refl sh .nil h
theorem aa (ha:PE3 X e te) (hr:PA3 X es t) (hs:starEach (e::es) X.env=(false,eval e X.env)::starEach es X.env:=by rfl):PA3 X (e::es) (pG te t):=by
 refine PA.imp (Et ha hr hs) ?_;rintro Z H Q ⟨Z3,H3,Q3,ss,sh,h,k⟩;exact⟨Z3,H3,_,ss,sh,h,fun v H' t H3' le sh' r q=>⟨Z3,H3',_,ss.mono le,sh',q,fun vs H'' ts H3'' le' sh'' rs q'=>k _ _ _ _ (le.trans le') sh'' (.cons (r.mono le') rs) q'⟩⟩
def Iv (t:TA3):TE3:=fun Z H Q=>t Z H fun xs H1=>xs.length<=sizeLine/\Q (.tup xs) H1
def vX (t:TA3):TE3:=fun Z H Q=>t Z H fun xs H1=>xs.length<=sizeLine/\∀p,H1 p=none->Q (.ref p) (up3 H1 p (.lst xs))
theorem SimH.newTup {K:Frag}{H:Hp}{H3:Hp3}{ts:List T}{xs:List V}{p:Addr}(hp:H p=none) (r:Reps K H ts xs):Rep K (upd H p (.tup xs)) (.tup ts) (.ref p) :=
 .ofTup (.of bU) (r.mono (aP hp))
theorem SimH.newLst {K:Frag}{H:Hp}{H3:Hp3}{ts:List T}{xs:List V}{p:Addr}(s:SimH K H3 H) (hp:H p=none) (r:Reps K H ts xs):SimH K (up3 H3 p (.lst ts)) (upd H p (.lst xs)):=fun a o e=>by
 by_cases ha:a=p
 ·subst ha;rw[aA] at e;cases e;exact⟨xs,bU,r.mono (aP hp)⟩
 rw[aC ha] at e;exact s.new hp a o e
theorem bD {x1}(h:PA3 X es t):PE3 X (.Tuple es x1 pos) (Iv t):=by
 refine PE.imp (Lj h) ?_;rintro Z H Q ⟨Z3,H3,Q3,ss,sh,h,k⟩;refine⟨Z3,H3,_,ss,sh,h,fun vs H' ts H3' le sh' r q=>⟨by rw[<- r.length];exact q.1,fun p hp=>?_⟩⟩;exact k _ _ _ H3' (le.trans (aP hp)) (sh'.new hp) (SimH.newTup (H3:=H3') hp r) q.2
theorem bK (h:PA3 X es t):PE3 X (.List es pos) (vX t):=by
 refine PE.imp (Lk h) ?_;rintro Z H Q ⟨Z3,H3,Q3,ss,sh,h,k⟩;refine⟨Z3,H3,_,ss,sh,h,fun vs H' ts H3' le sh' r q=>⟨by rw[<- r.length];exact q.1,fun p hp=>?_⟩⟩;exact k _ _ _ _ (le.trans (aP hp)) (sh'.newLst hp r) .ofRef (q.2 p (sh'.fresh hp))
end
section
variable {X:Cx}{st:Stmt}{rest:List Stmt}{e c:Expr}{te:TE3}{tc:TT3}{t u:TS3}{pos:Pos}
def zN:TS3:=fun D Z H=>D.nx Z H
def vY (t u:TS3):TS3:=fun D Z H=>t { D with nx:=u D} Z H
theorem aZ:pB X [] zN:=by
 refine PSs.imp Ed ?_;rintro D Z H ⟨Z3,H3,D3,ss,sh,h,k1,_⟩;exact k1 _ _ _ _ .refl ss sh h
theorem ao (h1:PS3 X st t) (h2:pB X rest u):pB X (st::rest) (vY t u):=by
 refine PSs.imp (yZ h1 h2) ?_;rintro D Z H ⟨Z3,H3,D3,ss,sh,h,k1,k2,k3,k4⟩;exact⟨Z3,H3,_,ss,sh,h,fun Z' H' Z3' H3' le ss' sh' q=>⟨Z3',H3',D3,ss',sh',q,k1.at le,k2.at le,k3.at le,k4.at le⟩,k2,k3,k4⟩
theorem au (h1:PS3 X st t):pB X [st] t:=Ef h1
def zO (te:TE3):TS3:=fun D Z H=>te Z H fun _ H1=>D.nx Z H1
theorem bL (he:PE3 X e te) (hs:swapsWith e none pos.line X.env=pure false:=by rfl):PS3 X (.Expr e pos) (zO te):=by
 refine PS.imp (Eg he hs) ?_;rintro D Z H ⟨Z3,H3,D3,ss,sh,h,k1,_⟩;exact⟨Z3,H3,_,ss,sh,h,fun v H' t H3' le sh' r q=>k1 _ _ _ _ le (ss.mono le) sh' q⟩
def Iw (te:TE3):TS3:=fun D Z H=>te Z H D.rt
theorem aO (he:PE3 X e te):PS3 X (.Return (some e) pos) (Iw te):=by
 refine PS.imp (KN he) ?_;rintro D Z H ⟨Z3,H3,D3,ss,sh,h,k1,k2,_⟩;exact⟨Z3,H3,_,ss,sh,h,k2⟩
def Ma:TS3:=fun D _ H=>D.rt .non H
def Iz (c:TT3) (t u:TS3):TS3:=fun D Z H=>c Z H fun b H1=>if b=true then t D Z H1 else u D Z H1
theorem bQ {a b:List Stmt}(hc:PT3 X c tc) (ha:pB X a t) (hb:pB X b u):PS3 X (.If c a b pos) (Iz tc t u):=by
 refine PS.imp (QL hc ha hb) ?_;rintro D Z H ⟨Z3,H3,D3,ss,sh,h,k1,k2,k3,k4⟩;refine⟨Z3,H3,_,ss,sh,h,fun b H' H3' le sh' q=>?_⟩;cases b with
 |true=>exact⟨Z3,H3',D3,ss.mono le,sh',q,k1.at le,k2.at le,k3.at le,k4.at le⟩
 |false=>exact⟨Z3,H3',D3,ss.mono le,sh',q,k1.at le,k2.at le,k3.at le,k4.at le⟩
def dC (i:Nat):TG3:=fun v Z H Q=>Q (Z.set i (some v)) H
theorem aF {i:Nat}{x:Str}(hN:X.N.Nodup) (hi:X.N[i]?=some x:=by rfl) (hx:Loc X.env.scope x:=by first | exact Or.inl rfl | exact Or.inr rfl) (hf:X.fn x=true\/X.env.scope.names.lookup x=some .local:=by first | exact .inl rfl | exact .inr rfl | assumption):PG3 X (.Name x pos) (dC i):=by
 refine PG.imp (Eh hN hi hx hf) ?_;rintro v Z H Q ⟨t,Z3,H3,Q3,r,ss,sh,h,k⟩;exact k _ _ _ _ .refl (ss.set r) sh h
def vZ:m9:=fun ts Z H Q=>match ts with
 |[]=>Q Z H
 |_=>False
def jb (t:TG3) (u:m9):m9:=fun ts Z H Q=>match ts with
 |x::r=>t x Z H fun Z' H'=>u r Z' H' Q
 |[]=>False
theorem bN:Fv X [] vZ:=by
 refine PGs.imp Ei ?_;rintro vs Z H Q ⟨ts,Z3,H3,Q3,r,ss,sh,h,k⟩;cases ts with
 |nil=>exact⟨r.inv0,k _ _ _ _ .refl ss sh h⟩
 |cons _ _=>exact h.elim
theorem aJ {e:Expr}{es:List Expr}{t:TG3}{u:m9}(h1:PG3 X e t) (h2:Fv X es u)
  (hs:(assignEach (e::es) X.env).map (·.2)=assign e X.env::(assignEach es X.env).map (·.2):=by rfl):Fv X (e::es) (jb t u):=by
 refine PGs.imp (zb h1 h2 hs) ?_;rintro vs Z H Q ⟨ts,Z3,H3,Q3,r,ss,sh,h,k⟩;cases ts with
 |nil=>exact h.elim
 |cons x ts =>
 obtain⟨v,vr,rfl,rv,rr⟩:=r.inv;exact⟨v,vr,rfl,x,Z3,H3,_,rv,ss,sh,h,fun Z' H' Z3' H3' le ss' sh' q=>⟨ts,Z3',H3',Q3,rr.mono le,ss',sh',q,k.at le⟩⟩
def wg (n:Nat) (g:m9):TG3:=fun t Z H Q=>match t with
 |.tup ts=>ts.length=n/\g ts Z H Q
 |_=>False
theorem cH {es:List Expr}{k:Nat}{t:m9}{n:Nat}(hc:X.calm=true) (h:Fv X es t)
  (hn:(assignEach es X.env).length=n:=by rfl) (hst:(assignEach es X.env).findIdx? (·.1)=none:=by rfl):PG3 X (.Tuple es k pos) (wg n t):=by
 refine PG.imp (KQ hc h hn hst) ?_;rintro v Z H Q ⟨t,Z3,H3,Q3,r,ss,sh,h,k⟩;cases t with
 |tup ts=>obtain⟨a,xs,rfl,s,rs⟩:=r.tup;exact⟨a,xs,rfl,s,by rw[<- rs.length];exact h.1,ts,Z3,H3,Q3,rs,ss,sh,h.2,k⟩
 |_=>exact h.elim
def qU (te:TE3) (g:TG3):TS3:=fun D Z H=>te Z H fun x H1=>g x Z H1 D.nx
theorem ul {tg e:Expr}{te:TE3}{g:TG3}(he:PE3 X e te) (hg:PG3 X tg g) (hs:swapsWithSole [tg] e pos.line X.env=pure false:=by rfl) (hw:swappedStores [tg] e X.env=pure none:=by rfl)
  (h1:(assignEach [tg] X.env).map (·.2)=[assign tg X.env]:=by rfl):PS3 X (.Assign [tg] e pos) (qU te g):=by
 refine PS.imp (KY he hg hs hw h1) ?_;rintro D Z H ⟨Z3,H3,D3,ss,sh,h,k1,_⟩;exact⟨Z3,H3,_,ss,sh,h,fun v H' t H3' le sh' r q=>⟨t,Z3,H3',_,r,ss.mono le,sh',q,k1.at le⟩⟩
theorem aG {i:Nat}{x:Str}{e:Expr}{te:TE3}{pos':Pos}(hN:X.N.Nodup) (he:PE3 X e te) (hi:X.N[i]?=some x:=by rfl) (hx:Loc X.env.scope x:=by first | exact Or.inl rfl | exact Or.inr rfl)
  (hs:swapsWith e (some (.Name x pos')) pos.line X.env=pure false:=by rfl) (hf:X.fn x=true\/X.env.scope.names.lookup x=some .local:=by first | exact .inl rfl | exact .inr rfl | assumption) :
  PS3 X (.Assign [.Name x pos'] e pos) (qU te (dC i)):=by
 refine PS.imp (KZ hN hi hx he hs hf) ?_;rintro D Z H ⟨Z3,H3,D3,ss,sh,h,k1,_⟩;exact⟨Z3,H3,_,ss,sh,h,fun v H' t H3' le sh' r q=>k1 _ _ _ _ le ((ss.mono le).set r) sh' q⟩
end
abbrev qW:=T->T->T->Hp3->(Hp3->Prop)->Prop
def Mf (K:Frag) (t3:qW):za:=fun o i v H Q=>∃to ti tv H3 Q3,Rep K H to o/\Rep K H ti i/\Rep K H tv v/\SimH K H3 H/\t3 to ti tv H3 Q3/\∀H' H3',TupLe K H H'->SimH K H3' H'->Q3 H3'->Q H'
def IK (X:Cx) (t:qW):Prop:=PSet X (Mf X.K t)
theorem PSet.imp {X:Cx}{t t':za}(h:PSet X t) (w:∀o i v H Q,t' o i v H Q->t o i v H Q):PSet X t':=fun pins s Z H o i v ov iv u Q I r1 r2 r3 q=>h pins s Z H o i v ov iv u Q I r1 r2 r3 (w o i v H Q q)
section
variable {X:Cx}{pos:Pos}
def IV (to ti:TE3) (t:qW):TG3:=fun v Z H Q=>to Z H fun o H1=>ti Z H1 fun i H2=>t o i v H2 fun H3=>Q Z H3
theorem Mg {o i:Expr}{to ti:TE3}{t:qW}(ho:PE3 X o to) (hi:PE3 X i ti) (hs:IK X t)
  (ha:∀v,assign (.Subscript o i pos) X.env v=(do
   let ov <- holding [v] (eval o X.env)
   let iv <- holding [v,ov] (eval i X.env)
   standAt pos
   holding [v,ov,iv] (setItem ov iv v)
   release [v,ov,iv] []):=by intro _;rfl):PG3 X (.Subscript o i pos) (IV to ti t):=by
 refine PG.imp (KR ho hi hs ha) ?_;rintro v Z H Q ⟨t,Z3,H3,Q3,r,ss,sh,h,k⟩;exact⟨Z3,H3,_,ss,sh,h,fun o H1 to H31 le1 sh1 ro q1=>⟨Z3,H31,_,ss.mono le1,sh1,q1,fun i H2 ti H32 le2 sh2 ri q2=>⟨to,ti,t,H32,_,ro.mono le2,ri,r.mono (le1.trans le2),sh2,q2,fun H' H3' le sh' q=>k _ _ _ _ (le1.trans (le2.trans le)) (ss.mono (le1.trans (le2.trans le))) sh' q⟩⟩⟩
end
abbrev TI3:=St3->Hp3->(List T->(Hp3->Prop)->Hp3->Prop)->Prop
def jX (K:Frag) (J:It) (ts:List T) (still:Hp3->Prop) (H:Hp):Prop:=∀H' H3',TupLe K H H'->SimH K H3' H'->still H3' ->
 (∀i,ts.length<=i->J.stop i H')/\∀i t,ts[i]?=some t->J.go i H'/\∀x H'',J.yld i H' x H''->TupLe K H' H''/\SimH K H3' H''/\Rep K H'' t x
def WM (K:Frag) (t3:TI3):TI:=fun Z H R=>∃Z3 H3 R3,SimS K H Z3 Z/\SimH K H3 H/\t3 Z3 H3 R3/\∀J ts still H' H3',TupLe K H H'->SimH K H3' H'->jX K J ts still H'->R3 ts still H3'->R J H'
def PI3 (X:Cx) (tg iter:Expr) (t:TI3):Prop:=PI X tg iter (WM X.K t)
theorem PI.imp {X:Cx}{tg e:Expr}{t t':TI}(h:PI X tg e t) (w:∀Z H R,t' Z H R->t Z H R):PI X tg e t':=fun pins s Z H R I q=>h pins s Z H R I (w Z H R q)
def cL:Hp3->Prop:=fun _=>True
def cC (a:Addr) (ts:List T):Hp3->Prop:=fun H=>H a=some (.lst ts)\/H a=some (.rol ts)
theorem SimH.sqL {K:Frag}{H:Hp}{H3:Hp3}{a:Addr}{ts:List T}(s:SimH K H3 H) (h:cC a ts H3):∃xs,SqL K H a xs/\Reps K H ts xs:=by
 rcases h with h | h
 ·obtain⟨xs,e,r⟩:=s a _ h;exact⟨xs,.of e,r⟩
 obtain⟨xs,e,r⟩:=s a _ h;exact⟨xs,.inl e,r⟩
section
variable {X:Cx}{tg l:Expr}{tl:TE3}{pos p:Pos}
def zP (tl:TE3):TI3:=fun Z H R=>tl Z H fun x H1=>match x with
 |.ref a=>match H1 a with
  |some (.lst ts)=>R ts (cC a ts) H1
  |some (.rol ts)=>R ts (cC a ts) H1
  |_=>False
 |_=>False
theorem n6 {K:Frag}{H:Hp}{a:Addr}{ts:List T}:jX K (Itl K a) ts (cC a ts) H:=fun H' H3' le sh st=>by
 obtain⟨xs,sq,rs⟩:=sh.sqL st;have hl:=rs.length;refine⟨fun i hi=>⟨xs,sq,by omega⟩,fun i t e=>?_⟩;obtain⟨v,ev,rv⟩:=rs.get e;refine⟨⟨xs,v,sq,ev⟩,fun x H'' y=>?_⟩;obtain⟨e1,y⟩:=y;subst e1;have:=y xs sq;rw[ev] at this;cases this;exact⟨.refl,sh,rv⟩
theorem cM (hl:PE3 X l tl):PI3 X tg l (zP tl):=by
 refine PI.imp (Ej hl) ?_;rintro Z H R ⟨Z3,H3,R3,ss,sh,h,k⟩;refine⟨Z3,H3,_,ss,sh,h,fun v H' t H3' le sh' r q=>?_⟩;cases t with
 |ref a =>
  have q':(match H3' a with
   |some (.lst ts)=>R3 ts (cC a ts) H3'
   |some (.rol ts)=>R3 ts (cC a ts) H3'
   |_=>False):=q
  split at q'
  ·
   rename_i ts e
   obtain⟨xs,sq,rs⟩:=sh'.sqL (.inl e)
   exact⟨a,r.ref,⟨xs,sq⟩,k _ ts (cC a ts) H' H3' le sh' n6 q'⟩
  ·
   rename_i ts e
   obtain⟨xs,sq,rs⟩:=sh'.sqL (.inr e)
   exact⟨a,r.ref,⟨xs,sq⟩,k _ ts (cC a ts) H' H3' le sh' n6 q'⟩
  ·
   exact q'.elim
 |_=>exact q.elim
def IW (tl:TE3):TI3:=fun Z H R=>tl Z H fun x H1=>match x with
 |.tup ts=>R ts cL H1
 |_=>False
theorem zQ {K:Frag}{H:Hp}{a:Addr}{ts:List T}{xs:List V}(sq:SqT K H a xs) (rs:Reps K H ts xs):jX K (Itt K a) ts cL H:=fun H' H3' le sh st=>by
 have hl:=rs.length;refine⟨fun i hi=>⟨xs,le _ _ sq,by omega⟩,fun i t e=>?_⟩;obtain⟨v,ev,rv⟩:=rs.get e;refine⟨⟨xs,v,le _ _ sq,ev⟩,fun x H'' y=>?_⟩;obtain⟨e1,y⟩:=y;subst e1;have:=y xs (le _ _ sq);rw[ev] at this;cases this;exact⟨.refl,sh,rv.mono le⟩
theorem cT (hl:PE3 X l tl):PI3 X tg l (IW tl):=by
 refine PI.imp (K3 hl) ?_;rintro Z H R ⟨Z3,H3,R3,ss,sh,h,k⟩;refine⟨Z3,H3,_,ss,sh,h,fun v H' t H3' le sh' r q=>?_⟩;cases t with
 |tup ts=>obtain⟨a,xs,e,sq,rs⟩:=r.tup;exact⟨a,e,⟨xs,sq⟩,k _ ts cL H' H3' le sh' (zQ sq rs) q⟩
 |_=>exact q.elim
def dh (lo:Int) (n:Nat):List T:=(List.range n).map fun (i:Nat)=>T.int (lo+i)
theorem qX {K:Frag}{H:Hp}{lo:Int}{n:Nat}:jX K (Itr lo n) (dh lo n) cL H:=fun H' H3' le sh st=>by
 refine⟨fun i hi=>by unfold dh at hi;simp at hi;exact hi,fun i t e=>?_⟩;unfold dh at e;rw[y_] at e;by_cases hi:i<n
 ·rw[Xo hi] at e;cases e;refine⟨hi,fun x H'' y=>?_⟩;obtain⟨e1,e2⟩:=y;subst e1;subst e2;exact⟨.refl,sh,.ofInt⟩
 rw[W_ (by simpa using hi)] at e;cases e
def zR (ta:TA3):TI3:=fun Z H R=>ta Z H fun vs H1=>match vs with
 |[.int j]=>-(2^62)<=j/\j<2^62/\R (dh 0 j.toNat) cL H1
 |[.int i,.int j]=>(-(2^62)<=i/\i<2^62 /\ -(2^62)<=j/\j<2^62)/\R (dh i (j - i).toNat) cL H1
 |_=>False
theorem aN {a:Expr}{ta:TA3}(hg:Gl X "range") (hm:X.mg "range"=none) (ha:PA3 X [a] ta) (hs:starEach [a] X.env=[(false,eval a X.env)]:=by rfl):PI3 X tg (.Call (.Name "range" p) [a] [] pos) (zR (fun Z H Q=>ta Z H fun vs H1=>vs.length=1/\Q vs H1)):=by
 refine PI.imp (xV hg hm ha hs) ?_;rintro Z H R ⟨Z3,H3,R3,ss,sh,h,k⟩;refine⟨Z3,H3,_,ss,sh,h,fun vs H' ts H3' le sh' r q=>?_⟩;obtain⟨hl,q⟩:=q;cases ts with
 |nil=>cases hl
 |cons t ts =>
 cases ts with
 |cons _ _=>simp at hl
 |nil =>
 cases t with
 |int j=>obtain⟨v,_,rfl,rv,r0⟩:=r.inv;rw[r0.inv0,rv.int];exact⟨j,rfl,q.1,q.2.1,k _ _ _ H' H3' le sh' qX q.2.2⟩
 |_=>exact q.elim
theorem yr {a b:Expr}{ta:TA3}(hg:Gl X "range") (hm:X.mg "range"=none) (ha:PA3 X [a,b] ta) (hs:starEach [a,b] X.env=[(false,eval a X.env),(false,eval b X.env)]:=by rfl) (hs2:starEach [b] X.env=[(false,eval b X.env)]:=by rfl) :
  PI3 X tg (.Call (.Name "range" p) [a,b] [] pos) (zR (fun Z H Q=>ta Z H fun vs H1=>vs.length=2/\Q vs H1)):=by
 refine PI.imp (xW hg hm ha hs hs2) ?_;rintro Z H R ⟨Z3,H3,R3,ss,sh,h,k⟩;refine⟨Z3,H3,_,ss,sh,h,fun vs H' ts H3' le sh' r q=>?_⟩;obtain⟨hl,q⟩:=q
 match ts,hl,r with
 |[t1,t2],_,r =>
 obtain⟨v,_,rfl,rv,r1⟩:=r.inv;obtain⟨v2,_,rfl,rv2,r2⟩:=r1.inv;cases t1 with
 |int i =>
  cases t2 with
  |int j=>rw[r2.inv0,rv.int,rv2.int];exact⟨i,j,rfl,q.1,k _ _ _ H' H3' le sh' qX q.2⟩
  |_=>exact q.elim
 |_=>cases t2 <;> exact q.elim
end
def iter3 (g:TG3) (tb:TS3) (D:Ends3) (still:Hp3->Prop):List T->St3->Hp3->Prop
 |[],Z,H=>still H/\D.nx Z H
 |t::r,Z,H=>still H/\g t Z H fun Z2 H2=>tb { D with nx:=iter3 g tb D still r,ct:=iter3 g tb D still r,bk:=D.nx} Z2 H2
theorem iter3.st {g:TG3}{tb:TS3}{D:Ends3}{still:Hp3->Prop}{ts:List T}{Z:St3}{H:Hp3}(h:iter3 g tb D still ts Z H):still H:=by
 cases ts with
 |nil=>exact h.1
 |cons t r=>exact h.1
def Ja (wi:TI3) (g:TG3) (tb:TS3):TS3:=fun D Z H=>wi Z H fun ts still H1=>iter3 g tb D still ts Z H1
section
variable {X:Cx}{tg iter:Expr}{pos:Pos}
theorem bc {body:List Stmt}{wi:TI3}{g:TG3}{tb:TS3}(hp:PassesOwn (model X.prog X.w) X.A X.env X.xe) (hc:X.calm=true) (hi:PI3 X tg iter wi) (hg:PG3 X tg g) (hb:pB X body tb)
  (hs:∀x,foldedSetIterable iter X.env x=pure x:=by intro _;rfl):PS3 X (.For tg iter body [] pos) (Ja wi g tb):=by
 refine PS.imp (K4 hp hc hi hg hb hs) ?_;rintro D Z H ⟨Z3,H3,D3,ss,sh,h,k1,k2,k3,k4⟩;refine⟨Z3,H3,_,ss,sh,h,fun J ts still H1 H31 le sh1 wk q=>?_⟩;refine⟨fun i m Z H=>∃Z3 H3,TupLe X.K H1 H/\SimS X.K H Z3 Z/\SimH X.K H3 H/\m=ts.length - i/\i<=ts.length/\iter3 g tb D3 still (ts.drop i) Z3 H3,⟨ts.length,Z3,H31,.refl,ss.mono le,sh1,rfl,X8 _,by simpa using q⟩,?_⟩;rintro i m Z H ⟨Z4,H4,le4,ss4,sh4,rfl,hi,it⟩;have w:=wk H H4 le4 sh4 it.st;by_cases hlt:i<ts.length
 ·have e:=d_ hlt;have ed:ts.drop i=ts[i]::ts.drop (i+1):=Zo hlt;rw[ed] at it;obtain⟨st,it⟩:=it;obtain⟨go,yl⟩:=w.2 i _ e;refine .inr ⟨go,fun Z' H'=>∃Z3 H3,TupLe X.K H1 H'/\SimS X.K H' Z3 Z'/\SimH X.K H3 H'/\iter3 g tb D3 still (ts.drop (i+1)) Z3 H3,fun Z' H' ⟨s5,h5,a,b,c,d⟩=>⟨ts.length - (i+1),by omega,s5,h5,a,b,c,rfl,hlt,d⟩,fun x H' y=>?_⟩;obtain⟨le',sh',rx⟩:=yl x H' y;refine⟨ts[i],Z4,H4,_,rx,ss4.mono le',sh',it,fun Z2 H2 Z32 H32 le2 ss2 sh2 q2=>?_⟩;have all:TupLe X.K H1 H2:=le4.trans (le'.trans le2);have nx:∀(B:TupLe X.K H1 H2),KS3 X.K H2 (iter3 g tb D3 still (ts.drop (i+1))) (fun Z' H'=>∃Z3 H3,TupLe X.K H1 H'/\SimS X.K H' Z3 Z'/\SimH X.K H3 H'/\iter3 g tb D3 still (ts.drop (i+1)) Z3 H3) :=
   fun B Z' H' Z3' H3' l s h q=>⟨Z3',H3',B.trans l,s,h,q⟩
  exact⟨Z32,H32,_,ss2,sh2,q2,nx all,k2.at (le.trans all),k1.at (le.trans all),nx all⟩
 have e:i=ts.length:=by omega
 subst e;rw[List.drop_length] at it;exact .inl ⟨w.1 _ (o_ _),k1 _ _ _ _ (le.trans le4) ss4 sh4 it.2⟩
def pH (c:TT3) (tb:TS3):TS3:=fun D Z H=>∃W:Nat->St3->Hp3->Prop,(∃m,W m Z H)/\∀m Z H,W m Z H ->
 c Z H fun b H1=>if b=true then tb { D with nx:=fun Z' H'=>∃m',m'<m/\W m' Z' H',ct:=fun Z' H'=>∃m',m'<m/\W m' Z' H',bk:=D.nx} Z H1 else D.nx Z H1
theorem lJ {c:Expr}{body:List Stmt}{tc:TT3}{tb:TS3}(hp:PassesOwn (model X.prog X.w) X.A X.env X.xe) (hc:PT3 X c tc) (hb:pB X body tb):PS3 X (.While c body [] pos) (pH tc tb):=by
 refine PS.imp (zc hp hc hb) ?_;rintro D Z H ⟨Z3,H3,D3,ss,sh,⟨W,⟨m0,w0⟩,turn⟩,k1,k2,k3,k4⟩;refine⟨fun m Z' H'=>∃Z3 H3,TupLe X.K H H'/\SimS X.K H' Z3 Z'/\SimH X.K H3 H'/\W m Z3 H3,⟨m0,Z3,H3,.refl,ss,sh,w0⟩,?_⟩;rintro m Z1 H1 ⟨Z4,H4,le4,ss4,sh4,w4⟩;refine⟨Z4,H4,_,ss4,sh4,turn m Z4 H4 w4,fun b H2 H5 le5 sh5 q=>?_⟩;cases b with
 |true =>
  rw[if_pos rfl] at q ⊢;have nx:KS3 X.K H2 (fun Z' H'=>∃m',m'<m/\W m' Z' H') (fun Z' H'=>∃m',m'<m/\∃Z3 H3,TupLe X.K H H'/\SimS X.K H' Z3 Z'/\SimH X.K H3 H'/\W m' Z3 H3) :=
   fun Z' H' Z3' H3' l s h ⟨m',hm,w⟩=>⟨m',hm,Z3',H3',le4.trans (le5.trans l),s,h,w⟩
  exact⟨_,fun Z' H' h=>h,Z4,H5,_,ss4.mono le5,sh5,q,nx,k2.at (le4.trans le5),k1.at (le4.trans le5),nx⟩
 |false =>
 rw[if_neg u_] at q ⊢;exact k1 _ _ _ _ (le4.trans le5) (ss4.mono le5) sh5 q
end
def Fx (X:Cx) (ifs:List Expr) (t:TT3):Prop:=PIf X ifs (yq X.K t)
def wj:TT3:=fun _ H Q=>Q true H
theorem bW {X:Cx}:Fx X [] wj:=fun pins s Z H Q I ⟨Z3,H3,Q3,ss,sh,h,k⟩=>Fj pins s Z H Q I (k _ _ _ .refl sh h)
theorem di {X:Cx}{c:Expr}{t:TT3}(h:PT3 X c t):Fx X [c] t:=Fl h
def pI (nt:Nat) (cap:List Nat) (Z:St3):St3:=List.replicate nt none++cap.map fun j=>(Z[j]?).getD none
theorem wu {K:Frag}{H:Hp}{Z3:St3}{Z:L2.St}{nt:Nat}{cap:List Nat}(s:SimS K H Z3 Z):SimS K H (pI nt cap Z3) (m7 nt cap Z):=by
 refine⟨by simp [pI,m7],fun i t e=>?_⟩;unfold pI at e;unfold m7;by_cases hi:i<nt
 ·rw[Xj (by simpa using hi),YZ] at e;split at e <;> cases e
 rw[F_ (by simpa using hi),y_] at e;rw[F_ (by simpa using hi),y_];simp only[Za] at e ⊢;cases q:cap[i - nt]? with
 |none=>rw[q] at e;cases e
 |some j =>
 rw[q] at e;have e':(Z3[j]?).getD none=some t:=G_ e;have e2:Z3[j]?=some (some t):=by
  cases z:Z3[j]? with
  |none=>rw[z] at e';cases e'
  |some y=>rw[z] at e';exact T_ some e'
 obtain⟨v,ev,r⟩:=s.at' j t e2;exact⟨v,by simp [ev],r⟩
def cIter3 (g:TG3) (tt:TT3) (te:TE3) (still:Hp3->Prop) (fin:List T->Hp3->Prop):List T->List T->St3->Hp3->Prop
 |[],ys,Z,H=>still H/\ys.length<=sizeLine/\fin ys H
 |t::r,ys,Z,H=>still H/\g t Z H fun Z2 H2=>tt Z2 H2 fun b H3=>if b=true then te Z2 H3 fun y H4=>ys.length<sizeLine/\cIter3 g tt te still fin r (ys++[y]) Z2 H4 else cIter3 g tt te still fin r ys Z2 H3
theorem cIter3.st {g:TG3}{tt:TT3}{te:TE3}{still:Hp3->Prop}{fin:List T->Hp3->Prop}{ts ys:List T}{Z:St3}{H:Hp3}(h:cIter3 g tt te still fin ts ys Z H):still H:=by
 cases ts with
 |nil=>exact h.1
 |cons t r=>exact h.1
theorem zT {K:Frag}{J:It}{g:TG3}{tt:TT3}{te:TE3}{still:Hp3->Prop}{fin3:List T->Hp3->Prop}{fin:List V->Hp->Prop}{ts:List T}{Z3:St3}{Z:L2.St}{H1:Hp}{H31:Hp3}
  (wk:jX K J ts still H1) (ss:SimS K H1 Z3 Z) (sh:SimH K H31 H1) (h:cIter3 g tt te still fin3 ts [] Z3 H31)
  (hf:∀ys us H' H3',TupLe K H1 H'->SimH K H3' H'->Reps K H' ys us->fin3 ys H3'->fin us H'):vU J (Ft K g) (yq K tt) (lft K te) fin Z H1:=by
 refine⟨fun i m us Z H=>∃Z3 H3 ys,TupLe K H1 H/\SimS K H Z3 Z/\SimH K H3 H/\Reps K H ys us/\m=ts.length - i/\i<=ts.length/\cIter3 g tt te still fin3 (ts.drop i) ys Z3 H3,⟨ts.length,Z3,H31,[],.refl,ss,sh,.nil,rfl,X8 _,by simpa using h⟩,?_⟩;rintro i m us Z H ⟨Z4,H4,ys,le4,ss4,sh4,ry,rfl,hi,it⟩;have w:=wk H H4 le4 sh4 it.st;by_cases hlt:i<ts.length
 ·have e:=d_ hlt;have ed:ts.drop i=ts[i]::ts.drop (i+1):=Zo hlt;rw[ed] at it;obtain⟨st,it⟩:=it;obtain⟨go,yl⟩:=w.2 i _ e;refine .inr ⟨go,fun x H' y=>?_⟩;obtain⟨le',sh',rx⟩:=yl x H' y;refine⟨ts[i],Z4,H4,_,rx,ss4.mono le',sh',it,fun Z2 H2 Z32 H32 le2 ss2 sh2 q2=>?_⟩;refine⟨Z32,H32,_,ss2,sh2,q2,fun b H3 H33 le3 sh3 q3=>?_⟩;have all:TupLe K H H3:=le'.trans (le2.trans le3);cases b with
  |true=>rw[if_pos rfl] at q3;refine Wy ?_;refine⟨Z32,H33,_,ss2.mono le3,sh3,q3,fun v H5 t H35 le5 sh5 rt q5=>⟨by rw[<- ry.length];exact q5.1,ts.length - (i+1),by omega,Z32,H35,ys++[t],le4.trans (all.trans le5),ss2.mono (le3.trans le5),sh5,(ry.mono (all.trans le5)).append (.cons rt .nil),rfl,hlt,q5.2⟩⟩
  |false =>
  rw[if_neg u_] at q3;refine Wx ?_;exact⟨ts.length - (i+1),by omega,Z32,H33,ys,le4.trans all,ss2.mono le3,sh3,ry.mono all,rfl,hlt,q3⟩
 have e:i=ts.length:=by omega
 subst e;rw[List.drop_length] at it;exact .inl ⟨w.1 _ (o_ _),by rw[<- ry.length];exact it.2.1,hf _ _ _ _ le4 sh4 ry it.2.2⟩
def zU (wi:TI3) (g:TG3) (tt:TT3) (te:TE3) (nt:Nat) (cap:List Nat):TE3:=fun Z H Q=>wi Z H fun ts still H1=>cIter3 g tt te still (fun ys H'=>∀p,H' p=none->Q (.ref p) (up3 H' p (.lst ys))) ts [] (pI nt cap Z) H1
def n8 (wi:TI3) (g:TG3) (tt:TT3) (te:TE3) (nt:Nat) (cap:List Nat) (i:Nat):TS3:=fun D Z H=>wi Z H fun ts still H1=>cIter3 g tt te still (fun ys H'=>∀p,H' p=none->D.nx (Z.set i (some (.ref p))) (up3 H' p (.lst ys))) ts [] (pI nt cap Z) H1
section
variable {X:Cx}{N':List Str}{nt:Nat}{cap:List Nat}{scope:Scope}{elt tg iter:Expr}{ifs:List Expr}{pos pos' spos:Pos}{wi:TI3}{g:TG3}{tt:TT3}{te:TE3}
theorem bx (hc:X.calm=true) (S:CompSc X N' nt cap scope) (hi:PI3 X tg iter wi)
  (hX:∀cl pins s H C fp,PG3 (bM X N' scope cl pins s H C fp) tg g/\Fx (bM X N' scope cl pins s H C fp) ifs tt/\PE3 (bM X N' scope cl pins s H C fp) elt te)
  (hs:∀x,foldedSetIterable iter X.env x=pure x:=by intro _;rfl):PE3 X (.ListComp elt [⟨tg,iter,ifs,0⟩] scope pos) (zU wi g tt te nt cap):=by
 refine PE.imp (Fp (g:=Ft X.K g) (tt:=yq X.K tt) (te:=lft X.K te) hc S hi hX hs) ?_;rintro Z H Q ⟨Z3,H3,Q3,ss,sh,h,k⟩;refine⟨Z3,H3,_,ss,sh,h,fun J ts still H1 H31 le sh1 wk q=>?_⟩;exact zT wk (wu (ss.mono le)) sh1 q fun ys us H' H3' le' sh' ry q' p hp=>k _ _ _ _ (le.trans (le'.trans (aP hp))) (sh'.newLst hp ry) .ofRef (q' p (sh'.fresh hp))
theorem kJ {i:Nat}{x:Str}(hc:X.calm=true) (hN:X.N.Nodup) (S:CompSc X N' nt cap scope) (hi:PI3 X tg iter wi)
  (hX:∀cl pins s H C fp,PG3 (bM X N' scope cl pins s H C fp) tg g/\Fx (bM X N' scope cl pins s H C fp) ifs tt/\PE3 (bM X N' scope cl pins s H C fp) elt te)
  (hi':X.N[i]?=some x:=by rfl) (hx:Loc X.env.scope x:=by first | exact Or.inl rfl | exact Or.inr rfl)
  (hsw:swapsWith (.ListComp elt [⟨tg,iter,ifs,0⟩] scope pos) (some (.Name x pos')) spos.line X.env=pure true:=by rfl)
  (hs:∀x,foldedSetIterable iter X.env x=pure x:=by intro _;rfl) (hf:X.fn x=true\/X.env.scope.names.lookup x=some .local:=by first | exact .inl rfl | exact .inr rfl | assumption) :
  PS3 X (.Assign [.Name x pos'] (.ListComp elt [⟨tg,iter,ifs,0⟩] scope pos) spos) (n8 wi g tt te nt cap i):=by
 refine PS.imp (Fq (g:=Ft X.K g) (tt:=yq X.K tt) (te:=lft X.K te) hc hN hi' hx S hi hX hsw hs hf) ?_;rintro D Z H ⟨Z3,H3,D3,ss,sh,h,k1,_⟩;refine⟨Z3,H3,_,ss,sh,h,fun J ts still H1 H31 le sh1 wk q=>?_⟩;exact zT wk (wu (ss.mono le)) sh1 q fun ys us H' H3' le' sh' ry q' p hp =>
  k1 _ _ _ _ (le.trans (le'.trans (aP hp))) ((ss.mono (le.trans (le'.trans (aP hp)))).set .ofRef) (sh'.newLst hp ry) (q' p (sh'.fresh hp))
end
abbrev Sp3:=List T->Hp3->VK3->Prop
def qY (K:Frag) (sp:Sp3):Sp:=fun vs H Q _=>∃ts H3 Q3,Reps K H ts vs/\SimH K H3 H/\sp ts H3 Q3/\KV3 K H Q3 Q
def Sub3 (H H':Hp3):Prop:=∀a o,H a=some o->H' a=some o
theorem Sub3.refl {H:Hp3}:Sub3 H H:=fun _ _ h=>h
theorem Sub3.trans {H H1 H2:Hp3}(a:Sub3 H H1) (b:Sub3 H1 H2):Sub3 H H2:=fun c o h=>b c o (a c o h)
theorem Sub3.new {H:Hp3}{p:Addr}{o:O3}(h:H p=none):Sub3 H (up3 H p o):=fun a u e=>by rw[aC (aX e h)];exact e
theorem SimH.sub {K:Frag}{H3 H3':Hp3}{H:Hp}(s:SimH K H3' H) (h:Sub3 H3 H3'):SimH K H3 H:=fun a o e=>s a o (h a o e)
def Fin3 (Q:VK3):VK3:=fun v H=>∃H',Sub3 H' H/\Q v H'
theorem Fin3.of {Q:VK3}{v:T}{H H':Hp3}(h:Sub3 H' H) (q:Q v H'):Fin3 Q v H:=⟨H',h,q⟩
def aR (N:List Str) (ts:List T):St3:=ts.map some++List.replicate (N.length - ts.length) none
theorem yt {K:Frag}{H:Hp}{N:List Str}{ts:List T}{vs:List V}(r:Reps K H ts vs):SimS K H (aR N ts) (L2.start N vs):=by
 refine⟨by simp [aR,L2.start,r.length],fun i t e=>?_⟩;unfold aR at e;unfold L2.start;have hl:=r.length;by_cases hi:i<ts.length
 ·rw[Xj (by simpa using hi),y_] at e;rw[Xj (by rw[b_];omega),y_];cases q:ts[i]? with
  |none=>rw[q] at e;cases e
  |some u =>
  rw[q] at e;cases e;obtain⟨v,ev,rv⟩:=r.get q;exact⟨v,by rw[ev];rfl,rv⟩
 rw[F_ (by simpa using hi),YZ] at e;split at e <;> cases e
section
variable {X:Cx}{k:Nat}{f:Addr}{fd:FuncData}{ps:List Str}{sp:Sp3}{x:Str}{p pos:Pos}{e:Expr}{es:List Expr}{t:TA3}
def FnOk3 (P:Program) (w:World) (K:Frag) (mg:Str->Option Value) (base:Heap) (k:Nat) (f:Addr) (fd:FuncData) (ps:List Str) (sp:Sp3):Prop:=FnOk P w K mg base CX0 k f fd ps (qY K sp)
theorem FnOk3.mono {P:Program}{w:World}{K:Frag}{mg:Str->Option Value}{base:Heap}{j k:Nat}(F:FnOk3 P w K mg base j f fd ps sp) (h:j<=k):FnOk3 P w K mg base k f fd ps sp:=FnOk.mono F h
def pJ (sp:Sp3) (t:TA3):TE3:=fun Z H Q=>t Z H fun vs H1=>sp vs H1 Q
theorem Fy (F:FnOk3 X.prog X.w X.K X.mg X.base k f fd ps sp) (hr:Room k X.A) (hg:Gl X x) (hm:X.mg x=some (.ref f)) (hk:keepIn X.K (.ref f)=true) (hb:Binds X.K fd ps [])
  (ha:PA3 X (e::es) t) (hdb:(x==("__debug__":Str))=false:=by decide) (he:starEach (e::es) X.env=(false,eval e X.env)::starEach es X.env:=by rfl) (hpl:(backTo pos (starEach es X.env)).any (·.1)=false:=by rfl) :
  PE3 X (.Call (.Name x p) (e::es) [] pos) (pJ sp t):=by
 refine PE.imp (Eu (dvs:=[]) (E:=E0) F hr hg hm hk hb .nil zH ha hdb he hpl) ?_;rintro Z H Q ⟨Z3,H3,Q3,ss,sh,h,k⟩;refine⟨Z3,H3,_,ss,sh,h,fun vs H' ts H3' le sh' r q=>?_⟩;show qY X.K sp (vs++[]) H' Q E0;rw[I_];exact⟨ts,H3',Q3,r,sh',q,k.at le⟩
theorem fn3 {P:Program}{w:World}{K:Frag}{mg:Str->Option Value}{base:Heap}{qual:Str}{st:Stmt}{N:List Str}(F:Fun K x qual st f fd) (S:FnScope N ps (aB st)) (len:∀ts H Q,sp ts H Q->ts.length=ps.length)
  (hbody:∀(cdv:Value) (A:Around) (outer:List Env) (s:Shared) (H:Hp) (E:XK) (ts:List T) (H3:Hp3) (Q:VK3),Room k (A.deeper (envOfC qual (aB st) s.heap.objs.size f cdv))->sp ts H3 Q ->
   ∃t,pB (t6 CX0 P w K mg base N qual (aB st) f cdv A outer s H E).nox (bV st) t/\t { nx:=fun _ H'=>Fin3 Q .non H',rt:=Fin3 Q} (aR N ts) H3):FnOk3 P w K mg base (k+1) f fd ps sp:=by
 refine F.ok S (fun vs H Q E ⟨ts,H3,Q3,r,sh,q,k⟩=>by rw[<- r.length];exact len _ _ _ q) fun cdv A outer s H vs Q E hr ⟨ts,H3,Q3,r,sh,q,k⟩=>?_;obtain⟨t,ht,hq⟩:=hbody cdv A outer s H E ts H3 Q3 hr q;exact⟨_,ht,aR N ts,H3,_,yt r,sh,hq,fun Z' H' Z3' H3' le ss' sh' ⟨H4,sb,q⟩=>k _ _ _ _ le (sh'.sub sb) .ofNon q,fun v H' t H3' le sh' rv ⟨H4,sb,q⟩=>k _ _ _ _ le (sh'.sub sb) rv q,fun _ _ _ _ _ _ _ z=>z,fun _ _ _ _ _ _ _ z=>z⟩
end
noncomputable instance:DecidableEq T:=fun a b=>Classical.propDecidable (a=b)
def pl:Nat->T->Bool
 |_,.non=>true
 |_,.int _=>true
 |_,.str _=>true
 |d+1,.tup ts=>ts.all (pl d)
 |_,_=>false
section
variable {X:Cx}{pins:List (Addr × Obj)}{Z:L2.St}{H:Hp}{s:Shared}
theorem ww (I:Inv X pins Z H s):∀(d:Nat) (x y:T) (v:V),pl d x=true->pl d y=true->Rep X.K H x v->Rep X.K H y v->x=y:=by
 intro d;induction d with
 |zero =>
  intro x y v px py rx ry;cases x <;> cases y <;> first
   |rfl
   | (simp only[Rep] at rx ry;subst rx;cases ry <;> rfl)
   | (simp [pl] at px;done)
   | (simp [pl] at py;done)
 |succ d ih =>
 intro x y v px py rx ry;cases x with
 |tup ts =>
  cases y with
  |tup us =>
   obtain⟨a,xs,rfl,sq,r⟩:=rx.tup;obtain⟨b,ys,e,sq',r'⟩:=ry.tup;cases e;have:=I.tuple_inj sq sq';subst this;simp only[pl,S_] at px py;congr 1;have key:∀(ts us:List T) (xs:List V),(∀t∈ts,pl d t=true)->(∀t∈us,pl d t=true)->Reps X.K H ts xs->Reps X.K H us xs->ts=us:=by
    intro ts;induction ts with
    |nil =>
     intro us xs _ _ h h';rw[h.inv0] at h';cases us with
     |nil=>rfl
     |cons u us=>obtain⟨_,_,e,_⟩:=h'.inv;cases e
    |cons t ts ih2 =>
    intro us xs p1 p2 h h';obtain⟨v,r,rfl,a,b⟩:=h.inv;cases us with
    |nil=>exact absurd h'.inv0 (by simp)
    |cons u us =>
    obtain⟨v',r',e,a',b'⟩:=h'.inv;cases e;rw[ih t u v (p1 t i_) (p2 u i_) a a',ih2 us r (fun t ht=>p1 t (n_ _ ht)) (fun t ht=>p2 t (n_ _ ht)) b b']
   exact key ts us xs px py r r'
  |_=>first | (simp only[Rep] at rx ry;obtain⟨a,xs,e,_⟩:=rx;subst e;cases ry;done) | (simp [pl] at py;done)
 |_=>cases y <;> first
  |rfl
  | (simp only[Rep] at rx ry;subst rx;cases ry <;> rfl)
  | (simp [pl] at px;done)
  | (simp [pl] at py;done)
  | (simp only[Rep] at rx ry;obtain⟨a,xs,e,_⟩:=ry;subst e;cases rx;done)
theorem units_in1 (A:Around):A.in1.units=A.units+1:=by rfl
theorem lK {α:Type} [DecidableEq (Option α)] (ts us:List α):((List.range (min ts.length us.length)).all (fun j=>decide (ts[j]?=us[j]?))&&ts.length==us.length)=true↔ts=us:=by
 rw[L_,S_,Ze];constructor
 ·rintro⟨h,hl⟩;refine List.ext_getElem? fun i=>?_;by_cases hi:i<ts.length
  ·exact Xv (h i (C_.mpr (by omega)))
  rw[W_ (by omega),W_ (by omega)]
 rintro rfl;exact⟨fun i _=>by simp,rfl⟩
theorem Fz {us:List Value}{i:Nat}(h:i<us.toArray.size) {v:Value}(e:us[i]?=some v):us.toArray[i]=v:=by
 have:us.toArray[i]?=some v:=by simpa using e
 rw[Array.getElem?_eq_getElem h] at this;exact G_ this
theorem wy (I:Inv X pins Z H s):∀(d:Nat) (A:Around) (x y:T) (vx vy:V) (u v:Value),pl d x=true->pl d y=true->Rep X.K H x vx->Rep X.K H y vy->RelV vx u->RelV vy v->A.units+d<cLine->SeqAt.EqAt A s u v (decide (x=y)):=by
 have iV:∀(A:Around) (x y:T) (vx vy:V) (u v:Value),pl 0 x=true->pl 0 y=true->Rep X.K H x vx->Rep X.K H y vy->RelV vx u->RelV vy v->SeqAt.EqAt A s u v (decide (x=y)):=by
  intro A x y vx vy u v px py rx ry ru rv;cases x with
  |non =>
   cases rx.non;cases ru;cases y with
   |non=>cases ry.non;cases rv;simp only[Xz];exact SeqAt.EqAt.same _
   |int j=>cases ry.int;obtain⟨t',rfl⟩:=rv;rw[B_ (by simp)];exact SeqAt.EqAt.none_int _ _
   |str j=>cases ry.str;obtain⟨t',rfl⟩:=rv;rw[B_ (by simp)];exact SeqAt.EqAt.none_str _ _
   |_=>simp [pl] at py
  |int i =>
   cases rx.int;obtain⟨t,rfl⟩:=ru;cases y with
   |non=>cases ry.non;cases rv;rw[B_ (by simp)];exact SeqAt.EqAt.int_none _ _
   |int j=>cases ry.int;obtain⟨t',rfl⟩:=rv;rw[show decide (T.int i=T.int j)=(i==j) by by_cases h:i=j <;> simp [h]];exact SeqAt.EqAt.int_int _ _ _ _
   |str j=>cases ry.str;obtain⟨t',rfl⟩:=rv;rw[B_ (by simp)];exact SeqAt.EqAt.int_str _ _ _ _
   |_=>simp [pl] at py
  |str i =>
   cases rx.str;obtain⟨t,rfl⟩:=ru;cases y with
   |non=>cases ry.non;cases rv;rw[B_ (by simp)];exact SeqAt.EqAt.str_none _ _
   |int j=>cases ry.int;obtain⟨t',rfl⟩:=rv;rw[B_ (by simp)];exact SeqAt.EqAt.str_int _ _ _ _
   |str j=>cases ry.str;obtain⟨t',rfl⟩:=rv;rw[show decide (T.str i=T.str j)=(i==j) by by_cases h:i=j <;> simp [h]];exact SeqAt.EqAt.str_str _ _ _ _
   |_=>simp [pl] at py
  |_=>simp [pl] at px
 intro d;induction d with
 |zero=>intro A x y vx vy u v px py rx ry ru rv _;exact iV A x y vx vy u v px py rx ry ru rv
 |succ d ih =>
 intro A x y vx vy u v px py rx ry ru rv hu;have hu0:A.units<cLine:=by omega
 cases x with
 |tup ts =>
  obtain⟨a,xs,rfl,sq,r⟩:=rx.tup;cases ru;obtain⟨its,rv1,ht,_⟩:=I.tuple sq;cases y with
  |tup us =>
   obtain⟨b,ys,rfl,sq',r'⟩:=ry.tup;cases rv;obtain⟨its',rv2,ht',_⟩:=I.tuple sq';by_cases hab:a=b
   ·subst hab;have e:T.tup ts=T.tup us:=ww I (d+1) _ _ (.ref a) px py (.ofTup sq r) (.ofTup sq' r');rw[e,P_ rfl];exact SeqAt.EqAt.same _
   have l1:=r.length;have l2:=r'.length;have l3:=rv1.length;have l4:=rv2.length;have key:=SeqAt.RcAt.tuples (A:=A) (s:=s) (e:=fun j=>decide (ts[j]?=us[j]?)) (show s.heap.IsTuple a its.toArray from ht) (show s.heap.IsTuple b its'.toArray from ht') hu0 (fun j h1 h2=>by
    rw[k_] at h1 h2
    have g1:j<ts.length:=by omega
    have g2:j<us.length:=by omega
    obtain⟨p1,e1,q1⟩:=r.get (d_ g1)
    obtain⟨p2,e2,q2⟩:=r'.get (d_ g2)
    obtain⟨z1,f1,w1⟩:=rv1.get e1
    obtain⟨z2,f2,w2⟩:=rv2.get e2
    rw[Fz _ f1,Fz _ f2,d_ g1,d_ g2]
    simp only[pl,S_] at px py
    have:=ih A.in1 ts[j] us[j] p1 p2 z1 z2 (px _ (Xp g1)) (py _ (Xp g2)) q1 q2 w1 w2 (by rw[units_in1];omega)
    rw[show decide (some ts[j]=some us[j])=decide (ts[j]=us[j]) by by_cases h:ts[j]=us[j] <;> simp [h]]
    exact this)
   have eb:((List.range (min its.toArray.size its'.toArray.size)).all (fun j=>decide (ts[j]?=us[j]?))&&its.toArray.size==its'.toArray.size)=decide (T.tup ts=T.tup us):=by
    rw[k_,k_,<- l3,<- l1,<- l4,<- l2,Xg,lK,p_];constructor
    ·rintro rfl;rfl
    intro h;injection h
   rw[eb] at key;exact .of_refs hab key
  |non=>cases ry.non;cases rv;rw[B_ (by simp)];exact SeqAt.EqAt.tuple_none ht hu0
  |int j=>cases ry.int;obtain⟨t',rfl⟩:=rv;rw[B_ (by simp)];exact SeqAt.EqAt.tuple_int _ _ ht hu0
  |str j=>cases ry.str;obtain⟨t',rfl⟩:=rv;rw[B_ (by simp)];exact SeqAt.EqAt.tuple_str _ _ ht hu0
  |_=>simp [pl] at py
 |non =>
  cases y with
  |tup us=>obtain⟨b,ys,rfl,sq',r'⟩:=ry.tup;cases rv;obtain⟨its',rv2,ht',_⟩:=I.tuple sq';cases rx.non;cases ru;rw[B_ (by simp)];exact SeqAt.EqAt.none_tuple ht' hu0
  |non=>exact iV A _ _ vx vy u v rfl rfl rx ry ru rv
  |int j=>exact iV A _ _ vx vy u v rfl rfl rx ry ru rv
  |str j=>exact iV A _ _ vx vy u v rfl rfl rx ry ru rv
  |_=>simp [pl] at py
 |int i =>
  cases y with
  |tup us=>obtain⟨b,ys,rfl,sq',r'⟩:=ry.tup;cases rv;obtain⟨its',rv2,ht',_⟩:=I.tuple sq';cases rx.int;obtain⟨t,rfl⟩:=ru;rw[B_ (by simp)];exact SeqAt.EqAt.int_tuple _ _ ht' hu0
  |non=>exact iV A _ _ vx vy u v rfl rfl rx ry ru rv
  |int j=>exact iV A _ _ vx vy u v rfl rfl rx ry ru rv
  |str j=>exact iV A _ _ vx vy u v rfl rfl rx ry ru rv
  |_=>simp [pl] at py
 |str i =>
  cases y with
  |tup us=>obtain⟨b,ys,rfl,sq',r'⟩:=ry.tup;cases rv;obtain⟨its',rv2,ht',_⟩:=I.tuple sq';cases rx.str;obtain⟨t,rfl⟩:=ru;rw[B_ (by simp)];exact SeqAt.EqAt.str_tuple _ _ ht' hu0
  |non=>exact iV A _ _ vx vy u v rfl rfl rx ry ru rv
  |int j=>exact iV A _ _ vx vy u v rfl rfl rx ry ru rv
  |str j=>exact iV A _ _ vx vy u v rfl rfl rx ry ru rv
  |_=>simp [pl] at py
 |_=>simp [pl] at px
end
def rI3 (C:Int->Int->Prop) (g:Int->Int->T):R3:=fun x y H Q=>match x,y with
 |.int i,.int j=>C i j/\Q (g i j) H
 |_,_=>False
def pK (g:Int->Int->T):R3:=fun x y H Q=>match x,y with
 |.int i,.int j=>Q (g i j) H
 |_,_=>False
section
variable {X:Cx}
theorem qZ {f:Value->Value->Sem Value}{C:Int->Int->Prop}{g:Int->Int->T}{g':Int->Int->V}(h:OpR X f (rI C g')) (hg:∀i j H,Rep X.K H (g i j) (g' i j)):du X f (rI3 C g):=by
 refine OpR.imp h ?_;rintro x y H Q ⟨tx,ty,H3,Q3,rx,ry,sh,h,k⟩;cases tx with
 |int i =>
  cases ty with
  |int j=>exact⟨i,j,rx.int,ry.int,h.1,k _ _ _ _ .refl sh (hg i j H) h.2⟩
  |_=>exact h.elim
 |_=>exact h.elim
theorem lM {f:Value->Value->Sem Value}{g:Int->Int->T}{g':Int->Int->V}(h:OpR X f (rI0 g')) (hg:∀i j H,Rep X.K H (g i j) (g' i j)):du X f (pK g):=by
 refine OpR.imp h ?_;rintro x y H Q ⟨tx,ty,H3,Q3,rx,ry,sh,h,k⟩;cases tx with
 |int i =>
  cases ty with
  |int j=>exact⟨i,j,rx.int,ry.int,k _ _ _ _ .refl sh (hg i j H) h⟩
  |_=>exact h.elim
 |_=>exact h.elim
def Jb (_ j:Int):Prop:=0<j/\j.natAbs.log2<9000
theorem zV:OpR X (binaryOp .FloorDiv) (rI Jb fun i j=>.int (i / j)):=opI fun i j _ _ _ _ _ hc q=>by
 have e:i / j=i.fdiv j:=(Int.fdiv_eq_ediv_of_nonneg i (Int.le_of_lt hc.1)).symm;rw[e] at q;exact floordiv_int (Int.ne_of_gt hc.1) q (.inl (PyProof.noPylong_of_log2 hc.2))
theorem pL:du X (binaryOp .Sub) (pK fun i j=>.int (i - j)):=lM K6 fun _ _ _=>.ofInt
theorem gm:du X (binaryOp .FloorDiv) (rI3 Jb fun i j=>.int (i / j)):=qZ zV fun _ _ _=>.ofInt
theorem dW:du X (binaryOp .Mod) (rI3 (fun _ j=>0<j) fun i j=>.int (i%j)):=qZ K8 fun _ _ _=>.ofInt
theorem gC:du X (binaryOp .Pow) (rI3 Em fun i j=>.int (i^j.toNat)):=qZ K9 fun _ _ _=>.ofInt
theorem wz:du X (compareOp .Lt) (pK fun i j=>.bl (decide (i<j))):=lM Q4 fun _ _ _=>.ofBl
theorem zW:du X (compareOp .LtE) (pK fun i j=>.bl (decide (i<=j))):=lM Q5 fun _ _ _=>.ofBl
theorem RB:du X (compareOp .Gt) (pK fun i j=>.bl (decide (j<i))):=lM Q6 fun _ _ _=>.ofBl
theorem RC:du X (compareOp .GtE) (pK fun i j=>.bl (decide (j<=i))):=lM Q7 fun _ _ _=>.ofBl
theorem gW:du X (binaryOp .Mult) (rI3 CMul fun i j=>.int (i*j)):=qZ K7 fun _ _ _=>.ofInt
def oh:R3:=fun x y H Q=>match x,y with
 |.int i,.int j=>Q (.int (i+j)) H
 |.str i,.str j=>i.length+j.length<=sizeLine/\Q (.str (i++j)) H
 |.ref a,.ref b=>match H a,H b with
  |some (.lst xs),some (.lst ys)=>xs.length+ys.length<=sizeLine/\∀p,H p=none->Q (.ref p) (up3 H p (.lst (xs++ys)))
  |_,_=>False
 |.tup xs,.tup ys=>xs.length+ys.length<=sizeLine/\Q (.tup (xs++ys)) H
 |_,_=>False
theorem zX:OpR X (binaryOp .Add) (fun x y H Q=>∃a b ys,x=.ref a/\y=.ref b/\SqT X.K H a []/\SqT X.K H b ys/\Q (.ref b) H):=by
 intro pins s Z H x y v u Q I rx ry h;obtain⟨a,b,ys,rfl,rfl,ha,hb,q⟩:=h;cases rx;cases ry;obtain⟨its,r1,p1,_⟩:=I.tuple ha;obtain⟨its2,r2,p2,_⟩:=I.tuple hb;cases r1;obtain⟨⟨cls,dd,data,sl⟩,ho,hc,n,hd⟩:=id p1;obtain⟨⟨cls2,dd2,data2,sl2⟩,ho2,hc2,n2,hd2⟩:=id p2;simp only at hc hd hc2 hd2;subst hc hd hc2 hd2;exact concat_meets ⟨_,ho,rfl⟩ ⟨_,ho2,rfl⟩ noFill_tuple_add seq_tuple_add PySem.F.slot_tuple_add PySem.F.entry_tuple_add (Zu _ _)
   (tuple_addW0 a b _ its2.toArray n n2 dd dd2 sl sl2 (by simp)) ⟨ho,ho2,⟨.ref b,H,I,rfl,q⟩⟩
theorem aY:du X (binaryOp .Add) oh:=by
 refine OpR.imp (op_add.or (op_add_str.or (op_cat.or (op_catT.or zX)))) ?_;rintro x y H Q ⟨tx,ty,H3,Q3,rx,ry,sh,h,k⟩;cases tx with
 |int i =>
  cases ty with
  |int j=>exact .inl ⟨i,j,rx.int,ry.int,k _ _ _ _ .refl sh .ofInt h⟩
  |_=>exact h.elim
 |str i =>
  cases ty with
  |str j=>exact .inr (.inl ⟨i,j,rx.str,ry.str,h.1,k _ _ _ _ .refl sh .ofStr h.2⟩)
  |_=>exact h.elim
 |ref a =>
  cases ty with
  |ref b =>
   have h':(match H3 a,H3 b with
    |some (.lst xs),some (.lst ys)=>xs.length+ys.length<=sizeLine/\∀p,H3 p=none->Q3 (.ref p) (up3 H3 p (.lst (xs++ys)))
    |_,_=>False):=h
   split at h'
   ·
    rename_i xs ys e1 e2
    obtain⟨vs,g1,r1⟩:=sh a _ e1
    obtain⟨ws,g2,r2⟩:=sh b _ e2
    refine .inr (.inr (.inl ⟨a,b,vs,ws,rx.ref,ry.ref,g1,g2,by rw[<- r1.length,<- r2.length];exact h'.1,fun p hp=>?_⟩))
    exact k _ _ _ _ (aP hp) (sh.newLst hp (r1.append r2)) .ofRef (h'.2 p (sh.fresh hp))
   ·
    exact h'.elim
  |_=>exact h.elim
 |tup xs =>
  cases ty with
  |tup ys =>
   obtain⟨a,vs,rfl,s1,r1⟩:=rx.tup;obtain⟨b,ws,rfl,s2,r2⟩:=ry.tup;by_cases hv:vs=[]
   ·subst hv;have e0:xs=[]:=X5 r1.length;subst e0;exact .inr (.inr (.inr (.inr ⟨a,b,ws,rfl,rfl,s1,s2,k _ _ _ _ .refl sh (.ofTup s2 r2) h.2⟩)))
   refine .inr (.inr (.inr (.inl ⟨a,b,vs,ws,rfl,rfl,s1,s2,hv,by rw[<- r1.length,<- r2.length];exact h.1,fun hw=>?_,fun hw p hp=>?_⟩)))
   ·have e:ys=[]:=by have:=r2.length;rw[hw] at this;exact X5 this
    have q:=h.2;rw[e,I_] at q;exact k _ _ _ _ .refl sh (.ofTup s1 r1) q
   exact k _ _ _ _ (aP hp) (sh.new hp) (SimH.newTup (H3:=H3) hp (r1.append r2)) h.2
  |_=>exact h.elim
 |_=>exact h.elim
variable {pins:List (Addr × Obj)}{Z:L2.St}{H:Hp}{s:Shared}
def um (neg:Bool):R3:=fun x y H Q=>match x,y with
 |.int i,.int j=>Q (.bl (if neg then !decide (i=j) else decide (i=j))) H
 |.str i,.str j=>Q (.bl (if neg then !decide (i=j) else decide (i=j))) H
 |.bl i,.bl j=>Q (.bl (if neg then !decide (i=j) else decide (i=j))) H
 |.non,.non=>Q (.bl (if neg then false else true)) H
 |.tup xs,.tup ys=>xs.all (pl 20)=true/\ys.all (pl 20)=true/\Q (.bl (if neg then !decide (xs=ys) else decide (xs=ys))) H
 |.ref a,.ref b=>match H a,H b with
  |some (.lst xs),some (.lst ys)=>a≠b/\xs.all (pl 20)=true/\ys.all (pl 20)=true/\Q (.bl (if neg then !decide (xs=ys) else decide (xs=ys))) H
  |_,_=>False
 |_,_=>False
theorem gY (I:Inv X pins Z H s) {ts us:List T}{xs ys:List V}{its its':List Value}{A:Around}(hu:A.units+30<cLine) (px:ts.all (pl 20)=true) (py:us.all (pl 20)=true) (r:Reps X.K H ts xs) (r':Reps X.K H us ys) (rv1:Vals xs its) (rv2:Vals ys its') :
  ∀j (h1:j<its.toArray.size) (h2:j<its'.toArray.size),SeqAt.EqAt A.in1 s its.toArray[j] its'.toArray[j] (decide (ts[j]?=us[j]?)):=fun j h1 h2=>by
 have l1:=r.length;have l2:=r'.length;have l3:=rv1.length;have l4:=rv2.length;rw[k_] at h1 h2;have g1:j<ts.length:=by omega
 have g2:j<us.length:=by omega
 obtain⟨p1,e1,q1⟩:=r.get (d_ g1);obtain⟨p2,e2,q2⟩:=r'.get (d_ g2);obtain⟨z1,f1,w1⟩:=rv1.get e1;obtain⟨z2,f2,w2⟩:=rv2.get e2;rw[Fz _ f1,Fz _ f2,d_ g1,d_ g2];rw[S_] at px py;have:=wy I 20 A.in1 ts[j] us[j] p1 p2 z1 z2 (px _ (Xp g1)) (py _ (Xp g2)) q1 q2 w1 w2 (by rw[units_in1];omega);rw[show decide (some ts[j]=some us[j])=decide (ts[j]=us[j]) by by_cases h:ts[j]=us[j] <;> simp [h]];exact this
theorem gZ {ts us:List T}:((List.range (min ts.length us.length)).all (fun j=>decide (ts[j]?=us[j]?))&&ts.length==us.length)=decide (ts=us):=by
 rw[Xg,lK,p_]
theorem bR (hu:X.A.units+30<cLine):du X (compareOp .Eq) (um false):=by
 intro pins s Z H x y v u Q I rv ru h;obtain⟨tx,ty,H3,Q3,rx,ry,sh,h,k⟩:=h;have sc:∀{x y:V},iV x y=true->RelV x v->RelV y u->(k:Q (.bl (decide (x=y))) H)->wpAny (model X.prog X.w) X.A (compareOp .Eq v u) (EP X pins Z Q) X.xe s:=fun {x y} a r1 r2 q=>QZ pins s Z H x y v u Q I r1 r2 ⟨a,q⟩;cases tx with
 |int i =>
  cases ty with
  |int j=>rw[rx.int] at rv;rw[ry.int] at ru;exact sc rfl rv ru (k _ _ _ _ .refl sh (by rw[show decide (V.int i=V.int j)=decide (i=j) by by_cases e:i=j <;> simp [e]];exact .ofBl) h)
  |_=>exact h.elim
 |str i =>
  cases ty with
  |str j=>rw[rx.str] at rv;rw[ry.str] at ru;exact sc rfl rv ru (k _ _ _ _ .refl sh (by rw[show decide (V.str i=V.str j)=decide (i=j) by by_cases e:i=j <;> simp [e]];exact .ofBl) h)
  |_=>exact h.elim
 |bl i =>
  cases ty with
  |bl j=>rw[rx.bl] at rv;rw[ry.bl] at ru;exact sc rfl rv ru (k _ _ _ _ .refl sh (by rw[show decide (V.bl i=V.bl j)=decide (i=j) by by_cases e:i=j <;> simp [e]];exact .ofBl) h)
  |_=>exact h.elim
 |non =>
  cases ty with
  |non=>rw[rx.non] at rv;rw[ry.non] at ru;exact sc rfl rv ru (k _ _ _ _ .refl sh (by rw[show decide (V.non=V.non)=true by simp];exact .ofBl) h)
  |_=>exact h.elim
 |tup ts =>
  cases ty with
  |tup us=>obtain⟨a,xs,rfl,sq,r⟩:=rx.tup;obtain⟨b,ys,rfl,sq',r'⟩:=ry.tup;cases rv;cases ru;obtain⟨its,rv1,ht,_⟩:=I.tuple sq;obtain⟨its',rv2,ht',_⟩:=I.tuple sq';refine SeqAt.eq_tupleAt (e:=fun j=>decide (ts[j]?=us[j]?)) ht ht' (by omega) (gY I hu h.1 h.2.1 r r' rv1 rv2) ⟨.bl _,H,I,rfl,?_⟩;rw[k_,k_,<- rv1.length,<- rv2.length,<- r.length,<- r'.length,gZ];exact k _ _ _ _ .refl sh .ofBl h.2.2
  |_=>exact h.elim
 |ref a =>
  cases ty with
  |ref b =>
   have h':(match H3 a,H3 b with
    |some (.lst xs),some (.lst ys)=>a≠b/\xs.all (pl 20)=true/\ys.all (pl 20)=true/\Q3 (.bl (decide (xs=ys))) H3
    |_,_=>False):=h
   split at h'
   ·
    rename_i ts us e1 e2
    obtain⟨xs,g1,r⟩:=sh a _ e1
    obtain⟨ys,g2,r'⟩:=sh b _ e2
    cases rx.ref;cases ry.ref;cases rv;cases ru
    obtain⟨its,rv1,ht,_⟩:=I.list (X:=X) (.of g1)
    obtain⟨its',rv2,ht',_⟩:=I.list (X:=X) (.of g2)
    have hl:its.length=ts.length:=by rw[<- rv1.length,<- r.length]
    have hl':its'.length=us.length:=by rw[<- rv2.length,<- r'.length]
    by_cases hsz:ts.length=us.length
    ·
     refine SeqAt.eq_listAt (e:=fun j=>decide (ts[j]?=us[j]?)) ht.isList ht'.isList (by simp;omega) (by omega) (gY I hu h'.2.1 h'.2.2.1 r r' rv1 rv2) ⟨.bl _,H,I,rfl,?_⟩
     have e:=gZ (ts:=ts) (us:=us)
     rw[<- hsz,Nat.min_self,beq_self_eq_true,YS] at e
     rw[k_,hl,e]
     exact k _ _ _ _ .refl sh .ofBl h'.2.2.2
    ·
     refine SeqAt.eq_list_lengthsAt ht.isList ht'.isList (by simp;omega) (by omega) ⟨.bl false,H,I,rfl,?_⟩
     have e:decide (ts=us)=false:=B_ fun z=>hsz (by rw[z])
     have q:=h'.2.2.2
     rw[e] at q
     exact k _ _ _ _ .refl sh .ofBl q
   ·
    exact h'.elim
  |_=>exact h.elim
 |_=>exact h.elim
theorem lN (hu:X.A.units+30<cLine):du X (compareOp .NotEq) (um true):=by
 intro pins s Z H x y v u Q I rv ru h;obtain⟨tx,ty,H3,Q3,rx,ry,sh,h,k⟩:=h;have sc:∀{x y:V},iV x y=true->RelV x v->RelV y u->(k:Q (.bl (!decide (x=y))) H)->wpAny (model X.prog X.w) X.A (compareOp .NotEq v u) (EP X pins Z Q) X.xe s:=fun {x y} a r1 r2 q=>Q0 pins s Z H x y v u Q I r1 r2 ⟨a,q⟩;cases tx with
 |int i =>
  cases ty with
  |int j=>rw[rx.int] at rv;rw[ry.int] at ru;exact sc rfl rv ru (k _ _ _ _ .refl sh (by rw[show decide (V.int i=V.int j)=decide (i=j) by by_cases e:i=j <;> simp [e]];exact .ofBl) h)
  |_=>exact h.elim
 |str i =>
  cases ty with
  |str j=>rw[rx.str] at rv;rw[ry.str] at ru;exact sc rfl rv ru (k _ _ _ _ .refl sh (by rw[show decide (V.str i=V.str j)=decide (i=j) by by_cases e:i=j <;> simp [e]];exact .ofBl) h)
  |_=>exact h.elim
 |bl i =>
  cases ty with
  |bl j=>rw[rx.bl] at rv;rw[ry.bl] at ru;exact sc rfl rv ru (k _ _ _ _ .refl sh (by rw[show decide (V.bl i=V.bl j)=decide (i=j) by by_cases e:i=j <;> simp [e]];exact .ofBl) h)
  |_=>exact h.elim
 |non =>
  cases ty with
  |non=>rw[rx.non] at rv;rw[ry.non] at ru;exact sc rfl rv ru (k _ _ _ _ .refl sh (by rw[show decide (V.non=V.non)=true by simp];exact .ofBl) h)
  |_=>exact h.elim
 |tup ts =>
  cases ty with
  |tup us=>obtain⟨a,xs,rfl,sq,r⟩:=rx.tup;obtain⟨b,ys,rfl,sq',r'⟩:=ry.tup;cases rv;cases ru;obtain⟨its,rv1,ht,_⟩:=I.tuple sq;obtain⟨its',rv2,ht',_⟩:=I.tuple sq';refine SeqAt.RcNeAt.tuples (e:=fun j=>decide (ts[j]?=us[j]?)) ht ht' (by omega) (gY I hu h.1 h.2.1 r r' rv1 rv2) _ _ _ _ ⟨.bl _,H,I,rfl,?_⟩;rw[k_,k_,<- rv1.length,<- rv2.length,<- r.length,<- r'.length,gZ];exact k _ _ _ _ .refl sh .ofBl h.2.2
  |_=>exact h.elim
 |ref a =>
  cases ty with
  |ref b =>
   have h':(match H3 a,H3 b with
    |some (.lst xs),some (.lst ys)=>a≠b/\xs.all (pl 20)=true/\ys.all (pl 20)=true/\Q3 (.bl (!decide (xs=ys))) H3
    |_,_=>False):=h
   split at h'
   ·
    rename_i ts us e1 e2
    obtain⟨xs,g1,r⟩:=sh a _ e1
    obtain⟨ys,g2,r'⟩:=sh b _ e2
    cases rx.ref;cases ry.ref;cases rv;cases ru
    obtain⟨its,rv1,ht,_⟩:=I.list (X:=X) (.of g1)
    obtain⟨its',rv2,ht',_⟩:=I.list (X:=X) (.of g2)
    have hl:its.length=ts.length:=by rw[<- rv1.length,<- r.length]
    have hl':its'.length=us.length:=by rw[<- rv2.length,<- r'.length]
    by_cases hsz:ts.length=us.length
    ·
     refine SeqAt.RcNeAt.lists (e:=fun j=>decide (ts[j]?=us[j]?)) ht.isList ht'.isList (by simp;omega) (by omega) (gY I hu h'.2.1 h'.2.2.1 r r' rv1 rv2) _ _ _ _ ⟨.bl _,H,I,rfl,?_⟩
     have e:=gZ (ts:=ts) (us:=us)
     rw[<- hsz,Nat.min_self,beq_self_eq_true,YS] at e
     rw[k_,hl,e]
     exact k _ _ _ _ .refl sh .ofBl h'.2.2.2
    ·
     refine SeqAt.RcNeAt.lists_lengths ht.isList ht'.isList (by simp;omega) (by omega) _ _ _ _ ⟨.bl true,H,I,rfl,?_⟩
     have e:decide (ts=us)=false:=B_ fun z=>hsz (by rw[z])
     have q:=h'.2.2.2
     rw[e] at q
     exact k _ _ _ _ .refl sh .ofBl q
   ·
    exact h'.elim
  |_=>exact h.elim
 |_=>exact h.elim
def dD (neg:Bool) (x:T) (ts:List T):Bool:=if neg then !decide (x∈ts) else decide (x∈ts)
def occ (neg:Bool) (i j:Str):Bool:=if neg then !(!(Builtin.Str.occurrences j i 0 j.length 1).isEmpty) else !(Builtin.Str.occurrences j i 0 j.length 1).isEmpty
def uo (neg:Bool):R3:=fun x y H Q=>match y with
 |.tup ts=>pl 20 x=true/\ts.all (pl 20)=true/\Q (.bl (dD neg x ts)) H
 |.ref a=>match H a with
  |some (.lst ts)=>pl 20 x=true/\ts.all (pl 20)=true/\Q (.bl (dD neg x ts)) H
  |some (.rol ts)=>pl 20 x=true/\ts.all (pl 20)=true/\Q (.bl (dD neg x ts)) H
  |_=>False
 |.str j=>match x with
  |.str i=>Q (.bl (occ neg i j)) H
  |_=>False
 |_=>False
theorem pM (I:Inv X pins Z H s) {x:T}{ts:List T}{xs:List V}{its:List Value}(px:pl 20 x=true) (pts:ts.all (pl 20)=true) (r:Reps X.K H ts xs) (rv:Vals xs its) (A:Around) (hu:A.units+30<cLine) {vx:V}{u:Value}(rx:Rep X.K H x vx) (ru:RelV vx u) :
  ∃e:Value->Bool,(∀y,y∈its->SeqAt.EqAt A s y u (e y))/\its.any e=decide (x∈ts):=by
 rw[S_] at pts;have own:∀y,y∈its->∃t v,t∈ts/\Rep X.K H t v/\RelV v y:=fun y hy=>by
  obtain⟨i,hi,e⟩:=List.mem_iff_getElem.mp hy;have hl:=rv.length;have e':its[i]?=some y:=by rw[d_ hi,e]
  have hx:xs[i]?=some xs[i]:=d_ (by omega);obtain⟨z,ez,rz⟩:=rv.get hx;rw[e'] at ez;cases ez;obtain⟨t,et,rt⟩:=r.get' hx;exact⟨t,_,XX et,rt,rz⟩
 have dec:∀t v y,t∈ts->Rep X.K H t v->RelV v y->(@decide (∃v,RelV v y/\Rep X.K H x v) (Classical.propDecidable _)=true↔t=x):=fun t v y ht rt ry=>by
  rw[@p_ _ (Classical.propDecidable _)];constructor
  ·rintro⟨v',r1,r2⟩;cases r1.inj ry;exact ww I 20 t x _ (pts t ht) px rt r2
  rintro rfl;exact⟨v,ry,rt⟩
 refine⟨fun y=>@decide (∃v,RelV v y/\Rep X.K H x v) (Classical.propDecidable _),fun y hy=>?_,?_⟩
 ·obtain⟨t,v,ht,rt,ry⟩:=own y hy;have q:=wy I 20 A t x v vx y u (pts t ht) px rt rx ry ru (by omega);have e:@decide (∃v,RelV v y/\Rep X.K H x v) (Classical.propDecidable _)=decide (t=x):=by rw[Xg,dec t v y ht rt ry,p_]
  show SeqAt.EqAt A s y u (@decide (∃v,RelV v y/\Rep X.K H x v) (Classical.propDecidable _));rw[e];exact q
 rw[Xg,List.any_eq_true,p_];constructor
 ·rintro⟨y,hy,e⟩;obtain⟨t,v,ht,rt,ry⟩:=own y hy;rw[<- (dec t v y ht rt ry).mp e];exact ht
 intro hx;obtain⟨i,hi,e⟩:=List.mem_iff_getElem.mp hx;obtain⟨v,ev,rvv⟩:=r.get (show ts[i]?=some x by rw[d_ hi,e]);obtain⟨y,ey,ry⟩:=rv.get ev;exact⟨y,XX ey,(dec x v y hx rvv ry).mpr rfl⟩
theorem zY (hu:X.A.units+31<cLine):du X (compareOp .In) (uo false):=by
 intro pins s Z H x y v u Q I rv ru h;obtain⟨tx,ty,H3,Q3,rx,ry,sh,h,k⟩:=h;have hu':X.A.in1.units+30<cLine:=by rw[units_in1];omega
 have lst:∀{a:Addr} {ts:List T} {xs:List V},SqL X.K H a xs->Reps X.K H ts xs->u=.ref a->pl 20 tx=true->ts.all (pl 20)=true->Q3 (.bl (dD false tx ts)) H3->wpAny (model X.prog X.w) X.A (compareOp .In v u) (EP X pins Z Q) X.xe s:=by intro a ts xs sq r e p1 p2 q;subst e;obtain⟨its,rvs,ht,_⟩:=I.list sq;obtain⟨e,he,ea⟩:=pM I p1 p2 r rvs X.A.in1 hu' rx rv;refine SeqAt.in_listAt e ht.isList (fun y hy=>he y (by simpa using hy)) ⟨.bl _,H,I,rfl,?_⟩;rw[show its.toArray.any e=its.any e by simp,ea];exact k _ _ _ _ .refl sh .ofBl q
 cases ty with
 |tup ts=>obtain⟨a,xs,rfl,sq,r⟩:=ry.tup;cases ru;obtain⟨its,rvs,ht,_⟩:=I.tuple sq;obtain⟨e,he,ea⟩:=pM I h.1 h.2.1 r rvs X.A.in1 hu' rx rv;refine SeqAt.in_tupleAt e ht (fun y hy=>he y (by simpa using hy)) ⟨.bl _,H,I,rfl,?_⟩;rw[show its.toArray.any e=its.any e by simp,ea];exact k _ _ _ _ .refl sh .ofBl h.2.2
 |ref a =>
  have h':(match H3 a with
   |some (.lst ts)=>pl 20 tx=true/\ts.all (pl 20)=true/\Q3 (.bl (dD false tx ts)) H3
   |some (.rol ts)=>pl 20 tx=true/\ts.all (pl 20)=true/\Q3 (.bl (dD false tx ts)) H3
   |_=>False):=h
  rw[ry.ref] at ru
  split at h'
  ·
   rename_i ts e
   obtain⟨xs,sq,r⟩:=sh.sqL (.inl e)
   exact lst sq r ru h'.1 h'.2.1 h'.2.2
  ·
   rename_i ts e
   obtain⟨xs,sq,r⟩:=sh.sqL (.inr e)
   exact lst sq r ru h'.1 h'.2.1 h'.2.2
  ·
   exact h'.elim
 |str j =>
  cases tx with
  |str i=>exact xY pins s Z H x y v u Q I rv ru ⟨i,j,rx.str,ry.str,k _ _ _ _ .refl sh .ofBl h⟩
  |_=>exact h.elim
 |_=>exact h.elim
theorem q8 (hu:X.A.units+31<cLine):du X (compareOp .NotIn) (uo true):=by
 intro pins s Z H x y v u Q I rv ru h;obtain⟨tx,ty,H3,Q3,rx,ry,sh,h,k⟩:=h;have hu':X.A.in1.units+30<cLine:=by rw[units_in1];omega
 have lst:∀{a:Addr} {ts:List T} {xs:List V},SqL X.K H a xs->Reps X.K H ts xs->u=.ref a->pl 20 tx=true->ts.all (pl 20)=true->Q3 (.bl (dD true tx ts)) H3->wpAny (model X.prog X.w) X.A (compareOp .NotIn v u) (EP X pins Z Q) X.xe s:=by intro a ts xs sq r e p1 p2 q;subst e;obtain⟨its,rvs,ht,_⟩:=I.list sq;obtain⟨e,he,ea⟩:=pM I p1 p2 r rvs X.A.in1 hu' rx rv;refine SeqAt.notIn_listAt e ht.isList (fun y hy=>he y (by simpa using hy)) ⟨.bl _,H,I,rfl,?_⟩;rw[show its.toArray.any e=its.any e by simp,ea];exact k _ _ _ _ .refl sh .ofBl q
 cases ty with
 |tup ts=>obtain⟨a,xs,rfl,sq,r⟩:=ry.tup;cases ru;obtain⟨its,rvs,ht,_⟩:=I.tuple sq;obtain⟨e,he,ea⟩:=pM I h.1 h.2.1 r rvs X.A.in1 hu' rx rv;refine SeqAt.notIn_tupleAt e ht (fun y hy=>he y (by simpa using hy)) ⟨.bl _,H,I,rfl,?_⟩;rw[show its.toArray.any e=its.any e by simp,ea];exact k _ _ _ _ .refl sh .ofBl h.2.2
 |ref a =>
  have h':(match H3 a with
   |some (.lst ts)=>pl 20 tx=true/\ts.all (pl 20)=true/\Q3 (.bl (dD true tx ts)) H3
   |some (.rol ts)=>pl 20 tx=true/\ts.all (pl 20)=true/\Q3 (.bl (dD true tx ts)) H3
   |_=>False):=h
  rw[ry.ref] at ru
  split at h'
  ·
   rename_i ts e
   obtain⟨xs,sq,r⟩:=sh.sqL (.inl e)
   exact lst sq r ru h'.1 h'.2.1 h'.2.2
  ·
   rename_i ts e
   obtain⟨xs,sq,r⟩:=sh.sqL (.inr e)
   exact lst sq r ru h'.1 h'.2.1 h'.2.2
  ·
   exact h'.elim
 |str j =>
  cases tx with
  |str i=>exact oZ pins s Z H x y v u Q I rv ru ⟨i,j,rx.str,ry.str,k _ _ _ _ .refl sh .ofBl h⟩
  |_=>exact h.elim
 |_=>exact h.elim
def oq {α:Type}(o:Option α) (Q:α->Prop):Prop:=match o with
 |some v=>Q v
 |none=>False
def q9:R3:=fun x y H Q=>match x,y with
 |.ref a,.int i=>match H a with
  |some (.lst ts)=>oq (atI ts i) fun t=>Q t H
  |some (.rol ts)=>oq (atI ts i) fun t=>Q t H
  |_=>False
 |.tup ts,.int i=>oq (atI ts i) fun t=>Q t H
 |.str z,.int i=>z.length<=sizeLine/\oq (atI z.cps.toList i) fun c=>Q (.str ⟨#[c]⟩) H
 |_,_=>False
theorem wA {K:Frag}{H:Hp}{ts:List T}{xs:List V}{i:Int}{t:T}(r:Reps K H ts xs) (h:atI ts i=some t):∃v,atI xs i=some v/\Rep K H t v:=by
 unfold atI at h ⊢;rw[<- r.length];cases e:ixN ts.length i with
 |none=>rw[e] at h;cases h
 |some j =>
 rw[e] at h;exact r.get h
theorem ix3:Ry X q9:=by
 refine IxR.imp Lq ?_;rintro x y H Q ⟨tx,ty,H3,Q3,rx,ry,sh,h,k⟩;have lst:∀{a:Addr} {ts:List T} {xs:List V} {i:Int},SqL X.K H a xs->Reps X.K H ts xs->x=.ref a->y=.int i->oq (atI ts i) (fun t=>Q3 t H3)->rIx X.K x y H Q:=by
  intro a ts xs i sq r e1 e2 q;cases e:atI ts i with
  |none=>rw[e] at q;exact q.elim
  |some t =>
  rw[e] at q;obtain⟨v,ev,rv⟩:=wA r e;exact .inl ⟨a,xs,i,v,e1,e2,sq,ev,k _ _ _ _ .refl sh rv q⟩
 cases tx with
 |ref a =>
  cases ty with
  |int i =>
   have h':(match H3 a with
    |some (.lst ts)=>oq (atI ts i) fun t=>Q3 t H3
    |some (.rol ts)=>oq (atI ts i) fun t=>Q3 t H3
    |_=>False):=h
   split at h'
   ·
    rename_i ts e
    obtain⟨xs,sq,r⟩:=sh.sqL (.inl e)
    exact lst sq r rx.ref ry.int h'
   ·
    rename_i ts e
    obtain⟨xs,sq,r⟩:=sh.sqL (.inr e)
    exact lst sq r rx.ref ry.int h'
   ·
    exact h'.elim
  |_=>exact h.elim
 |tup ts =>
  cases ty with
  |int i =>
   have h':oq (atI ts i) fun t=>Q3 t H3:=h
   cases e:atI ts i with
   |none=>rw[e] at h';exact h'.elim
   |some t =>
    rw[e] at h'
    obtain⟨a,xs,e1,sq,r⟩:=rx.tup
    obtain⟨v,ev,rv⟩:=wA r e
    exact .inr (.inl ⟨a,xs,i,v,e1,ry.int,sq,ev,k _ _ _ _ .refl sh rv h'⟩)
  |_=>exact h.elim
 |str z =>
  cases ty with
  |int i =>
   have h':z.length<=sizeLine/\oq (atI z.cps.toList i) fun c=>Q3 (.str ⟨#[c]⟩) H3:=h
   cases e:atI z.cps.toList i with
   |none=>rw[e] at h';exact h'.2.elim
   |some c =>
    rw[e] at h'
    exact .inr (.inr ⟨z,i,c,rx.str,ry.int,h'.1,e,k _ _ _ _ .refl sh .ofStr h'.2⟩)
  |_=>exact h.elim
 |_=>exact h.elim
def zZ:qW:=fun o i v H Q=>match o,i with
 |.ref a,.int k=>match H a with
  |some (.lst ts)=>oq (ixN ts.length k) fun j=>Q (up3 H a (.lst (ts.set j v)))
  |_=>False
 |_,_=>False
theorem SimH.wrL {K:Frag}{H:Hp}{H3:Hp3}{a:Addr}{xs:List V}{ts:List T}{xs':List V}(s:SimH K H3 H) (hH:H a=some (.lst xs)) (r:Reps K H ts xs'):SimH K (up3 H3 a (.lst ts)) (upd H a (.lst xs')):=fun b o e=>by
 have le:TupLe K H (upd H a (.lst xs')):=bA (by rw[hH];exact trivial);by_cases hb:b=a
 ·subst hb;rw[aA] at e;cases e;exact⟨xs',bU,r.mono le⟩
 rw[aC hb] at e;exact (s b o e).stay le fun u q=>by rw[aV hb];exact q
theorem yu:IK X zZ:=by
 refine PSet.imp set_list ?_;rintro o i v H Q ⟨to,ti,tv,H3,Q3,ro,ri,rv,sh,h,k⟩;cases to with
 |ref a =>
  cases ti with
  |int n =>
   have h':(match H3 a with
    |some (.lst ts)=>oq (ixN ts.length n) fun j=>Q3 (up3 H3 a (.lst (ts.set j tv)))
    |_=>False):=h
   split at h'
   ·
    rename_i ts e
    obtain⟨xs,hH,r⟩:=sh a _ e
    cases ej:ixN ts.length n with
    |none=>rw[ej] at h';exact h'.elim
    |some j =>
     rw[ej] at h'
     exact⟨a,xs,n,j,ro.ref,ri.int,hH,by rw[<- r.length];exact ej,k _ _ (bA (by rw[hH];exact trivial)) (sh.wrL hH (r.set j rv)) h'⟩
   ·
    exact h'.elim
  |_=>exact h.elim
 |_=>exact h.elim
abbrev TO3:=St3->Hp3->(Option Int->Hp3->Prop)->Prop
def WN (K:Frag) (t3:TO3):TO:=fun Z H Q=>∃Z3 H3 Q3,SimS K H Z3 Z/\SimH K H3 H/\t3 Z3 H3 Q3/\∀o H' H3',TupLe K H H'->SimH K H3' H'->Q3 o H3'->Q o H'
def PO3 (X:Cx) (e:Option Expr) (t:TO3):Prop:=PO X e (WN X.K t)
theorem PO.imp {e:Option Expr}{t t':TO}(h:PO X e t) (w:∀Z H Q,t' Z H Q->t Z H Q):PO X e t':=fun pins s Z H Q I q=>h pins s Z H Q I (w Z H Q q)
def rm:TO3:=fun _ H Q=>Q none H
def z6 (t:TE3):TO3:=fun Z H Q=>t Z H fun x H1=>match x with
 |.int i=>Q (some i) H1
 |_=>False
theorem jm:PO3 X none rm:=by
 refine PO.imp Ez ?_;rintro Z H Q ⟨Z3,H3,Q3,ss,sh,h,k⟩;exact k _ _ _ .refl sh h
theorem fJ {e:Expr}{te:TE3}(h:PE3 X e te):PO3 X (some e) (z6 te):=by
 refine PO.imp (EY h) ?_;rintro Z H Q ⟨Z3,H3,Q3,ss,sh,h,k⟩;refine⟨Z3,H3,_,ss,sh,h,fun v H' t H3' le sh' r q=>?_⟩;cases t with
 |int i=>exact⟨i,r.int,k _ _ _ le sh' q⟩
 |_=>exact q.elim
theorem Mh:SlR X (fun x lo hi H Q=>∃z,x=.str z/\z.length<=sizeLine/\Q (.str (Txt.slice z lo hi)) H):=by
 intro pins s Z H x v vl vu lo hi sl Q I rx hs pl pu h;obtain⟨z,rfl,hz,q⟩:=h;obtain⟨t,rfl⟩:=rx;refine⟨"str",_,F.slot_str_getitem.lookup,typeIs_str _ _ _,?_⟩;obtain⟨o,e,c,d⟩:=hs;have fin:∀(t':Tok) (k:Nat),EP X pins Z Q (.str (Txt.slice z lo hi) t') { s with toks:=k}:=fun t' k=>⟨.str _,H,I.tok k,⟨t',rfl⟩,q⟩;cases pl with
 |none =>
  cases pu with
  |none=>exact Y0 (l:=none) (u:=none) (st:=none) ⟨o,e,c,d⟩ rfl (post_val_or_str ⟨J_ (Txt.slice_le z _ _) hz,fin⟩)
  |int j uj=>exact Y0 (l:=none) (u:=some (j,uj)) (st:=none) ⟨o,e,c,d⟩ rfl (post_val_or_str ⟨J_ (Txt.slice_le z _ _) hz,fin⟩)
 |int i ui =>
 cases pu with
 |none=>exact Y0 (l:=some (i,ui)) (u:=none) (st:=none) ⟨o,e,c,d⟩ rfl (post_val_or_str ⟨J_ (Txt.slice_le z _ _) hz,fin⟩)
 |int j uj=>exact Y0 (l:=some (i,ui)) (u:=some (j,uj)) (st:=none) ⟨o,e,c,d⟩ rfl (post_val_or_str ⟨J_ (Txt.slice_le z _ _) hz,fin⟩)
def dG (ts:List T) (lo hi:Option Int):List T:=(ts.drop (HT.sIx ts.length 0 lo)).take (HT.sIx ts.length ts.length hi - HT.sIx ts.length 0 lo)
def FJ:T->Option Int->Option Int->Hp3->VK3->Prop:=fun x lo hi H Q=>match x with
 |.ref a=>match H a with
  |some (.lst ts)=>∀p,H p=none->Q (.ref p) (up3 H p (.lst (dG ts lo hi)))
  |some (.rol ts)=>∀p,H p=none->Q (.ref p) (up3 H p (.lst (dG ts lo hi)))
  |_=>False
 |.tup ts=>¬(HT.sIx ts.length 0 lo=0/\HT.sIx ts.length ts.length hi=ts.length)/\Q (.tup (dG ts lo hi)) H
 |.str z=>z.length<=sizeLine/\Q (.str (Txt.slice z lo hi)) H
 |_=>False
def RD (te:TE3) (tl th:TO3):TE3:=fun Z H Q=>te Z H fun x H1=>tl Z H1 fun l H2=>th Z H2 fun u H3=>FJ x l u H3 Q
theorem pN {K:Frag}{H:Hp}{ts:List T}{xs:List V}(r:Reps K H ts xs) (lo hi:Option Int):Reps K H (dG ts lo hi) (qK xs lo hi):=by
 unfold dG qK;rw[<- r.length];exact (r.drop _).take _
theorem jn {e:Expr}{lo hi:Option Expr}{te:TE3}{tl th:TO3}{p2 pos:Pos}(he:PE3 X e te) (hl:PO3 X lo tl) (hu:PO3 X hi th):PE3 X (.Subscript e (.Slice lo hi none p2) pos) (RD te tl th):=by
 refine PE.imp (zx (sl_list.or (sl_tup.or Mh)) he hl hu) ?_;rintro Z H Q ⟨Z3,H3,Q3,ss,sh,h,k⟩;refine⟨Z3,H3,_,ss,sh,h,fun x H1 tx H31 le1 sh1 rx q1=>⟨Z3,H31,_,ss.mono le1,sh1,q1,fun l H2 H32 le2 sh2 q2=>⟨Z3,H32,_,ss.mono (le1.trans le2),sh2,q2,fun u H4 H34 le4 sh4 q4=>?_⟩⟩⟩;have k':=k.at (le1.trans (le2.trans le4));have rx':=rx.mono (le2.trans le4);cases tx with
 |ref a =>
  have h':(match H34 a with
   |some (.lst ts)=>∀p,H34 p=none->Q3 (.ref p) (up3 H34 p (.lst (dG ts l u)))
   |some (.rol ts)=>∀p,H34 p=none->Q3 (.ref p) (up3 H34 p (.lst (dG ts l u)))
   |_=>False):=q4
  split at h'
  ·
   rename_i ts e
   obtain⟨xs,sq,r⟩:=sh4.sqL (.inl e)
   exact .inl ⟨a,xs,rx'.ref,sq,fun p hp=>k' _ _ _ _ (aP hp) (sh4.newLst hp (pN r l u)) .ofRef (h' p (sh4.fresh hp))⟩
  ·
   rename_i ts e
   obtain⟨xs,sq,r⟩:=sh4.sqL (.inr e)
   exact .inl ⟨a,xs,rx'.ref,sq,fun p hp=>k' _ _ _ _ (aP hp) (sh4.newLst hp (pN r l u)) .ofRef (h' p (sh4.fresh hp))⟩
  ·
   exact h'.elim
 |tup ts=>obtain⟨a,xs,rfl,sq,r⟩:=rx'.tup;refine .inr (.inl ⟨a,xs,rfl,sq,by rw[<- r.length];exact q4.1,fun p hp=>k' _ _ _ _ (aP hp) (sh4.new hp) (SimH.newTup (H3:=H34) hp (pN r l u)) q4.2⟩)
 |str z=>exact .inr (.inr ⟨z,rx'.str,q4.1,k' _ _ _ _ .refl sh4 .ofStr q4.2⟩)
 |_=>exact q4.elim
def aU (k:Str):List (Str × T)->Option T
 |[]=>none
 | (k',v)::r=>if k'=k then some v else aU k r
def put3 (k:Str) (v:T) (kvs:List (Str × T)):List (Str × T) :=
 if (kvs.any fun kv=>decide (kv.1=k))=true then kvs.map (fun kv=>if kv.1=k then (kv.1,v) else kv) else kvs++[(k,v)]
def r3D:R3:=fun x y H Q=>match x,y with
 |.ref a,.str k=>match H a with
  |some (.dct kvs)=>oq (aU k kvs) fun t=>Q t H
  |_=>False
 |_,_=>False
def z7 (td ty tv:TE3):TS3:=fun D Z H=>tv Z H fun v H1=>td Z H1 fun x H2=>ty Z H2 fun y H3=>match x,y with
 |.ref a,.str k=>match H3 a with
  |some (.dct kvs)=>kvs.length<sizeLine/\D.nx Z (up3 H3 a (.dct (put3 k v kvs)))
  |_=>False
 |_,_=>False
theorem FN {K:Frag}{H:Hp}{k:Str}{t:T}{v:V}(rv:Rep K H t v) {kvs:List (Str × T)}{vs:List (Key × V)}(r:RepD K H kvs vs):RepD K H (put3 k t kvs) (putK vs (Sum.inr k:Key) v):=by
 have e:∀{kvs:List (Str × T)} {vs:List (Key × V)},RepD K H kvs vs->(kvs.any fun kv=>decide (kv.1=k))=(vs.any fun kv=>decide (kv.1=(Sum.inr k:Key)))/\RepD K H (kvs.map (fun kv=>if kv.1=k then (kv.1,t) else kv)) (vs.map (fun kv=>if kv.1=(Sum.inr k:Key) then (kv.1,v) else kv)):=by
  intro kvs;induction kvs with
  |nil=>intro vs r;cases r;exact⟨rfl,.nil⟩
  |cons p l ih =>
  intro vs r;cases r with
  |cons q rr =>
  rename_i b l2;obtain⟨e1,e2⟩:=ih rr;obtain⟨q1,q2⟩:=q;obtain⟨bk,bv⟩:=b;simp only at q1 q2;subst q1;by_cases hk:p.1=k
  ·refine⟨by simp [hk],?_⟩;simp only[D_,hk,if_true];exact .cons ⟨rfl,rv⟩ e2
  have hk':¬(Sum.inr p.1:Key)=Sum.inr k:=fun z=>hk (Sum.inr.inj z);refine⟨by simp only[Zv,hk,hk',XC,YQ];exact e1,?_⟩;simp only[D_,hk,hk',Xh];exact .cons ⟨rfl,q2⟩ e2
 obtain⟨e1,e2⟩:=e r;unfold put3 putK;rw[e1];split
 ·exact e2
 have app:∀{a:List (Str × T)} {b:List (Key × V)},RepD K H a b->RepD K H (a++[(k,t)]) (b++[((Sum.inr k:Key),v)]):=fun h=>Paired.snoc h ⟨rfl,rv⟩;exact app r
theorem SimH.wrD {K:Frag}{H:Hp}{H3:Hp3}{a:Addr}{kv:List (Key × V)}{kvs:List (Str × T)}{kv':List (Key × V)}(s:SimH K H3 H) (hH:H a=some (.dK kv)) (r:RepD K H kvs kv'):SimH K (up3 H3 a (.dct kvs)) (upd H a (.dK kv')):=fun b o e=>by
 have le:TupLe K H (upd H a (.dK kv')):=bA (by rw[hH];exact trivial);by_cases hb:b=a
 ·subst hb;rw[aA] at e;cases e;exact⟨kv',bU,r.mono le⟩
 rw[aC hb] at e;exact (s b o e).stay le fun u q=>by rw[aV hb];exact q
theorem FP {o i value:Expr}{td ty tv:TE3}{pos pos':Pos}(hu:X.A.units+1<cLine) (ho:PE3 X o td) (hi:PE3 X i ty) (hv:PE3 X value tv) (hs:swapsWith value (some (.Subscript o i pos')) pos.line X.env=pure false:=by rfl) :
  PS3 X (.Assign [.Subscript o i pos'] value pos) (z7 td ty tv):=by
 refine PS.imp (vP hu ho hi hv hs) ?_;rintro D Z H ⟨Z3,H3,D3,ss,sh,h,k1,_⟩;refine⟨Z3,H3,_,ss,sh,h,fun v H1 tv H31 le1 sh1 rv q1=>⟨Z3,H31,_,ss.mono le1,sh1,q1,fun x H2 tx H32 le2 sh2 rx q2=>⟨Z3,H32,_,ss.mono (le1.trans le2),sh2,q2,fun y H4 ty H34 le4 sh4 ry q4=>?_⟩⟩⟩;cases tx with
 |ref a =>
  cases ty with
  |str key =>
   have h':(match H34 a with
    |some (.dct kvs)=>kvs.length<sizeLine/\D3.nx Z3 (up3 H34 a (.dct (put3 key tv kvs)))
    |_=>False):=q4
   split at h'
   ·
    rename_i kvs e
    obtain⟨vs,hH,r⟩:=sh4 a _ e
    have rvv:=rv.mono (le2.trans le4)
    have le5:TupLe X.K H4 (upd H4 a (.dK (putK vs (Sum.inr key:Key) v))):=bA (by rw[hH];exact trivial)
    refine⟨a,_,(rx.mono le4).ref,?_,k1 _ _ _ _ (le1.trans (le2.trans (le4.trans le5))) (ss.mono (le1.trans (le2.trans (le4.trans le5)))) (sh4.wrD hH (FN rvv r)) h'.2⟩
    rw[ry.str]
    exact DPut.k (k:=Sum.inr key) hH (by rw[<- Yy r];exact h'.1)
   ·
    exact h'.elim
  |_=>exact q4.elim
 |_=>exact q4.elim
def z8:List (Str × TE3)->St3->Hp3->(List (Str × T)->Hp3->Prop)->Prop
 |[],_,H,Q=>Q [] H
 | (k,tv)::r,Z,H,Q=>tv Z H fun y H2=>z8 r Z H2 fun ps H3=>Q ((k,y)::ps) H3
def WP (kvs more:List (Str × T)):List (Str × T):=more.foldl (fun acc kv=>put3 kv.1 kv.2 acc) kvs
def Mi (trs:List (Str × TE3)):TE3:=fun Z H Q=>∀p,H p=none->z8 trs Z (up3 H p (.dct [])) fun ps H2=>H2 p=some (.dct [])/\ps.length<=15/\Q (.ref p) (up3 H2 p (.dct (WP [] ps)))
variable {x:Str}{p pos:Pos}{e:Expr}{es:List Expr}{t:TA3}{id Ty:String}{r:List T->Hp3->VK3->Prop}
def Mj (r:List T->Hp3->VK3->Prop) (t:TA3):TE3:=fun Z H Q=>t Z H fun vs H1=>r vs H1 Q
theorem aM (hc:dR X (.builtin id) r) (hg:Gl X x) (hm:X.mg x=none) (hv:bootBuiltins x=some (.builtin id)) (ha:PA3 X (e::es) t) (hn:x≠"__name__":=by decide) (hdb:(x==("__debug__":Str))=false:=by decide)
  (he:starEach (e::es) X.env=(false,eval e X.env)::starEach es X.env:=by rfl) (hpl:(backTo pos (starEach es X.env)).any (·.1)=false:=by rfl):PE3 X (.Call (.Name x p) (e::es) [] pos) (Mj r t):=by
 refine PE.imp (zr hc hg hm hv ha hn hdb he hpl) ?_;rintro Z H Q ⟨Z3,H3,Q3,ss,sh,h,k⟩;exact⟨Z3,H3,_,ss,sh,h,fun vs H' ts H3' le sh' r q=>⟨ts,H3',Q3,r,sh',q,k.at le⟩⟩
theorem bG (hc:dR X (.type Ty) r) (hg:Gl X x) (hm:X.mg x=none) (hv:bootBuiltins x=some (.type Ty)) (ha:PA3 X (e::es) t) (hn:x≠"__name__":=by decide) (hdb:(x==("__debug__":Str))=false:=by decide)
  (he:starEach (e::es) X.env=(false,eval e X.env)::starEach es X.env:=by rfl) (hpl:(backTo pos (starEach es X.env)).any (·.1)=false:=by rfl):PE3 X (.Call (.Name x p) (e::es) [] pos) (Mj r t):=by
 refine PE.imp (yf hc hg hm hv ha hn hdb he hpl) ?_;rintro Z H Q ⟨Z3,H3,Q3,ss,sh,h,k⟩;exact⟨Z3,H3,_,ss,sh,h,fun vs H' ts H3' le sh' r q=>⟨ts,H3',Q3,r,sh',q,k.at le⟩⟩
theorem ou {n:String}(hg:Gl X x) (hm:X.mg x=none) (hv:bootBuiltins x=some (.type n)) (hn:x≠"__name__":=by decide) (hdb:(x==("__debug__":Str))=false:=by decide):PE3 X (.Name x pos) (tC3 (.ty n)):=by
 refine PE.imp (Eb (v:=.ty n) hg hm hv rfl hn hdb) ?_;rintro Z H Q ⟨Z3,H3,Q3,ss,sh,h,k⟩;exact k _ _ _ H3 .refl sh .ofTy h
theorem Reps.one' {K:Frag}{H:Hp}{t:T}{vs:List V}(r:Reps K H [t] vs):∃v,vs=[v]/\Rep K H t v:=by
 obtain⟨v,_,rfl,a,b⟩:=r.inv;rw[b.inv0];exact⟨v,rfl,a⟩
theorem Reps.two' {K:Frag}{H:Hp}{t u:T}{vs:List V}(r:Reps K H [t,u] vs):∃v w,vs=[v,w]/\Rep K H t v/\Rep K H u w:=by
 obtain⟨v,_,rfl,a,b⟩:=r.inv;obtain⟨w,rfl,c⟩:=b.one';exact⟨v,w,rfl,a,c⟩
def wB:List T->Hp3->VK3->Prop:=fun ts H Q=>match ts with
 |[.ref a]=>match H a with
  |some (.lst xs)=>Q (.int xs.length) H
  |some (.rol xs)=>Q (.int xs.length) H
  |_=>False
 |[.tup xs]=>Q (.int xs.length) H
 |[.str z]=>z.length<=sizeLine/\Q (.int z.length) H
 |_=>False
theorem bH:dR X (.builtin "len") wB:=by
 refine CallR.imp (call_len_seq.or o7) ?_;rintro xs H Q ⟨ts,H3,Q3,r,sh,h,k⟩
 match ts,h,r with
 |[.ref a],h,r =>
  obtain⟨v,rfl,rv⟩:=r.one';have h':(match H3 a with
   |some (.lst xs)=>Q3 (.int xs.length) H3
   |some (.rol xs)=>Q3 (.int xs.length) H3
   |_=>False):=h
  split at h'
  ·rename_i us e;obtain⟨ys,sq,rs⟩:=sh.sqL (.inl e);exact .inl ⟨a,ys,by rw[rv.ref],.inl sq,by rw[<- rs.length];exact k _ _ _ _ .refl sh .ofInt h'⟩
  ·rename_i us e;obtain⟨ys,sq,rs⟩:=sh.sqL (.inr e);exact .inl ⟨a,ys,by rw[rv.ref],.inl sq,by rw[<- rs.length];exact k _ _ _ _ .refl sh .ofInt h'⟩
  exact h'.elim
 |[.tup us],h,r=>obtain⟨v,rfl,rv⟩:=r.one';obtain⟨a,ys,rfl,sq,rs⟩:=rv.tup;exact .inl ⟨a,ys,rfl,.inr sq,by rw[<- rs.length];exact k _ _ _ _ .refl sh .ofInt h⟩
 |[.str z],h,r =>
 obtain⟨v,rfl,rv⟩:=r.one';exact .inr ⟨z,by rw[rv.str],h.1,k _ _ _ _ .refl sh .ofInt h.2⟩
def uq:List T->Hp3->VK3->Prop:=fun ts H Q=>match ts with
 |[.ref a]=>match H a with
  |some (.lst xs)=>∀p,H p=none->Q (.ref p) (up3 H p (.lst xs))
  |some (.rol xs)=>∀p,H p=none->Q (.ref p) (up3 H p (.lst xs))
  |_=>False
 |[.tup xs]=>∀p,H p=none->Q (.ref p) (up3 H p (.lst xs))
 |_=>False
theorem pO:dR X (.type "list") uq:=by
 refine CallR.imp o8 ?_;rintro xs H Q ⟨ts,H3,Q3,r,sh,h,k⟩
 match ts,h,r with
 |[.ref a],h,r =>
  obtain⟨v,rfl,rv⟩:=r.one';have h':(match H3 a with
   |some (.lst xs)=>∀p,H3 p=none->Q3 (.ref p) (up3 H3 p (.lst xs))
   |some (.rol xs)=>∀p,H3 p=none->Q3 (.ref p) (up3 H3 p (.lst xs))
   |_=>False):=h
  split at h'
  ·rename_i us e;obtain⟨ys,sq,rs⟩:=sh.sqL (.inl e);exact⟨a,ys,by rw[rv.ref],.inl sq,fun l hl=>k _ _ _ _ (aP hl) (sh.newLst hl rs) .ofRef (h' l (sh.fresh hl))⟩
  ·rename_i us e;obtain⟨ys,sq,rs⟩:=sh.sqL (.inr e);exact⟨a,ys,by rw[rv.ref],.inl sq,fun l hl=>k _ _ _ _ (aP hl) (sh.newLst hl rs) .ofRef (h' l (sh.fresh hl))⟩
  exact h'.elim
 |[.tup us],h,r =>
 obtain⟨v,rfl,rv⟩:=r.one';obtain⟨a,ys,rfl,sq,rs⟩:=rv.tup;exact⟨a,ys,rfl,.inr sq,fun l hl=>k _ _ _ _ (aP hl) (sh.newLst hl rs) .ofRef (h l (sh.fresh hl))⟩
def pP:List T->Hp3->VK3->Prop:=fun ts H Q=>match ts with
 |[.ref a]=>match H a with
  |some (.lst xs)=>Q (.tup xs) H
  |some (.rol xs)=>Q (.tup xs) H
  |_=>False
 |[.tup xs]=>Q (.tup xs) H
 |_=>False
theorem cP:dR X (.type "tuple") pP:=by
 refine CallR.imp m6 ?_;rintro xs H Q ⟨ts,H3,Q3,r,sh,h,k⟩
 match ts,h,r with
 |[.ref a],h,r =>
  obtain⟨v,rfl,rv⟩:=r.one';have h':(match H3 a with
   |some (.lst xs)=>Q3 (.tup xs) H3
   |some (.rol xs)=>Q3 (.tup xs) H3
   |_=>False):=h
  split at h'
  ·rename_i us e;obtain⟨ys,sq,rs⟩:=sh.sqL (.inl e);exact⟨a,ys,by rw[rv.ref],.inl ⟨sq,fun l hl=>k _ _ _ _ (aP hl) (sh.new hl) (SimH.newTup (H3:=H3) hl rs) h'⟩⟩
  ·rename_i us e;obtain⟨ys,sq,rs⟩:=sh.sqL (.inr e);exact⟨a,ys,by rw[rv.ref],.inl ⟨sq,fun l hl=>k _ _ _ _ (aP hl) (sh.new hl) (SimH.newTup (H3:=H3) hl rs) h'⟩⟩
  exact h'.elim
 |[.tup us],h,r =>
 obtain⟨v,rfl,rv⟩:=r.one';obtain⟨a,ys,rfl,sq,rs⟩:=rv.tup;exact⟨a,ys,rfl,.inr ⟨sq,k _ _ _ _ .refl sh (.ofTup sq rs) h⟩⟩
def z9:List T->Hp3->VK3->Prop:=fun ts H Q=>match ts with
 |[.int i]=>Q (.int i) H
 |[.bl b]=>Q (.int (if b then 1 else 0)) H
 |_=>False
theorem FQ:dR X (.type "int") z9:=by
 refine CallR.imp xZ ?_;rintro xs H Q ⟨ts,H3,Q3,r,sh,h,k⟩
 match ts,h,r with
 |[.int i],h,r=>obtain⟨v,rfl,rv⟩:=r.one';exact .inl ⟨i,by rw[rv.int],k _ _ _ _ .refl sh .ofInt h⟩
 |[.bl b],h,r =>
 obtain⟨v,rfl,rv⟩:=r.one';exact .inr ⟨b,by rw[rv.bl],k _ _ _ _ .refl sh .ofInt h⟩
def RG:List T->Hp3->VK3->Prop:=fun ts H Q=>match ts with
 |[.int i]=>i.natAbs.log2<1920/\Q (.str (toString i)) H
 |_=>False
def ints3:List T->Option (List Int)
 |[]=>some []
 |.int i::r=>(ints3 r).map (i::·)
 |_=>none
theorem fK:∀(ns:List Int),ints3 (ns.map T.int)=some ns
 |[]=>rfl
 |n::r=>by simp [ints3,fK r]
theorem jc {K:Frag}{H:Hp}:∀{ts:List T}{xs:List V}{us:List Value}{ns:List Int},ints3 ts=some ns->Reps K H ts xs->Vals xs us->IntsAre us ns
 |[],xs,us,ns,e,r,v=>by
  cases e
  rw[r.inv0] at v
  cases v
  exact .nil
 |.int i::l,xs,us,ns,e,r,v=>by
  obtain⟨x,xr,rfl,rx,rr⟩:=r.inv
  cases v with
  |cons a b =>
   rw[rx.int] at a
   obtain⟨t,rfl⟩:=a
   cases hl:ints3 l with
   |none=>simp [ints3,hl] at e
   |some ms =>
    simp [ints3,hl] at e
    subst e
    exact .cons _ _ (jc hl rr b)
 |.non::_,_,_,_,e,_,_=>by simp [ints3] at e
 |.bl _::_,_,_,_,e,_,_=>by simp [ints3] at e
 |.str _::_,_,_,_,e,_,_=>by simp [ints3] at e
 |.tup _::_,_,_,_,e,_,_=>by simp [ints3] at e
 |.ref _::_,_,_,_,e,_,_=>by simp [ints3] at e
 |.ty _::_,_,_,_,e,_,_=>by simp [ints3] at e
def Jc:List T->Hp3->VK3->Prop:=fun ts H Q=>match ts with
 |[.ref a]=>match H a with
  |some (.lst xs)=>oq (ints3 xs) fun ns=>Q (.int ns.sum) H
  |some (.rol xs)=>oq (ints3 xs) fun ns=>Q (.int ns.sum) H
  |_=>False
 |_=>False
theorem pQ (hc:X.calm=true):dR X (.builtin "sum") Jc:=by
 intro pins s Z H xs us Q I rv h;obtain⟨ts,H3,Q3,r,sh,h,k⟩:=h
 match ts,h,r with
 |[.ref a],h,r =>
 obtain⟨v,rfl,rv'⟩:=r.one';obtain⟨u,rfl,ru⟩:=vals1 rv;rw[rv'.ref] at ru;cases ru;have main:∀{ls:List T} {ys:List V},SqL X.K H a ys->Reps X.K H ls ys->oq (ints3 ls) (fun ns=>Q3 (.int ns.sum) H3)->wpAny (model X.prog X.w) X.A (call (.builtin "sum") [.ref a]) (EP X pins Z Q) X.xe s:=by
  intro ls ys sq rs q;cases e:ints3 ls with
  |none=>rw[e] at q;exact q.elim
  |some ns =>
  rw[e] at q;obtain⟨its,rvs,hl,_⟩:=I.list sq;have hi:=jc e rs rvs;have hall:AllInts its.toArray:=hi.allInts;obtain⟨zs,ez⟩:=hall.items;have hls:s.heap.IsList a (intItems zs):=by rw[<- ez];exact hl.isList
  refine sum_intListG (I.ok.hd hc) hls fun h' tk t' hk=>?_;have es:preSum (numAt zs) zs.size=ns.sum:=by have e1:=nums_intItems zs;rw[<- ez,show its.toArray.toList=its from rfl,hi.numsOf] at e1;rw[preSum_eq,Ye (by simp),<- e1]
  rw[es];exact⟨.int ns.sum,H,I.kept hk,⟨t',rfl⟩,k _ _ _ _ .refl sh .ofInt q⟩
 have h':(match H3 a with
  |some (.lst xs)=>oq (ints3 xs) fun ns=>Q3 (.int ns.sum) H3
  |some (.rol xs)=>oq (ints3 xs) fun ns=>Q3 (.int ns.sum) H3
  |_=>False):=h
 split at h'
 ·rename_i ls e;obtain⟨ys,sq,rs⟩:=sh.sqL (.inl e);exact main sq rs h'
 ·rename_i ls e;obtain⟨ys,sq,rs⟩:=sh.sqL (.inr e);exact main sq rs h'
 exact h'.elim
def isT (n:String):T->Hp3->Option Bool:=fun x H=>match x with
 |.non=>some (n=="NoneType")
 |.bl _=>some (n=="bool"||n=="int")
 |.int _=>some (n=="int")
 |.str _=>some (n=="str")
 |.tup _=>some (n=="tuple")
 |.ref a=>match H a with
  |some (.lst _)=>some (n=="list")
  |some (.dct _)=>some (n=="dict")
  |_=>none
 |.ty _=>none
def lO:List T->Hp3->VK3->Prop:=fun ts H Q=>match ts with
 |[x,.ty n]=>(n="str"\/n="int"\/n="bool"\/n="tuple"\/n="list")/\oq (isT n x H) fun b=>Q (.bl b) H
 |_=>False
theorem jd (K:Frag) (a b:String) (ha:a="NoneType"\/a="bool"\/a="int"\/a="str"\/a="tuple"\/a="list"\/a="dict") (hb:b="str"\/b="int"\/b="bool"\/b="tuple"\/b="list") :
  kitOne K (.type a) (.type b)=some (a==b||(a=="bool"&&b=="int")):=by
 rcases ha with rfl | rfl | rfl | rfl | rfl | rfl | rfl <;> rcases hb with rfl | rfl | rfl | rfl | rfl <;> rfl
theorem jM:dR X (.builtin "isinstance") lO:=by
 intro pins s Z H xs us Q I rv h;obtain⟨ts,H3,Q3,r,sh,h,k⟩:=h
 match ts,h,r with
 |[x,.ty n],h,r =>
 obtain⟨v,w,rfl,r1,r2⟩:=r.two';obtain⟨u1,u2,rfl,q1,q2⟩:=vals2 rv;rw[r2.ty] at q2;cases q2;obtain⟨hn,h⟩:=h;have fin:∀{b:Bool},Q3 (.bl b) H3->∀tk,EP X pins Z Q (.bool b) { s with toks:=tk}:=fun q tk=>⟨.bl _,H,I.tok tk,rfl,k _ _ _ _ .refl sh .ofBl q⟩;cases x with
 |non=>exact dZ I q1 (by rw[r1.non];exact .non) (jd X.K "NoneType" n (by simp) hn) (fin (by rcases hn with rfl | rfl | rfl | rfl | rfl <;> exact h))
 |bl b=>exact dZ I q1 (by rw[r1.bl];exact .bl b) (jd X.K "bool" n (by simp) hn) (fin (by rcases hn with rfl | rfl | rfl | rfl | rfl <;> exact h))
 |int i=>exact dZ I q1 (by rw[r1.int];exact .int i) (jd X.K "int" n (by simp) hn) (fin (by rcases hn with rfl | rfl | rfl | rfl | rfl <;> exact h))
 |str z=>exact dZ I q1 (by rw[r1.str];exact .str z) (jd X.K "str" n (by simp) hn) (fin (by rcases hn with rfl | rfl | rfl | rfl | rfl <;> exact h))
 |tup us=>obtain⟨a,ys,rfl,sq,rs⟩:=r1.tup;cases q1;obtain⟨its,_,⟨o,h1,h2,_⟩,_⟩:=I.tuple sq;exact kia_one kitx_tuple I.kIn ⟨o,h1,h2⟩ (jd X.K "tuple" n (by simp) hn) (fun z=>nomatch z) (fin (by rcases hn with rfl | rfl | rfl | rfl | rfl <;> exact h))
 |ref a =>
  have h':oq (match H3 a with
   |some (.lst _)=>some (n=="list")
   |some (.dct _)=>some (n=="dict")
   |_=>none) fun b=>Q3 (.bl b) H3:=h
  rw[r1.ref] at q1
  cases e:H3 a with
  |none=>rw[e] at h';exact h'.elim
  |some o =>
   rw[e] at h'
   cases o with
   |lst ls =>
    obtain⟨zs,hH,_⟩:=sh a _ e
    exact dZ I q1 (.lst hH) (jd X.K "list" n (by simp) hn) (fin (by rcases hn with rfl | rfl | rfl | rfl | rfl <;> exact h'))
   |dct ls =>
    obtain⟨zs,hH,_⟩:=sh a _ e
    exact dZ I q1 (.dK hH) (jd X.K "dict" n (by simp) hn) (fin (by rcases hn with rfl | rfl | rfl | rfl | rfl <;> exact h'))
   |rol ls=>exact h'.elim
   |dcp ls=>exact h'.elim
   |exc _ _=>exact h'.elim
   |xdt _=>exact h'.elim
   |dci _=>exact h'.elim
   |dif _ _=>exact h'.elim
   |ins _ _=>exact h'.elim
 |ty m=>exact h.elim
variable {o:Expr}{to:TE3}{name:Str}{apos cpos:Pos}{m:T->List T->Hp3->VK3->Prop}
def ty3 (Ty:String):T->Hp3->Prop:=fun x H=>match x with
 |.str _=>Ty="str"
 |.tup _=>Ty="tuple"
 |.ref a=>Ty="list"/\match H a with
  |some (.lst _)=>True
  |some (.rol _)=>True
  |_=>False
 |_=>False
theorem Jd {K:Frag}{H:Hp}{H3:Hp3}{t:T}{v:V}(sh:SimH K H3 H) (r:Rep K H t v) (h:ty3 Ty t H3):tyV K Ty v H:=by
 cases t with
 |str z=>rw[r.str];exact h
 |tup ts=>obtain⟨a,xs,rfl,sq,_⟩:=r.tup;exact .inr (.inl ⟨h,xs,sq⟩)
 |ref a =>
  rw[r.ref];refine .inl ⟨h.1,?_⟩;have h2:=h.2;cases e:H3 a with
  |none=>rw[e] at h2;exact h2.elim
  |some o =>
  rw[e] at h2;cases o with
  |lst ts=>obtain⟨xs,sq,_⟩:=sh.sqL (.inl e);exact⟨xs,sq⟩
  |rol ts=>obtain⟨xs,sq,_⟩:=sh.sqL (.inr e);exact⟨xs,sq⟩
  |dct _=>exact h2.elim
  |dcp _=>exact h2.elim
  |exc _ _=>exact h2.elim
  |xdt _=>exact h2.elim
  |dci _=>exact h2.elim
  |dif _ _=>exact h2.elim
  |ins _ _=>exact h2.elim
 |_=>exact h.elim
def RJ (Ty:String) (m:T->List T->Hp3->VK3->Prop) (to:TE3) (t:TA3):TE3:=fun Z H Q=>to Z H fun x H1=>ty3 Ty x H1/\t Z H1 fun xs H2=>m x xs H2 Q
theorem bZ (pa:PlainAttrs Ty) (slot:Slot Ty name id) (hty:typeOf (.builtin id)=pure (.type "method_descriptor")) (hm:ni X id m) (ho:PE3 X o to) (ha:PA3 X (e::es) t)
  (hbase:attributeBase o name X.env (eval o X.env)=eval o X.env:=by rfl)
  (hfew:((backTo cpos (starEach (e::es) X.env)).all (fun x=>!x.1)&&(backToKw cpos (keywordEach [] X.env)).all (fun x=>x.1.isSome)
   && decide ((e::es).length+([]:List Keyword).length+(if ([]:List Keyword).isEmpty then 0 else 1)<30))=true:=by rfl)
  (hline:(apos.endLine==cpos.line)=true:=by rfl) (hs:starEach (e::es) X.env=(false,eval e X.env)::starEach es X.env:=by rfl) (hplain:(backTo cpos (starEach es X.env)).any (·.1)=false:=by rfl) :
  PE3 X (.Call (.Attribute o name apos) (e::es) [] cpos) (RJ Ty m to t):=by
 refine PE.imp (Ro pa slot hty hm ho ha hbase hfew hline hs hplain) ?_;rintro Z H Q ⟨Z3,H3,Q3,ss,sh,h,k⟩;exact⟨Z3,H3,_,ss,sh,h,fun x H1 tx H31 le1 sh1 rx q1=>⟨Jd sh1 rx q1.1,Z3,H31,_,ss.mono le1,sh1,q1.2,fun vs H2 ts H32 le2 sh2 rs q2=>⟨tx,ts,H32,Q3,rx.mono le2,rs,sh2,q2,k.at (le1.trans le2)⟩⟩⟩
def Je:T->List T->Hp3->VK3->Prop:=fun x ts H Q=>match x,ts with
 |.ref a,[t]=>match H a with
  |some (.lst xs)=>xs.length<sizeLine/\Q .non (up3 H a (.lst (xs++[t])))
  |_=>False
 |_,_=>False
theorem bB:ni X "list.append" Je:=by
 refine MtR.imp yg ?_;rintro x xs H Q ⟨tx,ts,H3,Q3,rx,rs,sh,h,k⟩
 match tx,ts,h,rx,rs with
 |.ref a,[t],h,rx,rs =>
 obtain⟨v,rfl,rv⟩:=rs.one';have h':(match H3 a with
  |some (.lst xs)=>xs.length<sizeLine/\Q3 .non (up3 H3 a (.lst (xs++[t])))
  |_=>False):=h
 split at h'
 ·rename_i ls e;obtain⟨ys,hH,r⟩:=sh a _ e;exact⟨a,ys,v,rx.ref,rfl,hH,by rw[<- r.length];exact h'.1,k _ _ _ _ (bA (by rw[hH];exact trivial)) (sh.wrL hH (r.append (.cons rv .nil))) .ofNon h'.2⟩
 exact h'.elim
def Jf:T->List T->Hp3->VK3->Prop:=fun x ts H Q=>match x,ts with
 |.ref a,[.ref b]=>match H a,H b with
  |some (.lst xs),some (.lst ys)=>xs.length+ys.length<=sizeLine/\Q .non (up3 H a (.lst (xs++ys)))
  |_,_=>False
 |_,_=>False
theorem yw:ni X "list.extend" Jf:=by
 refine MtR.imp yh ?_;rintro x xs H Q ⟨tx,ts,H3,Q3,rx,rs,sh,h,k⟩
 match tx,ts,h,rx,rs with
 |.ref a,[.ref b],h,rx,rs =>
 obtain⟨v,rfl,rv⟩:=rs.one';have h':(match H3 a,H3 b with
  |some (.lst xs),some (.lst ys)=>xs.length+ys.length<=sizeLine/\Q3 .non (up3 H3 a (.lst (xs++ys)))
  |_,_=>False):=h
 split at h'
 ·rename_i ls ms e1 e2;obtain⟨ys,hH,r⟩:=sh a _ e1;obtain⟨zs,hH2,r2⟩:=sh b _ e2;exact⟨a,b,ys,zs,rx.ref,by rw[rv.ref],hH,hH2,by rw[<- r.length,<- r2.length];exact h'.1,k _ _ _ _ (bA (by rw[hH];exact trivial)) (sh.wrL hH (r.append r2)) .ofNon h'.2⟩
 exact h'.elim
def wC:T->List T->Hp3->VK3->Prop:=fun x ts H Q=>match x,ts with
 |.ref a,[.int i]=>match H a with
  |some (.lst xs)=>oq (ixN xs.length i) fun j=>oq (xs[j]?) fun t=>Q t (up3 H a (.lst (xs.eraseIdx j)))
  |_=>False
 |_,_=>False
theorem Aa:ni X "list.pop" wC:=by
 intro pins s Z H x xs v us Q I rx0 rs0 hh;obtain⟨tx,ts,H3,Q3,rx,rs,sh,h,k⟩:=hh;refine zz pins s Z H x xs v us Q I rx0 rs0 ?_
 match tx,ts,h,rx,rs with
 |.ref a,[.int i],h,rx,rs =>
 obtain⟨w,rfl,rv⟩:=rs.one';have h':(match H3 a with
  |some (.lst xs)=>oq (ixN xs.length i) fun j=>oq (xs[j]?) fun t=>Q3 t (up3 H3 a (.lst (xs.eraseIdx j)))
  |_=>False):=h
 split at h'
 ·rename_i ls e;obtain⟨ys,hH,r⟩:=sh a _ e;have hz:=(I.lstM hH).1;cases ej:ixN ls.length i with
  |none=>rw[ej] at h';exact h'.elim
  |some j =>
  rw[ej] at h';cases et:ls[j]? with
  |none=>simp only[oq,et] at h'
  |some t =>
   have h2:Q3 t (up3 H3 a (.lst (ls.eraseIdx j))):=by simpa only[oq,et] using h'
   obtain⟨g1,g2,g3,g4⟩:=o4 ej
   obtain⟨y,ey,ry⟩:=r.get et
   have hl:=r.length
   have hb:=iW
   have le:TupLe X.K H (upd H a (.lst (ys.eraseIdx j))):=bA (by rw[hH];exact trivial)
   exact⟨a,ys,i,j,y,rx.ref,by rw[rv.int],hH,by omega,by omega,by rw[<- hl];exact g1,ey,k _ _ _ _ le (sh.wrL hH (r.eraseIdx j)) (ry.mono le) h2⟩
 exact h'.elim
def cN:List T->Option (List Str)
 |[]=>some []
 |.str x::r=>(cN r).map (x::·)
 |_=>none
theorem iJ:∀(ns:List Str),cN (ns.map T.str)=some ns
 |[]=>rfl
 |n::r=>by simp [cN,iJ r]
theorem lQ {K:Frag}{H:Hp}:∀{ts:List T}{xs:List V}{us:List Value}{ns:List Str},cN ts=some ns->Reps K H ts xs->Vals xs us->StrsAre us ns
 |[],xs,us,ns,e,r,v=>by
  cases e
  rw[r.inv0] at v
  cases v
  exact .nil
 |.str i::l,xs,us,ns,e,r,v=>by
  obtain⟨x,xr,rfl,rx,rr⟩:=r.inv
  cases v with
  |cons a b =>
   rw[rx.str] at a
   obtain⟨t,rfl⟩:=a
   cases hl:cN l with
   |none=>simp [cN,hl] at e
   |some ms =>
    simp [cN,hl] at e
    subst e
    exact .cons _ _ (lQ hl rr b)
 |.non::_,_,_,_,e,_,_=>by simp [cN] at e
 |.bl _::_,_,_,_,e,_,_=>by simp [cN] at e
 |.int _::_,_,_,_,e,_,_=>by simp [cN] at e
 |.tup _::_,_,_,_,e,_,_=>by simp [cN] at e
 |.ref _::_,_,_,_,e,_,_=>by simp [cN] at e
 |.ty _::_,_,_,_,e,_,_=>by simp [cN] at e
def jOk (z:Str) (ys:List Str):Prop:=(ys.map (·.length)).sum+ys.length*z.length<=16777216
def Ab:T->List T->Hp3->VK3->Prop:=fun x ts H Q=>match x,ts with
 |.str z,[.ref a]=>match H a with
  |some (.lst xs)=>oq (cN xs) fun ys=>jOk z ys/\Q (.str (Txt.join z ys)) H
  |some (.rol xs)=>oq (cN xs) fun ys=>jOk z ys/\Q (.str (Txt.join z ys)) H
  |_=>False
 |.str z,[.tup xs]=>oq (cN xs) fun ys=>jOk z ys/\Q (.str (Txt.join z ys)) H
 |_,_=>False
def wD:T->List T->Hp3->VK3->Prop:=fun x ts H Q=>match x,ts with
 |.str z,[.str y]=>match Builtin.Str.occurrences z y 0 z.length 1 with
  |i::_=>Q (.int i) H
  |[]=>False
 |_,_=>False
theorem Ac:ni X "str.index" wD:=by
 intro pins s Z H x xs v us Q I rx0 rs0 hh;obtain⟨tx,ts,H3,Q3,rx,rs,sh,h,k⟩:=hh
 match tx,ts,h,rx,rs with
 |.str z,[.str y],h,rx,rs =>
 obtain⟨w,rfl,rv⟩:=rs.one';obtain⟨u,rfl,ru⟩:=vals1 rs0;rw[rv.str] at ru;obtain⟨t',rfl⟩:=ru;rw[rx.str] at rx0;obtain⟨t,rfl⟩:=rx0;have h':(match Builtin.Str.occurrences z y 0 z.length 1 with
  |i::_=>Q3 (.int i) H3
  |[]=>False):=h
 split at h'
 ·rename_i i rest e;exact SC.index e ⟨.int i,H,I.tok _,⟨_,rfl⟩,k _ _ _ _ .refl sh .ofInt h'⟩
 exact h'.elim
end
def compLook (n0:List (Str × NameKind)) (N:List Str) (kind:Bool) (names:List (Str × NameKind)) (N':List Str) (nt:Nat) (cap:List Nat):Bool :=
 kind&&names.all (fun y=>y.2 != .cell||names.lookup y.1==some .cell)&&names.all (fun x=>x.2 != .local||names.lookup x.1==some .local)&&names.all (fun y=>y.2 != .free||n0.lookup y.1==some .cell||n0.lookup y.1==some .free)
  && N'.length==nt+cap.length&&(List.range cap.length).all fun j=>match N'[nt+j]?,cap[j]? with
   |some x,some i=>N[i]?==some x&&names.lookup x==some .free
   |_,_=>false
theorem bF {X:Cx}{N':List Str}{nt:Nat}{cap:List Nat}{scope:Scope}{n0:List (Str × NameKind)}{N:List Str}(h0:X.env.scope.names=n0) (hN:X.N=N)
  (h:compLook n0 N (scope.kind==.function) scope.names N' nt cap=true):CompSc X N' nt cap scope:=by
 unfold compLook at h;simp only[L_,S_,Ze,bne_iff_ne,YG,C_] at h;obtain⟨⟨⟨⟨⟨h1,h2⟩,h3⟩,h4⟩,h5⟩,h6⟩:=h;refine⟨h1,fun y hy e=>(h2 y hy).resolve_left fun z=>z e,fun x hx e=>(h3 x hx).resolve_left fun z=>z e,fun y hy e=>?_,h5,fun j x e=>?_⟩
 ·show X.env.scope.names.lookup y.1=_\/X.env.scope.names.lookup y.1=_;rw[h0];rcases h4 y hy with (z | z) | z
  ·exact absurd e z
  ·exact .inl z
  exact .inr z
 have hj:j<cap.length:=by have:=(Xr.mp e).1;omega
 have q:=h6 j hj;rw[e] at q;cases ec:cap[j]? with
 |none=>rw[ec] at q;cases q
 |some i =>
 rw[ec] at q;simp only[L_,Ze] at q;exact⟨i,rfl,by rw[hN];exact q.1,q.2⟩
def Ml (n00 names:List (Str × NameKind)):List (Str × NameKind):=names.map fun (n,k)=>if (k==NameKind.free&&n00.lookup n==some .cell)=true then (n,NameKind.cell) else (n,k)
theorem FT {X:Cx}{N0 N':List Str}{nt:Nat}{cap:List Nat}{scope0 scope:Scope}{n00:List (Str × NameKind)}{N:List Str}{cl:List (Str × Addr)}{pins:List (Addr × Obj)}{s:Shared}{H:Hp}{C:Addr}{fp:List Addr}
  (h0:X.env.scope.names=n00) (hk:X.env.scope.kind=.function) (hN:N0=N) (h:compLook (Ml n00 scope0.names) N (scope.kind==.function) scope.names N' nt cap=true):CompSc (bM X N0 scope0 cl pins s H C fp) N' nt cap scope:=by
 refine bF (n0:=Ml n00 scope0.names) (N:=N) ?_ hN h;show (relabel scope0 X.env).names=_;unfold relabel Ml;dsimp only;refine Yi fun y hy=>?_;obtain⟨n,k⟩:=y;have e:X.env.kindOf n=n00.lookup n:=by unfold Env.kindOf;rw[h0]
 simp only[e,hk,beq_self_eq_true,YS]
structure G3 (K:Frag) (mg:Str->Option Value) (x:Str) (st:Stmt) (ps:List Str) (f:Addr) (fd:FuncData):Prop where
 fn:Fun K x x st f fd
 b:Binds K fd ps []
 m:mg x=some (.ref f)
structure Bl (mg:Str->Option Value):Prop where
 len_:mg "len"=none
 sum_:mg "sum"=none
 isinstance_:mg "isinstance"=none
 all_:mg "all"=none
 any_:mg "any"=none
 list_:mg "list"=none
 tuple_:mg "tuple"=none
 int_:mg "int"=none
 str_:mg "str"=none
 bool_:mg "bool"=none
 range_:mg "range"=none
 zip_:mg "zip"=none
 reversed_:mg "reversed"=none
 enumerate_:mg "enumerate"=none
 set_:mg "set"=none
 sorted_:mg "sorted"=none
 min_:mg "min"=none
 max_:mg "max"=none
 dict_:mg "dict"=none
 repr_:mg "repr"=none
theorem bI:bootBuiltins "len"=some (.builtin "len"):=by decide +kernel
theorem pR:bootBuiltins "sum"=some (.builtin "sum"):=by decide +kernel
theorem cJ:bootBuiltins "isinstance"=some (.builtin "isinstance"):=by decide +kernel
theorem jo:bootBuiltins "list"=some (.type "list"):=by decide +kernel
theorem cD:bootBuiltins "tuple"=some (.type "tuple"):=by decide +kernel
theorem Mm:bootBuiltins "int"=some (.type "int"):=by decide +kernel
theorem Ad:bootBuiltins "str"=some (.type "str"):=by decide +kernel
theorem FW:bootBuiltins "bool"=some (.type "bool"):=by decide +kernel
theorem Room.u30 {k:Nat}{A:Around}(r:Room k A):A.units+30<cLine:=by have:=r.un;omega
theorem Room.u31 {k:Nat}{A:Around}(r:Room k A):A.units+31<cLine:=by have:=r.un;omega
theorem Room.u1 {k:Nat}{A:Around}(r:Room k A):A.units+1<cLine:=by have:=r.un;omega
section
variable {H:Hp3}{Q:VK3}{Z:St3}
def vq (o:Option (Option T)) (Q:T->Prop):Prop:=match o with
 |some (some t)=>Q t
 |_=>False
theorem RK (t:T) (Q:T->Prop):vq (some (some t)) Q=Q t:=rfl
theorem Ae (i:Nat):qT i Z H Q=vq (Z[i]?) fun t=>Q t H:=rfl
def bq (x:T) (Q:Bool->Prop):Prop:=match x with
 |.bl k=>Q k
 |_=>False
theorem ie (b:Bool) (Q:Bool->Prop):bq (.bl b) Q=Q b:=rfl
theorem Mp (t:TE3) (Q:Bool->Hp3->Prop):jL t Z H Q=t Z H fun x H'=>bq x fun k=>Q k H':=rfl
theorem FZ (r r':R3) (ta tb tc:TE3):Fw r r' ta tb tc Z H Q=ta Z H fun x H1=>tb Z H1 fun y H2=>r x y H2 fun z H3=>bq z fun k=>if k=true then tc Z H3 fun w H4=>r' y w H4 Q else Q (.bl false) H3:=rfl
theorem Mq (ta tb:TE3):zL ta tb Z H Q=ta Z H fun x H1=>bq x fun c=>if c=true then tb Z H1 Q else Q (.bl false) H1:=rfl
theorem RL (ta tb:TE3):Ir ta tb Z H Q=ta Z H fun x H1=>bq x fun c=>if c=true then Q (.bl true) H1 else tb Z H1 Q:=rfl
theorem Mr (ta:TE3):zM ta Z H Q=ta Z H fun x H1=>bq x fun c=>Q (.bl (!c)) H1:=rfl
theorem ig {α:Type}(v:α) (Q:α->Prop):oq (some v) Q=Q v:=rfl
theorem q_I (C:Int->Int->Prop) (g:Int->Int->T) (i j:Int):rI3 C g (.int i) (.int j) H Q=(C i j/\Q (g i j) H):=rfl
theorem WQ (g:Int->Int->T) (i j:Int):pK g (.int i) (.int j) H Q=Q (g i j) H:=rfl
theorem Af (i j:Int):oh (.int i) (.int j) H Q=Q (.int (i+j)) H:=rfl
theorem Ms (i j:Str):oh (.str i) (.str j) H Q=(i.length+j.length<=sizeLine/\Q (.str (i++j)) H):=rfl
theorem Mt (xs ys:List T):oh (.tup xs) (.tup ys) H Q=(xs.length+ys.length<=sizeLine/\Q (.tup (xs++ys)) H):=rfl
def RM (o u:Option O3) (H:Hp3) (Q:VK3):Prop:=match o,u with
 |some (.lst xs),some (.lst ys)=>xs.length+ys.length<=sizeLine/\∀p,H p=none->Q (.ref p) (up3 H p (.lst (xs++ys)))
 |_,_=>False
theorem Ag (a b:Addr):oh (.ref a) (.ref b) H Q=RM (H a) (H b) H Q:=rfl
theorem lR (xs ys:List T):RM (some (.lst xs)) (some (.lst ys)) H Q=(xs.length+ys.length<=sizeLine/\∀p,H p=none->Q (.ref p) (up3 H p (.lst (xs++ys)))):=rfl
theorem RN (n:Bool) (i j:Int):um n (.int i) (.int j) H Q=Q (.bl (if n then !decide (i=j) else decide (i=j))) H:=rfl
theorem RP (n:Bool) (i j:Str):um n (.str i) (.str j) H Q=Q (.bl (if n then !decide (i=j) else decide (i=j))) H:=rfl
theorem RQ (n:Bool) (i j:Bool):um n (.bl i) (.bl j) H Q=Q (.bl (if n then !decide (i=j) else decide (i=j))) H:=rfl
theorem RV (n:Bool) (xs ys:List T):um n (.tup xs) (.tup ys) H Q=(xs.all (pl 20)=true/\ys.all (pl 20)=true/\Q (.bl (if n then !decide (xs=ys) else decide (xs=ys))) H):=rfl
def eqH (n:Bool) (a b:Addr) (o u:Option O3) (H:Hp3) (Q:VK3):Prop:=match o,u with
 |some (.lst xs),some (.lst ys)=>a≠b/\xs.all (pl 20)=true/\ys.all (pl 20)=true/\Q (.bl (if n then !@decide (xs=ys) (instDecidableEqList xs ys) else @decide (xs=ys) (instDecidableEqList xs ys))) H
 |_,_=>False
theorem RW (n:Bool) (a b:Addr):um n (.ref a) (.ref b) H Q=eqH n a b (H a) (H b) H Q:=rfl
theorem RX (n:Bool) (a b:Addr) (xs ys:List T):eqH n a b (some (.lst xs)) (some (.lst ys)) H Q=(a≠b/\xs.all (pl 20)=true/\ys.all (pl 20)=true/\Q (.bl (if n then !decide (xs=ys) else decide (xs=ys))) H):=rfl
theorem Jg (n:Bool) (x:T) (ts:List T):uo n x (.tup ts) H Q=(pl 20 x=true/\ts.all (pl 20)=true/\Q (.bl (dD n x ts)) H):=rfl
theorem RZ (n:Bool) (i j:Str):uo n (.str i) (.str j) H Q=Q (.bl (occ n i j)) H:=rfl
def inH (n:Bool) (x:T) (o:Option O3) (H:Hp3) (Q:VK3):Prop:=match o with
 |some (.lst ts)=>pl 20 x=true/\ts.all (pl 20)=true/\Q (.bl (dD n x ts)) H
 |some (.rol ts)=>pl 20 x=true/\ts.all (pl 20)=true/\Q (.bl (dD n x ts)) H
 |_=>False
theorem Jh (n:Bool) (x:T) (a:Addr):uo n x (.ref a) H Q=inH n x (H a) H Q:=rfl
theorem Ji (n:Bool) (x:T) (ts:List T):inH n x (some (.lst ts)) H Q=(pl 20 x=true/\ts.all (pl 20)=true/\Q (.bl (dD n x ts)) H):=rfl
def ixH (o:Option O3) (i:Int) (H:Hp3) (Q:VK3):Prop:=match o with
 |some (.lst ts)=>oq (atI ts i) fun t=>Q t H
 |some (.rol ts)=>oq (atI ts i) fun t=>Q t H
 |_=>False
theorem Sd (a:Addr) (i:Int):q9 (.ref a) (.int i) H Q=ixH (H a) i H Q:=rfl
theorem Sg (ts:List T) (i:Int):ixH (some (.lst ts)) i H Q=oq (atI ts i) fun t=>Q t H:=rfl
theorem Sh (ts:List T) (i:Int):q9 (.tup ts) (.int i) H Q=oq (atI ts i) fun t=>Q t H:=rfl
theorem Sq (z:Str) (i:Int):q9 (.str z) (.int i) H Q=(z.length<=sizeLine/\oq (atI z.cps.toList i) fun c=>Q (.str ⟨#[c]⟩) H):=rfl
def stH (o:Option O3) (a:Addr) (k:Int) (v:T) (H:Hp3) (Q:Hp3->Prop):Prop:=match o with
 |some (.lst ts)=>oq (ixN ts.length k) fun j=>Q (up3 H a (.lst (ts.set j v)))
 |_=>False
theorem Mu (a:Addr) (k:Int) (v:T) (Q:Hp3->Prop):zZ (.ref a) (.int k) v H Q=stH (H a) a k v H Q:=rfl
theorem Ss (ts:List T) (a:Addr) (k:Int) (v:T) (Q:Hp3->Prop):stH (some (.lst ts)) a k v H Q=oq (ixN ts.length k) fun j=>Q (up3 H a (.lst (ts.set j v))):=rfl
def pq (x:T) (Q:Option Int->Prop):Prop:=match x with
 |.int i=>Q (some i)
 |_=>False
theorem WR (i:Int) (Q:Option Int->Prop):pq (.int i) Q=Q (some i):=rfl
theorem Mv (t:TE3) (Q:Option Int->Hp3->Prop):z6 t Z H Q=t Z H fun x H1=>pq x fun o=>Q o H1:=rfl
def slH (o:Option O3) (lo hi:Option Int) (H:Hp3) (Q:VK3):Prop:=match o with
 |some (.lst ts)=>∀p,H p=none->Q (.ref p) (up3 H p (.lst (dG ts lo hi)))
 |some (.rol ts)=>∀p,H p=none->Q (.ref p) (up3 H p (.lst (dG ts lo hi)))
 |_=>False
theorem Su (a:Addr) (lo hi:Option Int):FJ (.ref a) lo hi H Q=slH (H a) lo hi H Q:=rfl
theorem Jj (ts:List T) (lo hi:Option Int):slH (some (.lst ts)) lo hi H Q=∀p,H p=none->Q (.ref p) (up3 H p (.lst (dG ts lo hi))):=rfl
theorem Mw (ts:List T) (lo hi:Option Int):slH (some (.rol ts)) lo hi H Q=∀p,H p=none->Q (.ref p) (up3 H p (.lst (dG ts lo hi))):=rfl
theorem Sv (ts:List T) (lo hi:Option Int):FJ (.tup ts) lo hi H Q=(¬(HT.sIx ts.length 0 lo=0/\HT.sIx ts.length ts.length hi=ts.length)/\Q (.tup (dG ts lo hi)) H):=rfl
theorem Sw (z:Str) (lo hi:Option Int):FJ (.str z) lo hi H Q=(z.length<=sizeLine/\Q (.str (Txt.slice z lo hi)) H):=rfl
def dgH (o:Option O3) (k:Str) (H:Hp3) (Q:VK3):Prop:=match o with
 |some (.dct kvs)=>oq (aU k kvs) fun t=>Q t H
 |_=>False
theorem q_D (a:Addr) (k:Str):r3D (.ref a) (.str k) H Q=dgH (H a) k H Q:=rfl
theorem Sx (kvs:List (Str × T)) (k:Str):dgH (some (.dct kvs)) k H Q=oq (aU k kvs) fun t=>Q t H:=rfl
def dpH (x y v:T) (H:Hp3) (Q:Hp3->Prop):Prop:=match x,y with
 |.ref a,.str k=>match H a with
  |some (.dct kvs)=>kvs.length<sizeLine/\Q (up3 H a (.dct (put3 k v kvs)))
  |_=>False
 |_,_=>False
def dpO (o:Option O3) (a:Addr) (k:Str) (v:T) (H:Hp3) (Q:Hp3->Prop):Prop:=match o with
 |some (.dct kvs)=>kvs.length<sizeLine/\Q (up3 H a (.dct (put3 k v kvs)))
 |_=>False
theorem Mx (td ty tv:TE3) (D:Ends3):z7 td ty tv D Z H=tv Z H fun v H1=>td Z H1 fun x H2=>ty Z H2 fun y H3=>dpH x y v H3 fun H4=>D.nx Z H4:=rfl
theorem Sy (a:Addr) (k:Str) (v:T) (Q:Hp3->Prop):dpH (.ref a) (.str k) v H Q=dpO (H a) a k v H Q:=rfl
theorem SJ (kvs:List (Str × T)) (a:Addr) (k:Str) (v:T) (Q:Hp3->Prop):dpO (some (.dct kvs)) a k v H Q=(kvs.length<sizeLine/\Q (up3 H a (.dct (put3 k v kvs)))):=rfl
def lnH (o:Option O3) (H:Hp3) (Q:VK3):Prop:=match o with
 |some (.lst xs)=>Q (.int xs.length) H
 |some (.rol xs)=>Q (.int xs.length) H
 |_=>False
theorem Mz (a:Addr):wB [.ref a] H Q=lnH (H a) H Q:=rfl
theorem SM (xs:List T):lnH (some (.lst xs)) H Q=Q (.int xs.length) H:=rfl
theorem MF (xs:List T):wB [.tup xs] H Q=Q (.int xs.length) H:=rfl
theorem MJ (z:Str):wB [.str z] H Q=(z.length<=sizeLine/\Q (.int z.length) H):=rfl
def liH (o:Option O3) (H:Hp3) (Q:VK3):Prop:=match o with
 |some (.lst xs)=>∀p,H p=none->Q (.ref p) (up3 H p (.lst xs))
 |some (.rol xs)=>∀p,H p=none->Q (.ref p) (up3 H p (.lst xs))
 |_=>False
theorem Ga (a:Addr):uq [.ref a] H Q=liH (H a) H Q:=rfl
theorem SN (xs:List T):liH (some (.lst xs)) H Q=∀p,H p=none->Q (.ref p) (up3 H p (.lst xs)):=rfl
theorem Gb (xs:List T):uq [.tup xs] H Q=∀p,H p=none->Q (.ref p) (up3 H p (.lst xs)):=rfl
def tpH (o:Option O3) (H:Hp3) (Q:VK3):Prop:=match o with
 |some (.lst xs)=>Q (.tup xs) H
 |some (.rol xs)=>Q (.tup xs) H
 |_=>False
theorem MK (a:Addr):pP [.ref a] H Q=tpH (H a) H Q:=rfl
theorem SQ (xs:List T):tpH (some (.lst xs)) H Q=Q (.tup xs) H:=rfl
theorem MN (xs:List T):pP [.tup xs] H Q=Q (.tup xs) H:=rfl
theorem MP (i:Int):z9 [.int i] H Q=Q (.int i) H:=rfl
theorem MT (b:Bool):z9 [.bl b] H Q=Q (.int (if b then 1 else 0)) H:=rfl
theorem M3 (i:Int):RG [.int i] H Q=(i.natAbs.log2<1920/\Q (.str (toString i)) H):=rfl
def smH (o:Option O3) (H:Hp3) (Q:VK3):Prop:=match o with
 |some (.lst xs)=>oq (ints3 xs) fun ns=>Q (.int ns.sum) H
 |some (.rol xs)=>oq (ints3 xs) fun ns=>Q (.int ns.sum) H
 |_=>False
theorem M4 (a:Addr):Jc [.ref a] H Q=smH (H a) H Q:=rfl
theorem SX (xs:List T):smH (some (.lst xs)) H Q=oq (ints3 xs) fun ns=>Q (.int ns.sum) H:=rfl
theorem rA (x:T) (n:String):lO [x,.ty n] H Q=((n="str"\/n="int"\/n="bool"\/n="tuple"\/n="list")/\oq (isT n x H) fun b=>Q (.bl b) H):=rfl
theorem S5 (Ty:String) (z:Str):ty3 Ty (.str z) H=(Ty="str"):=rfl
def tyH (o:Option O3):Prop:=match o with
 |some (.lst _)=>True
 |some (.rol _)=>True
 |_=>False
theorem S6 (Ty:String) (a:Addr):ty3 Ty (.ref a) H=(Ty="list"/\tyH (H a)):=rfl
theorem S7 (xs:List T):tyH (some (.lst xs))=True:=rfl
def apH (o:Option O3) (a:Addr) (t:T) (H:Hp3) (Q:VK3):Prop:=match o with
 |some (.lst xs)=>xs.length<sizeLine/\Q .non (up3 H a (.lst (xs++[t])))
 |_=>False
theorem S8 (a:Addr) (t:T):Je (.ref a) [t] H Q=apH (H a) a t H Q:=rfl
theorem Jk (xs:List T) (a:Addr) (t:T):apH (some (.lst xs)) a t H Q=(xs.length<sizeLine/\Q .non (up3 H a (.lst (xs++[t])))):=rfl
def exH (o u:Option O3) (a:Addr) (H:Hp3) (Q:VK3):Prop:=match o,u with
 |some (.lst xs),some (.lst ys)=>xs.length+ys.length<=sizeLine/\Q .non (up3 H a (.lst (xs++ys)))
 |_,_=>False
theorem S9 (a b:Addr):Jf (.ref a) [.ref b] H Q=exH (H a) (H b) a H Q:=rfl
theorem Jl (xs ys:List T) (a:Addr):exH (some (.lst xs)) (some (.lst ys)) a H Q=(xs.length+ys.length<=sizeLine/\Q .non (up3 H a (.lst (xs++ys)))):=rfl
def poH (o:Option O3) (a:Addr) (i:Int) (H:Hp3) (Q:VK3):Prop:=match o with
 |some (.lst xs)=>oq (ixN xs.length i) fun j=>oq (xs[j]?) fun t=>Q t (up3 H a (.lst (xs.eraseIdx j)))
 |_=>False
theorem Tc (a:Addr) (i:Int):wC (.ref a) [.int i] H Q=poH (H a) a i H Q:=rfl
theorem Td (xs:List T) (a:Addr) (i:Int):poH (some (.lst xs)) a i H Q=oq (ixN xs.length i) fun j=>oq (xs[j]?) fun t=>Q t (up3 H a (.lst (xs.eraseIdx j))):=rfl
def joH (o:Option O3) (z:Str) (H:Hp3) (Q:VK3):Prop:=match o with
 |some (.lst xs)=>oq (cN xs) fun ys=>jOk z ys/\Q (.str (Txt.join z ys)) H
 |some (.rol xs)=>oq (cN xs) fun ys=>jOk z ys/\Q (.str (Txt.join z ys)) H
 |_=>False
theorem Gd (z:Str) (a:Addr):Ab (.str z) [.ref a] H Q=joH (H a) z H Q:=rfl
theorem Te (xs:List T) (z:Str):joH (some (.lst xs)) z H Q=oq (cN xs) fun ys=>jOk z ys/\Q (.str (Txt.join z ys)) H:=rfl
theorem Ge (z:Str) (xs:List T):Ab (.str z) [.tup xs] H Q=oq (cN xs) fun ys=>jOk z ys/\Q (.str (Txt.join z ys)) H:=rfl
def idH (o:List Nat) (H:Hp3) (Q:VK3):Prop:=match o with
 |i::_=>Q (.int i) H
 |[]=>False
theorem Gf (z y:Str):wD (.str z) [.str y] H Q=idH (Builtin.Str.occurrences z y 0 z.length 1) H Q:=rfl
theorem Tf (i:Nat) (r:List Nat):idH (i::r) H Q=Q (.int i) H:=rfl
def rgq (vs:List T) (H:Hp3) (R:List T->(Hp3->Prop)->Hp3->Prop):Prop:=match vs with
 |[.int j]=>-(2^62)<=j/\j<2^62/\R (dh 0 j.toNat) cL H
 |[.int i,.int j]=>(-(2^62)<=i/\i<2^62 /\ -(2^62)<=j/\j<2^62)/\R (dh i (j - i).toNat) cL H
 |_=>False
theorem Tg (ta:TA3) (R:List T->(Hp3->Prop)->Hp3->Prop):zR ta Z H R=ta Z H fun vs H1=>rgq vs H1 R:=rfl
theorem Ti (j:Int) (R:List T->(Hp3->Prop)->Hp3->Prop):rgq [.int j] H R=(-(2^62)<=j/\j<2^62/\R (dh 0 j.toNat) cL H):=rfl
theorem Tj (i j:Int) (R:List T->(Hp3->Prop)->Hp3->Prop):rgq [.int i,.int j] H R=((-(2^62)<=i/\i<2^62 /\ -(2^62)<=j/\j<2^62)/\R (dh i (j - i).toNat) cL H):=rfl
def tuq (x:T) (H:Hp3) (R:List T->(Hp3->Prop)->Hp3->Prop):Prop:=match x with
 |.tup ts=>R ts cL H
 |_=>False
theorem M5 (tl:TE3) (R:List T->(Hp3->Prop)->Hp3->Prop):IW tl Z H R=tl Z H fun x H1=>tuq x H1 R:=rfl
theorem Tn (ts:List T) (R:List T->(Hp3->Prop)->Hp3->Prop):tuq (.tup ts) H R=R ts cL H:=rfl
def liq (x:T) (H:Hp3) (R:List T->(Hp3->Prop)->Hp3->Prop):Prop:=match x with
 |.ref a=>match H a with
  |some (.lst ts)=>R ts (cC a ts) H
  |some (.rol ts)=>R ts (cC a ts) H
  |_=>False
 |_=>False
def liO (o:Option O3) (a:Addr) (H:Hp3) (R:List T->(Hp3->Prop)->Hp3->Prop):Prop:=match o with
 |some (.lst ts)=>R ts (cC a ts) H
 |some (.rol ts)=>R ts (cC a ts) H
 |_=>False
theorem Gg (tl:TE3) (R:List T->(Hp3->Prop)->Hp3->Prop):zP tl Z H R=tl Z H fun x H1=>liq x H1 R:=rfl
theorem Jm (a:Addr) (R:List T->(Hp3->Prop)->Hp3->Prop):liq (.ref a) H R=liO (H a) a H R:=rfl
theorem wF (ts:List T) (a:Addr) (R:List T->(Hp3->Prop)->Hp3->Prop):liO (some (.lst ts)) a H R=R ts (cC a ts) H:=rfl
theorem Ah (Q:St3->Hp3->Prop):vZ [] Z H Q=Q Z H:=rfl
theorem wG (t:TG3) (u:m9) (x:T) (r:List T) (Q:St3->Hp3->Prop):jb t u (x::r) Z H Q=t x Z H fun Z' H'=>u r Z' H' Q:=rfl
theorem Ai (n:Nat) (g:m9) (ts:List T) (Q:St3->Hp3->Prop):wg n g (.tup ts) Z H Q=(ts.length=n/\g ts Z H Q):=rfl
end
theorem kO {n j:Nat}(h:j<n):ixN n (j:Int)=some j:=by
 unfold ixN;rw[if_pos (YC j),if_pos (by omega),YJ]
theorem WT (n:Nat):ixN (n+1) 0=some 0:=kO (j:=0) (Nat.succ_pos n)
theorem at0 {α:Type}(a:α) (r:List α):atI (a::r) 0=some a:=bu (j:=0) rfl
theorem at1 {α:Type}(a b:α) (r:List α):atI (a::b::r) 1=some b:=bu (j:=1) rfl
theorem at2 {α:Type}(a b c:α) (r:List α):atI (a::b::c::r) 2=some c:=bu (j:=2) rfl
theorem at3 {α:Type}(a b c d:α) (r:List α):atI (a::b::c::d::r) 3=some d:=bu (j:=3) rfl
theorem rB {α:Type}(xs:List α) (i:Int) (h0:0<=i) (h1:i<xs.length):∃z,z∈xs/\atI xs i=some z:=by
 obtain⟨j,rfl⟩:=Int.eq_ofNat_of_zero_le h0;have hj:j<xs.length:=by omega
 exact⟨xs[j],Xp hj,bu (d_ hj)⟩
theorem lU {α β:Type}(f:α->β) (xs:List α) (i:Int):atI (xs.map f) i=(atI xs i).map f:=by
 unfold atI;rw[b_];cases ixN xs.length i with
 |none=>rfl
 |some j=>simp
theorem kW {g:TG3}{tb:TS3}{D:Ends3}{still:Hp3->Prop}{ts:List T}{Z:St3}{H:Hp3}(I:List T->St3->Hp3->Prop) (h0:I ts Z H) (hn:∀Z H,I [] Z H->still H/\D.nx Z H)
  (hs:∀t r Z H (N:St3->Hp3->Prop),I (t::r) Z H->(∀Z' H',I r Z' H'->N Z' H')->still H/\g t Z H fun Z2 H2=>tb { D with nx:=N,ct:=N,bk:=D.nx} Z2 H2):iter3 g tb D still ts Z H:=by
 induction ts generalizing Z H with
 |nil=>exact hn Z H h0
 |cons t r ih=>exact hs t r Z H (iter3 g tb D still r) h0 fun Z' H' h=>ih h
theorem ik {g:TG3}{tt:TT3}{te:TE3}{still:Hp3->Prop}{fin:List T->Hp3->Prop}{ts ys:List T}{Z:St3}{H:Hp3}(I:List T->List T->St3->Hp3->Prop) (h0:I ts ys Z H) (hn:∀ys Z H,I [] ys Z H->still H/\ys.length<=sizeLine/\fin ys H)
  (hs:∀t r ys Z H (N:List T->St3->Hp3->Prop),I (t::r) ys Z H->(∀ys' Z' H',I r ys' Z' H'->N ys' Z' H') ->
   still H/\g t Z H fun Z2 H2=>tt Z2 H2 fun b H3=>if b=true then te Z2 H3 fun y H4=>ys.length<sizeLine/\N (ys++[y]) Z2 H4 else N ys Z2 H3):cIter3 g tt te still fin ts ys Z H:=by
 induction ts generalizing Z H ys with
 |nil=>exact hn ys Z H h0
 |cons t r ih=>exact hs t r ys Z H (cIter3 g tt te still fin r) h0 fun ys' Z' H' h=>ih h
theorem M6 (Z:St3) (H:Hp3) (Q:List (Str × T)->Hp3->Prop):z8 [] Z H Q=Q [] H:=rfl
theorem M7 (k:Str) (tv:TE3) (r:List (Str × TE3)) (Z:St3) (H:Hp3) (Q:List (Str × T)->Hp3->Prop):z8 ((k,tv)::r) Z H Q=tv Z H fun y H2=>z8 r Z H2 fun ps H3=>Q ((k,y)::ps) H3:=rfl
theorem sx0 (n:Nat):HT.sIx n 0 none=0:=rfl
theorem M8 {ts:List T}{k:Nat}:dG ts none (some (k:Int))=ts.take k:=by
 unfold dG;rw[sx0,HT.sIx_nat,List.drop_zero,Nat.sub_zero];by_cases h:k<=ts.length
 ·rw[Nat.min_eq_left h]
 rw[Nat.min_eq_right (by omega),Y4,Ye (by omega)]
theorem jq {ts:List T}{k:Nat}:dG ts (some (k:Int)) none=ts.drop k:=by
 unfold dG;rw[HT.sIx_none,HT.sIx_nat];by_cases h:k<=ts.length
 ·rw[Nat.min_eq_left h,Ye (by simp)]
 rw[Nat.min_eq_right (by omega),List.drop_of_length_le (o_ _),List.drop_of_length_le (by omega),List.take_nil]
theorem b7 {H:Hp3}{a b:Addr}{o:O3}(h:up3 H a o b=none):b≠a/\H b=none:=by
 by_cases e:b=a
 ·subst e;rw[aA] at h;cases h
 rw[aC e] at h;exact⟨e,h⟩
theorem Aj {H:Hp3}{a b:Addr}{o u:O3}(h:a≠b):up3 (up3 H a o) b u=up3 (up3 H b u) a o:=by
 funext c;by_cases h1:c=b
 ·subst h1;rw[aA,aC (Ne.symm h),aA]
 rw[aC h1];by_cases h2:c=a
 ·subst h2;rw[aA,aA]
 rw[aC h2,aC h2,aC h1]
theorem dH {α:Type}(enc f:α->T) (as:List α) (rest:St3) {te:TE3}{still:Hp3->Prop}{fin:List T->Hp3->Prop}{v:Option T}{H:Hp3}(hst:still H) (hl:as.length<=sizeLine)
  (ht:∀a∈as,∀Q:VK3,Q (f a) H->te (some (enc a)::rest) H Q) (hfin:fin (as.map f) H):cIter3 (dC 0) wj te still fin (as.map enc) [] (v::rest) H:=by
 refine ik (fun r ys Z H'=>∃(rs ds:List α) (v:Option T),Z=v::rest/\r=rs.map enc/\ys=ds.map f/\ds++rs=as/\H'=H) ⟨as,[],v,rfl,rfl,rfl,rfl,rfl⟩ ?_ ?_
 ·rintro ys Z H' ⟨rs,ds,v,rfl,hrs,rfl,hsp,rfl⟩;have hrs':rs=[]:=Yx.mp hrs.symm;subst hrs';rw[I_] at hsp;subst hsp;exact⟨hst,by rw[b_];exact hl,hfin⟩
 rintro x r ys Z H' N ⟨rs,ds,v,rfl,hrs,rfl,hsp,rfl⟩ hN;cases rs with
 |nil=>cases hrs
 |cons t rs =>
 injection hrs with e1 e2;subst e1 e2;refine⟨hst,?_⟩;show te (some (enc t)::rest) H' _;refine ht t (by rw[<- hsp];simp) _ ⟨?_,hN _ _ _ ⟨rs,ds++[t],_,rfl,rfl,by simp,by rw[<- hsp];simp,rfl⟩⟩;have:=T_ List.length hsp;simp only[a_,e_] at this;rw[b_];omega
section
variable {X:Cx}
def je:List T->Option (List Bool)
 |[]=>some []
 |.bl x::r=>(je r).map (x::·)
 |_=>none
def alH (o:Option O3) (H:Hp3) (Q:VK3):Prop:=match o with
 |some (.lst xs)=>oq (je xs) fun bs=>Q (.bl (bs.all id)) H
 |some (.rol xs)=>oq (je xs) fun bs=>Q (.bl (bs.all id)) H
 |_=>False
def Tp:List T->Hp3->VK3->Prop:=fun ts H Q=>match ts with
 |[.ref a]=>alH (H a) H Q
 |_=>False
theorem Tr (a:Addr) {H:Hp3}{Q:VK3}:Tp [.ref a] H Q=alH (H a) H Q:=rfl
theorem Tu (xs:List T) {H:Hp3}{Q:VK3}:alH (some (.lst xs)) H Q=oq (je xs) fun bs=>Q (.bl (bs.all id)) H:=rfl
end
def WW:T->Option Key
 |.int i=>some (.inl i)
 |.str x=>some (.inr x)
 |_=>none
def Ak:List T->Option (List Key)
 |[]=>some []
 |t::r=>match WW t,Ak r with
  |some k,some ks=>some (k::ks)
  |_,_=>none
def Al (k:List Key):List (List Key × T)->Option T
 |[]=>none
 | (k',v)::r=>if k'=k then some v else Al k r
def Tv (k:List Key) (v:T) (kvs:List (List Key × T)):List (List Key × T) :=
 if (kvs.any fun kv=>decide (kv.1=k))=true then kvs.map (fun kv=>if kv.1=k then (kv.1,v) else kv) else kvs++[(k,v)]
def M9 (o:Option O3) (ts:List T) (H:Hp3) (Q:VK3):Prop:=match o with
 |some (.dcp kvs)=>oq (Ak ts) fun ks=>oq (Al ks kvs) fun t=>Q t H
 |_=>False
def dgP (x:T) (ts:List T) (H:Hp3) (Q:VK3):Prop:=match x with
 |.ref a=>M9 (H a) ts H Q
 |_=>False
def Gh (td:TE3) (ta:TA3):TE3:=fun Z H Q=>td Z H fun x H1=>ta Z H1 fun ts H2=>ts.length<=sizeLine/\dgP x ts H2 Q
def Nf (o:Option O3) (a:Addr) (ts:List T) (v:T) (H:Hp3) (Q:Hp3->Prop):Prop:=match o with
 |some (.dcp kvs)=>oq (Ak ts) fun ks=>kvs.length<sizeLine/\Q (up3 H a (.dcp (Tv ks v kvs)))
 |_=>False
def dpP (x:T) (ts:List T) (v:T) (H:Hp3) (Q:Hp3->Prop):Prop:=match x with
 |.ref a=>Nf (H a) a ts v H Q
 |_=>False
def Gi (td:TE3) (ta:TA3) (tv:TE3):TS3:=fun D Z H=>tv Z H fun v H1=>td Z H1 fun x H2=>ta Z H2 fun ts H3=>ts.length<=sizeLine/\dpP x ts v H3 fun H4=>D.nx Z H4
section
variable {H:Hp3}{Q:VK3}{Z:St3}
theorem Tw (a:Addr) (ts:List T):dgP (.ref a) ts H Q=M9 (H a) ts H Q:=rfl
theorem Ng (kvs:List (List Key × T)) (x y:Str):M9 (some (.dcp kvs)) [.str x,.str y] H Q=oq (Al [Sum.inr x,Sum.inr y] kvs) fun t=>Q t H:=rfl
theorem Tz (a:Addr) (ts:List T) (v:T) (Q:Hp3->Prop):dpP (.ref a) ts v H Q=Nf (H a) a ts v H Q:=rfl
theorem Nh (kvs:List (List Key × T)) (a:Addr) (x y:Str) (v:T) (Q:Hp3->Prop):Nf (some (.dcp kvs)) a [.str x,.str y] v H Q=(kvs.length<sizeLine/\Q (up3 H a (.dcp (Tv [Sum.inr x,Sum.inr y] v kvs)))):=rfl
variable {X:Cx}{o i k value:Expr}{es:List Expr}{td ti tk tv:TE3}{ta:TA3}{pos pos' p2:Pos}{x1:Nat}
def Ni:TE3:=fun _ H Q=>∀p,H p=none->Q (.ref p) (up3 H p (.dct []))
def Gj:TE3:=fun _ H Q=>∀p,H p=none->Q (.ref p) (up3 H p (.dcp []))
theorem SimH.newD {K:Frag}{H:Hp}{H3:Hp3}{p:Addr}(s:SimH K H3 H) (hp:H p=none):SimH K (up3 H3 p (.dct [])) (upd H p (.dK [])):=fun a o e=>by
 by_cases ha:a=p
 ·subst ha;rw[aA] at e;cases e;exact⟨[],bU,.nil⟩
 rw[aC ha] at e;exact s.new hp a o e
def d1q (y:T) (p:Addr) (v:T) (H:Hp3) (Q:VK3):Prop:=match y with
 |.str k=>H p=some (.dct [])/\Q (.ref p) (up3 H p (.dct [(k,v)]))
 |_=>False
def Am (tk tv:TE3):TE3:=fun Z H Q=>∀p,H p=none->tk Z (up3 H p (.dct [])) fun y H1=>tv Z H1 fun v H2=>d1q y p v H2 Q
theorem TF (x:Str) (p:Addr) (v:T) {H:Hp3}{Q:VK3}:d1q (.str x) p v H Q=(H p=some (.dct [])/\Q (.ref p) (up3 H p (.dct [(x,v)]))):=rfl
theorem An {v:Expr}(hk:PE3 X k tk) (hv:PE3 X v tv):PE3 X (.Dict [some k] [v] pos) (Am tk tv):=by
 refine PE.imp (vR (qQ hk hv vQ) rfl rfl (by simp) (by show 1<=15;decide)) ?_;rintro Z H Q ⟨Z3,H3,Q3,ss,sh,h,k⟩ p hp;have le0:TupLe X.K H (upd H p (.dK [])):=aP hp;refine⟨Z3,up3 H3 p (.dct []),_,ss.mono le0,sh.newD hp,h p (sh.fresh hp),fun y H1 ty H31 le1 sh1 ry q1=>?_⟩;refine⟨Z3,H31,_,ss.mono (le0.trans le1),sh1,q1,fun z H2 tz H32 le2 sh2 rz q2=>?_⟩;cases ty with
 |str key =>
  have h':H32 p=some (.dct [])/\Q3 (.ref p) (up3 H32 p (.dct [(key,tz)])):=q2
  obtain⟨ws,hH,r⟩:=sh2 p _ h'.1
  cases r
  refine⟨hH,[(Sum.inr key,z)],by rw[(ry.mono le2).str];rfl,by show 1<=15;decide,?_⟩
  have e:iY [] [((Sum.inr key:Key),z)]=[((Sum.inr key:Key),z)]:=rfl
  rw[e]
  exact k _ _ _ _ (le0.trans (le1.trans (le2.trans (bA (by rw[hH];exact trivial))))) (sh2.wrD hH (.cons ⟨rfl,rz⟩ .nil)) .ofRef h'.2
 |_=>exact q2.elim
def diH (neg:Bool) (y:T) (o:Option O3) (H:Hp3) (Q:VK3):Prop:=match y,o with
 |.str k,some (.dct kvs)=>Q (.bl (if neg then !(aU k kvs).isSome else (aU k kvs).isSome)) H
 |_,_=>False
def diq (neg:Bool) (y x:T) (H:Hp3) (Q:VK3):Prop:=match x with
 |.ref a=>diH neg y (H a) H Q
 |_=>False
def Ao (neg:Bool) (ti to:TE3):TE3:=fun Z H Q=>ti Z H fun y H1=>to Z H1 fun x H2=>diq neg y x H2 Q
theorem TJ (neg:Bool) (y:T) (a:Addr) {H:Hp3}{Q:VK3}:diq neg y (.ref a) H Q=diH neg y (H a) H Q:=rfl
theorem TQ (neg:Bool) (k:Str) (kvs:List (Str × T)) {H:Hp3}{Q:VK3}:diH neg (.str k) (some (.dct kvs)) H Q=Q (.bl (if neg then !(aU k kvs).isSome else (aU k kvs).isSome)) H:=rfl
theorem oA {K:Frag}{H:Hp}{k:Str}:∀{kvs:List (Str × T)}{vs:List (Key × V)},RepD K H kvs vs->(fC vs (Sum.inr k:Key)).isSome=(aU k kvs).isSome
 |[],_,.nil=>rfl
 | (k',t')::r,_,.cons (b:=(kk,v')) ⟨e1,rv⟩ rr=>by
  simp only at e1 rv
  subst e1
  unfold aU
  by_cases hk:k'=k
  ·
   rw[if_pos hk,fG (by rw[hk])];rfl
  ·
   rw[if_neg hk,fH (by intro z;exact hk (Sum.inr.inj z))]
   exact oA rr
theorem wH {neg:Bool}{H:Hp}{H3:Hp3}{x y:V}{tx ty:T}{Q3:VK3}(sh:SimH X.K H3 H) (rx:Rep X.K H tx x) (ry:Rep X.K H ty y) (q:diq neg ty tx H3 Q3) :
  ∃a ov b,x=.ref a/\DGet H a y ov/\(if neg then !ov.isSome else ov.isSome)=b/\Q3 (.bl b) H3:=by
 cases tx with
 |ref a =>
  have h':diH neg ty (H3 a) H3 Q3:=q
  cases ty with
  |str k =>
   cases e:H3 a with
   |none=>rw[e] at h';exact h'.elim
   |some ob =>
    rw[e] at h'
    cases ob with
    |dct kvs =>
     obtain⟨ws,hH,r⟩:=sh a _ e
     refine⟨a,fC ws (Sum.inr k:Key),_,rx.ref,by rw[ry.str];exact DGet.k (k:=Sum.inr k) hH,rfl,?_⟩
     rw[oA r]
     exact h'
    |_=>exact h'.elim
  |_=>exact h'.elim
 |_=>exact q.elim
theorem pU (hu:X.A.units+1<cLine) (hi:PE3 X i ti) (ho:PE3 X o td) (hm:behindInMarks .In o=false:=by rfl):PT3 X (.Compare i [.In] [o] pos) (jL (Ao false ti td)):=by
 refine PT.imp (tO (LC hu hi ho) hm) ?_;rintro Z H Q ⟨Z3,H3,Q3,ss,sh,h,k⟩;refine⟨Z3,H3,_,ss,sh,h,fun y H1 ty H31 le1 sh1 ry q1=>⟨Z3,H31,_,ss.mono le1,sh1,q1,fun x H2 tx H32 le2 sh2 rx q2=>?_⟩⟩;obtain⟨a,ov,b,e,g,eb,q⟩:=wH sh2 rx (ry.mono le2) q2;exact⟨a,ov,e,g,b,by rw[show ov.isSome=b from eb],k _ _ _ (le1.trans le2) sh2 q⟩
theorem oE (hu:X.A.units+1<cLine) (hi:PE3 X i ti) (ho:PE3 X o td) (hm:behindInMarks .NotIn o=false:=by rfl):PT3 X (.Compare i [.NotIn] [o] pos) (jL (Ao true ti td)):=by
 refine PT.imp (tO (nW hu hi ho) hm) ?_;rintro Z H Q ⟨Z3,H3,Q3,ss,sh,h,k⟩;refine⟨Z3,H3,_,ss,sh,h,fun y H1 ty H31 le1 sh1 ry q1=>⟨Z3,H31,_,ss.mono le1,sh1,q1,fun x H2 tx H32 le2 sh2 rx q2=>?_⟩⟩;obtain⟨a,ov,b,e,g,eb,q⟩:=wH sh2 rx (ry.mono le2) q2;exact⟨a,ov,e,g,b,by rw[show (!ov.isSome)=b from eb],k _ _ _ (le1.trans le2) sh2 q⟩
end
def yx (x:T) (H:Hp3) (R:List T->(Hp3->Prop)->Hp3->Prop):Prop:=match x with
 |.tup ts=>R ts cL H
 |.ref a=>liO (H a) a H R
 |_=>False
theorem Nj (ts:List T) {H:Hp3}{R:List T->(Hp3->Prop)->Hp3->Prop}:yx (.tup ts) H R=R ts cL H:=rfl
theorem Nk (a:Addr) {H:Hp3}{R:List T->(Hp3->Prop)->Hp3->Prop}:yx (.ref a) H R=liO (H a) a H R:=rfl
def Aq (i:Nat):TI3:=fun Z H R=>vq (Z[i]?) fun x=>yx x H R
theorem Gk (i:Nat) {Z:St3}{H:Hp3}{R:List T->(Hp3->Prop)->Hp3->Prop}:Aq i Z H R=vq (Z[i]?) fun x=>yx x H R:=rfl
theorem Gm {X:Cx}{tg:Expr}(i:Nat) {x:Str}{pos:Pos}(hN:X.N[i]?=some x:=by rfl) (hv:Vis X.env.scope x:=by first | exact Or.inl rfl | exact Or.inr (Or.inl rfl) | exact Or.inr (Or.inr rfl)) (hd:(x==("__debug__":Str))=false:=by decide)
  (hcd:(x==("__classdict__":Str))=false:=by decide):PI3 X tg (.Name x pos) (Aq i):=by
 intro pins s Z H R I q;obtain⟨Z3,H3,R3,ss,sh,h,k⟩:=q;have h':vq (Z3[i]?) fun x=>yx x H3 R3:=h;cases e:Z3[i]? with
 |none=>rw[e] at h';exact h'.elim
 |some o =>
 cases o with
 |none=>rw[e] at h';exact h'.elim
 |some t =>
 rw[e] at h';cases t with
 |tup ts=>exact cT (v3 i hN hv hd hcd) pins s Z H R I ⟨Z3,H3,R3,ss,sh,by show qT i Z3 H3 _;rw[Ae,e];exact h',k⟩
 |ref a=>exact cM (v3 i hN hv hd hcd) pins s Z H R I ⟨Z3,H3,R3,ss,sh,by show qT i Z3 H3 _;rw[Ae,e];exact h',k⟩
 |_=>exact h'.elim
theorem aQ {α:Type}(enc:α->T) (xs:List α) {g:TG3}{tb:TS3}{D:Ends3}{still:Hp3->Prop}{Z:St3}{H:Hp3}(I:List α->St3->Hp3->Prop) (h0:I [] Z H) (hn:∀Z H,I xs Z H->still H/\D.nx Z H)
  (hs:∀A x B Z H (N:St3->Hp3->Prop),xs=A++x::B->I A Z H->(∀Z' H',I (A++[x]) Z' H'->N Z' H')->still H/\g (enc x) Z H fun Z2 H2=>tb { D with nx:=N,ct:=N,bk:=D.nx} Z2 H2):iter3 g tb D still (xs.map enc) Z H:=by
 have:∀(B A:List α) (Z:St3) (H:Hp3),xs=A++B->I A Z H->iter3 g tb D still (B.map enc) Z H:=by
  intro B;induction B with
  |nil=>intro A Z H e h;rw[I_] at e;subst e;exact hn Z H h
  |cons x B ih =>
  intro A Z H e h;exact hs A x B Z H (iter3 g tb D still (B.map enc)) e h fun Z' H' h'=>ih (A++[x]) Z' H' (by rw[e];simp) h'
 exact this xs [] Z H rfl h0
theorem c7 {α:Type}(enc:α->T) (xs:List α) {g:TG3}{tt:TT3}{te:TE3}{still:Hp3->Prop}{fin:List T->Hp3->Prop}{Z:St3}{H:Hp3}(I:List α->List T->St3->Hp3->Prop) (h0:I [] [] Z H) (hn:∀ys Z H,I xs ys Z H->still H/\ys.length<=sizeLine/\fin ys H)
  (hs:∀A x B ys Z H (N:List T->St3->Hp3->Prop),xs=A++x::B->I A ys Z H->(∀ys' Z' H',I (A++[x]) ys' Z' H'->N ys' Z' H') ->
   still H/\g (enc x) Z H fun Z2 H2=>tt Z2 H2 fun b H3=>if b=true then te Z2 H3 fun y H4=>ys.length<sizeLine/\N (ys++[y]) Z2 H4 else N ys Z2 H3):cIter3 g tt te still fin (xs.map enc) [] Z H:=by
 have:∀(B A:List α) (ys:List T) (Z:St3) (H:Hp3),xs=A++B->I A ys Z H->cIter3 g tt te still fin (B.map enc) ys Z H:=by
  intro B;induction B with
  |nil=>intro A ys Z H e h;rw[I_] at e;subst e;exact hn ys Z H h
  |cons x B ih =>
  intro A ys Z H e h;exact hs A x B ys Z H (cIter3 g tt te still fin (B.map enc)) e h fun ys' Z' H' h'=>ih (A++[x]) ys' Z' H' (by rw[e];simp) h'
 exact this xs [] [] Z H rfl h0
section
variable {prog:Program}{w:World}{A:Around}{E:Value->Shared->Prop}{s:Shared}
variable {X:Cx}{e:Expr}{te:TE}{p1 p2 pos pos':Pos}
variable {z ti to i1 i2:Addr}{f1 f2:List Addr}
variable {n1 n2 k:Nat}{P1 P2:Nat->Value->Prop}{S1 S2:Nat->Heap->Prop}
variable {pins:List (Addr × Obj)}{Z:L2.St}{H:Hp}{h':Heap}
theorem kY {ch:List Addr}{t':Nat}(I:Inv X pins Z H s) (k:∀b o,b∉ch->s.heap.get? b=some o->h'.get? b=some o) (hf:∀b∈ch,mZ X pins H b):Inv X pins Z H { s with heap:=h',toks:=t'}:=by
 have nit:∀b u,H b=some u->b∉ch:=fun b u e z=>by rw[(hf b z).1] at e;cases e
 refine I.step (g':=s.gens) (d':=s.drawn) (ch:=ch) (fun b hb=>?_) (fun b o _ _ hc e _=>k b o hc e) (fun b o _ _ hc e _=>⟨o.slots,k b o hc e⟩) (fun _ _ _ _ n=>n)
  (fun b o hc e=>⟨o,k b o hc e⟩) (fun _ _ e=>e) (fun _ _ _ e=>e) (fun b ps e=>⟨#[],by rw[e];simp⟩) (fun m hm=>?_) (fun b u e=>?_) I.bare
 ·obtain⟨_,f1,_,f3,f4,f5⟩:=hf b hb;exact⟨f3,f1,f4,f5⟩
 ·obtain⟨o,es,ep,ho,r⟩:=hm;exact⟨o,es,ep,k _ o (fun z=>(hf _ z).2.1 rfl) ho,r⟩
 refine (I.hok b u e).stay (fun c v hc q=>k c v ?_ q) (fun _ q=>q) fun _ _ q=>q;rcases hc with z | z
 ·rw[z];exact nit b u e
 exact nit c _ z
variable {elts:List Expr}{x1:Nat}{tpos p:Pos}{ea eb:Expr}
def Nm:List T->List T->List T
 |x::xs,y::ys=>.tup [x,y]::Nm xs ys
 |_,_=>[]
end
theorem jY {α:Type}(e1 e2 f:α->T) (as:List α) (rest:St3) {te:TE3}{still:Hp3->Prop}{fin:List T->Hp3->Prop}{v u:Option T}{H:Hp3}(hst:still H) (hl:as.length<=sizeLine)
  (ht:∀a∈as,∀Q:VK3,Q (f a) H->te (some (e1 a)::some (e2 a)::rest) H Q) (hfin:fin (as.map f) H) :
  cIter3 (wg 2 (jb (dC 0) (jb (dC 1) vZ))) wj te still fin (as.map fun a=>.tup [e1 a,e2 a]) [] (v::u::rest) H:=by
 refine ik (fun r ys Z H'=>∃(rs ds:List α) (v u:Option T),Z=v::u::rest/\r=rs.map (fun a=>.tup [e1 a,e2 a])/\ys=ds.map f/\ds++rs=as/\H'=H) ⟨as,[],v,u,rfl,rfl,rfl,rfl,rfl⟩ ?_ ?_
 ·rintro ys Z H' ⟨rs,ds,v,u,rfl,hrs,rfl,hsp,rfl⟩;have hrs':rs=[]:=Yx.mp hrs.symm;subst hrs';rw[I_] at hsp;subst hsp;exact⟨hst,by rw[b_];exact hl,hfin⟩
 rintro x r ys Z H' N ⟨rs,ds,v,u,rfl,hrs,rfl,hsp,rfl⟩ hN;cases rs with
 |nil=>cases hrs
 |cons t rs =>
 injection hrs with a1 a2;subst a1 a2;refine⟨hst,rfl,?_⟩;show te (some (e1 t)::some (e2 t)::rest) H' _;refine ht t (by rw[<- hsp];simp) _ ⟨?_,hN _ _ _ ⟨rs,ds++[t],_,_,rfl,rfl,by simp,by rw[<- hsp];simp,rfl⟩⟩;have:=T_ List.length hsp;simp only[a_,e_] at this;rw[b_];omega
theorem oF:∀(ts:List T),Nm ts ts=ts.map fun t=>.tup [t,t]
 |[]=>rfl
 |t::r=>by rw[Nm,oF r];rfl
def shp:Nat->T->Bool
 |_,.str _=>true
 |_,.int _=>true
 |d+1,.tup ts=>decide (ts.length<=sizeLine)&&ts.all (shp d)
 |_,_=>false
def pW (d:Nat):Sp3:=fun ts H Q=>∃t,d≠0/\ts=[t,t]/\shp (d - 1) t=true/\Q (.bl true) H
theorem rC {P:Program}{w:World}{K:Frag}{mg:Str->Option Value}{base:Heap}{k:Nat}{f:Addr}{fd:FuncData}{ps:List Str}{sp:Sp3}(h:∀ts H Q,¬sp ts H Q):FnOk3 P w K mg base k f fd ps sp :=
 ⟨fun vs H Q E ⟨ts,H3,Q3,_,_,q,_⟩=>absurd q (h _ _ _),fun A outer s H args us vs Q E _ _ _ _ ⟨ts,H3,Q3,_,_,q,_⟩=>absurd q (h _ _ _)⟩
section
variable {H:Hp3}{Q:VK3}
theorem Np (x:T):lO [x,.ty "str"] H Q=oq (isT "str" x H) fun b=>Q (.bl b) H:=by rw[rA];exact propext ⟨fun h=>h.2,fun h=>⟨by simp,h⟩⟩
theorem ur (x:Str):isT "str" (.str x) H=some true:=rfl
theorem ut (x:Int):isT "str" (.int x) H=some false:=rfl
theorem uv (x:List T):isT "str" (.tup x) H=some false:=rfl
theorem yz (x:Bool):isT "str" (.bl x) H=some false:=rfl
theorem uw  : isT "str" (.non) H=some false:=rfl
theorem Nq (x:T):lO [x,.ty "int"] H Q=oq (isT "int" x H) fun b=>Q (.bl b) H:=by rw[rA];exact propext ⟨fun h=>h.2,fun h=>⟨by simp,h⟩⟩
theorem ux (x:Str):isT "int" (.str x) H=some false:=rfl
theorem uA (x:Int):isT "int" (.int x) H=some true:=rfl
theorem uB (x:List T):isT "int" (.tup x) H=some false:=rfl
theorem yC (x:Bool):isT "int" (.bl x) H=some true:=rfl
theorem uC  : isT "int" (.non) H=some false:=rfl
theorem Gn (x:T):lO [x,.ty "bool"] H Q=oq (isT "bool" x H) fun b=>Q (.bl b) H:=by rw[rA];exact propext ⟨fun h=>h.2,fun h=>⟨by simp,h⟩⟩
theorem rD (x:Str):isT "bool" (.str x) H=some false:=rfl
theorem rE (x:Int):isT "bool" (.int x) H=some false:=rfl
theorem rF (x:List T):isT "bool" (.tup x) H=some false:=rfl
theorem uD (x:Bool):isT "bool" (.bl x) H=some true:=rfl
theorem rG  : isT "bool" (.non) H=some false:=rfl
theorem Ar (x:T):lO [x,.ty "tuple"] H Q=oq (isT "tuple" x H) fun b=>Q (.bl b) H:=by rw[rA];exact propext ⟨fun h=>h.2,fun h=>⟨by simp,h⟩⟩
theorem pX (x:Str):isT "tuple" (.str x) H=some false:=rfl
theorem pY (x:Int):isT "tuple" (.int x) H=some false:=rfl
theorem pZ (x:List T):isT "tuple" (.tup x) H=some true:=rfl
theorem rH (x:Bool):isT "tuple" (.bl x) H=some false:=rfl
theorem p7  : isT "tuple" (.non) H=some false:=rfl
theorem Gp (x:T):lO [x,.ty "list"] H Q=oq (isT "list" x H) fun b=>Q (.bl b) H:=by rw[rA];exact propext ⟨fun h=>h.2,fun h=>⟨by simp,h⟩⟩
theorem rJ (x:Str):isT "list" (.str x) H=some false:=rfl
theorem rK (x:Int):isT "list" (.int x) H=some false:=rfl
theorem rM (x:List T):isT "list" (.tup x) H=some false:=rfl
theorem uE (x:Bool):isT "list" (.bl x) H=some false:=rfl
theorem rN  : isT "list" (.non) H=some false:=rfl
theorem wI {α:Type} [DecidableEq α] (a:α):decide (a=a)=true:=P_ rfl
end
open L2 PySem.Builtin PySem.Builtin.Str
section
variable {prog:Program}{w:World}{A:Around}{E:Value->Shared->Prop}{s:Shared}{x y:Str}{t u:Tok}{Q:Value->Shared->Prop}
variable {X:Cx}
end
theorem Gq {prog:Program}{w:World}{A:Around}(hh:A.handled=none) (it t:Addr) (hne:t≠it) (items:Array Value) (k:Nat) (hk:items[k]?=none) :
  Draws prog w A it [it,t] k (fun _ _=>True) (fun i h=>i=k/\h.IsListIter it t i/\h.IsList t items) where
 live:=fun _ _ st=>let ⟨o,ho,_⟩:=st.2.1;⟨o,ho⟩
 frame:=fun _ _ _ st hk=>⟨st.1,st.2.1.at fun o e=>hk it (by simp) o e,st.2.2.at fun o e=>hk t (by simp) o e⟩
 item:=fun i s Q E hi st hQ=>absurd st.1 (Xm hi)
 done:=fun s Q E st hE=>wpAny_nextOf_list_end hh st.2.1 st.2.2 hk hE
section
variable {X:Cx}{elts:List Expr}{x1 j:Nat}{tpos pos p cp kp:Pos}{e:Expr}
theorem p8:bootBuiltins "enumerate"=some (.type "enumerate"):=by decide +kernel
variable {tg l:Expr}
variable {prog:Program}{w:World}{A:Around}{E:Value->Shared->Prop}{s:Shared}
variable {te:TE}{p1 p2 pos':Pos}
variable {pins:List (Addr × Obj)}{Z:L2.St}{H:Hp}
variable {a:Expr}{ta:TE3}
def ngq (x:T) (H:Hp3) (Q:VK3):Prop:=match x with
 |.int i=>Q (.int (-i)) H
 |_=>False
def Jo (ta:TE3):TE3:=fun Z H Q=>ta Z H fun x H1=>ngq x H1 Q
theorem TV (ta:TE3) {Z:St3}{H:Hp3}{Q:VK3}:Jo ta Z H Q=ta Z H fun x H1=>ngq x H1 Q:=rfl
theorem TX (i:Int) {H:Hp3}{Q:VK3}:ngq (.int i) H Q=Q (.int (-i)) H:=rfl
theorem Av (ha:PE3 X a ta):PE3 X (.UnaryOp .USub a pos) (Jo ta):=by
 refine PE.imp (QW Le ha) ?_;rintro Z H Q ⟨Z3,H3,Q3,ss,sh,h,k⟩;refine⟨Z3,H3,_,ss,sh,h,fun v H' t H3' le sh' r q=>?_⟩;cases t with
 |int i=>exact⟨i,r.int,k _ _ _ _ le sh' .ofInt q⟩
 |_=>exact q.elim
def Nr:List T->Hp3->VK3->Prop:=fun ts H Q=>match ts with
 |[.str x]=>x.length<=640/\oq (intText? x) fun n=>Q (.int n) H
 |_=>False
theorem Nt (x:Str) {H:Hp3}{Q:VK3}:Nr [.str x] H Q=(x.length<=640/\oq (intText? x) fun n=>Q (.int n) H):=rfl
end
def Nu (K:Frag) (a:Addr):It :=
 ⟨fun i H=>∃xs x,SqL K H a xs/\xs[i]?=some x,
  fun i H v H'=>∃p x,v=.ref p/\H p=none/\H'=upd H p (.tup [.int (i:Int),x])/\∀xs,SqL K H a xs->xs[i]?=some x,
  fun i H=>∃xs,SqL K H a xs/\xs.length<=i⟩
theorem uF {P:Program}{w:World}{K:Frag}{elts:List Expr}{x1:Nat}{pos:Pos}(a it e:Addr) (l1:a<it) (l2:it<e) :
  Turn P w K (.Tuple elts x1 pos) (Nu K a) [e,it] e (fun i h=>(∃old,IsEnum h e it (i:Int) old)/\h.IsListIter it a i) where
 mem:=i_
 obj:=fun i h st c hc=>by
  obtain⟨⟨old,he⟩,⟨o1,e1,_,d1⟩⟩:=st
  simp only[l_,Xk,Yo] at hc
  rcases hc with rfl | rfl
  ·
   exact⟨_,he,fun v z=>by cases z⟩
  ·
   exact⟨_,e1,fun v z=>by rw[d1] at z;cases z⟩
 keep:=fun i h h' st k=>by
  obtain⟨⟨old,he⟩,h1⟩:=st
  exact⟨⟨old,k e (by simp) _ he⟩,h1.at fun o q=>k it (by simp) o q⟩
 item:=by
  intro X hP hw hK hc i pins s Z H E I hf st hg
  subst hP hw hK
  obtain⟨xs,x,hq,hx⟩:=hg
  obtain⟨its,rv,p,hz⟩:=I.list hq
  obtain⟨u,hu,ru⟩:=rv.get hx
  obtain⟨⟨old,he⟩,h1⟩:=st
  have hu':its.toArray[i]?=some u:=by simpa using hu
  have hai:a≠it:=Xm l1
  have hei:e≠it:=Zj l2
  have hea:e≠a:=Zj (Zm l1 l2)
  have hef:e∉[it,a]:=by simp [hei,hea]
  have D:=Draws.list (prog:=X.prog) (w:=X.w) (A:=X.A.in1) (I.ok.hd hc) it a hai its.toArray
  refine wpAny_pyNext_enum_itemD (i:=i) D he ⟨h1,p.isList⟩ (Array.getElem?_eq_some_iff.mp hu').1 hei hef fun x' h' tk px ho hs' hT hsz kp=>?_
  have e1:x'=u:=G_ (px.symm.trans hu')
  subst e1
  obtain⟨hs1,hs2⟩:=hs'
  refine⟨_,rfl,wpAny_letOwnedTupleGo_enum ho fun h2' hz2' sb=>?_⟩
  have kp2:∀c o,c∉[e,it]->s.heap.get? c=some o->h2'.get? c=some o:=fun c o nc q=>(sb.2 c fun z=>nc (z▸i_)).trans (kp c o (fun z=>nc (z▸i_)) (fun z=>nc (by simp [z])) q)
  have lt:∀{c o},s.heap.get? c=some o->s.heap.objs.size≠c:=fun q=>Zj (K_ q)
  have lt1:∀{c:Addr},c∈[e,it]->c≠s.heap.objs.size:=fun {c} hc=>by
   simp only[l_,Xk,Yo] at hc
   rcases hc with q | q <;> subst q
   ·
    exact Ne.symm (lt he)
   ·
    obtain⟨o,q,_⟩:=h1;exact Ne.symm (lt q)
  have hTe:s.heap.objs.size≠e:=lt he
  have I1:Inv X pins Z (upd H s.heap.objs.size (.tup [.int (i:Int),x])) { s with heap:=s.heap.push { cls:=.type "tuple",data:=.seq #[.int (i:Int) tk,x']},toks:=tk+1} :=
   I.laid (t':=tk+1) (fun b o q=>j_ _ q) (o_ _) (show ObjOk X.prog X.w _ _ _ (.tup [.int (i:Int),x]) from ⟨by show 2<=sizeLine;decide,[.int (i:Int) tk,x'],.cons ⟨tk,rfl⟩ (.cons ru .nil),Tup0.new _ _⟩)
  have I2:Inv X pins Z (upd H s.heap.objs.size (.tup [.int (i:Int),x])) { s with heap:=h2',toks:=tk+1}:=kY (s:={ s with heap:=s.heap.push { cls:=.type "tuple",data:=.seq #[.int (i:Int) tk,x']},toks:=tk+1}) (ch:=[e,it]) (t':=tk+1) I1 (fun c o nc q=>by
   by_cases z:c=s.heap.objs.size
   ·
    subst z
    have q':(s.heap.push { cls:=.type "tuple",data:=.seq #[.int (i:Int) tk,x']}).get? s.heap.objs.size=some o:=q
    rw[Q_ _ rfl] at q'
    cases q'
    exact (sb.2 _ hTe).trans hT
   ·
    have q':(s.heap.push { cls:=.type "tuple",data:=.seq #[.int (i:Int) tk,x']}).get? c=some o:=q
    rw[Heap.get?_push_ne _ _ _ z] at q'
    exact kp2 c o nc q') fun c hc=>⟨by rw[aV (lt1 hc)];exact (hf c hc).1,(hf c hc).2⟩
  refine⟨.ref s.heap.objs.size,_,I2,rfl,⟨s.heap.objs.size,x,rfl,I.hok.fresh (o_ _),rfl,fun zs hq'=>by rw[I.list_inj hq' hq];exact hx⟩,⟨⟨x',?_⟩,hs1.at fun o q=>(sb.2 it (Ne.symm hei)).trans q⟩,fun c hc=>by rw[aV (lt1 hc)];exact (hf c hc).1⟩
  exact hz2'
 done:=by
  intro X hP hw hK hc i pins s Z H E I hf st hg
  subst hP hw hK
  obtain⟨xs,hq,hx⟩:=hg
  obtain⟨its,rv,p,hz⟩:=I.list hq
  obtain⟨⟨old,he⟩,h1⟩:=st
  have hl:=rv.length
  have hai:a≠it:=Xm l1
  have D:=Gq (prog:=X.prog) (w:=X.w) (A:=X.A.in1) (I.ok.hd hc) it a hai its.toArray i (by simp;omega)
  exact wpAny_pyNext_enum_endD D he ⟨rfl,h1,p.isList⟩ fun h' eb=>⟨rfl,kY (ch:=[e,it]) (t':=s.toks) I (fun b o nb q=>eb b o (fun z=>nb (by simp [z])) q) hf⟩
 self:=fun _ _ _ _ _ st h=>wpAny_pyIter_enum st.1.choose_spec h
section
variable {X:Cx}{elts:List Expr}{x1:Nat}{tpos pos p:Pos}{e:Expr}
def Nv (K:Frag) (te:TE):TI:=fun Z H R=>te Z H fun x H1=>∃a,x=.ref a/\(∃xs,H1 a=some (.lst xs))/\R (Nu K a) H1
theorem Aw {te:TE}(hg:Gl X "enumerate") (hm:X.mg "enumerate"=none) (he:PE X e te)
  (hs:starEach [e] X.env=(false,eval e X.env)::starEach [] X.env:=by rfl) (hpl:(backTo pos (starEach [] X.env)).any (·.1)=false:=by rfl) :
  PI X (.Tuple elts x1 tpos) (.Call (.Name "enumerate" p) [e] [] pos) (Nv X.K te):=by
 intro pins s Z H R I h;refine Yk (gQ I hg hm p8 ?_ (by decide) (by decide));refine XS ?_ hs hpl;rw[hs];show wpAny _ _ (spliced ((false,eval e X.env)::backTo pos (starEach [] X.env))) _ _ s;refine YD (thn (he pins s Z H _ I h) fun u s2 ⟨x,H2,I2,r1,a,ea,⟨xs,hl⟩,q⟩=>?_);subst ea;cases r1;refine Zb ?_;obtain⟨hz,its,n,rv,ho⟩:=I2.hok a _ hl;have la:a<s2.heap.objs.size:=K_ ho;refine call_enumerate_list ⟨_,ho,rfl,n,rfl⟩ fun h' hE hL l1 kp=>wpAny_pyIter_enum hE ?_;refine⟨s2.heap.objs.size+1,[s2.heap.objs.size+1,s2.heap.objs.size],_,_,H2,rfl,I2.kept (t':=s2.toks) kp,uF a s2.heap.objs.size (s2.heap.objs.size+1) la (Zk _),⟨⟨.none,hE⟩,hL⟩,fun c hc=>?_,q⟩;have hc':s2.heap.objs.size<=c:=by
  simp only[l_,Xk,Yo] at hc;rcases hc with z | z <;> subst z
  ·exact Nat.le_succ _
  exact o_ _
 exact I2.fpOk hc' (I2.hok.fresh hc')
def eU (k:Int):List T->List T
 |[]=>[]
 |x::r=>.tup [.int k,x]::eU (k+1) r
theorem oG:∀(k:Int) (xs:List T) (i:Nat),(eU k xs)[i]?=xs[i]?.map fun x=>.tup [.int (k+i),x]
 |_,[],i=>by simp [eU]
 |k,x::xs,0=>by simp [eU]
 |k,x::xs,i+1=>by
  simp only[eU,XD]
  rw[oG (k+1) xs i]
  have:k+1+(i:Int)=k+((i+1:Nat):Int):=by omega
  rw[this]
theorem oH:∀(k:Int) (xs:List T),(eU k xs).length=xs.length
 |_,[]=>rfl
 |k,x::xs=>by simp [eU,oH (k+1) xs]
def Gr (o:Option O3) (a:Addr) (H:Hp3) (R:List T->(Hp3->Prop)->Hp3->Prop):Prop:=match o with
 |some (.lst ts)=>R (eU 0 ts) (cC a ts) H
 |_=>False
def Nx (x:T) (H:Hp3) (R:List T->(Hp3->Prop)->Hp3->Prop):Prop:=match x with
 |.ref a=>Gr (H a) a H R
 |_=>False
def wJ (te:TE3):TI3:=fun Z H R=>te Z H fun x H1=>Nx x H1 R
theorem Ax (te:TE3) {Z:St3}{H:Hp3}{R:List T->(Hp3->Prop)->Hp3->Prop}:wJ te Z H R=te Z H fun x H1=>Nx x H1 R:=rfl
theorem Ny (a:Addr) {H:Hp3}{R:List T->(Hp3->Prop)->Hp3->Prop}:Nx (.ref a) H R=Gr (H a) a H R:=rfl
theorem Nz (ts:List T) (a:Addr) {H:Hp3}{R:List T->(Hp3->Prop)->Hp3->Prop}:Gr (some (.lst ts)) a H R=R (eU 0 ts) (cC a ts) H:=rfl
theorem uG {K:Frag}{H:Hp}{a:Addr}{ts:List T}:jX K (Nu K a) (eU 0 ts) (cC a ts) H:=fun H' H3' le sh st=>by
 obtain⟨xs,sq,rs⟩:=sh.sqL st;have hl:=rs.length;refine⟨fun i hi=>⟨xs,sq,by rw[oH] at hi;omega⟩,fun i t e=>?_⟩;rw[oG] at e;cases q:ts[i]? with
 |none=>rw[q] at e;cases e
 |some x =>
 rw[q] at e;cases e;obtain⟨v,ev,rv⟩:=rs.get q;refine⟨⟨xs,v,sq,ev⟩,fun z H'' y=>?_⟩;obtain⟨p,x',rfl,hp,rfl,q1⟩:=y;have:=(q1 xs sq).symm.trans ev;cases this;refine⟨aP hp,sh.new hp,?_⟩;rw[show (0:Int)+(i:Int)=(i:Int) from by omega];exact SimH.newTup (H3:=H3') hp (.cons .ofInt (.cons rv .nil))
theorem Ay {te:TE3}(hg:Gl X "enumerate") (hm:X.mg "enumerate"=none) (he:PE3 X e te) (hs:starEach [e] X.env=(false,eval e X.env)::starEach [] X.env:=by rfl) (hpl:(backTo pos (starEach [] X.env)).any (·.1)=false:=by rfl) :
  PI3 X (.Tuple elts x1 tpos) (.Call (.Name "enumerate" p) [e] [] pos) (wJ te):=by
 refine PI.imp (Aw hg hm he hs hpl) ?_;rintro Z H R ⟨Z3,H3,R3,ss,sh,h,k⟩;refine⟨Z3,H3,_,ss,sh,h,fun v H' t H3' le sh' r q=>?_⟩;cases t with
 |ref a =>
  have q':Gr (H3' a) a H3' R3:=q
  cases eo:H3' a with
  |none=>rw[eo] at q';exact q'.elim
  |some o =>
   rw[eo] at q'
   cases o with
   |lst ts =>
    obtain⟨xs,hH,rs⟩:=sh' a _ eo
    exact⟨a,r.ref,⟨xs,hH⟩,k _ _ (cC a ts) H' H3' le sh' uG q'⟩
   |rol ts=>exact q'.elim
   |dct ts=>exact q'.elim
   |dcp ts=>exact q'.elim
   |exc _ _=>exact q'.elim
   |xdt _=>exact q'.elim
   |dci _=>exact q'.elim
   |dif _ _=>exact q'.elim
   |ins _ _=>exact q'.elim
 |_=>exact q.elim
end
theorem Az {X:Cx}:du X (binaryOp .LShift) (rI3 Em fun i j=>.int (i*2^j.toNat)):=qZ La fun _ _ _=>.ofInt
section
variable {X:Cx}{elts:List Expr}{x1:Nat}{tpos pos p:Pos}{e:Expr}
def NB (x:T) (H:Hp3) (R:List T->(Hp3->Prop)->Hp3->Prop):Prop:=match x with
 |.tup ts=>R (eU 0 ts) cL H
 |_=>False
def Gs (te:TE3):TI3:=fun Z H R=>te Z H fun x H1=>NB x H1 R
theorem Ba (te:TE3) {Z:St3}{H:Hp3}{R:List T->(Hp3->Prop)->Hp3->Prop}:Gs te Z H R=te Z H fun x H1=>NB x H1 R:=rfl
theorem NK (ts:List T) {H:Hp3}{R:List T->(Hp3->Prop)->Hp3->Prop}:NB (.tup ts) H R=R (eU 0 ts) cL H:=rfl
def anH (o:Option O3) (H:Hp3) (Q:VK3):Prop:=match o with
 |some (.lst xs)=>oq (je xs) fun bs=>Q (.bl (bs.any id)) H
 |some (.rol xs)=>oq (je xs) fun bs=>Q (.bl (bs.any id)) H
 |_=>False
def TY:List T->Hp3->VK3->Prop:=fun ts H Q=>match ts with
 |[.ref a]=>anH (H a) H Q
 |_=>False
theorem T4 (a:Addr) {H:Hp3}{Q:VK3}:TY [.ref a] H Q=anH (H a) H Q:=rfl
theorem T5 (xs:List T) {H:Hp3}{Q:VK3}:anH (some (.lst xs)) H Q=oq (je xs) fun bs=>Q (.bl (bs.any id)) H:=rfl
def Bb:List T->Hp3->VK3->Prop:=fun ts H Q=>match ts with
 |[.int i,.int j]=>Q (.int (if j>i then j else i)) H
 |_=>False
def Bc:List T->Hp3->VK3->Prop:=fun ts H Q=>match ts with
 |[.int i,.int j]=>Q (.int (if j<i then j else i)) H
 |_=>False
theorem NP (i j:Int) {H:Hp3}{Q:VK3}:Bb [.int i,.int j] H Q=Q (.int (if j>i then j else i)) H:=rfl
theorem uH (i j:Int) {H:Hp3}{Q:VK3}:Bc [.int i,.int j] H Q=Q (.int (if j<i then j else i)) H:=rfl
theorem Gu (hc:X.calm=true):dR X (.builtin "max") Bb:=by
 intro pins s Z H xs us Q I rv h;obtain⟨ts,H3,Q3,r,sh,h,k⟩:=h
 match ts,h,r with
 |[.int i,.int j],h,r =>
 obtain⟨v,v2,rfl,r1,r2⟩:=r.two';obtain⟨u1,u2,rfl,q1,q2⟩:=vals2 rv;rw[r1.int] at q1;rw[r2.int] at q2;obtain⟨t1,rfl⟩:=q1;obtain⟨t2,rfl⟩:=q2;refine max_two_ints (I.ok.hd hc) fun h' tk hk=>?_;refine⟨.int (if j>i then j else i),H,I.kept hk,?_,k _ _ _ _ .refl sh .ofInt h⟩;by_cases z:j>i
 ·rw[if_pos z,if_pos z];exact⟨_,rfl⟩
 rw[if_neg z,if_neg z];exact⟨_,rfl⟩
theorem Gv (hc:X.calm=true):dR X (.builtin "min") Bc:=by
 intro pins s Z H xs us Q I rv h;obtain⟨ts,H3,Q3,r,sh,h,k⟩:=h
 match ts,h,r with
 |[.int i,.int j],h,r =>
 obtain⟨v,v2,rfl,r1,r2⟩:=r.two';obtain⟨u1,u2,rfl,q1,q2⟩:=vals2 rv;rw[r1.int] at q1;rw[r2.int] at q2;obtain⟨t1,rfl⟩:=q1;obtain⟨t2,rfl⟩:=q2;refine min_two_ints (I.ok.hd hc) fun h' tk hk=>?_;refine⟨.int (if j<i then j else i),H,I.kept hk,?_,k _ _ _ _ .refl sh .ofInt h⟩;by_cases z:j<i
 ·rw[if_pos z,if_pos z];exact⟨_,rfl⟩
 rw[if_neg z,if_neg z];exact⟨_,rfl⟩
theorem dX:du X (binaryOp .BitAnd) (pK fun i j=>.int (Builtin.bitAnd i j)):=lM Ld fun _ _ _=>.ofInt
theorem wK:du X (binaryOp .BitOr) (pK fun i j=>.int (Builtin.bitOr i j)):=lM QX fun _ _ _=>.ofInt
theorem Bd:bootBuiltins "max"=some (.builtin "max"):=by decide +kernel
theorem NQ:bootBuiltins "min"=some (.builtin "min"):=by decide +kernel
end
theorem bh {N P:List Str}{sc:Scope}(a:sc.kind=.function:=by rfl) (b:sc.isCoroutine=false:=by rfl) (c:sc.isGenerator=false:=by rfl) (d:N.Nodup:=by decide +kernel) (e:N.take P.length=P:=by rfl)
 (f:∀x∈P,sc.names.lookup x=some .local\/sc.names.lookup x=some .cell:=by decide +kernel) (g:∀y∈sc.names,y.2≠.free:=by decide +kernel):FnScope N P sc:=⟨a,b,c,d,e,f,g⟩
theorem uI {p:Prop} [Decidable p] (h:¬p):¬(decide p=true) := fun e=>h (Xv e)
theorem upa {H:Hp3}{a q:Addr}{o u:O3}(h:H a=some u) (hq:H q=none):up3 H q o a=some u := by rw[aC (aX h hq)];exact h
structure Cal (P:Program) (w:World) (K:Frag) (mg:Str->Option Value) (base:Heap) (k:Nat) (x:Str) (st:Stmt) (ps:List Str) (sp:Sp3):Prop where
 ex:∃(f:Addr) (fd:FuncData),G3 K mg x st ps f fd/\FnOk3 P w K mg base k f fd ps sp
theorem Be {X:Cx}{k:Nat}{ps:List Str}{sp:Sp3}{st:Stmt}{x:Str}{p pos:Pos}{e:Expr}{es:List Expr}{t:TA3}(D:Cal X.prog X.w X.K X.mg X.base k x st ps sp) (hr:Room k X.A) (hg:Gl X x)
  (ha:PA3 X (e::es) t) (hdb:(x==("__debug__":Str))=false:=by decide) (he:starEach (e::es) X.env=(false,eval e X.env)::starEach es X.env:=by rfl) (hpl:(backTo pos (starEach es X.env)).any (·.1)=false:=by rfl) :
  PE3 X (.Call (.Name x p) (e::es) [] pos) (pJ sp t):=by
 obtain⟨f,fd,g,F⟩:=D.ex;exact Fy F hr hg g.m g.fn.kp g.b ha hdb he hpl
theorem aL {X:Cx}{k j:Nat}{ps:List Str}{sp:Sp3}{st:Stmt}{x:Str}{p pos:Pos}{e:Expr}{es:List Expr}{t:TA3}(D:Cal X.prog X.w X.K X.mg X.base k x st ps sp) (hr:Room j X.A) (hg:Gl X x) (ha:PA3 X (e::es) t) (hk:k<=j:=by decide) (hdb:(x==("__debug__":Str))=false:=by decide) (he:starEach (e::es) X.env=(false,eval e X.env)::starEach es X.env:=by rfl) (hpl:(backTo pos (starEach es X.env)).any (·.1)=false:=by rfl):PE3 X (.Call (.Name x p) (e::es) [] pos) (pJ sp t):=Be D (hr.mono hk) hg ha hdb he hpl
section
variable {X:Cx}{pins:List (Addr × Obj)}{Z:L2.St}{H:Hp}{s:Shared}
theorem qb {c:Nat}:∀{xs:List Nat},(∀x∈xs,x<=c)->xs.sum<=xs.length*c
 |[],_=>by simp
 |x::xs,h=>by
  have a:=h x i_
  have b:=qb (xs:=xs) fun y hy=>h y (n_ _ hy)
  simp only[ZK,e_,Nat.succ_mul]
  omega
def rpH (o:Option O3) (k:Int) (H:Hp3) (Q:VK3):Prop:=match o with
 |some (.lst xs)=>(-(2^63)<=k/\k<2^63/\xs.length*k.toNat<=sizeLine)/\∀p,H p=none->Q (.ref p) (up3 H p (.lst (List.replicate k.toNat xs).flatten))
 |_=>False
def Jp:R3:=fun x y H Q=>match x,y with
 |.ref a,.int k=>rpH (H a) k H Q
 |_,_=>False
theorem Jq (a:Addr) (k:Int) (H:Hp3) (Q:VK3):Jp (.ref a) (.int k) H Q=rpH (H a) k H Q:=rfl
theorem Jr (xs:List T) (k:Int) (H:Hp3) (Q:VK3):rpH (some (.lst xs)) k H Q=((-(2^63)<=k/\k<2^63/\xs.length*k.toNat<=sizeLine)/\∀p,H p=none->Q (.ref p) (up3 H p (.lst (List.replicate k.toNat xs).flatten))):=rfl
theorem Reps.rep {K:Frag}{H:Hp}{ts:List T}{vs:List V}(r:Reps K H ts vs):∀k:Nat,Reps K H (List.replicate k ts).flatten (List.replicate k vs).flatten
 |0=>.nil
 |k+1=>by rw[Yh,Yh,Ys,Ys];exact r.append (Reps.rep r k)
theorem NT:du X (binaryOp .Mult) Jp:=by
 refine OpR.imp Ly ?_;rintro x y H Q ⟨tx,ty,H3,Q3,rx,ry,sh,h,k⟩;cases tx with
 |ref a =>
  cases ty with
  |int n =>
   rw[Jq] at h;cases e:H3 a with
   |none=>rw[e] at h;exact h.elim
   |some o =>
   rw[e] at h;cases o with
   |lst xs=>rw[Jr] at h;obtain⟨vs,g1,r1⟩:=sh a _ e;obtain⟨⟨h1,h2,h3⟩,h'⟩:=h;refine⟨a,n,vs,rx.ref,ry.int,g1,h1,h2,by rw[<- r1.length];exact h3,fun p hp=>?_⟩;exact k _ _ _ _ (aP hp) (sh.newLst hp (r1.rep n.toNat)) .ofRef (h' p (sh.fresh hp))
   |_=>exact h.elim
  |_=>exact h.elim
 |_=>exact h.elim
variable {prog:Program}{w:World}{A:Around}{E:Value->Shared->Prop}
variable {tg e:Expr}{p p1 p2 pos pos':Pos}{o:Expr}{to:TE3}{name:Str}{apos cpos:Pos}{m:T->List T->Hp3->VK3->Prop}{Ty id:String}
def Js (Ty:String) (m:T->List T->Hp3->VK3->Prop) (to:TE3):TE3:=fun Z H Q=>to Z H fun x H1=>ty3 Ty x H1/\m x [] H1 Q
theorem Bf (pa:PlainAttrs Ty) (slot:Slot Ty name id) (hty:typeOf (.builtin id)=pure (.type "method_descriptor")) (hm:ni X id m) (ho:PE3 X o to)
  (hbase:attributeBase o name X.env (eval o X.env)=eval o X.env:=by rfl) (hline:(apos.endLine==cpos.line)=true:=by rfl) :
  PE3 X (.Call (.Attribute o name apos) [] [] cpos) (Js Ty m to):=by
 refine PE.imp (Lr pa slot hty hm ho hbase hline) ?_;rintro Z H Q ⟨Z3,H3,Q3,ss,sh,h,k⟩;exact⟨Z3,H3,_,ss,sh,h,fun x H1 tx H31 le1 sh1 rx q1=>⟨Jd sh1 rx q1.1,tx,[],H31,Q3,rx,.nil,sh1,q1.2,k.at le1⟩⟩
def clO (o:Option O3) (a:Addr) (H:Hp3) (Q:VK3):Prop:=match o with
 |some (.lst _)=>Q .non (up3 H a (.lst []))
 |_=>False
def Jt:T->List T->Hp3->VK3->Prop:=fun x ts H Q=>match x,ts with
 |.ref a,[]=>clO (H a) a H Q
 |_,_=>False
theorem Bg:ni X "list.clear" Jt:=by
 refine MtR.imp zA ?_;rintro x xs H Q ⟨tx,ts,H3,Q3,rx,rs,sh,h,k⟩
 match tx,ts,h,rx,rs with
 |.ref a,[],h,rx,rs =>
  have h':clO (H3 a) a H3 Q3:=h
  cases e:H3 a with
  |none=>rw[e] at h';exact h'.elim
  |some o =>
   rw[e] at h'
   cases o with
   |lst ls =>
    obtain⟨ys,hH,r⟩:=sh a _ e
    exact⟨a,ys,rx.ref,rs.inv0,hH,k _ _ _ _ (bA (by rw[hH];exact trivial)) (sh.wrL hH .nil) .ofNon h'⟩
   |_=>exact h'.elim
theorem T6 (a:Addr) (H:Hp3) (Q:VK3):Jt (.ref a) [] H Q=clO (H a) a H Q:=rfl
theorem T7 (xs:List T) (a:Addr) (H:Hp3) (Q:VK3):clO (some (.lst xs)) a H Q=Q .non (up3 H a (.lst [])):=rfl
def Gw:V->List V->Hp->VK->Prop:=fun x vs H Q=>∃l xs i y,x=.ref l/\vs=[.int i,y]/\H l=some (.lst xs)/\0<=i/\i<=xs.length/\xs.length<sizeLine/\Q .non (upd H l (.lst (xs.take i.toNat++y::xs.drop i.toNat)))
theorem yD:MtR X "list.insert" Gw:=by
 intro pins s Z H x vs v us Q I rx rv h;obtain⟨l,xs,i,y,rfl,rfl,hH,h0,h1,hz,q⟩:=h;cases rx;obtain⟨u,u',rfl,ru,ru'⟩:=vals2 rv;obtain⟨t,rfl⟩:=ru;obtain⟨z,its,n,r,hl,e⟩:=I.lstM hH;have hsz:sizeLine=16777216:=rfl;have hf:¬(!Builtin.List.listFitsIndex i)=true:=by rw[fitsIndex_both (by omega) (by omega)];exact u_
 refine Y7 F.slot_list_insert ⟨_,e,rfl⟩ F.entry_list_insert (F.args_list_insert_3 _ _ _) (AutoSeq1.list_insert_list_int_val_1 l its.toArray n i t u' hf (by rw[k_];omega)) ⟨e,?_⟩;refine⟨.non,_,I.lset (its':=its.take i.toNat++u'::its.drop i.toNat) hH e ?_ ((r.take _).append (.cons ru' (r.drop _))) ?_,rfl,q⟩
 ·dsimp only;rw[if_neg (by omega),k_,Nat.min_eq_left (by omega)];apply Array.toList_inj.mp;simp;exact Ye (by simp)
 rw[a_,e_,X_,Yz];omega
def NZ (o:Option O3) (a:Addr) (i:Int) (t:T) (H:Hp3) (Q:VK3):Prop:=match o with
 |some (.lst xs)=>(0<=i/\i<=xs.length/\xs.length<sizeLine)/\Q .non (up3 H a (.lst (xs.take i.toNat++t::xs.drop i.toNat)))
 |_=>False
def Ju:T->List T->Hp3->VK3->Prop:=fun x ts H Q=>match x,ts with
 |.ref a,[.int i,t]=>NZ (H a) a i t H Q
 |_,_=>False
theorem Jv (a:Addr) (i:Int) (t:T) (H:Hp3) (Q:VK3):Ju (.ref a) [.int i,t] H Q=NZ (H a) a i t H Q:=rfl
theorem Bh (xs:List T) (a:Addr) (i:Int) (t:T) (H:Hp3) (Q:VK3):NZ (some (.lst xs)) a i t H Q=((0<=i/\i<=xs.length/\xs.length<sizeLine)/\Q .non (up3 H a (.lst (xs.take i.toNat++t::xs.drop i.toNat)))):=rfl
theorem yE:ni X "list.insert" Ju:=by
 refine MtR.imp yD ?_;rintro x xs H Q ⟨tx,ts,H3,Q3,rx,rs,sh,h,k⟩;cases tx with
 |ref a =>
  cases ts with
  |nil=>exact h.elim
  |cons t1 ts =>
  cases ts with
  |nil=>cases t1 <;> exact h.elim
  |cons t2 ts =>
  cases ts with
  |cons _ _=>cases t1 <;> exact h.elim
  |nil =>
  cases t1 with
  |int i =>
   rw[Jv] at h;cases e:H3 a with
   |none=>rw[e] at h;exact h.elim
   |some o =>
   rw[e] at h;cases o with
   |lst ls=>rw[Bh] at h;obtain⟨ys,hH,r⟩:=sh a _ e;obtain⟨⟨h1,h2,h3⟩,h'⟩:=h;obtain⟨v,v',rfl,rv,rv'⟩:=rs.two';refine⟨a,ys,i,v',rx.ref,by rw[rv.int],hH,h1,by rw[<- r.length];exact h2,by rw[<- r.length];exact h3,k _ _ _ _ (bA (by rw[hH];exact trivial)) (sh.wrL hH ((r.take _).append (.cons rv' (r.drop _)))) .ofNon h'⟩
   |_=>exact h.elim
  |_=>exact h.elim
 |_=>exact h.elim
def mxH (o:Option O3) (H:Hp3) (Q:VK3):Prop:=match o with
 |some (.lst xs)=>oq (ints3 xs) fun ns=>ns≠[]/\∀M,M∈ns->(∀a∈ns,a<=M)->Q (.int M) H
 |_=>False
def Bj:List T->Hp3->VK3->Prop:=fun ts H Q=>match ts with
 |[.ref a]=>mxH (H a) H Q
 |_=>False
theorem Bk (a:Addr) (H:Hp3) (Q:VK3):Bj [.ref a] H Q=mxH (H a) H Q:=rfl
theorem Jw (xs:List T) (H:Hp3) (Q:VK3):mxH (some (.lst xs)) H Q=oq (ints3 xs) fun ns=>ns≠[]/\∀M,M∈ns->(∀a∈ns,a<=M)->Q (.int M) H:=rfl
theorem Gx (hc:X.calm=true):dR X (.builtin "max") Bj:=by
 intro pins s Z H xs us Q I rv h;obtain⟨ts,H3,Q3,r,sh,h,k⟩:=h;cases ts with
 |nil=>exact h.elim
 |cons t ts =>
 cases ts with
 |cons _ _=>cases t <;> exact h.elim
 |nil =>
 cases t with
 |ref a =>
  rw[Bk] at h;obtain⟨v,rfl,rv'⟩:=r.one';obtain⟨u,rfl,ru⟩:=vals1 rv;rw[rv'.ref] at ru;cases ru;cases e:H3 a with
  |none=>rw[e] at h;exact h.elim
  |some o =>
  rw[e] at h;cases o with
  |lst ls =>
   rw[Jw] at h;obtain⟨ys,sq,rs⟩:=sh.sqL (.inl e);cases e2:ints3 ls with
   |none=>rw[e2] at h;exact h.elim
   |some ns =>
   rw[e2,ig] at h;obtain⟨hne,h⟩:=h;obtain⟨its,rvs,hl,_⟩:=I.list sq;have hi:=jc e2 rs rvs;have hall:AllInts its.toArray:=hi.allInts;obtain⟨zs,ez⟩:=hall.items;have hls:s.heap.IsList a (intItems zs):=by rw[<- ez];exact hl.isList
   have e1:=nums_intItems zs;rw[<- ez,show its.toArray.toList=its from rfl,hi.numsOf] at e1;have hz:0<zs.size:=by have:=T_ List.length e1;simp at this;have:=List.length_pos_iff.mpr hne;omega
   refine max_intList (I.ok.hd hc) hls hz fun v h' tk hv hk=>?_;obtain⟨t,rfl⟩:=intItems_at hv;obtain⟨h1,h2⟩:=argBest_gt (numAt zs) (zs.size - 1);refine⟨.int _,H,I.kept hk,⟨t,rfl⟩,k _ _ _ _ .refl sh .ofInt (h _ ?_ fun a ha=>?_)⟩
   ·rw[e1,numAt_eq];exact getD_mem (by rw[b_,Yg];omega)
   rw[e1] at ha;obtain⟨j,hj,rfl⟩:=mem_getD ha;rw[b_,Yg] at hj;rw[<- numAt_eq];exact h2 j (by omega)
  |_=>exact h.elim
 |_=>cases h
def isS (z:Str):Value->Bool
 |.str x _=>x==z
 |_=>false
theorem Bm {us:List Value}{ns:List Str}(h:StrsAre us ns):∀y∈us,∃x t,y=Value.str x t:=by
 induction h with
 |nil=>exact fun _ h=>nomatch h
 |cons r t q ih =>
 intro y hy;rcases l_.mp hy with rfl | hy
 ·exact⟨_,_,rfl⟩
 exact ih y hy
end
theorem ir {α:Type}(e1 e2 e3 f:α->T) (p:α->Bool) (as:List α) (rest:St3) {tt:TT3}{te:TE3}{still:Hp3->Prop}{fin:List T->Hp3->Prop}{v u w:Option T}{H:Hp3}(hst:still H) (hl:as.length<=sizeLine)
  (hc:∀a∈as,∀Q:Bool->Hp3->Prop,Q (p a) H->tt (some (e1 a)::some (e2 a)::some (e3 a)::rest) H Q)
  (ht:∀a∈as,p a=true->∀Q:VK3,Q (f a) H->te (some (e1 a)::some (e2 a)::some (e3 a)::rest) H Q) (hfin:fin ((as.filter p).map f) H) :
  cIter3 (wg 3 (jb (dC 0) (jb (dC 1) (jb (dC 2) vZ)))) tt te still fin (as.map fun a=>.tup [e1 a,e2 a,e3 a]) [] (v::u::w::rest) H:=by
 refine ik (fun r ys Z H'=>∃(rs ds:List α) (v u w:Option T),Z=v::u::w::rest/\r=rs.map (fun a=>.tup [e1 a,e2 a,e3 a])/\ys=(ds.filter p).map f/\ds++rs=as/\H'=H) ⟨as,[],v,u,w,rfl,rfl,rfl,rfl,rfl⟩ ?_ ?_
 ·rintro ys Z H' ⟨rs,ds,v,u,w,rfl,hrs,rfl,hsp,rfl⟩;have hrs':rs=[]:=Yx.mp hrs.symm;subst hrs';rw[I_] at hsp;subst hsp;exact⟨hst,by rw[b_];exact J_ (Xf _ _) hl,hfin⟩
 rintro x r ys Z H' N ⟨rs,ds,v,u,w,rfl,hrs,rfl,hsp,rfl⟩ hN;cases rs with
 |nil=>cases hrs
 |cons t rs =>
 injection hrs with a1 a2;subst a1 a2;refine⟨hst,rfl,?_⟩;show tt (some (e1 t)::some (e2 t)::some (e3 t)::rest) H' _;refine hc t (by rw[<- hsp];simp) _ ?_;cases hp:p t with
 |true=>rw[if_pos rfl];refine ht t (by rw[<- hsp];simp) hp _ ⟨?_,hN _ _ _ ⟨rs,ds++[t],_,_,_,rfl,rfl,by simp [hp],by rw[<- hsp];simp,rfl⟩⟩;have:=T_ List.length hsp;simp only[a_,e_] at this;rw[b_];have:=Xf p ds;omega
 |false =>
 rw[if_neg u_];exact hN _ _ _ ⟨rs,ds++[t],_,_,_,rfl,rfl,by simp [hp],by rw[<- hsp];simp,rfl⟩
open L2 HT
section
variable {prog:Program}{w:World}{A:Around}{E:Value->Shared->Prop}{s:Shared}
variable {X:Cx}
def Bo:T->Option Int->Option Int->Hp3->VK3->Prop:=fun x lo hi H Q=>match x with
 |.tup ts=>Q (.tup (dG ts lo hi)) H
 |_=>False
def T8 (te:TE3) (tl th:TO3):TE3:=fun Z H Q=>te Z H fun x H1=>tl Z H1 fun l H2=>th Z H2 fun u H3=>Bo x l u H3 Q
theorem N5 (ts:List T) (lo hi:Option Int) (H:Hp3) (Q:VK3):Bo (.tup ts) lo hi H Q=Q (.tup (dG ts lo hi)) H:=rfl
theorem N6 (te:TE3) (tl th:TO3) (Z:St3) (H:Hp3) (Q:VK3):T8 te tl th Z H Q=te Z H fun x H1=>tl Z H1 fun l H2=>th Z H2 fun u H3=>Bo x l u H3 Q:=rfl
variable {e st:Expr}{p2 pos:Pos}
end
theorem uJ {acc:Array Value}{n:Nat}(h:ItemsOf (fun i v=>∃t,v=Value.int (0+(i:Int)*1) t) acc n):Vals ((List.range n).map fun (i:Nat)=>V.int (i:Int)) acc.toList:=by
 obtain⟨hs,hv⟩:=h;have key:∀(l:List Value) (k:Nat),(∀(j:Nat) (v:Value),l[j]?=some v->∃t,v=Value.int ((k:Int)+(j:Int)) t)->Vals ((List.range' k l.length).map fun (i:Nat)=>V.int (i:Int)) l:=fun l=>by
  induction l with
  |nil=>intro k _;exact .nil
  |cons v r ih =>
  intro k hl;rw[e_,List.range'_succ,D_];refine .cons ?_ (ih (k+1) fun j u hj=>?_)
  ·obtain⟨t,e⟩:=hl 0 v rfl;exact⟨t,by rw[e];congr 1⟩
  obtain⟨t,e⟩:=hl (j+1) u (by rw[XD];exact hj);exact⟨t,by rw[e];congr 1;omega⟩
 have:=key acc.toList 0 fun j v hj=>by obtain⟨t,e⟩:=hv j v (by rw[<- Yj];exact hj);exact⟨t,by rw[e];congr 1;omega⟩
 rw[Yg,hs,<- List.range_eq_range'] at this;exact this
section
variable {X:Cx}{e:Expr}{p1 p2 pos pos':Pos}
def N7 (te:TE):TE:=fun Z H Q=>te Z H fun x H1=>∃n:Nat,x=.int (n:Int)/\n<=1000/\∀l,H1 l=none->Q (.ref l) (upd H1 l (.lst ((List.range n).map fun (i:Nat)=>V.int (i:Int))))
theorem Bp {te:TE}(hc:X.calm=true) (hgt:Gl X "list") (hmt:X.mg "list"=none) (hgr:Gl X "range") (hmr:X.mg "range"=none) (hvt:bootBuiltins "list"=some (.type "list")) (ha:PE X e te)
  (he:starEach [e] X.env=(false,eval e X.env)::starEach [] X.env:=by rfl) (hpl:(backTo pos (starEach [] X.env)).any (·.1)=false:=by rfl) (hpl':(backTo pos' (starEach [] X.env)).any (·.1)=false:=by rfl) :
  PE X (.Call (.Name "list" p1) [.Call (.Name "range" p2) [e] [] pos'] [] pos) (N7 te):=by
 intro pins s Z H Q I h;refine Yk (gQ I hgt hmt hvt ?_ (by decide) (by decide));refine XS ?_ rfl hpl;show wpAny _ _ (spliced ((false,eval (.Call (.Name "range" p2) [e] [] pos') X.env)::backTo pos (starEach [] X.env))) _ _ s;refine YD ?_;refine Yk (gQ I hgr hmr boot_range ?_ (by decide) (by decide));refine XS ?_ he hpl';rw[he];show wpAny _ _ (spliced ((false,eval e X.env)::backTo pos' (starEach [] X.env))) _ _ s;refine YD (thn (ha pins s Z H _ I h) fun u s1 ⟨x,H1,I1,r1,n,hx,hn,q⟩=>?_);subst hx;obtain⟨t,rfl⟩:=r1;refine Zb ?_;refine call_range_1 ?_;refine Zb ?_;have I2:Inv X pins Z H1 { s1 with heap:=s1.heap.push { cls:=.type "range",data:=.fields #[.int 0 s1.toks,.int (n:Int) t,.int 1 (s1.toks+1)]},toks:=s1.toks+1+1}:=I1.kept fun b o e=>j_ _ e;have hsz:Builtin.Range.rangeSize 0 (n:Int) 1=((n:Nat):Int):=by rw[rangeSize_one];split <;> omega
 refine call_list_range (I2.ok.hd hc) (IsRange.new ..) (small_one (by omega) (by omega) (by omega) (by omega)) hsz (by omega) fun h' tk acc' c' hk hg hit=>?_;have hv:=uJ hit;refine⟨.ref _,_,I2.laid (t':=tk) (o:=.lst ((List.range n).map fun (i:Nat)=>V.int (i:Int))) hk (o_ _) ⟨by rw[b_,h_];show n<=16777216;omega,acc'.toList,c',hv,?_⟩,rfl,q _ (I2.hok.fresh (o_ _))⟩;rw[show acc'.toList.toArray=acc' by simp];exact hg
def lrq (x:T) (H:Hp3) (Q:VK3):Prop:=match x with
 |.int i=>(0<=i/\i<=1000)/\∀p,H p=none->Q (.ref p) (up3 H p (.lst ((List.range i.toNat).map fun (k:Nat)=>T.int (k:Int))))
 |_=>False
def wL (te:TE3):TE3:=fun Z H Q=>te Z H fun x H1=>lrq x H1 Q
theorem Gy (te:TE3) {Z:St3}{H:Hp3}{Q:VK3}:wL te Z H Q=te Z H fun x H1=>lrq x H1 Q:=rfl
theorem Jx (i:Int) {H:Hp3}{Q:VK3}:lrq (.int i) H Q=((0<=i/\i<=1000)/\∀p,H p=none->Q (.ref p) (up3 H p (.lst ((List.range i.toNat).map fun (k:Nat)=>T.int (k:Int))))):=rfl
theorem Bq {K:Frag}{H:Hp}(l:List Nat):Reps K H (l.map fun (k:Nat)=>T.int (k:Int)) (l.map fun (k:Nat)=>V.int (k:Int)):=by
 induction l with
 |nil=>exact .nil
 |cons k r ih=>exact .cons .ofInt ih
theorem Br {te:TE3}(hc:X.calm=true) (hgt:Gl X "list") (hmt:X.mg "list"=none) (hgr:Gl X "range") (hmr:X.mg "range"=none) (ha:PE3 X e te)
  (he:starEach [e] X.env=(false,eval e X.env)::starEach [] X.env:=by rfl) (hpl:(backTo pos (starEach [] X.env)).any (·.1)=false:=by rfl) (hpl':(backTo pos' (starEach [] X.env)).any (·.1)=false:=by rfl) :
  PE3 X (.Call (.Name "list" p1) [.Call (.Name "range" p2) [e] [] pos'] [] pos) (wL te):=by
 refine PE.imp (Bp hc hgt hmt hgr hmr jo ha he hpl hpl') ?_;rintro Z H Q ⟨Z3,H3,Q3,ss,sh,h,k⟩;refine⟨Z3,H3,_,ss,sh,h,fun v H' t H3' le sh' r q=>?_⟩;cases t with
 |int i=>rw[Jx] at q;rw[r.int];refine⟨i.toNat,by rw[YW q.1.1],by omega,fun l hl=>k _ _ _ _ (le.trans (aP hl)) (sh'.newLst hl (Bq _)) .ofRef (q.2 l (sh'.fresh hl))⟩
 |_=>exact q.elim
variable {st:Expr}
def T9 (K:Frag) (te:TE) (ts:TO):TE:=fun Z H Q=>te Z H fun x H1=>ts Z H1 fun o H2=>o=some (-1)/\∃a xs,x=.ref a/\SqL K H2 a xs/\∀p,H2 p=none->Q (.ref p) (upd H2 p (.lst xs.reverse))
theorem Gz {te:TE}{ts:TO}(he:PE X e te) (hs:PO X (some st) ts):PE X (.Subscript e (.Slice none none (some st) p2) pos) (T9 X.K te ts):=by
 intro pins s Z H Q I h;refine Subscript_ (thn (he pins s Z H _ I h) fun v s1 ⟨x,H1,I1,r1,q1⟩=>?_);refine wpAny_Slice ?_;rw[evalPart_none];refine O_ (O_ (thn (hs pins s1 Z H1 _ I1 q1) fun vs s3 ⟨o,H3,I3,ps,eo,a,xs,ex,hx,q⟩=>?_));subst eo ex;cases r1;have I4:Inv X pins Z H3 { s3 with heap:=s3.heap.push { cls:=.type "slice",data:=.fields #[.none,.none,vs]}}:=I3.kept (t':=s3.toks) fun b ob q=>j_ _ q;obtain⟨its,r,ht,hz⟩:=I4.list hx;have hlen:=r.length;show wpAny (model X.prog X.w) X.A (subscriptTail e (.Slice none none (some st) p2) (.ref a) (.ref s3.heap.objs.size)) (EP X pins Z Q) X.xe { s3 with heap:=s3.heap.push { cls:=.type "slice",data:=.fields #[.none,.none,vs]}};refine tail_any (T:="list") (ops:=[.ref a,.ref s3.heap.objs.size]) ht.isList.typeIs slot_list_getitem.lookup ?_ (by with_unfolding_all rfl);refine wpAny_getItem_list_slice ht.isList (Heap.IsSliceOf.new ..) .none .none ps (by simp) ?_ (by rw[k_] <;> omega);rw[PySem.W.krv_pick];refine⟨.ref (s3.heap.push { cls:=.type "slice",data:=.fields #[.none,.none,vs]}).objs.size,_,I4.laid (t':=s3.toks) (o:=.lst xs.reverse) (fun b ob q=>j_ _ q) (o_ _) ?_,rfl,q _ (I4.hok.fresh (o_ _))⟩;refine⟨by simpa using hz,its.reverse,0,r.reverse,?_⟩;rw[show its.toArray.toList.reverse.toArray=its.reverse.toArray by simp];exact Q_ _ rfl
def rvH (o:Option O3) (H:Hp3) (Q:VK3):Prop:=match o with
 |some (.lst ts)=>∀p,H p=none->Q (.ref p) (up3 H p (.lst ts.reverse))
 |_=>False
def rvq (x:T) (o:Option Int) (H:Hp3) (Q:VK3):Prop:=match x with
 |.ref a=>o=some (-1)/\rvH (H a) H Q
 |_=>False
def Bs (te:TE3) (ts:TO3):TE3:=fun Z H Q=>te Z H fun x H1=>ts Z H1 fun o H2=>rvq x o H2 Q
theorem N8 (te:TE3) (ts:TO3) {Z:St3}{H:Hp3}{Q:VK3}:Bs te ts Z H Q=te Z H fun x H1=>ts Z H1 fun o H2=>rvq x o H2 Q:=rfl
theorem Ua (a:Addr) (o:Option Int) {H:Hp3}{Q:VK3}:rvq (.ref a) o H Q=(o=some (-1)/\rvH (H a) H Q):=rfl
theorem Ub (ts:List T) {H:Hp3}{Q:VK3}:rvH (some (.lst ts)) H Q=∀p,H p=none->Q (.ref p) (up3 H p (.lst ts.reverse)):=rfl
theorem wM {te:TE3}{ts:TO3}(he:PE3 X e te) (hs:PO3 X (some st) ts):PE3 X (.Subscript e (.Slice none none (some st) p2) pos) (Bs te ts):=by
 refine PE.imp (Gz he hs) ?_;rintro Z H Q ⟨Z3,H3,Q3,ss,sh,h,k⟩;refine⟨Z3,H3,_,ss,sh,h,fun x H1 tx H31 le1 sh1 rx q1=>⟨Z3,H31,_,ss.mono le1,sh1,q1,fun o H2 H32 le2 sh2 q2=>?_⟩⟩;cases tx with
 |ref a =>
  obtain⟨eo,q2⟩:=q2;cases e:H32 a with
  |none=>rw[e] at q2;exact q2.elim
  |some ob =>
  rw[e] at q2;cases ob with
  |lst ts=>obtain⟨xs,sq,r⟩:=sh2.sqL (.inl e);refine⟨eo,a,xs,rx.ref,sq,fun p hp=>k _ _ _ _ (le1.trans (le2.trans (aP hp))) (sh2.newLst hp r.reverse) .ofRef (q2 p (sh2.fresh hp))⟩
  |rol ts=>exact q2.elim
  |dct ts=>exact q2.elim
  |dcp ts=>exact q2.elim
  |exc _ _=>exact q2.elim
  |xdt _=>exact q2.elim
  |dci _=>exact q2.elim
  |dif _ _=>exact q2.elim
  |ins _ _=>exact q2.elim
 |_=>exact q2.elim
variable {prog:Program}{w:World}{A:Around}{E:Value->Shared->Prop}{s:Shared}{l:Addr}{xs:Array (Int × Tok)}
def Oa:List T->Hp3->VK3->Prop:=fun ts H Q=>match ts with
 |[.tup xs]=>oq (ints3 xs) fun ns=>Q (.int ns.sum) H
 |_=>False
theorem Ob (xs:List T) (H:Hp3) (Q:VK3):Oa [.tup xs] H Q=oq (ints3 xs) fun ns=>Q (.int ns.sum) H:=rfl
def isN:T->Bool
 |.non=>true
 |_=>false
def Uc:R3:=fun x y H Q=>match y with
 |.non=>Q (.bl (isN x)) H
 |_=>False
theorem WX (x:T) (H:Hp3) (Q:VK3):Uc x .non H Q=Q (.bl (isN x)) H:=rfl
theorem GC:isN .non=true:=rfl
theorem GD (i:Int):isN (.int i)=false:=rfl
theorem GF (x:Str):isN (.str x)=false:=rfl
theorem GJ (ts:List T):isN (.tup ts)=false:=rfl
theorem Oc (b:Bool):isN (.bl b)=false:=rfl
theorem wN:du X (compareOp .Is) Uc:=by
 refine OpR.imp Lf ?_;rintro x y H Q ⟨tx,ty,H3,Q3,rx,ry,sh,h,k⟩;cases ty with
 |non =>
  refine⟨ry.non,?_⟩;have e:decide (x=.non)=isN tx:=by
   cases tx with
   |non=>rw[rx.non];rfl
   |int i=>rw[rx.int];rfl
   |str i=>rw[rx.str];rfl
   |bl i=>rw[rx.bl];rfl
   |ref a=>rw[rx.ref];rfl
   |tup ts=>obtain⟨a,vs,rfl,_⟩:=rx.tup;rfl
   |ty n=>rw[rx.ty];rfl
  rw[e];exact k _ _ _ _ .refl sh .ofBl h
 |_=>exact h.elim
end
end L3
namespace L2
section
variable {X:Cx}{a b:Expr}{rest:List Expr}{ta tb:TE}{pos:Pos}
end
end L2
namespace L3
open L2
section
variable {X:Cx}{a b:Expr}{rest:List Expr}{ta tb:TE3}{pos:Pos}
def orq (x:T) (p q:Prop):Prop:=match x with
 |.non=>p
 |.tup (_::_)=>q
 |_=>False
theorem Ud (p q:Prop):orq .non p q=p:=rfl
theorem Ue (t:T) (ts:List T) (p q:Prop):orq (.tup (t::ts)) p q=q:=rfl
def Ug (ta tb:TE3):TE3:=fun Z H Q=>ta Z H fun x H1=>orq x (tb Z H1 Q) (Q x H1)
def exT (o:Option O3) (a:Addr) (ys:List T) (H:Hp3) (Q:VK3):Prop:=match o with
 |some (.lst xs)=>xs.length+ys.length<=sizeLine/\Q .non (up3 H a (.lst (xs++ys)))
 |_=>False
def Od:T->List T->Hp3->VK3->Prop:=fun x ts H Q=>match x,ts with
 |.ref a,[.tup ys]=>exT (H a) a ys H Q
 |_,_=>False
theorem Oe (a:Addr) (ys:List T) (H:Hp3) (Q:VK3):Od (.ref a) [.tup ys] H Q=exT (H a) a ys H Q:=rfl
theorem Uh (a:Addr) (xs ys:List T) (H:Hp3) (Q:VK3):exT (some (.lst xs)) a ys H Q=(xs.length+ys.length<=sizeLine/\Q .non (up3 H a (.lst (xs++ys)))):=rfl
theorem gD:du X (binaryOp .RShift) (rI3 (fun _ j=>0<=j) fun i j=>.int (i / 2^j.toNat)):=qZ Lb fun _ _ _=>.ofInt
def neR (a b:Addr) (o u:Option O3) (H:Hp3) (Q:VK3):Prop:=match o,u with
 |some (.rol xs),some (.lst ys)=>a≠b/\xs.all (pl 20)=true/\ys.all (pl 20)=true/\Q (.bl (!decide (xs=ys))) H
 |_,_=>False
def Ui:R3:=fun x y H Q=>match x,y with
 |.ref a,.ref b=>neR a b (H a) (H b) H Q
 |_,_=>False
theorem Uj (a b:Addr) (H:Hp3) (Q:VK3):Ui (.ref a) (.ref b) H Q=neR a b (H a) (H b) H Q:=rfl
theorem Og (a b:Addr) (xs ys:List T) (H:Hp3) (Q:VK3):neR a b (some (.rol xs)) (some (.lst ys)) H Q=(a≠b/\xs.all (pl 20)=true/\ys.all (pl 20)=true/\Q (.bl (!decide (xs=ys))) H):=rfl
end
end L3
namespace L2
section
variable {prog:Program}{w:World}{K:Type} [DecidableEq K] {knd:KeyKind prog w K}
end
end L2
namespace L3
open L2
def WY:T->Option (Str × T)
 |.tup [.str k,v]=>some (k,v)
 |_=>none
def Oh:List T->Option (List (Str × T))
 |[]=>some []
 |t::r=>match WY t,Oh r with
  |some p,some ps=>some (p::ps)
  |_,_=>none
section
variable {X:Cx}
def dcH (o:Option O3) (H:Hp3) (Q:VK3):Prop:=match o with
 |some (.lst xs)=>oq (Oh xs) fun kvs=>(kvs.map (·.1)).Nodup/\∀p,H p=none->Q (.ref p) (up3 H p (.dct kvs))
 |_=>False
def Oi:List T->Hp3->VK3->Prop:=fun ts H Q=>match ts with
 |[.ref a]=>dcH (H a) H Q
 |_=>False
theorem Oj (a:Addr) (H:Hp3) (Q:VK3):Oi [.ref a] H Q=dcH (H a) H Q:=rfl
theorem Uk (xs:List T) (H:Hp3) (Q:VK3):dcH (some (.lst xs)) H Q=oq (Oh xs) fun kvs=>(kvs.map (·.1)).Nodup/\∀p,H p=none->Q (.ref p) (up3 H p (.dct kvs)):=rfl
def Ol:R3:=fun x y H Q=>match x,y with
 |.non,.non=>Q (.bl false) H
 |_,_=>False
theorem Om (H:Hp3) (Q:VK3):Ol .non .non H Q=Q (.bl false) H:=rfl
variable {pins:List (Addr × Obj)}{Z:L2.St}{H:Hp}{s:Shared}{a:Addr}
theorem Inv.freeze {kvs:List (Key × V)}(I:Inv X pins Z H s) (e:H a=some (.dK kvs)):∃o,s.heap.get? a=some o/\Inv X pins Z (upd H a (.frz o (.dK kvs))) s:=by
 have z:=I.hok a _ e;obtain⟨z1,z2,vs,rel,o,es,ep,ho,ex,r⟩:=id (show ObjOk X.prog X.w H s.heap a (.dK kvs) from z);have ne:∀b u,H b=some u->(∀ks,u≠.dK ks)->b≠a:=fun b u q n w=>by subst w;rw[e] at q;cases q;exact n _ rfl
 refine⟨o,ho,?_⟩;have:=I.step (h':=s.heap) (g':=s.gens) (d':=s.drawn) (t':=s.toks) (H':=upd H a (.frz o (.dK kvs))) (ch:=[]) (fun _ z=>nomatch z) (fun b o _ _ _ q _=>q) (fun b o _ _ _ q _=>⟨_,q⟩)
  (fun b o _ _ n=>by rw[aV (fun w=>by subst w;rw[e] at n;cases n)];exact n) (fun b o _ q=>⟨_,q⟩)
  (fun b xs q=>by rw[aV (ne b _ q fun _=>nofun)];exact q) (fun b o u q=>by rw[aV (ne b _ q fun _=>nofun)];exact q)
  (fun b ps q=>⟨#[],by rw[aV (ne b _ q fun _=>nofun),Array.append_empty];exact q⟩) (fun _ q=>q) (fun b u q=>?_) I.bare
 ·exact this
 by_cases hb:b=a
 ·subst hb;rw[bU] at q;cases q;exact⟨ho,z1,z2,vs,rel,o,es,ep,ho,ex,r⟩
 rw[aV hb] at q;exact (I.hok b u q).stay (fun _ _ _ r=>r) (fun c r=>by rw[aV (ne c _ r fun _=>nofun)];exact r) fun c xs r=>by rw[aV (ne c _ r fun _=>nofun)];exact r
end
theorem Jy {P:Program}{w:World}{k:Key}{u:Value}(h:(bC P w).is k u=true):RelV (kV k) u:=by
 rcases bJ h with ⟨i,t,e1,e2⟩ | ⟨y,t,e1,e2⟩
 ·subst e1 e2;exact⟨t,rfl⟩
 subst e1 e2;exact⟨t,rfl⟩
theorem eG {α β:Type}{F:α->β->Prop}:∀{l₁:List α}{l₂:List β}{i:Nat}{x:α},Paired F l₁ l₂->l₁[i]?=some x->∃y,l₂[i]?=some y/\F x y
 |_,_,i,x,.nil,e=>by simp at e
 |_,_,0,x,.cons (b:=b) h t,e=>by simp at e;subst e;exact⟨b,rfl,h⟩
 |_,_,i+1,x,.cons h t,e=>by simpa using eG t (by simpa using e)
def Iti (d:Addr) (o:Obj):It :=
 ⟨fun i H=>∃kvs kv,H d=some (.frz o (.dK kvs))/\kvs[i]?=some kv,
  fun i H v H'=>∃p k x,v=.ref p/\H p=none/\H'=upd H p (.tup [kV k,x])/\∀kvs,H d=some (.frz o (.dK kvs))->kvs[i]?=some (k,x),
  fun i H=>∃kvs,H d=some (.frz o (.dK kvs))/\kvs.length<=i⟩
theorem yF:entryFor table "dict_itemiterator.__iter__"=some Builtin.«dict_keyiterator.__iter__» :=
 entryFor_alias (id':="dict_keyiterator.__iter__") (by kernel_rfl) rfl (by decide +kernel) (by kernel_rfl)
theorem qd {X:Cx}{pins:List (Addr × Obj)}{Z:L2.St}{H:Hp}{s:Shared}{d:Addr}{o:Obj}{kvs:List (Key × V)}{es:Array DictEntry}{ep:Nat}(I:Inv X pins Z H s) (e:H d=some (.frz o (.dK kvs))) (hd:o.data=.dict es ep) :
  ∃vs,KV kvs vs/\s.heap.DictAt (bC X.prog X.w) d vs ep/\vs.length=es.size:=by
 obtain⟨ho,_,_,vs,rel,o',es',ep',ho',ex,hd',hk,hp,hn⟩:=(show ObjOk X.prog X.w H s.heap d (.frz o (.dK kvs)) from I.hok d _ e);rw[ho] at ho';cases ho';rw[hd] at hd';cases hd';exact⟨vs,rel,⟨o,es,ho,ex,hd,hk,hp,hn⟩,by rw[<- hp.length];simp⟩
theorem uK {P:Program}{w:World}{K:Frag}{elts:List Expr}{x1:Nat}{pos:Pos}(d it:Addr) (o:Obj) (es:Array DictEntry) (ep:Nat) (hd:o.data=.dict es ep) :
  Turn P w K (.Tuple elts x1 pos) (Iti d o) [it] it (fun i h=>∃ok ov,IsItemIter h it d i es.size ep ok ov) where
 mem:=i_
 obj:=fun i h st c hc=>by
  obtain⟨ok,ov,he⟩:=st
  rw[g_.mp hc]
  exact⟨_,he,fun v z=>by cases z⟩
 keep:=fun i h h' st k=>by
  obtain⟨ok,ov,he⟩:=st
  exact⟨ok,ov,k it (by simp) _ he⟩
 item:=by
  intro X hP hw hK hc i pins s Z H E I hf st hg
  subst hP hw hK
  obtain⟨kvs,⟨k,x⟩,hq,hx⟩:=hg
  obtain⟨ok,ov,he⟩:=st
  obtain⟨vs,rel,hm,hsz0⟩:=qd I hq hd
  obtain⟨⟨k',u⟩,hu,ek,ru⟩:∃q,vs[i]?=some q/\k=q.1/\RelV x q.2:=eG rel hx
  subst ek
  rw[<- hsz0] at he
  refine wpAny_pyNext_items_item he hm hu fun key h' hk ho hT hsz kp=>?_
  refine⟨_,rfl,wpAny_letOwnedTupleGo_items ho fun h2' hz2' sb=>?_⟩
  have lt:∀{c o},s.heap.get? c=some o->s.heap.objs.size≠c:=fun q=>Zj (K_ q)
  have hTe:s.heap.objs.size≠it:=lt he
  have lt1:∀{c:Addr},c∈[it]->c≠s.heap.objs.size:=fun {c} hc=>by rw[g_.mp hc];exact Ne.symm hTe
  have kp2:∀c o,c∉[it]->s.heap.get? c=some o->h2'.get? c=some o:=fun c o nc q=>(sb.2 c fun z=>nc (z▸i_)).trans (kp c o (fun z=>nc (z▸i_)) q)
  have I1:Inv X pins Z (upd H s.heap.objs.size (.tup [kV k,x])) { s with heap:=s.heap.push { cls:=.type "tuple",data:=.seq #[key,u]},toks:=s.toks} :=
   I.laid (t':=s.toks) (fun b o q=>j_ _ q) (o_ _) (show ObjOk X.prog X.w _ _ _ (.tup [kV k,x]) from ⟨by show 2<=sizeLine;decide,[key,u],.cons (Jy hk) (.cons ru .nil),Tup0.new _ _⟩)
  have I2:Inv X pins Z (upd H s.heap.objs.size (.tup [kV k,x])) { s with heap:=h2'}:=kY (s:={ s with heap:=s.heap.push { cls:=.type "tuple",data:=.seq #[key,u]}}) (ch:=[it]) (t':=s.toks) I1 (fun c o nc q=>by
   by_cases z:c=s.heap.objs.size
   ·
    subst z
    have q':(s.heap.push { cls:=.type "tuple",data:=.seq #[key,u]}).get? s.heap.objs.size=some o:=q
    rw[Q_ _ rfl] at q'
    cases q'
    exact (sb.2 _ hTe).trans hT
   ·
    have q':(s.heap.push { cls:=.type "tuple",data:=.seq #[key,u]}).get? c=some o:=q
    rw[Heap.get?_push_ne _ _ _ z] at q'
    exact kp2 c o nc q') fun c hc=>⟨by rw[aV (lt1 hc)];exact (hf c hc).1,(hf c hc).2⟩
  refine⟨.ref s.heap.objs.size,_,I2,rfl,⟨s.heap.objs.size,k,x,rfl,I.hok.fresh (o_ _),rfl,fun zs hq'=>by rw[hq] at hq';cases hq';exact hx⟩,⟨key,u,?_⟩,fun c hc=>by rw[aV (lt1 hc)];exact (hf c hc).1⟩
  rw[<- hsz0]
  exact hz2'
 done:=by
  intro X hP hw hK hc i pins s Z H E I hf st hg
  subst hP hw hK
  obtain⟨kvs,hq,hx⟩:=hg
  obtain⟨ok,ov,he⟩:=st
  obtain⟨vs,rel,hm,hsz0⟩:=qd I hq hd
  have hl:=rel.length
  rw[<- hsz0] at he
  exact wpAny_pyNext_items_end (I.ok.hd hc) he hm (W_ (by omega)) fun h' eb=>⟨rfl,kY (ch:=[it]) (t':=s.toks) I (fun b o nb q=>eb b o (fun z=>nb (by simp [z])) q) hf⟩
 self:=fun A i s Q E st h=>by
  obtain⟨ok,ov,he⟩:=st
  have hT:s.TypeIs (.ref it) "dict_itemiterator":=⟨_,he,rfl⟩
  refine wpAny_pyIter_slot hT PySem.F.slot_dict_itemiterator_iter (wpAny_call_entry PySem.F.slot_dict_itemiterator_iter hT yF ?_ (PySem.F.args_dict_itemiterator_iter_1 _))
  show wpAny _ _ (ret (.ref it)) _ _ s
  exact O_ ⟨_,rfl,"dict_itemiterator",_,hT,PySem.F.slot_dict_itemiterator_next.lookup,h⟩
section
variable {X:Cx}{elts:List Expr}{x1:Nat}{tpos pos apos cpos:Pos}{e:Expr}
def Oo (te:TE):TI:=fun Z H R=>te Z H fun x H1=>∃a kvs,x=.ref a/\H1 a=some (.dK kvs)/\∀o,R (Iti a o) (upd H1 a (.frz o (.dK kvs)))
theorem Bt {te:TE}(he:PE X e te) (hbase:attributeBase e "items" X.env (eval e X.env)=eval e X.env:=by rfl) (hline:(apos.endLine==cpos.line)=true:=by rfl) :
  PI X (.Tuple elts x1 tpos) (.Call (.Attribute e "items" apos) [] [] cpos) (Oo te):=by
 intro pins s Z H R I h;refine wpAny_Call_method0_late hbase hline (thn (he pins s Z H _ I h) fun v s1 ⟨x,H1,I1,r1,a,kvs,ea,hl,q⟩=>?_);subst ea;cases r1;obtain⟨z,hsys,vs,rel,dd⟩:=qN I1.hok hl;obtain⟨o,ho,I2⟩:=Inv.freeze I1 hl;obtain⟨t1,t2,_⟩:=zF I1 (a:=a) (.inl ⟨kvs,.inl hl⟩);refine⟨"dict","dict.items",PySem.F.plainAttrs_dict,PySem.F.slot_dict_items,PySem.F.type_dict_items,t1,t2,Y6 rfl (PySem.evalArgs_none (call_meetsIn PySem.F.slot_dict_items t1 PySem.F.entry_dict_items (PySem.F.args_dict_items_1 _) (meets_dict_items (bC X.prog X.w) a hsys) ⟨⟨vs,dd⟩,?_⟩))⟩;obtain⟨o',es,ep,ho',ex,hd',hk,hp,hn⟩:=id dd;rw[ho] at ho';cases ho';have hsz:es.size=vs.length:=by rw[<- hp.length];simp
 have I3:Inv X pins Z (upd H1 a (.frz o (.dK kvs))) { s1 with heap:=s1.heap.push { cls:=.type "dict_items",data:=.fields #[.ref a]}}:=I2.kept (t':=s1.toks) fun b o q=>j_ _ q;refine wpAny_pyIter_items (knd:=bC X.prog X.w) (d:=a) (kvs:=vs) (ep:=ep) ⟨_,Q_ _ rfl,rfl,rfl⟩ ⟨o,es,j_ _ ho,ex,hd',hk,hp,hn⟩ ?_;refine⟨_,[_],_,Iti a o,_,rfl,I3.kept (t':=s1.toks) fun b o q=>j_ _ q,uK a _ o es ep hd',⟨.none,.none,?_⟩,fun c hc=>?_,q o⟩
 ·rw[hsz];exact Q_ _ rfl
 rw[g_.mp hc];exact I3.fpOk (o_ _) (I3.hok.fresh (o_ _))
variable {o f:Expr}{td ty tx:TE}
end
def cz (k:Int):List (Int × T)->Option T
 |[]=>none
 | (k',v)::r=>if k'=k then some v else cz k r
def nj (k:Int) (v:T) (kvs:List (Int × T)):List (Int × T) :=
 if (kvs.any fun kv=>decide (kv.1=k))=true then kvs.map (fun kv=>if kv.1=k then (kv.1,v) else kv) else kvs++[(k,v)]
theorem iK {K:Frag}{H:Hp}{k:Int}:∀{kvs:List (Int × T)}{vs:List (Key × V)}{t:T},RepI K H kvs vs->cz k kvs=some t->∃v,fC vs (Sum.inl k:Key)=some v/\Rep K H t v
 |[],_,_,_,e=>by cases e
 | (k',t')::r,_,t,.cons (b:=(kk,v')) ⟨e1,rv⟩ rr,e=>by
  simp only at e1 rv
  subst e1
  unfold cz at e
  by_cases hk:k'=k
  ·
   rw[if_pos hk] at e
   cases e
   exact⟨v',by rw[fG (by rw[hk])],rv⟩
  ·
   rw[if_neg hk] at e
   obtain⟨v,ev,q⟩:=iK rr e
   exact⟨v,by rw[fH (by intro z;exact hk (Sum.inl.inj z))];exact ev,q⟩
theorem gF {K:Frag}{H:Hp}{k:Int}:∀{kvs:List (Int × T)}{vs:List (Key × V)},RepI K H kvs vs->(fC vs (Sum.inl k:Key)).isSome=(cz k kvs).isSome
 |[],_,.nil=>rfl
 | (k',t')::r,_,.cons (b:=(kk,v')) ⟨e1,rv⟩ rr=>by
  simp only at e1 rv
  subst e1
  unfold cz
  by_cases hk:k'=k
  ·
   rw[if_pos hk,fG (by rw[hk])];rfl
  ·
   rw[if_neg hk,fH (by intro z;exact hk (Sum.inl.inj z))]
   exact gF rr
theorem Bu {K:Frag}{H:Hp}{k:Int}{t:T}{v:V}(rv:Rep K H t v) {kvs:List (Int × T)}{vs:List (Key × V)}(r:RepI K H kvs vs):RepI K H (nj k t kvs) (putK vs (Sum.inl k:Key) v):=by
 have e:∀{kvs:List (Int × T)} {vs:List (Key × V)},RepI K H kvs vs->(kvs.any fun kv=>decide (kv.1=k))=(vs.any fun kv=>decide (kv.1=(Sum.inl k:Key)))/\RepI K H (kvs.map (fun kv=>if kv.1=k then (kv.1,t) else kv)) (vs.map (fun kv=>if kv.1=(Sum.inl k:Key) then (kv.1,v) else kv)):=by
  intro kvs;induction kvs with
  |nil=>intro vs r;cases r;exact⟨rfl,.nil⟩
  |cons p l ih =>
  intro vs r;cases r with
  |cons q rr =>
  rename_i b l2;obtain⟨e1,e2⟩:=ih rr;obtain⟨q1,q2⟩:=q;obtain⟨bk,bv⟩:=b;simp only at q1 q2;subst q1;by_cases hk:p.1=k
  ·refine⟨by simp [hk],?_⟩;simp only[D_,hk,if_true];exact .cons ⟨rfl,rv⟩ e2
  have hk':¬(Sum.inl p.1:Key)=Sum.inl k:=fun z=>hk (Sum.inl.inj z);refine⟨by simp only[Zv,hk,hk',XC,YQ];exact e1,?_⟩;simp only[D_,hk,hk',Xh];exact .cons ⟨rfl,q2⟩ e2
 obtain⟨e1,e2⟩:=e r;unfold nj putK;rw[e1];split
 ·exact e2
 exact Paired.snoc r ⟨rfl,rv⟩
section
variable {K:Frag}{H:Hp}{H3:Hp3}{a p:Addr}
theorem SimH.wrI {kv kv':List (Key × V)}{kvs:List (Int × T)}(s:SimH K H3 H) (hH:H a=some (.dK kv)) (r:RepI K H kvs kv'):SimH K (up3 H3 a (.dci kvs)) (upd H a (.dK kv')):=fun b o e=>by
 have le:TupLe K H (upd H a (.dK kv')):=bA (by rw[hH];exact trivial);by_cases hb:b=a
 ·subst hb;rw[aA] at e;cases e;exact⟨kv',bU,r.mono le⟩
 rw[aC hb] at e;exact (s b o e).stay le fun u q=>by rw[aV hb];exact q
theorem SimH.newI (s:SimH K H3 H) (hp:H p=none):SimH K (up3 H3 p (.dci [])) (upd H p (.dK [])):=fun a o e=>by
 by_cases ha:a=p
 ·subst ha;rw[aA] at e;cases e;exact⟨[],bU,.nil⟩
 rw[aC ha] at e;exact s.new hp a o e
theorem SimH.frzI {kv:List (Key × V)}{kvs:List (Int × T)}{o:Obj}(s:SimH K H3 H) (hH:H a=some (.dK kv)) (r:RepI K H kvs kv):SimH K (up3 H3 a (.dif o kvs)) (upd H a (.frz o (.dK kv))):=fun b u e=>by
 have le:TupLe K H (upd H a (.frz o (.dK kv))):=bA (by rw[hH];exact trivial);by_cases hb:b=a
 ·subst hb;rw[aA] at e;cases e;exact⟨kv,bU,r.mono le⟩
 rw[aC hb] at e;exact (s b u e).stay le fun u q=>by rw[aV hb];exact q
end
section
variable {X:Cx}{o i e f value k v:Expr}{td ty tv tx ti tk:TE3}{pos pos' apos cpos tpos:Pos}{elts:List Expr}{x1:Nat}{Z:St3}{H:Hp3}{Q:VK3}
def wO:TE3:=fun _ H Q=>∀p,H p=none->Q (.ref p) (up3 H p (.dci []))
theorem rO:PE3 X (.Dict [] [] pos) wO:=by
 refine PE.imp zE ?_;rintro Z H Q ⟨Z3,H3,Q3,ss,sh,h,k⟩ p hp;exact k _ _ _ _ (aP hp) (sh.newI hp) .ofRef (h p (sh.fresh hp))
def d1i (y:T) (p:Addr) (v:T) (H:Hp3) (Q:VK3):Prop:=match y with
 |.int k=>H p=some (.dci [])/\Q (.ref p) (up3 H p (.dci [(k,v)]))
 |_=>False
def jr (tk tv:TE3):TE3:=fun Z H Q=>∀p,H p=none->tk Z (up3 H p (.dci [])) fun y H1=>tv Z H1 fun v H2=>d1i y p v H2 Q
theorem Ul (x:Int) (p:Addr) (v:T):d1i (.int x) p v H Q=(H p=some (.dci [])/\Q (.ref p) (up3 H p (.dci [(x,v)]))):=rfl
theorem oJ (hk:PE3 X k tk) (hv:PE3 X v tv):PE3 X (.Dict [some k] [v] pos) (jr tk tv):=by
 refine PE.imp (vR (qQ hk hv vQ) rfl rfl (by simp) (by show 1<=15;decide)) ?_;rintro Z H Q ⟨Z3,H3,Q3,ss,sh,h,k⟩ p hp;have le0:TupLe X.K H (upd H p (.dK [])):=aP hp;refine⟨Z3,up3 H3 p (.dci []),_,ss.mono le0,sh.newI hp,h p (sh.fresh hp),fun y H1 ty H31 le1 sh1 ry q1=>?_⟩;refine⟨Z3,H31,_,ss.mono (le0.trans le1),sh1,q1,fun z H2 tz H32 le2 sh2 rz q2=>?_⟩;cases ty with
 |int key =>
  have h':H32 p=some (.dci [])/\Q3 (.ref p) (up3 H32 p (.dci [(key,tz)])):=q2
  obtain⟨ws,hH,r⟩:=sh2 p _ h'.1
  cases r
  refine⟨hH,[(Sum.inl key,z)],by rw[(ry.mono le2).int];rfl,by show 1<=15;decide,?_⟩
  have e:iY [] [((Sum.inl key:Key),z)]=[((Sum.inl key:Key),z)]:=rfl
  rw[e]
  exact k _ _ _ _ (le0.trans (le1.trans (le2.trans (bA (by rw[hH];exact trivial))))) (sh2.wrI hH (.cons ⟨rfl,rz⟩ .nil)) .ofRef h'.2
 |_=>exact q2.elim
def dgI (o:Option O3) (k:Int) (H:Hp3) (Q:VK3):Prop:=match o with
 |some (.dci kvs)=>oq (cz k kvs) fun t=>Q t H
 |some (.dif _ kvs)=>oq (cz k kvs) fun t=>Q t H
 |_=>False
def Um:R3:=fun x y H Q=>match x,y with
 |.ref a,.int k=>dgI (H a) k H Q
 |_,_=>False
theorem W0 (a:Addr) (k:Int):Um (.ref a) (.int k) H Q=dgI (H a) k H Q:=rfl
theorem Jz (kvs:List (Int × T)) (k:Int):dgI (some (.dci kvs)) k H Q=oq (cz k kvs) fun t=>Q t H:=rfl
theorem uL (o:Obj) (kvs:List (Int × T)) (k:Int):dgI (some (.dif o kvs)) k H Q=oq (cz k kvs) fun t=>Q t H:=rfl
theorem jt {to:TE3}(hu:X.A.units+1<cLine) (ho:PE3 X o to) (hi:PE3 X i ti) (hs:Lz i:=by exact fun _ _=>rfl):PE3 X (.Subscript o i pos) (uh Um to ti):=by
 refine PE.imp (Fi hu ho hi hs) ?_;rintro Z H Q ⟨Z3,H3,Q3,ss,sh,h,k⟩;refine⟨Z3,H3,_,ss,sh,h,fun x H1 tx H31 le1 sh1 rx q1=>⟨Z3,H31,_,ss.mono le1,sh1,q1,fun y H2 ty H32 le2 sh2 ry q2=>?_⟩⟩;cases tx with
 |ref a =>
  cases ty with
  |int key =>
   have h':dgI (H32 a) key H32 Q3:=q2
   cases e:H32 a with
   |none=>rw[e] at h';exact h'.elim
   |some ob =>
    rw[e] at h'
    cases ob with
    |dci kvs =>
     rw[Jz] at h'
     obtain⟨vs,hH,r⟩:=sh2 a _ e
     cases el:cz key kvs with
     |none=>rw[el] at h';exact h'.elim
     |some t =>
      rw[el] at h'
      obtain⟨v,ev,rv⟩:=iK r el
      refine⟨a,v,rx.ref,?_,k.at (le1.trans le2) _ _ _ _ .refl sh2 rv h'⟩
      rw[ry.int,<- ev]
      exact DGet.k (k:=Sum.inl key) hH
    |dif oo kvs =>
     rw[uL] at h'
     obtain⟨vs,hH,r⟩:=sh2 a _ e
     cases el:cz key kvs with
     |none=>rw[el] at h';exact h'.elim
     |some t =>
      rw[el] at h'
      obtain⟨v,ev,rv⟩:=iK r el
      refine⟨a,v,rx.ref,?_,k.at (le1.trans le2) _ _ _ _ .refl sh2 rv h'⟩
      rw[ry.int,<- ev]
      exact .inl ⟨vs,Sum.inl key,.inr ⟨_,hH⟩,rfl,rfl⟩
    |_=>exact h'.elim
  |_=>exact q2.elim
 |_=>exact q2.elim
def dpI (x y v:T) (H:Hp3) (Q:Hp3->Prop):Prop:=match x,y with
 |.ref a,.int k=>match H a with
  |some (.dci kvs)=>kvs.length<sizeLine/\Q (up3 H a (.dci (nj k v kvs)))
  |_=>False
 |_,_=>False
def Oq (o:Option O3) (a:Addr) (k:Int) (v:T) (H:Hp3) (Q:Hp3->Prop):Prop:=match o with
 |some (.dci kvs)=>kvs.length<sizeLine/\Q (up3 H a (.dci (nj k v kvs)))
 |_=>False
def wQ (td ty tv:TE3):TS3:=fun D Z H=>tv Z H fun v H1=>td Z H1 fun x H2=>ty Z H2 fun y H3=>dpI x y v H3 fun H4=>D.nx Z H4
theorem Uo (a:Addr) (k:Int) (v:T) (Q:Hp3->Prop):dpI (.ref a) (.int k) v H Q=Oq (H a) a k v H Q:=rfl
theorem uM (kvs:List (Int × T)) (a:Addr) (k:Int) (v:T) (Q:Hp3->Prop):Oq (some (.dci kvs)) a k v H Q=(kvs.length<sizeLine/\Q (up3 H a (.dci (nj k v kvs)))):=rfl
theorem rP (hu:X.A.units+1<cLine) (ho:PE3 X o td) (hi:PE3 X i ty) (hv:PE3 X value tv) (hs:swapsWith value (some (.Subscript o i pos')) pos.line X.env=pure false:=by rfl) :
  PS3 X (.Assign [.Subscript o i pos'] value pos) (wQ td ty tv):=by
 refine PS.imp (vP hu ho hi hv hs) ?_;rintro D Z H ⟨Z3,H3,D3,ss,sh,h,k1,_⟩;refine⟨Z3,H3,_,ss,sh,h,fun v H1 tv H31 le1 sh1 rv q1=>⟨Z3,H31,_,ss.mono le1,sh1,q1,fun x H2 tx H32 le2 sh2 rx q2=>⟨Z3,H32,_,ss.mono (le1.trans le2),sh2,q2,fun y H4 ty H34 le4 sh4 ry q4=>?_⟩⟩⟩;cases tx with
 |ref a =>
  cases ty with
  |int key =>
   have h':Oq (H34 a) a key tv H34 fun H4=>D3.nx Z3 H4:=q4
   cases e:H34 a with
   |none=>rw[e] at h';exact h'.elim
   |some ob =>
    rw[e] at h'
    cases ob with
    |dci kvs =>
     rw[uM] at h'
     obtain⟨vs,hH,r⟩:=sh4 a _ e
     have rvv:=rv.mono (le2.trans le4)
     have le5:TupLe X.K H4 (upd H4 a (.dK (putK vs (Sum.inl key:Key) v))):=bA (by rw[hH];exact trivial)
     refine⟨a,_,(rx.mono le4).ref,?_,k1 _ _ _ _ (le1.trans (le2.trans (le4.trans le5))) (ss.mono (le1.trans (le2.trans (le4.trans le5)))) (sh4.wrI hH (Bu rvv r)) h'.2⟩
     rw[ry.int]
     exact DPut.k (k:=Sum.inl key) hH (by rw[<- Yy r];exact h'.1)
    |_=>exact h'.elim
  |_=>exact q4.elim
 |_=>exact q4.elim
def diI (neg:Bool) (y:T) (o:Option O3) (H:Hp3) (Q:VK3):Prop:=match y,o with
 |.int k,some (.dci kvs)=>Q (.bl (if neg then !(cz k kvs).isSome else (cz k kvs).isSome)) H
 |_,_=>False
def Ot (neg:Bool) (y x:T) (H:Hp3) (Q:VK3):Prop:=match x with
 |.ref a=>diI neg y (H a) H Q
 |_=>False
def Bv (neg:Bool) (ti to:TE3):TE3:=fun Z H Q=>ti Z H fun y H1=>to Z H1 fun x H2=>Ot neg y x H2 Q
theorem Ou (neg:Bool) (y:T) (a:Addr):Ot neg y (.ref a) H Q=diI neg y (H a) H Q:=rfl
theorem Uq (neg:Bool) (k:Int) (kvs:List (Int × T)):diI neg (.int k) (some (.dci kvs)) H Q=Q (.bl (if neg then !(cz k kvs).isSome else (cz k kvs).isSome)) H:=rfl
theorem Bw {neg:Bool}{H:Hp}{H3:Hp3}{x y:V}{tx ty:T}{Q3:VK3}(sh:SimH X.K H3 H) (rx:Rep X.K H tx x) (ry:Rep X.K H ty y) (q:Ot neg ty tx H3 Q3) :
  ∃a ov b,x=.ref a/\DGet H a y ov/\(if neg then !ov.isSome else ov.isSome)=b/\Q3 (.bl b) H3:=by
 cases tx with
 |ref a =>
  have h':diI neg ty (H3 a) H3 Q3:=q
  cases ty with
  |int k =>
   cases e:H3 a with
   |none=>rw[e] at h';exact h'.elim
   |some ob =>
    rw[e] at h'
    cases ob with
    |dci kvs =>
     obtain⟨ws,hH,r⟩:=sh a _ e
     refine⟨a,fC ws (Sum.inl k:Key),_,rx.ref,by rw[ry.int];exact DGet.k (k:=Sum.inl k) hH,rfl,?_⟩
     rw[gF r]
     exact h'
    |_=>exact h'.elim
  |_=>exact h'.elim
 |_=>exact q.elim
theorem uN (hu:X.A.units+1<cLine) (hi:PE3 X i ti) (ho:PE3 X o td) (hm:behindInMarks .NotIn o=false:=by rfl):PT3 X (.Compare i [.NotIn] [o] pos) (jL (Bv true ti td)):=by
 refine PT.imp (tO (nW hu hi ho) hm) ?_;rintro Z H Q ⟨Z3,H3,Q3,ss,sh,h,k⟩;refine⟨Z3,H3,_,ss,sh,h,fun y H1 ty H31 le1 sh1 ry q1=>⟨Z3,H31,_,ss.mono le1,sh1,q1,fun x H2 tx H32 le2 sh2 rx q2=>?_⟩⟩;obtain⟨a,ov,b,e,g,eb,q⟩:=Bw sh2 rx (ry.mono le2) q2;exact⟨a,ov,e,g,by rw[show (!ov.isSome)=b from eb];exact⟨b,rfl,k _ _ _ (le1.trans le2) sh2 q⟩⟩
def sdO (o:Option O3) (a:Addr) (k:Int) (v:T) (H:Hp3) (Q:VK3):Prop:=match o with
 |some (.dci kvs)=>kvs.length<sizeLine/\match cz k kvs with
  |some t=>Q t H
  |none=>Q v (up3 H a (.dci (nj k v kvs)))
 |_=>False
def sdq (x y v:T) (H:Hp3) (Q:VK3):Prop:=match x,y with
 |.ref a,.int k=>sdO (H a) a k v H Q
 |_,_=>False
def Ov (o:Option O3):Prop:=match o with
 |some (.dci _)=>True
 |_=>False
def Ow (x:T) (H:Hp3):Prop:=match x with
 |.ref a=>Ov (H a)
 |_=>False
def Ox (td ty tv:TE3):TE3:=fun Z H Q=>td Z H fun x H1=>Ow x H1/\ty Z H1 fun y H2=>tv Z H2 fun v H3=>sdq x y v H3 Q
theorem uO (a:Addr):Ow (.ref a) H=Ov (H a):=rfl
theorem Oz (kvs:List (Int × T)):Ov (some (.dci kvs))=True:=rfl
theorem Ur (a:Addr) (k:Int) (v:T):sdq (.ref a) (.int k) v H Q=sdO (H a) a k v H Q:=rfl
theorem Us (kvs:List (Int × T)) (a:Addr) (k:Int) (v:T):sdO (some (.dci kvs)) a k v H Q=(kvs.length<sizeLine/\match cz k kvs with
  |some t=>Q t H
  |none=>Q v (up3 H a (.dci (nj k v kvs)))):=rfl
def itT (kv:Int × T):T:=.tup [.int kv.1,kv.2]
def jN (a:Addr) (o:Obj) (kvs:List (Int × T)):Hp3->Prop:=fun H=>H a=some (.dif o kvs)
def itO (u:Option O3) (a:Addr) (H:Hp3) (R:List T->(Hp3->Prop)->Hp3->Prop):Prop:=match u with
 |some (.dci kvs)=>∀o,R (kvs.map itT) (jN a o kvs) (up3 H a (.dif o kvs))
 |_=>False
def itq (x:T) (H:Hp3) (R:List T->(Hp3->Prop)->Hp3->Prop):Prop:=match x with
 |.ref a=>itO (H a) a H R
 |_=>False
def wR (te:TE3):TI3:=fun Z H R=>te Z H fun x H1=>itq x H1 R
theorem Bx (te:TE3) {R:List T->(Hp3->Prop)->Hp3->Prop}:wR te Z H R=te Z H fun x H1=>itq x H1 R:=rfl
theorem JB (a:Addr) {R:List T->(Hp3->Prop)->Hp3->Prop}:itq (.ref a) H R=itO (H a) a H R:=rfl
theorem JC (kvs:List (Int × T)) (a:Addr) {R:List T->(Hp3->Prop)->Hp3->Prop}:itO (some (.dci kvs)) a H R=∀o,R (kvs.map itT) (jN a o kvs) (up3 H a (.dif o kvs)):=rfl
theorem uP {K:Frag}{H:Hp}{a:Addr}{o:Obj}{kvs:List (Int × T)}:jX K (Iti a o) (kvs.map itT) (jN a o kvs) H:=fun H' H3' le sh st=>by
 obtain⟨vs,hH,r⟩:=sh a _ st;have hl:=Yy r;refine⟨fun i hi=>⟨vs,hH,by rw[b_] at hi;omega⟩,fun i t e=>?_⟩;rw[y_] at e;cases q:kvs[i]? with
 |none=>rw[q] at e;cases e
 |some kv =>
 rw[q] at e;cases e;obtain⟨⟨kk,v⟩,ev,e1,rv⟩:=eG r q;simp only at e1 rv;subst e1;refine⟨⟨vs,_,hH,ev⟩,fun z H'' y=>?_⟩;obtain⟨p,k',x',rfl,hp,rfl,q1⟩:=y;have:=(q1 vs hH).symm.trans ev;cases this;exact⟨aP hp,sh.new hp,SimH.newTup (H3:=H3') hp (.cons .ofInt (.cons rv .nil))⟩
theorem By {te:TE3}(he:PE3 X e te) (hbase:attributeBase e "items" X.env (eval e X.env)=eval e X.env:=by rfl) (hline:(apos.endLine==cpos.line)=true:=by rfl) :
  PI3 X (.Tuple elts x1 tpos) (.Call (.Attribute e "items" apos) [] [] cpos) (wR te):=by
 refine PI.imp (Bt he hbase hline) ?_;rintro Z H R ⟨Z3,H3,R3,ss,sh,h,k⟩;refine⟨Z3,H3,_,ss,sh,h,fun v H' t H3' le sh' r q=>?_⟩;cases t with
 |ref a =>
  rw[JB] at q;cases eo:H3' a with
  |none=>rw[eo] at q;exact q.elim
  |some ob =>
  rw[eo] at q;cases ob with
  |dci kvs=>rw[JC] at q;obtain⟨vs,hH,rs⟩:=sh' a _ eo;exact⟨a,vs,r.ref,hH,fun o=>k _ _ _ _ _ (le.trans (bA (by rw[hH];exact trivial))) (sh'.frzI hH rs) uP (q o)⟩
  |_=>exact q.elim
 |_=>exact q.elim
end
theorem oK {K:Frag}{H:Hp}{f:Str}:∀{fs:List (Str × T)}{vs:List (Str × V)}{t:T},RepF K H fs vs->aU f fs=some t->∃v,vs.lookup f=some v/\Rep K H t v
 |[],_,_,_,e=>by cases e
 | (g,t')::r,_,t,.cons (b:=(g',v')) ⟨e1,rv⟩ rr,e=>by
  simp only at e1 rv
  subst e1
  unfold aU at e
  by_cases hk:g'=f
  ·
   rw[if_pos hk] at e
   cases e
   exact⟨v',by rw[X4,show (f==g')=true from Ze.mpr hk.symm],rv⟩
  ·
   rw[if_neg hk] at e
   obtain⟨v,ev,q⟩:=oK rr e
   exact⟨v,by rw[X4,show (f==g')=false from XQ.mpr (Ne.symm hk)];exact ev,q⟩
theorem lV {K:Frag}{H:Hp}{f:Str}:∀{fs:List (Str × T)}{vs:List (Str × V)},RepF K H fs vs->aU f fs=none->vs.lookup f=none
 |[],_,.nil,_=>rfl
 | (g,t')::r,_,.cons (b:=(g',v')) ⟨e1,rv⟩ rr,e=>by
  simp only at e1 rv
  subst e1
  unfold aU at e
  by_cases hk:g'=f
  ·
   rw[if_pos hk] at e;cases e
  ·
   rw[if_neg hk] at e
   rw[X4,show (f==g')=false from XQ.mpr (Ne.symm hk)]
   exact lV rr e
def dw (f:Str) (v:T):List (Str × T)->List (Str × T)
 |[]=>[(f,v)]
 | (g,x)::r=>if g=f then (g,v)::r else (g,x)::dw f v r
theorem rQ {K:Frag}{H:Hp}{f:Str}{t:T}{v:V}(rv:Rep K H t v):∀{fs:List (Str × T)}{vs:List (Str × V)},RepF K H fs vs->RepF K H (dw f t fs) (fX f v vs)
 |[],_,.nil=>.cons ⟨rfl,rv⟩ .nil
 | (g,t')::r,_,.cons (b:=(g',v')) ⟨e1,r1⟩ rr=>by
  simp only at e1 r1
  subst e1
  unfold dw fX
  by_cases hk:g'=f
  ·
   rw[if_pos hk,if_pos hk];exact .cons ⟨rfl,rv⟩ rr
  ·
   rw[if_neg hk,if_neg hk];exact .cons ⟨rfl,r1⟩ (rQ rv rr)
structure InsC (K:Frag) (C:Addr) (ns:List Str):Prop where
 cls:Cls K C
 no:∀n∈ns,NoAttr K C n
structure MtC (P:Program) (w:World) (K:Frag) (mg:Str->Option Value) (base:Heap) (C:Addr) (k:Nat) (m:Str) (ps:List Str) (sp:Sp3):Prop where
 cls:Cls K C
 ex:∃(f:Addr) (fd:FuncData),Meth K C m f/\Binds K fd ps []/\FnOk3 P w K mg base k f fd ps sp
structure MkC (P:Program) (w:World) (K:Frag) (mg:Str->Option Value) (base:Heap) (C:Addr) (k:Nat) (x:Str) (ps:List Str) (sp:Sp3):Prop where
 at_:mg x=some (.ref C)
 ex:∃(f:Addr) (fd:FuncData),Mk K C f/\Binds K fd ps []/\FnOk3 P w K mg base k f fd ps sp
structure GM (K:Frag) (C:Addr) (m qual:Str) (st:Stmt) (ps:List Str) (f:Addr) (fd:FuncData):Prop where
 cls:Cls K C
 fn:Fun K m qual st f fd
 b:Binds K fd ps []
 mt:Meth K C m f
structure GI (K:Frag) (mg:Str->Option Value) (C:Addr) (x qual:Str) (st:Stmt) (ps:List Str) (f:Addr) (fd:FuncData):Prop where
 mk_:Mk K C f
 fn:Fun K "__init__" qual st f fd
 b:Binds K fd ps []
 at_:mg x=some (.ref C)
theorem SimH.wrO {K:Frag}{H:Hp}{H3:Hp3}{a C dx:Addr}{fs:List (Str × T)}{vs vs':List (Str × V)}(s:SimH K H3 H) (hH:H a=some (.ins C dx vs)) (r:RepF K H fs vs'):SimH K (up3 H3 a (.ins C fs)) (upd H a (.ins C dx vs')):=fun b o e=>by
 have le:TupLe K H (upd H a (.ins C dx vs')):=bA (by rw[hH];exact trivial);by_cases hb:b=a
 ·subst hb;rw[aA] at e;cases e;exact⟨dx,vs',bU,r.mono le⟩
 rw[aC hb] at e;exact (s b o e).stay le fun u q=>by rw[aV hb];exact q
section
variable {X:Cx}{o e value:Expr}{es:List Expr}{ta tv:TE3}{t:TA3}{C:Addr}{f m x:Str}{ns ps:List Str}{sp:Sp3}{n:Nat}{pos pos' apos p:Pos}{H:Hp3}{Q:VK3}
def OD (C:Addr) (f:Str) (u:Option O3) (H:Hp3) (Q:VK3):Prop:=match u with
 |some (.ins C' fs)=>C'=C/\oq (aU f fs) fun t=>Q t H
 |_=>False
def Ut (C:Addr) (f:Str) (x:T) (H:Hp3) (Q:VK3):Prop:=match x with
 |.ref a=>OD C f (H a) H Q
 |_=>False
def JD (C:Addr) (f:Str) (ta:TE3):TE3:=fun Z H Q=>ta Z H fun x H1=>Ut C f x H1 Q
theorem BJ (a:Addr):Ut C f (.ref a) H Q=OD C f (H a) H Q:=rfl
theorem OJ (fs:List (Str × T)):OD C f (some (.ins C fs)) H Q=oq (aU f fs) fun t=>Q t H:=propext ⟨fun h=>h.2,fun h=>⟨rfl,h⟩⟩
theorem jO (c:InsC X.K C ns) (he:PE3 X e ta) (hf:f∈ns:=by simp) (hb:attributeBase e f X.env (eval e X.env)=eval e X.env:=by rfl):PE3 X (.Attribute e f pos) (JD C f ta):=by
 refine PE.imp (Lg he hb) ?_;rintro Z H Q ⟨Z3,H3,Q3,ss,sh,h,k⟩;refine⟨Z3,H3,_,ss,sh,h,fun v H' t H3' le sh' r q=>?_⟩;cases t with
 |ref a =>
  rw[BJ] at q;cases eo:H3' a with
  |none=>rw[eo] at q;exact q.elim
  |some ob =>
  rw[eo] at q;cases ob with
  |ins C' fs =>
   obtain⟨rfl,q1⟩:=(show C'=C/\oq (aU f fs) fun t=>Q3 t H3' from q);clear q;obtain⟨dx,vs,hH,rs⟩:=sh' a _ eo;cases el:aU f fs with
   |none=>rw[el] at q1;exact q1.elim
   |some t =>
   rw[el,ig] at q1;obtain⟨v',ev,rv⟩:=oK rs el;exact⟨a,C',dx,vs,v',r.ref,hH,c.cls,c.no f hf,ev,k _ _ _ _ le sh' rv q1⟩
  |_=>exact q.elim
 |_=>exact q.elim
def sfO (C:Addr) (f:Str) (a:Addr) (y:T) (u:Option O3) (H:Hp3) (Q:Hp3->Prop):Prop:=match u with
 |some (.ins C' fs)=>C'=C/\fs.length<1000/\Q (up3 H a (.ins C (dw f y fs)))
 |_=>False
def sfq (C:Addr) (f:Str) (x y:T) (H:Hp3) (Q:Hp3->Prop):Prop:=match x with
 |.ref a=>sfO C f a y (H a) H Q
 |_=>False
def JF (C:Addr) (f:Str) (ta tv:TE3):TS3:=fun D Z H=>tv Z H fun y H1=>ta Z H1 fun x H2=>sfq C f x y H2 fun H3=>D.nx Z H3
theorem JG (a:Addr) (y:T) (Q:Hp3->Prop):sfq C f (.ref a) y H Q=sfO C f a y (H a) H Q:=rfl
theorem Uu (a:Addr) (y:T) (fs:List (Str × T)) (Q:Hp3->Prop):sfO C f a y (some (.ins C fs)) H Q=(fs.length<1000/\Q (up3 H a (.ins C (dw f y fs)))):=propext ⟨fun h=>h.2,fun h=>⟨rfl,h⟩⟩
theorem qe (c:InsC X.K C ns) (ha:PE3 X o ta) (hv:PE3 X value tv) (hf:f∈ns:=by simp) (hs:swapsWith value (some (.Attribute o f pos')) pos.line X.env=pure false:=by rfl):PS3 X (.Assign [.Attribute o f pos'] value pos) (JF C f ta tv):=by
 refine PS.imp (Lh ha hv hs) ?_;rintro D Z H ⟨Z3,H3,D3,ss,sh,h,k1,_⟩;refine⟨Z3,H3,_,ss,sh,h,fun y H1 ty H31 le1 sh1 ry q1=>⟨Z3,H31,_,ss.mono le1,sh1,q1,fun x H2 tx H32 le2 sh2 rx q2=>?_⟩⟩;cases tx with
 |ref a =>
  rw[JG] at q2;cases eo:H32 a with
  |none=>rw[eo] at q2;exact q2.elim
  |some ob =>
  rw[eo] at q2;cases ob with
  |ins C' fs=>obtain⟨rfl,hl,q⟩:=(show C'=C/\fs.length<1000/\D3.nx Z3 (up3 H32 a (.ins C (dw f ty fs))) from q2);obtain⟨dx,vs,hH,rs⟩:=sh2 a _ eo;have le5:TupLe X.K H2 (upd H2 a (.ins C' dx (fX f y vs))):=bA (by rw[hH];exact trivial);exact⟨a,C',dx,vs,rx.ref,hH,c.cls,c.no f hf,by rw[<- Yy rs];exact hl,k1 _ _ _ _ (le1.trans (le2.trans le5)) (ss.mono (le1.trans (le2.trans le5))) (sh2.wrO hH (rQ (ry.mono le2) rs)) q⟩
  |_=>exact q2.elim
 |_=>exact q2.elim
def mtO (C:Addr) (m:Str) (u:Option O3) (q:Prop):Prop:=match u with
 |some (.ins C' fs)=>C'=C/\aU m fs=none/\q
 |_=>False
def mtq (C:Addr) (m:Str) (x:T) (H:Hp3) (q:Prop):Prop:=match x with
 |.ref a=>mtO C m (H a) q
 |_=>False
def BK (C:Addr) (m:Str) (sp:Sp3) (ta:TE3) (t:TA3):TE3:=fun Z H Q=>ta Z H fun x H1=>mtq C m x H1 (t Z H1 fun vs H2=>sp (x::vs) H2 Q)
theorem JH (a:Addr) (q:Prop):mtq C m (.ref a) H q=mtO C m (H a) q:=rfl
theorem JK (fs:List (Str × T)) (q:Prop):mtO C m (some (.ins C fs)) q=(aU m fs=none/\q):=propext ⟨fun h=>h.2,fun h=>⟨rfl,h⟩⟩
theorem wU {pl:Sem Bool}(M:MtC X.prog X.w X.K X.mg X.base C n m ps sp) (hr:Room n X.A) (he:PE3 X o ta) (ha:PA3 X (e::es) t)
  (hst:starEach (e::es) X.env=(false,eval e X.env)::starEach es X.env:=by rfl) (hpl:(backTo pos (starEach es X.env)).any (·.1)=false:=by rfl)
  (ht:eval (.Call (.Attribute o m apos) (e::es) [] pos) X.env=(do
   let ov <- eval o X.env
   standAt apos.atName
   let (f,first) <- holding [ov] (getMethod ov m pl)
   callWith pos f first (backTo pos (starEach (e::es) X.env)) (backToKw pos (keywordEach [] X.env))):=by rfl) :
  PE3 X (.Call (.Attribute o m apos) (e::es) [] pos) (BK C m sp ta t):=by
 obtain⟨f,fd,hm,hb,F⟩:=M.ex;refine PE.imp (Ew (dvs:=[]) (E:=E0) he M.cls hm F hr hb .nil zH ha hst hpl ht) ?_;rintro Z H Q ⟨Z3,H3,Q3,ss,sh,h,k⟩;refine⟨Z3,H3,_,ss,sh,h,fun v H' t H3' le sh' r q=>?_⟩;cases t with
 |ref a =>
  rw[JH] at q;cases eo:H3' a with
  |none=>rw[eo] at q;exact q.elim
  |some ob =>
  rw[eo] at q;cases ob with
  |ins C' fs=>obtain⟨rfl,hl,q⟩:=q;obtain⟨dx,vs,hH,rs⟩:=sh' a _ eo;refine⟨a,dx,vs,r.ref,hH,lV rs hl,Z3,H3',_,ss.mono le,sh',q,fun us H2 ts H32 le2 sh2 rr q2=>?_⟩;show qY X.K sp (v::(us++[])) H2 Q E0;rw[I_];exact⟨_,H32,Q3,.cons (r.mono le2) rr,sh2,q2,k.at (le.trans le2)⟩
  |_=>exact q.elim
 |_=>exact q.elim
def BL (C:Addr) (sp:Sp3) (t:TA3):TE3:=fun Z H Q=>t Z H fun vs H1=>∀a,H1 a=none->sp (.ref a::vs) (up3 H1 a (.ins C [])) fun v H2=>v=.non/\Q (.ref a) H2
theorem GK (M:MkC X.prog X.w X.K X.mg X.base C n x ps sp) (hr:Room (n+1) X.A) (hg:Gl X x) (ha:PA3 X (e::es) t) (hdb:(x==("__debug__":Str))=false:=by decide)
  (he:starEach (e::es) X.env=(false,eval e X.env)::starEach es X.env:=by rfl) (hpl:(backTo pos (starEach es X.env)).any (·.1)=false:=by rfl):PE3 X (.Call (.Name x p) (e::es) [] pos) (BL C sp t):=by
 obtain⟨f,fd,hm,hb,F⟩:=M.ex;refine PE.imp (Ex (dvs:=[]) (E:=E0) hm F hr hg M.at_ hb .nil zH ha hdb he hpl) ?_;rintro Z H Q ⟨Z3,H3,Q3,ss,sh,h,k⟩;refine⟨Z3,H3,_,ss,sh,h,fun us H' ts H3' le sh' rr q=>fun a dx ha hdx hne=>?_⟩;show qY X.K sp (V.ref a::(us++[])) _ _ E0;rw[I_];have hp:upd H' dx (.own a) a=none:=by rw[aV (Ne.symm hne)];exact ha
 have le1:TupLe X.K H' (upd H' dx (.own a)):=aP hdx;have le2:TupLe X.K (upd H' dx (.own a)) (upd (upd H' dx (.own a)) a (.ins C dx [])):=aP hp;refine⟨T.ref a::ts,up3 H3' a (.ins C []),_,.cons .ofRef (rr.mono (le1.trans le2)),fun b ob eb=>?_,q a (sh'.fresh ha),fun v H2 t2 H32 le3 sh2 r2 q2=>⟨?_,?_⟩⟩
 ·by_cases hb:b=a
  ·subst hb;rw[aA] at eb;cases eb;exact⟨dx,[],bU,.nil⟩
  rw[aC hb] at eb;exact ((sh'.new hdx).new hp) b ob eb
 ·obtain⟨rfl,_⟩:=q2;exact r2.non
 exact k _ _ _ _ (le.trans (le1.trans (le2.trans le3))) sh2 .ofRef q2.2
def CMulW (i j:Int):Prop:=i.natAbs<2^1000/\j.natAbs<2^1000
def JL (i j:Int):Prop:=j=2/\i.natAbs<2^1000
theorem CMulW.ok {i j:Int}(h:CMulW i j):IntMulOk i j:=by
 have h1:=intBits_le h.1;have h2:=intBits_le h.2;unfold IntMulOk;have:Builtin.Int.intTooBig ((Builtin.Int.intBits i:Int)+(Builtin.Int.intBits j:Int))=false:=by
  unfold Builtin.Int.intTooBig;have hb:(2000:Int)<=(bitsLine:Int):=by decide +kernel
  rw[Yt];omega
 rw[this,Zg];exact u_
theorem GP:du X (binaryOp .Mult) (rI3 CMulW fun i j=>.int (i*j)):=qZ (opI fun _ _ _ _ _ _ _ hc q=>mul_int q hc.ok) fun _ _ _=>.ofInt
theorem GQ:du X (binaryOp .Pow) (rI3 JL fun i j=>.int (i^j.toNat)):=qZ (opI fun i j _ _ _ _ _ hc q=>pow_int (by rw[hc.1];decide) (by
 have h1:=intBits_le hc.2
 rw[hc.1]
 omega) q) fun _ _ _=>.ofInt
def Uv:R3:=fun x y H Q=>match y with
 |.non=>Q (.bl (!isN x)) H
 |_=>False
theorem Uw (x:T) (H:Hp3) (Q:VK3):Uv x .non H Q=Q (.bl (!isN x)) H:=rfl
def mnI (o:Option O3) (H:Hp3) (Q:VK3):Prop:=match o with
 |some (.lst xs)=>oq (ints3 xs) fun ns=>ns≠[]/\∀M,M∈ns->(∀a∈ns,M<=a)->Q (.int M) H
 |_=>False
def O1:List T->Hp3->VK3->Prop:=fun ts H Q=>match ts with
 |[.ref a]=>mnI (H a) H Q
 |_=>False
theorem O2 (a:Addr) (H:Hp3) (Q:VK3):O1 [.ref a] H Q=mnI (H a) H Q:=rfl
theorem Ux (xs:List T) (H:Hp3) (Q:VK3):mnI (some (.lst xs)) H Q=oq (ints3 xs) fun ns=>ns≠[]/\∀M,M∈ns->(∀a∈ns,M<=a)->Q (.int M) H:=rfl
end
open L2 PySem.W
section
variable {O:KeyOrd}{key:Nat->O.α}{n:Nat}
def Kw (O:KeyOrd) (key:Nat->O.α) (n:Nat) {α:Type}:KasT α->(α->Prop)->Prop
 |.ret a,Q=>Q a
 |.ask i j k,Q=>i<n/\j<n/\Kw O key n (k (O.blt (key i) (key j))) Q
theorem Kw.mono {α:Type}{Q Q':α->Prop}(hq:∀a,Q a->Q' a):∀{t:KasT α},Kw O key n t Q->Kw O key n t Q'
 |.ret a,h=>hq a h
 |.ask i j k,h=>⟨h.1,h.2.1,Kw.mono hq h.2.2⟩
theorem Kw.bind {α β:Type}{f:α->KasT β}{Q:β->Prop}:∀{t:KasT α},Kw O key n t (fun a=>Kw O key n (f a) Q)->Kw O key n (t.bind f) Q
 |.ret a,h=>h
 |.ask i j k,h=>⟨h.1,h.2.1,Kw.bind h.2.2⟩
theorem Kw.wp {α:Type}{cmp:Nat->Nat->(Bool->Shared->Prop)->Shared->Prop}{s:Shared}(hc:∀i j (C:Bool->Shared->Prop),i<n->j<n->C (O.blt (key i) (key j)) s->cmp i j C s) {Q:α->Prop}{R:α->Shared->Prop}(hq:∀a,Q a->R a s) :
  ∀{t:KasT α},Kw O key n t Q->t.kasWp cmp R s
 |.ret a,h=>hq a h
 |.ask i j k,h=>hc i j _ h.1 h.2.1 (Kw.wp hc hq h.2.2)
structure Pm (n:Nat) (p:Array Nat):Prop where
 pm:p.toList.Perm (List.range n)
 n1:1<=n
theorem Pm.sz {p:Array Nat}(h:Pm n p):p.size=n:=by
 have:=h.pm.length_eq;rw[h_] at this;simpa using this
theorem Pm.lt {p:Array Nat}(h:Pm n p) (i:Nat):p.getD i 0<n:=by
 rw[Yb];by_cases hi:i<p.size
 ·rw[Array.getElem?_eq_getElem hi];exact C_.mp (h.pm.mem_iff.mp (by simp))
 rw[Array.getElem?_eq_none (by omega)];exact h.n1
theorem Pm.by {p q:Array Nat}(h:Pm n p) (e:q.Perm p):Pm n q:=⟨(Array.perm_iff_toList_perm.mp e).trans h.pm,h.n1⟩
def Ky (O:KeyOrd) (key:Nat->O.α) (p:Array Nat) (i:Nat):O.α:=key (p.getD i 0)
def Up (O:KeyOrd) (key:Nat->O.α) (p:Array Nat) (k:Nat):Prop:=∀i j,i<=j->j<k->O.kle (Ky O key p i) (Ky O key p j)
def Dn (O:KeyOrd) (key:Nat->O.α) (p:Array Nat) (k:Nat):Prop:=∀i j,i<=j->j<k->O.kle (Ky O key p j) (Ky O key p i)
theorem Ky.congr {p q:Array Nat}{i j:Nat}(h:p[i]?=q[j]?):Ky O key p i=Ky O key q j:=by unfold Ky;rw[Yb,Yb,h]
theorem Ky.mir {p:Array Nat}{i j:Nat}(hj:j<=p.size) (k:Nat):Ky O key (kas_rev p i j) k=if i<=k/\k<j then Ky O key p (i+j - 1 - k) else Ky O key p k:=by
 have e:=getElem?_mirror_all (i:=i) hj k;split at e <;> rename_i h
 ·rw[if_pos h];exact Ky.congr e
 rw[if_neg h];exact Ky.congr e
theorem Ky.mirEq {p:Array Nat}{i j:Nat}(hj:j<=p.size) (he:∀k,i<=k->k<j->Ky O key p k=Ky O key p (j - 1)) (k:Nat):Ky O key (kas_rev p i j) k=Ky O key p k:=by
 rw[Ky.mir hj];split
 ·rw[he _ (by omega) (by omega),he k (by omega) (by omega)]
 rfl
theorem Ky.bub {p:Array Nat}{s d:Nat}(hs:s<p.size) (hd:d<=s) (k:Nat):Ky O key (bubble p s d) k=if k=s - d then Ky O key p s else if s - d<k/\k<=s then Ky O key p (k - 1) else Ky O key p k:=by
 have e:=getElem?_bubble hs d hd k;by_cases h1:k=s - d
 ·rw[if_pos h1] at e ⊢;exact Ky.congr e
 rw[if_neg h1] at e ⊢;by_cases h2:s - d<k/\k<=s
 ·rw[if_pos h2] at e ⊢;exact Ky.congr e
 rw[if_neg h2] at e ⊢;exact Ky.congr e
theorem Pm.rev {p:Array Nat}(h:Pm n p) (i j:Nat):Pm n (kas_rev p i j):=h.by (mirror_perm _ _ _ _)
theorem Up.one {p:Array Nat}:Up O key p 1:=fun i j h1 h2=>by
 obtain rfl:i=j:=by omega
 exact Yw _
theorem Up.more {p:Array Nat}{k:Nat}(hk:1<=k) (h:Up O key p k) (e:O.kle (Ky O key p (k - 1)) (Ky O key p k)):Up O key p (k+1):=fun i j h1 h2=>by
 by_cases hj:j<k
 ·exact h i j h1 hj
 obtain rfl:j=k:=by omega
 by_cases hi:i=j
 ·subst hi;exact Yw _
 exact KeyOrd.kle_trans (h i (j - 1) (by omega) (by omega)) e
theorem Dn.more {p:Array Nat}{k:Nat}(hk:1<=k) (h:Dn O key p k) (e:O.kle (Ky O key p k) (Ky O key p (k - 1))):Dn O key p (k+1):=fun i j h1 h2=>by
 by_cases hj:j<k
 ·exact h i j h1 hj
 obtain rfl:j=k:=by omega
 by_cases hi:i=j
 ·subst hi;exact Yw _
 exact KeyOrd.kle_trans e (h i (j - 1) (by omega) (by omega))
theorem uQ {p:Array Nat}{Q:Nat->Prop}(hp:Pm n p):∀(f a:Nat),1<=a->Up O key p a->(∀m,a<=m->m<=a+f->Up O key p m->m=a+f\/O.klt (Ky O key p m) (Ky O key p (m - 1))->Q m)->Kw O key n (kas_asc p f a) Q
 |0,a,_,h,k=>k a (o_ _) (o_ _) h (.inl rfl)
 |f+1,a,ha,h,k=>by
  refine⟨hp.lt _,hp.lt _,?_⟩
  cases e:O.blt (key (p.getD a 0)) (key (p.getD (a - 1) 0)) with
  |true=>exact k a (o_ _) (by omega) h (.inr e)
  |false=>exact uQ hp f (a+1) (by omega) (h.more ha e) fun m h1 h2 h3 h4=>k m (by omega) (by omega) h3 (h4.imp (fun q=>by omega) id)
theorem kZ {Q:Array Nat × Nat × Nat->Prop}:∀(f:Nat) (p:Array Nat) (a q:Nat),Pm n p->1<=a->a+f<=n->Dn O key p a->q+1<=a->(∀i,a - (q+1)<=i->i<a->Ky O key p i=Ky O key p (a - 1)) ->
  (∀p' m r,Pm n p'->a<=m->m<=a+f->Dn O key p' m->r+1<=m->(∀i,m - (r+1)<=i->i<m->Ky O key p' i=Ky O key p' (m - 1))->Q (p',m,r))->Kw O key n (kas_desc f p a q) Q
 |0,p,a,q,hp,_,_,h,hq,he,k=>k p a q hp (o_ _) (o_ _) h hq he
 |f+1,p,a,q,hp,ha,hn,h,hq,he,k=>by
  refine⟨hp.lt _,hp.lt _,?_⟩
  cases e:O.blt (key (p.getD a 0)) (key (p.getD (a - 1) 0)) with
  |true =>
   have sz:a<=p.size:=by rw[hp.sz];omega
   have one:∀p':Array Nat,∀i,a+1 - (0+1)<=i->i<a+1->Ky O key p' i=Ky O key p' (a+1 - 1):=fun p' i h1 h2=>by rw[show i=a+1 - 1 by omega]
   dsimp only
   rw[if_pos rfl]
   by_cases hq0:q>0
   ·
    rw[if_pos hq0]
    have ke:=Ky.mirEq (O:=O) (key:=key) (i:=a - (q+1)) sz he
    refine kZ f _ (a+1) 0 (hp.rev _ _) (by omega) (by omega) (Dn.more ha (fun i j h1 h2=>by rw[ke,ke];exact h i j h1 h2) (by rw[ke,ke];exact Zd e)) (by omega) (one _) fun p' m r a1 a2 a3 a4 a5 a6=>k p' m r a1 (by omega) (by omega) a4 a5 a6
   ·
    rw[if_neg hq0]
    exact kZ f p (a+1) 0 hp (by omega) (by omega) (h.more ha (Zd e)) (by omega) (one _) fun p' m r a1 a2 a3 a4 a5 a6=>k p' m r a1 (by omega) (by omega) a4 a5 a6
  |false =>
   dsimp only
   rw[if_neg u_]
   refine⟨hp.lt _,hp.lt _,?_⟩
   cases e2:O.blt (key (p.getD (a - 1) 0)) (key (p.getD a 0)) with
   |true=>exact k p a q hp (o_ _) (by omega) h hq he
   |false =>
    dsimp only
    rw[if_neg u_]
    have eq:Ky O key p a=Ky O key p (a - 1):=KeyOrd.kle_antisymm e2 e
    refine kZ f p (a+1) (q+1) hp (by omega) (by omega) (h.more ha (by rw[eq];exact Yw _)) (by omega) (fun i h1 h2=>?_) fun p' m r a1 a2 a3 a4 a5 a6=>k p' m r a1 (by omega) (by omega) a4 a5 a6
    rw[show a+1 - 1=a by omega]
    by_cases hi:i=a
    ·
     rw[hi]
    ·
     rw[eq];exact he i (by omega) (by omega)
theorem wV {p:Array Nat}{a:Nat}{Q:Nat × Array Nat->Prop}(hp:Pm n p) (ha:1<=a) (hn:a<=n) (h:Dn O key p a) (k:∀m p',Pm n p'->1<=m->m<=n->Up O key p' m->Q (m,p')):Kw O key n (kas_tail3 a n p) Q:=by
 refine Kw.bind (uQ (hp.rev 0 a) _ a ha (fun i j h1 h2=>?_) fun m h1 h2 h3 _=>k m _ (hp.rev 0 a) (by omega) (by omega) h3);have sz:a<=p.size:=by rw[hp.sz];exact hn
 rw[Ky.mir sz,Ky.mir sz,if_pos (by omega),if_pos (by omega)];exact h _ _ (by omega) (by omega)
theorem jZ {p:Array Nat}{a:Nat}{Q:Nat × Array Nat->Prop}(hp:Pm n p) (hn:a+1<=n) (h:Dn O key p (a+1)) (k:∀m p',Pm n p'->1<=m->m<=n->Up O key p' m->Q (m,p')):Kw O key n (kas_descPart a n p) Q:=by
 refine Kw.bind (kZ _ p (a+1) 0 hp (by omega) (by omega) h (by omega) (fun i h1 h2=>by rw[show i=a+1 - 1 by omega]) fun p' m r a1 a2 a3 a4 a5 a6=>?_);dsimp only;have sz:m<=p'.size:=by rw[a1.sz];omega
 by_cases hr:r>0
 ·rw[if_pos hr];have ke:=Ky.mirEq (O:=O) (key:=key) (i:=m - (r+1)) sz a6;exact wV (a1.rev _ _) (by omega) (by omega) (fun i j h1 h2=>by rw[ke,ke];exact a4 i j h1 h2) k
 rw[if_neg hr];exact wV a1 (by omega) (by omega) a4 k
theorem BP {p:Array Nat}{Q:Nat × Array Nat->Prop}(hp:Pm n p) (k:∀m p',Pm n p'->1<=m->m<=n->Up O key p' m->Q (m,p')):Kw O key n (kas_count n p) Q:=by
 have n1:=hp.n1;refine Kw.bind (uQ hp _ 1 (o_ _) Up.one fun m h1 h2 h3 h4=>?_);by_cases hm:m=n
 ·rw[if_pos (by simpa using hm)];exact k m p hp h1 (by omega) h3
 rw[if_neg (by simpa using hm)];have hlt:O.klt (Ky O key p m) (Ky O key p (m - 1)):=h4.resolve_left (by omega);by_cases h5:m>1
 ·rw[if_pos h5];refine⟨hp.lt _,hp.lt _,?_⟩;cases e:O.blt (key (p.getD 0 0)) (key (p.getD (m - 1) 0)) with
  |true=>exact k m p hp h1 (by omega) h3
  |false =>
  dsimp only;rw[if_neg u_];have sz:m<=p.size:=by rw[hp.sz];omega
  have all:∀i,0<=i->i<m->Ky O key p i=Ky O key p (m - 1):=fun i _ hi=>KeyOrd.kle_antisymm (h3 i (m - 1) (by omega) (by omega)) (KeyOrd.kle_trans e (h3 0 i (by omega) hi));have ke:=Ky.mirEq (O:=O) (key:=key) (i:=0) sz all;refine jZ (hp.rev _ _) (by omega) (Dn.more h1 (fun i j q1 q2=>?_) ?_) k
  ·rw[ke,ke,all i (by omega) (by omega),all j (by omega) (by omega)];exact Yw _
  rw[ke,ke];exact Zd hlt
 rw[if_neg h5];obtain rfl:m=1:=by omega
 refine jZ hp (by omega) (Dn.more (o_ _) (fun i j q1 q2=>?_) (Zd hlt)) k;obtain rfl:i=j:=by omega
 exact Yw _
theorem lW {p:Array Nat}{k:Nat}{Q:Nat->Prop}(hp:Pm n p):∀(f l r:Nat),l<=r->r<=k->r - l<=f->(∀i,i<l->O.kle (Ky O key p i) (Ky O key p k))->(∀i,r<=i->i<k->O.klt (Ky O key p k) (Ky O key p i))->Up O key p k ->
  (∀l,l<=k->(∀i,i<l->O.kle (Ky O key p i) (Ky O key p k))->(∀i,l<=i->i<k->O.klt (Ky O key p k) (Ky O key p i))->Q l)->Kw O key n (kas_place p k f l r) Q
 |0,l,r,h1,h2,h3,lo,hi,_,q=>by
  obtain rfl:l=r:=by omega
  exact q l h2 lo hi
 |f+1,l,r,h1,h2,h3,lo,hi,hu,q=>by
  unfold kas_place
  by_cases h:l ≥ r
  ·
   obtain rfl:l=r:=by omega
   rw[if_pos h]
   exact q l h2 lo hi
  ·
   rw[if_neg h]
   refine⟨hp.lt _,hp.lt _,?_⟩
   cases e:O.blt (key (p.getD k 0)) (key (p.getD ((l+r) / 2) 0)) with
   |true=>exact lW hp f l ((l+r) / 2) (by omega) (by omega) (by omega) lo (fun i a1 a2=>KeyOrd.klt_of_klt_of_kle e (hu _ i a1 a2)) hu q
   |false=>exact lW hp f ((l+r) / 2+1) r (by omega) h2 (by omega) (fun i a1=>KeyOrd.kle_trans (hu i ((l+r) / 2) (by omega) (by omega)) e) hi hu q
theorem BR {Q:Array Nat->Prop}:∀(f:Nat) (p:Array Nat) (k:Nat),Pm n p->k+f=n->Up O key p k->(∀p',Pm n p'->Up O key p' n->Q p')->Kw O key n (kas_bin f p k) Q
 |0,p,k,hp,e,h,q=>by
  obtain rfl:k=n:=by omega
  exact q p hp h
 |f+1,p,k,hp,e,h,q=>by
  have sz:k<p.size:=by rw[hp.sz];omega
  refine Kw.bind (lW hp k 0 k (X8 _) (o_ _) (by omega) (fun _ z=>absurd z (Zy _)) (fun _ z1 z2=>absurd z2 (by omega)) h fun l hl lo hi=>?_)
  refine BR f _ (k+1) (hp.by (bubble_perm _ _ _)) (by omega) (fun i j h1 h2=>?_) q
  rw[Ky.bub sz (by omega),Ky.bub sz (by omega),show k - (k - l)=l by omega]
  by_cases i1:i=l
  ·
   rw[if_pos i1]
   by_cases j1:j=l
   ·
    rw[if_pos j1];exact Yw _
   ·
    rw[if_neg j1,if_pos (by omega)];exact Zd (hi _ (by omega) (by omega))
  ·
   rw[if_neg i1]
   by_cases i2:l<i/\i<=k
   ·
    rw[if_pos i2,if_neg (by omega),if_pos (by omega)];exact h _ _ (by omega) (by omega)
   ·
    rw[if_neg i2]
    by_cases j1:j=l
    ·
     rw[if_pos j1];exact lo i (by omega)
    ·
     rw[if_neg j1]
     by_cases j2:l<j/\j<=k
     ·
      rw[if_pos j2];exact h _ _ (by omega) (by omega)
     ·
      rw[if_neg j2];exact h _ _ h1 (by omega)
theorem GR (n1:1<=n):Kw O key n (kas_sort n) fun p=>Pm n p/\Up O key p n:=by
 have p0:Pm n (List.toArray (List.range n)):=⟨.refl _,n1⟩;refine Kw.bind (BP p0 fun m p hp h1 h2 h3=>?_);dsimp only;by_cases h:m<n
 ·rw[if_pos h,show max m 1=m by omega];exact BR _ p m hp (by omega) h3 fun p' a b=>⟨a,b⟩
 rw[if_neg h];obtain rfl:m=n:=by omega
 exact⟨hp,h3⟩
variable {A:Around}{s:Shared}
variable {X:Cx}{pins:List (Addr × Obj)}{Z:L2.St}{H:Hp}
variable {P:Program}{w:World}{R:Result->Shared->Prop}{I S:Addr}{fp wr:List Addr}{V:Nat->Value->Prop}{St:Nat->Heap->Prop}{bt:Nat->Nat->Bool}{s0:Shared}
def Kpt (h h':Heap):Prop:=∀b o,h.get? b=some o->h'.get? b=some o
end
theorem oM:bootBuiltins "sorted"=some (.builtin "sorted"):=by decide +kernel
def Srt (O:KeyOrd) (key:Nat->O.α) (n:Nat) (ps:List Nat):Prop:=ps.Perm (List.range n)/\∀i j,i<=j->j<n->O.kle (key (ps.getD i 0)) (key (ps.getD j 0))
theorem Srt.of {O:KeyOrd}{key:Nat->O.α}{n:Nat}{p:Array Nat}(h:Pm n p) (u:Up O key p n):Srt O key n p.toList:=⟨h.pm,fun i j h1 h2=>by
 have:=u i j h1 h2;unfold Ky at this;rw[Yb,Yb] at this;rw[m_,m_,Yj,Yj];exact this⟩
section
variable {P:Program}{w:World}{A:Around}{E:Value->Shared->Prop}{s:Shared}{O:KeyOrd}{key:Nat->O.α}
theorem uR {a:Addr}{vs:List Value}{c:Nat}{R:PySem.Fin->Shared->Prop}(ho:s.heap.get? a=some (seqObj "list" vs.toArray c)) (h64:vs.length<64)
  (hk:2<=vs.length->∀h',(∀b o,b≠a->s.heap.get? b=some o->h'.get? b=some o)->wpAny (model P w) A (keyKind' vs.toArray) (fun κ s'=>s'={ s with heap:=h'}/\∀i j (C:Bool->Shared->Prop),i<vs.length->j<vs.length->C (O.blt (key i) (key j)) { s with heap:=h'}->kas_ask P w A κ vs i j C { s with heap:=h'}) (fun _ _=>False) { s with heap:=h'})
  (h:∀ps,Srt O key vs.length ps->R (.done (.ret .none)) { s with heap:=sortedHeap s.heap a vs (ps.map fun i=>vs.getD i Value.none).toArray}):wpAny (model P w) A (Builtin.«list.sort» ⟨[.ref a],[]⟩) R E s:=by
 have ha:a<s.heap.objs.size:=K_ ho;have hz:vs.length<=sizeLine:=by rw[sizeLine_eq];omega
 rw[list_sort_plain];refine v_ (listItems_at ho rfl ?_);refine v_ (listUpdate_at ho rfl ?_ (by rw[k_];omega) (X8 _));obtain⟨e1,ho1⟩:∃e1,(s.heap.update a (Obj.mapSeq fun _=>(#[]:Array Value))).get? a=some (seqObj "list" #[] e1):=⟨_,get?_update_seq ho fun _=>#[]⟩;refine v_ (seqEpoch_at ho1 rfl ?_);refine v_ (wpAny_newTuple ?_ hz);refine v_ (wpAny_newList ?_ (X8 _));refine Zt ?_;have ho6:(((s.heap.update a (Obj.mapSeq fun _=>(#[]:Array Value))).push (seqObj "tuple" vs.toArray 0)).push (seqObj "list" #[] 0)).get? a=some (seqObj "list" #[] e1):=j_ _ (j_ _ ho1);show wpAny (model P w) A _ R E { s with heap:=((s.heap.update a (Obj.mapSeq fun _=>(#[]:Array Value))).push (seqObj "tuple" vs.toArray 0)).push (seqObj "list" #[] 0)};dsimp only;by_cases h2:vs.toArray.size<2
 ·rw[if_pos h2,if_pos h2];refine v_ (O_ ?_);rw[StateT.run_pure];refine v_ (O_ ?_);dsimp only;rw[k_] at h2;refine v_ (seqEpoch_at ho6 rfl ?_);have e:((vs.toArray.zip vs.toArray).map (·.2))=((List.range vs.length).map fun i=>vs.getD i Value.none).toArray:=by
   match vs,h2 with
   |[],_=>simp
   |[v],_=>simp [List.range_succ]
  show wpAny (model P w) A (Builtin.List.listUpdate (.ref a) (fun _=>(vs.toArray.zip vs.toArray).map (·.2)) >>= _) R E _;rw[e];refine v_ (listUpdate_at ho6 rfl ?_ (X8 _) (by rw[k_,b_,h_];omega));simp only[bne_self_eq_false,H_,Xh];refine O_ (h (List.range vs.length) ⟨.refl _,fun i j h1 h3=>?_⟩);obtain rfl:i=j:=by omega
  exact Yw _
 rw[if_neg h2,if_neg h2];rw[k_] at h2;refine v_ (XR (hk (by omega) _ fun b o hb e=>j_ _ (j_ _ ((Heap.get?_update_ne _ _ _ _ hb).trans e))) (fun κ s' hs=>?_) fun _ _ x=>x.elim);obtain⟨rfl,hc⟩:=hs;have kw:=GR (O:=O) (key:=key) (n:=vs.length) (by omega);refine v_ (XR (kat_run (G:=fun p s'=>(Pm vs.length p/\Up O key p vs.length)/\s'={ s with heap:=((s.heap.update a (Obj.mapSeq fun _=>(#[]:Array Value))).push (seqObj "tuple" vs.toArray 0)).push (seqObj "list" #[] 0)}) (Q:=fun st' s'=>∃p:Array Nat,arrOf st'=p.map (kas_item (vs.toArray.zip vs.toArray))/\failedOf st'=none/\(Pm vs.length p/\Up O key p vs.length)/\s'={ s with heap:=((s.heap.update a (Obj.mapSeq fun _=>(#[]:Array Value))).push (seqObj "tuple" vs.toArray 0)).push (seqObj "list" #[] 0)}) rfl (by omega) h64 (fun p' st' s' a1 a2 a3 a4=>⟨p',a2,a3,a4.1,a4.2⟩) (kw.wp hc fun p hp=>⟨hp,rfl⟩)) ?_ fun _ _ e=>e);rintro⟨⟨⟩,st'⟩ s' ⟨p,har,hf,⟨hp,hu⟩,rfl⟩;dsimp only;rw[kat_snds rfl har];refine v_ (seqEpoch_at ho6 rfl ?_);refine v_ (listUpdate_at ho6 rfl ?_ (X8 _) (by rw[k_,b_,hp.pm.length_eq,h_];omega));rw[hf];simp only[bne_self_eq_false,H_,Xh];exact O_ (h _ (.of hp hu))
end
open L2 PySem.W M
section
variable {X:Cx}{pins:List (Addr × Obj)}{Z:L2.St}{H:Hp}{s:Shared}
end
section
variable (O:KeyOrd)
variable {O}
end
section
variable {X:Cx}{pins:List (Addr × Obj)}{Z:L2.St}{H:Hp}{s:Shared}{H3:Hp3}{Q3:VK3}{Q:VK}
theorem StrsAre.get {its:List Value}{ss:List Str}(h:StrsAre its ss):∀i,i<its.length->∃t,its.getD i Value.none=Value.str (ss.getD i default) t:=by
 induction h with
 |nil=>intro i hi;exact absurd hi (Zy _)
 |cons x t _ ih =>
 intro i hi;cases i with
 |zero=>exact⟨t,rfl⟩
 |succ i=>exact ih i (by simpa using hi)
theorem StrsAre.len {its:List Value}{ss:List Str}(h:StrsAre its ss):its.length=ss.length:=by
 induction h with
 |nil=>rfl
 |cons x t _ ih=>rw[e_,e_,ih]
theorem yG {P:Program}{w:World}{kvs:List (Key × V)}{vs:List (Key × Value)}(r:KV kvs vs):∀(us:List Value),us.length=vs.length->(∀(j:Nat) (v:Value),us[j]?=some v->∃k x,vs[j]?=some (k,x)/\(bC P w).is k v=true)->Vals (kvs.map fun q=>kV q.1) us:=by
 induction r with
 |nil=>intro us h _;rw[X5 h];exact .nil
 |cons h1 h2 ih =>
 intro us hl hus;cases us with
 |nil=>cases hl
 |cons u us =>
 refine .cons ?_ (ih us (Nat.succ.inj hl) fun j v e=>hus (j+1) v e);obtain⟨k,x,e,hk⟩:=hus 0 u rfl;cases e;obtain⟨hq,_⟩:=h1;dsimp only at hq ⊢;rw[hq];rcases bJ hk with ⟨i,t,e1,e2⟩ | ⟨y,t,e1,e2⟩
 ·rw[e1,e2];exact⟨t,rfl⟩
 rw[e1,e2];exact⟨t,rfl⟩
end
theorem GX {h:Heap}{vs:List Value}{out:Array Value}:Kpt h (sortedHeap (h.push (seqObj "list" vs.toArray 0)) h.objs.size vs out)/\∃c,(sortedHeap (h.push (seqObj "list" vs.toArray 0)) h.objs.size vs out).get? h.objs.size=some (seqObj "list" out c):=by
 have hoL:(h.push (seqObj "list" vs.toArray 0)).get? h.objs.size=some (seqObj "list" vs.toArray 0):=Q_ _ rfl;refine⟨fun b o e=>?_,?_⟩
 ·have hb:b<h.objs.size:=K_ e;unfold sortedHeap;rw[Heap.get?_update_ne _ _ _ _ (Xm hb)];refine j_ _ (j_ _ ?_);rw[Heap.get?_update_ne _ _ _ _ (Xm hb)];exact j_ _ e
 unfold sortedHeap;exact⟨_,get?_update_seq (j_ _ (j_ _ (get?_update_seq hoL fun _=>#[]))) fun _=>out⟩
section
variable {P:Program}{w:World}{A:Around}{E:Value->Shared->Prop}{s:Shared}{O:KeyOrd}{key:Nat->O.α}
theorem GZ {x:Value}{Q:Value->Shared->Prop}(hx:∀A' E',A'.handled=A.handled->wpAny (model P w) A' (collect x) (fun vs s1=>vs.length<64 /\
   (2<=vs.length->∀h',Kpt s1.heap h'->wpAny (model P w) A.in1.in1 (keyKind' vs.toArray) (fun κ s'=>s'={ s1 with heap:=h'}/\∀i j (C:Bool->Shared->Prop),i<vs.length->j<vs.length->C (O.blt (key i) (key j)) { s1 with heap:=h'}->kas_ask P w A.in1.in1 κ vs i j C { s1 with heap:=h'}) (fun _ _=>False) { s1 with heap:=h'}) /\
   ∀ps h' c,Srt O key vs.length ps->Kpt s1.heap h'->h'.get? s1.heap.objs.size=some (seqObj "list" (ps.map fun i=>vs.getD i Value.none).toArray c)->Q (.ref s1.heap.objs.size) { s1 with heap:=h'}) E' s):wpAny (model P w) A (call (.builtin "sorted") [x]) Q E s:=by
 refine Calls.call_function_entry kind_sorted plain_sorted entry_sorted (args_sorted1 _) ?_;unfold Builtin.«sorted»;refine v_ (m:=checkCount "sorted" 1 1 _) (O_ ?_);refine v_ (XR (hx _ _ rfl) (fun vs s1 hv=>?_) fun _ _ e=>e);obtain⟨h64,hk,h⟩:=hv;refine v_ (wpAny_newList ?_ (by rw[sizeLine_eq];omega));have hoL:(s1.heap.push (seqObj "list" vs.toArray 0)).get? s1.heap.objs.size=some (seqObj "list" vs.toArray 0):=Q_ _ rfl;refine v_ (Zt (wpAny_call_entry slot_list_sort ⟨_,hoL,rfl⟩ entry_list_sort (uR (O:=O) (key:=key) hoL h64 (fun h2 h' kp=>hk h2 h' fun b o e=>kp b o ?_ ?_) fun ps hs=>⟨_,rfl,?_⟩) (args_list_sort _)))
 ·exact Xm (K_ e)
 ·exact j_ _ e
 obtain⟨kp,c,hc⟩:=GX (h:=s1.heap) (vs:=vs) (out:=(ps.map fun i=>vs.getD i Value.none).toArray);exact O_ ⟨_,rfl,h ps _ c hs kp hc⟩
theorem rR {T:String}{r d:Addr}{n:Nat}{Pr:Nat->Value->Prop}{OK:Heap->Prop}{Q:List Value->Shared->Prop}(K:KdlSrc P w T r d n Pr OK) (hh:A.handled=none) (hok:OK s.heap) (hn:n<=sizeLine)
  (h:∀h' tk acc,Kpt s.heap h'->s.heap.objs.size<h'.objs.size->ItemsOf Pr acc n->Q acc.toList { s with heap:=h',toks:=tk}):wpAny (model P w) A (collect (.ref r)) Q E s:=by
 have hlt:=K.there _ hok;unfold collect;refine v_ (wpAny_runValue (codeAny_builtin entry_proto_collect' ?_));refine v_ (m:=newList []) (wpAny_newList (O_ ⟨Code.quiet_builtin _ (by decide +kernel),codeAny_builtin entry_list_iadd' ?_⟩))
 let st:Shared:={ s with heap:=s.heap.push (seqObj "list" #[] 0)}
 let G:Result->Shared->Prop:=fun q t=>∃h' tk acc c,q=.ok (.ret (.ref s.heap.objs.size))/\t={ s with heap:=h',toks:=tk}/\Kpt s.heap h'/\h'.get? s.heap.objs.size=some (seqObj "list" acc c)/\ItemsOf Pr acc n
 have key:=kdl_extend (A:=A) (s:=st) (R:=G) K hh (K.keep _ _ hok fun b _ o e=>j_ _ e) s.heap.objs.size (Zj hlt.1) (Zj hlt.2) (.ref s.heap.objs.size) 0 (Q_ _ rfl) (fun h' tk acc c hk hS hacc=>⟨h',tk,acc,c,rfl,rfl,fun b o e=>hk b o (Xm (K_ e)) (j_ _ e),hS,hacc⟩) hn;have fin:∀q t,G q t->∃h' tk acc c,q=.ok (.ret (.ref s.heap.objs.size))/\h'.get? s.heap.objs.size=some (seqObj "list" acc c)/\t={ s with heap:=h',toks:=tk}/\Q acc.toList t:=by rintro q t ⟨h',tk,acc,c,e1,rfl,kp,hS,hacc⟩;exact⟨h',tk,acc,c,e1,hS,rfl,h h' tk acc kp (K_ hS) hacc⟩
 refine XR (A:=A.in1) key (fun f t x=>?_) fun e t x=>?_
 ·cases f with
  |done f=>obtain⟨h',tk,acc,c,e1,hS,rfl,hq⟩:=fin _ _ x;cases e1;exact v_ (m:=load s.heap.objs.size) (wpAny_load hS (O_ hq))
  |again c0 =>
  refine⟨x.1,codeAny_mono x.2 fun q t y=>?_⟩;obtain⟨h',tk,acc,c,rfl,hS,rfl,hq⟩:=fin _ _ y;exact v_ (m:=load s.heap.objs.size) (wpAny_load hS (O_ hq))
 obtain⟨_,_,_,_,e1,_⟩:=fin _ _ x;cases e1
variable {X:Cx}{pins:List (Addr × Obj)}{Z:L2.St}{H:Hp}{H3:Hp3}{Q3:VK3}{Q:VK}
end
def Itk (d:Addr) (o:Obj):It :=
 ⟨fun i H=>∃kvs kv,H d=some (.frz o (.dK kvs))/\kvs[i]?=some kv,
  fun i H v H'=>H'=H/\∃k x,v=kV k/\∀kvs,H d=some (.frz o (.dK kvs))->kvs[i]?=some (k,x),
  fun i H=>∃kvs,H d=some (.frz o (.dK kvs))/\kvs.length<=i⟩
theorem yH {P:Program}{w:World}{K:Frag}{tg:Expr}(d it:Addr) (o:Obj) (es:Array DictEntry) (ep:Nat) (hd:o.data=.dict es ep) :
  Turn P w K tg (Itk d o) [it] it (fun i h=>h.IsKeyIter it d i es.size ep) where
 mem:=i_
 obj:=fun i h st c hc=>by
  obtain⟨ob,he,_,hdt⟩:=st
  rw[g_.mp hc]
  exact⟨_,he,fun v z=>by rw[hdt] at z;cases z⟩
 keep:=fun i h h' st k=>st.at fun ob e=>k it (by simp) ob e
 item:=by
  intro X hP hw hK hc i pins s Z H E I hf st hg
  subst hP hw hK
  obtain⟨kvs,⟨k,x⟩,hq,hx⟩:=hg
  obtain⟨vs,rel,hm,hsz0⟩:=qd I hq hd
  obtain⟨⟨k',u⟩,hu,ek,ru⟩:∃q,vs[i]?=some q/\k=q.1/\RelV x q.2:=eG rel hx
  subst ek
  obtain⟨f0,f1,f2,f3,f4,f5⟩:=hf it (by simp)
  rw[<- hsz0] at st
  refine wpAny_pyNext_dict_item st hm hu fun key h' hk st' sb=>?_
  have I1:Inv X pins Z H { s with heap:=h'}:=I.turned (t':=s.toks) (fun b o hb e=>(sb.2 b hb).trans e) f0 f1 f3 f4 f5
  obtain⟨ob,e,c,dt⟩:=id st'
  refine⟨key,rfl,vJ (s:={ s with heap:=h'}) e c dt (by decide) ⟨kV k,H,I1,Jy hk,⟨rfl,k,x,rfl,fun zs hq'=>by rw[hq] at hq';cases hq';exact hx⟩,?_,fun b hb=>(hf b hb).1⟩⟩
  rw[<- hsz0]
  exact st'
 done:=by
  intro X hP hw hK hc i pins s Z H E I hf st hg
  subst hP hw hK
  obtain⟨kvs,hq,hx⟩:=hg
  obtain⟨vs,rel,hm,hsz0⟩:=qd I hq hd
  obtain⟨f0,f1,f2,f3,f4,f5⟩:=hf it (by simp)
  have hl:=rel.length
  rw[<- hsz0] at st
  exact wpAny_pyNext_dict_end (I.ok.hd hc) st hm (W_ (by omega)) fun h' eb=>⟨rfl,I.turned (t':=s.toks) (fun b o hb e=>eb b o hb e) f0 f1 f3 f4 f5⟩
 self:=fun _ _ _ _ _ st h=>wpAny_pyIter_keyiter st h
section
variable {X:Cx}{tg e:Expr}
def iDk (te:TE):TI:=fun Z H R=>te Z H fun x H1=>∃a kvs,x=.ref a/\H1 a=some (.dK kvs)/\∀o,R (Itk a o) (upd H1 a (.frz o (.dK kvs)))
theorem Uy {te:TE}(he:PE X e te):PI X tg e (iDk te):=by
 intro pins s Z H R I h;refine thn (he pins s Z H _ I h) fun v s1 ⟨x,H1,I1,r1,a,kvs,ea,hl,q⟩=>?_;subst ea;cases r1;obtain⟨z,hsys,vs,rel,dd⟩:=qN I1.hok hl;obtain⟨o,ho,I2⟩:=Inv.freeze I1 hl;obtain⟨o',es,ep,ho',ex,hd',hk,hp,hn⟩:=id dd;rw[ho] at ho';cases ho';have hsz:es.size=vs.length:=by rw[<- hp.length];simp
 refine wpAny_pyIter_dict (knd:=bC X.prog X.w) (d:=a) (kvs:=vs) (ep:=ep) hsys ⟨o,es,ho,ex,hd',hk,hp,hn⟩ ?_;refine⟨_,[_],_,Itk a o,_,rfl,I2.kept (t':=s1.toks) fun b o q=>j_ _ q,yH a _ o es ep hd',?_,fun c hc=>?_,q o⟩
 ·rw[hsz];exact⟨_,Q_ _ rfl,rfl,rfl⟩
 rw[g_.mp hc];exact I2.fpOk (o_ _) (I2.hok.fresh (o_ _))
variable {Z:St3}{H:Hp3}
def kyT (kv:Int × T):T:=.int kv.1
def dkO (u:Option O3) (a:Addr) (H:Hp3) (R:List T->(Hp3->Prop)->Hp3->Prop):Prop:=match u with
 |some (.dci kvs)=>∀o,R (kvs.map kyT) (jN a o kvs) (up3 H a (.dif o kvs))
 |_=>False
def dkq (x:T) (H:Hp3) (R:List T->(Hp3->Prop)->Hp3->Prop):Prop:=match x with
 |.ref a=>dkO (H a) a H R
 |_=>False
def Uz (te:TE3):TI3:=fun Z H R=>te Z H fun x H1=>dkq x H1 R
theorem UG (te:TE3) {R:List T->(Hp3->Prop)->Hp3->Prop}:Uz te Z H R=te Z H fun x H1=>dkq x H1 R:=rfl
theorem JM (a:Addr) {R:List T->(Hp3->Prop)->Hp3->Prop}:dkq (.ref a) H R=dkO (H a) a H R:=rfl
theorem JN (kvs:List (Int × T)) (a:Addr) {R:List T->(Hp3->Prop)->Hp3->Prop}:dkO (some (.dci kvs)) a H R=∀o,R (kvs.map kyT) (jN a o kvs) (up3 H a (.dif o kvs)):=rfl
theorem G4 {K:Frag}{H:Hp}{a:Addr}{o:Obj}{kvs:List (Int × T)}:jX K (Itk a o) (kvs.map kyT) (jN a o kvs) H:=fun H' H3' le sh st=>by
 obtain⟨vs,hH,r⟩:=sh a _ st;have hl:=Yy r;refine⟨fun i hi=>⟨vs,hH,by rw[b_] at hi;omega⟩,fun i t e=>?_⟩;rw[y_] at e;cases q:kvs[i]? with
 |none=>rw[q] at e;cases e
 |some kv =>
 rw[q] at e;cases e;obtain⟨⟨kk,v⟩,ev,e1,rv⟩:=eG r q;simp only at e1 rv;subst e1;refine⟨⟨vs,_,hH,ev⟩,fun z H'' y=>?_⟩;obtain⟨rfl,k',x',rfl,q1⟩:=y;have:=(q1 vs hH).symm.trans ev;cases this;exact⟨.refl,sh,.ofInt⟩
theorem UJ {te:TE3}(he:PE3 X e te):PI3 X tg e (Uz te):=by
 refine PI.imp (Uy he) ?_;rintro Z H R ⟨Z3,H3,R3,ss,sh,h,k⟩;refine⟨Z3,H3,_,ss,sh,h,fun v H' t H3' le sh' r q=>?_⟩;cases t with
 |ref a =>
  rw[JM] at q;cases eo:H3' a with
  |none=>rw[eo] at q;exact q.elim
  |some ob =>
  rw[eo] at q;cases ob with
  |dci kvs=>rw[JN] at q;obtain⟨vs,hH,rs⟩:=sh' a _ eo;exact⟨a,vs,r.ref,hH,fun o=>k _ _ _ _ _ (le.trans (bA (by rw[hH];exact trivial))) (sh'.frzI hH rs) G4 (q o)⟩
  |_=>exact q.elim
 |_=>exact q.elim
end
@[reducible] def intOrd:KeyOrd:=⟨Int,fun a b=>decide (a<b),fun a=>by simp,fun a b c h1 h2=>by simp only[p_] at *;omega,fun a b c h=>by simp only[p_] at *;omega,fun a b h1 h2=>by simp only[Yt] at *;omega⟩
section
variable {X:Cx}{pins:List (Addr × Obj)}{Z:L2.St}{H:Hp}{s:Shared}{H3:Hp3}{Q3:VK3}{Q:VK}
theorem yI {K:Frag}{kvs:List (Int × T)}{vs:List (Key × V)}(r:RepI K H kvs vs):Reps K H (kvs.map fun q=>T.int q.1) (vs.map fun q=>kV q.1):=by
 induction r with
 |nil=>exact .nil
 |cons h _ ih =>
 refine .cons ?_ ih;dsimp only;rw[h.1];exact .ofInt
theorem wW:∀{ns:List Int}{ys:List V}{its:List Value},Reps X.K H (ns.map T.int) ys->Vals ys its->IntsAre its ns
 |[],_,_,r,rv=>by rw[r.inv0] at rv;cases rv;exact .nil
 |x::ss,_,_,r,rv=>by
  obtain⟨v,r',rfl,q,b⟩:=r.inv
  cases rv with
  |cons ru rv =>
   cases q.int
   obtain⟨t,rfl⟩:=ru
   exact .cons x t (wW b rv)
theorem ints_get {its:List Value}{ns:List Int}(h:IntsAre its ns):∀i,i<its.length->∃t,its.getD i Value.none=Value.int (ns.getD i 0) t:=by
 induction h with
 |nil=>intro i hi;exact absurd hi (Zy _)
 |cons x t _ ih =>
 intro i hi;cases i with
 |zero=>exact⟨t,rfl⟩
 |succ i=>exact ih i (by simpa using hi)
theorem BV {its:List Value}{ns:List Int}(h:IntsAre its ns):its.length=ns.length:=by
 induction h with
 |nil=>rfl
 |cons x t _ ih=>rw[e_,e_,ih]
theorem BW {its:List Value}{ns:List Int}(h:IntsAre its ns):∀v∈its,∃x t,v=Value.int x t:=by
 induction h with
 |nil=>intro v hv;cases hv
 |cons x t _ ih =>
 intro v hv;rcases l_.mp hv with rfl | hv
 ·exact⟨x,t,rfl⟩
 exact ih v hv
theorem oN (I:Inv X pins Z H s) (sh:SimH X.K H3 H) (k:KV3 X.K H Q3 Q) (hh:X.A.handled=none) {kvs:List (Int × T)}{a:Addr}{vs:List (Key × V)}(e2:Rd H a (.dK vs)) (rd:RepI X.K H kvs vs) (h64:kvs.length<64)
  (h:∀us:List Int,us.Perm (kvs.map (·.1))->us.Pairwise (fun x y=>intOrd.kle x y)->∀p,H3 p=none->Q3 (.ref p) (up3 H3 p (.lst (us.map T.int)))):wpAny (model X.prog X.w) X.A (call (.builtin "sorted") [.ref a]) (EP X pins Z Q) X.xe s:=by
 obtain⟨z,hd,vs',rel,dd⟩:=lD I.hok e2;obtain⟨o,es,ep,h1,h2,h3,h4,h5,h6⟩:=dd;have hl:=rel.length;have hl2:=Yy rd;refine GZ (O:=intOrd) (key:=fun i=>((kvs.map (·.1)).getD i 0:Int)) fun A' E' hA=>?_;refine rR (kdl_dict (knd:=bC X.prog X.w) (kvs:=vs') (ep:=ep) hd) (hA.trans hh) ⟨o,es,h1,h2,h3,h4,h5,h6⟩ (by omega) fun h' tk acc kp hge' hacc=>?_;have rvs:=yG (P:=X.prog) (w:=X.w) rel acc.toList (by rw[Yg];exact hacc.1) fun j v e=>hacc.2 j v (by rw[<- Yj];exact e);have rs:=yI rd;have rs':Reps X.K H ((kvs.map (·.1)).map T.int) (vs.map fun q=>kV q.1):=by rw[Xi];exact rs
 have hS:=wW rs' rvs;have l3:=BV hS;rw[b_] at l3;generalize hys:(vs.map fun q=>kV q.1)=ys at rvs rs';generalize acc.toList=its at *;have l1:=rs'.length;rw[b_,b_] at l1;have l2:=rvs.length;have hz:sizeLine=16777216:=rfl;refine⟨by omega,fun g2 g' kq=>?_,fun q g' c hs kq hc=>?_⟩
 ·refine kas_kind (T:=.type "int") (s:={ s with heap:=g',toks:=tk}) g2 (fun v hv=>?_) rfl rfl ⟨rfl,fun i j C hi hj hC=>?_⟩
  ·obtain⟨x,t,rfl⟩:=BW hS v hv;exact Looks.of_pure rfl
  obtain⟨t,e1⟩:=ints_get hS i hi;obtain⟨u,e2⟩:=ints_get hS j hj;unfold kas_ask;rw[e1,e2];exact kat_lt_int hC
 obtain⟨hp,hu⟩:=hs;have hlt:∀i∈q,i<kvs.length:=fun i hi=>by have:=C_.mp (hp.mem_iff.mp hi);omega
 have hql:q.length=kvs.length:=by rw[hp.length_eq,h_];omega
 have ry:Reps X.K H ((q.map fun i=>(kvs.map (·.1)).getD i 0).map T.int) (q.map fun i=>ys.getD i .non):=by
  clear hu hp hql hc;induction q with
  |nil=>exact .nil
  |cons i q ih =>
  refine .cons ?_ (ih fun j hj=>hlt j (.tail _ hj));have hi:=hlt i (.head _);have hi':i<(kvs.map (·.1)).length:=by rw[b_];exact hi
  obtain⟨y,e1,r1⟩:=rs'.get (i:=i) (t:=T.int ((kvs.map (·.1))[i])) (by rw[y_,d_ hi'];rfl);dsimp only;rw[m_,d_ hi',m_,e1];exact r1
 have rz:Vals (q.map fun i=>ys.getD i .non) (q.map fun i=>its.getD i Value.none):=by
  clear hu hp hql ry hc;induction q with
  |nil=>exact .nil
  |cons i q ih =>
  refine .cons ?_ (ih fun j hj=>hlt j (.tail _ hj));have hi:i<ys.length:=by have:=hlt i (.head _);omega
  obtain⟨z,e1,r1⟩:=rvs.get (i:=i) (d_ hi);dsimp only;rw[m_,d_ hi,m_,e1];exact r1
 have hge:s.heap.objs.size<=h'.objs.size:=Yl hge';have hf:H h'.objs.size=none:=I.hok.fresh hge;refine⟨.ref h'.objs.size,upd H h'.objs.size (.lst (q.map fun i=>ys.getD i .non)),I.laid (t':=tk) (fun b o e=>kq b o (kp b o e)) hge ⟨by rw[b_];omega,_,c,rz,hc⟩,rfl,?_⟩;refine k _ _ _ _ (aP hf) (sh.newLst hf ry) .ofRef (h _ ?_ ?_ _ (sh.fresh hf))
 ·have hm:=hp.map fun i=>(kvs.map (·.1)).getD i 0;rw[show its.length=(kvs.map (·.1)).length by rw[b_];omega] at hm;have e2:(List.range (kvs.map (·.1)).length).map (fun i=>(kvs.map (·.1)).getD i 0)=kvs.map (·.1):=by
   apply List.ext_getElem?;intro i;rw[y_];by_cases hi:i<(kvs.map (·.1)).length
   ·rw[Xo hi,d_ hi,Option.map_some,m_,d_ hi];rfl
   rw[W_ (by simpa using hi),W_ (by omega)];rfl
  rw[e2] at hm;exact hm
 rw[Zq];intro i j hi hj hij;rw[b_] at hi hj;have:=hu i j (by omega) (by omega);rw[m_,d_ hi,m_,d_ hj] at this;rw[List.getElem_map,List.getElem_map];exact this
def siO (o:Option O3) (H:Hp3) (Q:VK3):Prop:=match o with
 |some (.dci kvs)=>kvs.length<64/\∀us:List Int,us.Perm (kvs.map (·.1))->us.Pairwise (fun x y=>intOrd.kle x y)->∀p,H p=none->Q (.ref p) (up3 H p (.lst (us.map T.int)))
 |some (.dif _ kvs)=>kvs.length<64/\∀us:List Int,us.Perm (kvs.map (·.1))->us.Pairwise (fun x y=>intOrd.kle x y)->∀p,H p=none->Q (.ref p) (up3 H p (.lst (us.map T.int)))
 |_=>False
def BX:List T->Hp3->VK3->Prop:=fun ts H Q=>match ts with
 |[.ref a]=>siO (H a) H Q
 |_=>False
theorem O4 (a:Addr) (H:Hp3) (Q:VK3):BX [.ref a] H Q=siO (H a) H Q:=rfl
theorem UL (kvs:List (Int × T)) (H:Hp3) (Q:VK3):siO (some (.dci kvs)) H Q=(kvs.length<64/\∀us:List Int,us.Perm (kvs.map (·.1))->us.Pairwise (fun x y=>intOrd.kle x y)->∀p,H p=none->Q (.ref p) (up3 H p (.lst (us.map T.int)))):=rfl
theorem UT (o:Obj) (kvs:List (Int × T)) (H:Hp3) (Q:VK3):siO (some (.dif o kvs)) H Q=(kvs.length<64/\∀us:List Int,us.Perm (kvs.map (·.1))->us.Pairwise (fun x y=>intOrd.kle x y)->∀p,H p=none->Q (.ref p) (up3 H p (.lst (us.map T.int)))):=rfl
theorem wX {n:Nat}(hr:Room n X.A):dR X (.builtin "sorted") BX:=by
 intro pins s Z H xs us Q I rv h;obtain⟨ts,H3,Q3,r,sh,h,k⟩:=h
 match ts,h,r with
 |[.ref a],h,r =>
 obtain⟨v,rfl,rv'⟩:=r.one';obtain⟨u,rfl,ru⟩:=vals1 rv;rw[rv'.ref] at ru;cases ru;have h':siO (H3 a) H3 Q3:=h;unfold siO at h';split at h'
 ·rename_i kvs e;obtain⟨vs,e2,rd⟩:=sh a _ e;exact oN I sh k hr.hd (.inl e2) rd h'.1 h'.2
 ·rename_i o kvs e;obtain⟨vs,e2,rd⟩:=sh a _ e;exact oN I sh k hr.hd (.inr ⟨o,e2⟩) rd h'.1 h'.2
 exact h'.elim
variable {o e f:Expr}{apos cpos:Pos}{td ty tx:TE}
def UV (td ty tx:TE):TE:=fun Z H Q=>td Z H fun x H1=>∃a,x=.ref a/\IsD H1 a/\ty Z H1 fun y H2=>tx Z H2 fun z H3=>∃kvs k,H3 a=some (.dK kvs)/\y=kV k /\
 (∀v,fC kvs k=some v->Q v H3)/\(fC kvs k=none->Q z H3)
theorem G5 (ho:PE X o td) (he:PE X e ty) (hf:PE X f tx) (m:M2 X o "get" apos e f cpos):PE X (.Call (.Attribute o "get" apos) [e,f] [] cpos) (UV td ty tx):=by
 intro pins s Z H Q I h;refine wpAny_Call_method m.base m.few m.line PySem.F.plainAttrs_dict PySem.F.slot_dict_get PySem.F.type_dict_get (thn (ho pins s Z H _ I h) fun u s1 ⟨x,H1,I1,rx,a,ex,d,q1⟩=>?_);subst ex;obtain rfl:u=Value.ref a:=rx;obtain⟨t1,t2,_⟩:=zF I1 d;refine⟨t1,t2,?_⟩;rw[m.trees];refine Y6 rfl (Calls.evalArgs_plain (YD (thn (he pins s1 Z H1 _ I1 q1) fun iv s2 ⟨y,H2,I2,ry,q2⟩ =>
  YD (thn (hf pins s2 Z H2 _ I2 q2) fun fv s3 ⟨z,H3,I3,rz,kvs,k,ea,ey,q3,q4⟩=>Zb ?_))))
 subst ey;obtain⟨zl,hd,vs,rel,dd⟩:=qN I3.hok ea;have rv:=rel.val k;refine call_meetsIn PySem.F.slot_dict_get dd.typeIs PySem.F.entry_dict_get (PySem.F.args_dict_get_3 _ _ _) (meets_dict_get_default (bC X.prog X.w) a (lC ry) hd fv) ⟨_,dd.mapOf,?_⟩;cases hvv:fC kvs k with
 |none =>
  rw[hvv] at rv;cases hv:valueAt vs k with
  |some w=>rw[hv] at rv;exact (show False from rv).elim
  |none=>exact⟨z,H3,I3.tok _,rz,q4 hvv⟩
 |some w =>
 rw[hvv] at rv;cases hv:valueAt vs k with
 |none=>rw[hv] at rv;exact (show False from rv).elim
 |some w' =>
 rw[hv] at rv;exact⟨w,H3,I3.tok _,rv,q3 w hvv⟩
end
section
variable {X:Cx}{o e f:Expr}{apos cpos:Pos}{Z:St3}{H:Hp3}{Q:VK3}{td ty tv:TE3}
def gdO (u:Option O3) (k:Int) (v:T) (H:Hp3) (Q:VK3):Prop:=match u with
 |some (.dci kvs)=>Q ((cz k kvs).getD v) H
 |_=>False
def gdq (x y v:T) (H:Hp3) (Q:VK3):Prop:=match x,y with
 |.ref a,.int k=>gdO (H a) k v H Q
 |_,_=>False
def BZ (td ty tv:TE3):TE3:=fun Z H Q=>td Z H fun x H1=>Ow x H1/\ty Z H1 fun y H2=>tv Z H2 fun v H3=>gdq x y v H3 Q
theorem JP (a:Addr) (k:Int) (v:T):gdq (.ref a) (.int k) v H Q=gdO (H a) k v H Q:=rfl
theorem JQ (kvs:List (Int × T)) (k:Int) (v:T):gdO (some (.dci kvs)) k v H Q=Q ((cz k kvs).getD v) H:=rfl
theorem G6 (ho:PE3 X o td) (he:PE3 X e ty) (hf:PE3 X f tv) (m:M2 X o "get" apos e f cpos:=by exact⟨rfl,rfl,rfl,rfl⟩):PE3 X (.Call (.Attribute o "get" apos) [e,f] [] cpos) (BZ td ty tv):=by
 refine PE.imp (G5 ho he hf m) ?_;rintro Z H Q ⟨Z3,H3,Q3,ss,sh,h,k⟩;refine⟨Z3,H3,_,ss,sh,h,fun x H1 tx H31 le1 sh1 rx q1=>?_⟩;obtain⟨d1,q1⟩:=q1;cases tx with
 |ref a =>
  cases e1:H31 a with
  |none=>rw[uO,e1] at d1;exact d1.elim
  |some ob =>
  rw[uO,e1] at d1;cases ob with
  |dci kvs0 =>
   obtain⟨vs0,hH0,_⟩:=sh1 a _ e1;refine⟨a,rx.ref,.inl ⟨vs0,.inl hH0⟩,Z3,H31,_,ss.mono le1,sh1,q1,fun y H2 ty H32 le2 sh2 ry q2=>⟨Z3,H32,_,ss.mono (le1.trans le2),sh2,q2,fun z H4 tz H34 le4 sh4 rz q4=>?_⟩⟩;cases ty with
   |int key =>
    rw[JP] at q4;cases e:H34 a with
    |none=>rw[e] at q4;exact q4.elim
    |some ob =>
    rw[e] at q4;cases ob with
    |dci kvs =>
     rw[JQ] at q4;obtain⟨vs,hH,r⟩:=sh4 a _ e;have le:=le1.trans (le2.trans le4);refine⟨vs,Sum.inl key,hH,(ry.mono le4).int,fun v hv=>?_,fun hn=>?_⟩
     ·have h0:=gF (k:=key) r;cases el:cz key kvs with
      |none=>rw[el,hv] at h0;cases h0
      |some t =>
      rw[el] at q4;obtain⟨v',ev,rv⟩:=iK r el;rw[hv] at ev;cases ev;exact k _ _ _ _ le sh4 rv q4
     have h0:=gF (k:=key) r;cases el:cz key kvs with
     |some t=>rw[el,hn] at h0;cases h0
     |none =>
     rw[el] at q4;exact k _ _ _ _ le sh4 rz q4
    |_=>exact q4.elim
   |_=>exact q4.elim
  |_=>exact d1.elim
 |_=>exact d1.elim
theorem rT {us:List Value}{ns:List Str}(h:StrsAre us ns):∀(z:Str) (m:Nat) (hm:m<us.length),isS z us[m]=decide (ns[m]?=some z):=by
 induction h with
 |nil=>intro z m hm;exact absurd hm (Zy _)
 |cons r t q ih =>
 intro z m hm;cases m with
 |zero =>
  show (r==z)=decide (some r=some z)
  by_cases e:r=z
  ·
   subst e;simp
  ·
   rw[B_ (fun h=>e (G_ h))];exact XQ.mpr e
 |succ m=>exact ih z m (Nat.lt_of_succ_lt_succ hm)
theorem Ca {us:List Value}{ns:List Str}(h:StrsAre us ns):us.length=ns.length:=by
 induction h with
 |nil=>rfl
 |cons r t q ih=>rw[e_,e_,ih]
def ixL (o:Option O3) (z:Str) (H:Hp3) (Q:VK3):Prop:=match o with
 |some (.lst xs)=>oq (cN xs) fun ns=>∃j:Nat,ns[j]?=some z/\(∀m,m<j->ns[m]?≠some z)/\Q (.int j) H
 |_=>False
def Cd:T->List T->Hp3->VK3->Prop:=fun x ts H Q=>∃a z,x=.ref a/\ts=[.str z]/\ixL (H a) z H Q
theorem O5 (a:Addr) (z:Str) (H:Hp3) (Q:VK3):Cd (.ref a) [.str z] H Q=ixL (H a) z H Q:=propext ⟨fun ⟨_,_,e1,e2,h⟩=>by cases e1;cases e2;exact h,fun h=>⟨_,_,rfl,rfl,h⟩⟩
theorem O6 (xs:List T) (z:Str) (H:Hp3) (Q:VK3):ixL (some (.lst xs)) z H Q=oq (cN xs) fun ns=>∃j:Nat,ns[j]?=some z/\(∀m,m<j->ns[m]?≠some z)/\Q (.int j) H:=rfl
theorem eV:ni X "list.index" Cd:=by
 intro pins s Z H x xs v us Q I rx0 rs0 hh;obtain⟨tx,ts,H3,Q3,rx,rs,sh,⟨a,z,rfl,rfl,h⟩,k⟩:=hh;obtain⟨w,rfl,rw'⟩:=rs.one';obtain⟨u,rfl,ru⟩:=vals1 rs0;rw[rw'.str] at ru;obtain⟨tk,rfl⟩:=ru;rw[rx.ref] at rx0;cases rx0;have h':(match H3 a with
  |some (.lst xs)=>oq (cN xs) fun ns=>∃j:Nat,ns[j]?=some z/\(∀m,m<j->ns[m]?≠some z)/\Q3 (.int j) H3
  |_=>False):=h
 split at h'
 ·rename_i ws e1;cases e2:cN ws with
  |none=>rw[e2] at h';exact h'.elim
  |some ns =>
  rw[e2,ig] at h';obtain⟨j,hj,hno,q⟩:=h';obtain⟨ys,e3,ry⟩:=sh a _ e1;obtain⟨hz,its,n,rvs,hl,ho⟩:=I.lstM e3;have hs:=lQ e2 ry rvs;have hln:=Ca hs;have hjl:j<its.length:=by rw[hln];exact (Xr.mp hj).1
  have hsz:sizeLine=16777216:=rfl;refine Y7 F.slot_list_index ⟨_,ho,rfl⟩ F.entry_list_index (F.args_list_index_2 _ _) (SeqAt.list_indexAt a its.toArray n none #[] (.str z tk) (isS z) j (by simpa using hjl) (by omega) ?_ ?_) ⟨ho,fun y hy=>?_,?_⟩
  ·have:=rT hs z j hjl;rw[P_ hj] at this;simpa using this
  ·intro m hm hmj;have hm':m<its.length:=by simpa using hm
   have:=rT hs z m hm';rw[B_ (hno m hmj)] at this;simpa using this
  ·obtain⟨x,t,rfl⟩:=Bm hs y (by simpa using hy);exact SeqAt.EqAt.str_str x t z tk
  exact⟨.int j,H,I.tok _,⟨_,rfl⟩,k _ _ _ _ .refl sh .ofInt q⟩
 exact h'.elim
end
end L3
namespace M
open L2 L3
local macro_rules | `(tactic| walk_at "c") => `(tactic| try dsimp only [pI,List.replicate,D_,Xy,YB,List.nil_append,Xq,XD,Option.getD_some])
local macro_rules | `(tactic| walk_at "n") => `(tactic| (obtain ⟨e⟩:=‹Shut (_ = _)›; subst e; try dsimp only))
def nm0 : String := "ne_eq not_false_eq_true aC vY qU tC3 dC Ja pG vW Iw Ma uh Iz Io Rz Ip Mj RJ zO zN IV pJ Iv vX WL RD rm wj RK Ae ie Mp FZ Mq RL Mr ig q_I WQ Af Ms Mt Ag lR RN RP RQ RV RW RX Jg RZ Jh Ji Sd Sg Sh Sq Mu Ss WR Mv Su Jj Mw Sv Sw q_D Sx Mx Sy SJ Mz SM MF MJ Ga SN Gb MK SQ MN MP MT M3 M4 SX S5 S6 S7 S8 Jk S9 Jl Tc Td Gd Te Ge Gf Tf Tg Ti Tj M5 Tn Gg Jm wF Ah wG Ai aA Mi zU n8 Tr Tu oF Np ur ut uv yz uw Nq ux uA uB yC uC Gn rD rE rF uD rG Ar pX pY pZ rH p7 Gp rJ rK rM uE rN wI decide_true decide_false Bool.not_true Bool.not_false M6 M7 WT at0 at1 at2 at3 List.eraseIdx_cons_zero Int.toNat_natCast vV List.length_map List.length_cons List.length_nil Nat.zero_add Bool.false_eq_true if_false if_true List.getElem?_cons_zero List.getElem?_cons_succ List.set_cons_zero List.set_cons_succ TV TX Nt List.map_cons List.map_nil Py Pz PB Ax Ny Nz N8 Ua Ub Ba NK T4 T5 NP uH Jq Jr Jv Bh Bk Jw CQ JV Js JX CT Gy Jx O7 O8 O9 Pa WX GC GD GF GJ Oc Ug Ud Ue Oe Uh Uj Og Oj Uk Ob N6 N5 TJ TQ Ao Qj Om JD BJ OJ JF JG Uu BK JH JK BL wO jr Ul W0 Jz uL wQ Uo uM Bv Ou Uq Ox uO Oz Ur Us Bx JB JC Uw O2 Ux UG JM JN O4 UL UT BZ JP JQ uH O5 O6 T6 T7 Tw Ng Tz Nh Gh Gi Ni Gj Am TF Gk"
local macro_rules | `(tactic| walk_at "") => do
 let ls <- ((nm0.splitOn " ").toArray.map String.toName).filterM fun n => do return !(<- Lean.Macro.resolveGlobalName n).isEmpty
 let ls <- ls.mapM fun n => let i:=Lean.mkIdent n; `(Lean.Parser.Tactic.simpLemma| $i:ident)
 `(tactic| ((try dsimp only [$[$ls:simpLemma],*]); try simp only [*,$[$ls:simpLemma],*]))
structure isNm (x:Str):Prop where
 lo:1<=x.length
 hi:x.length<=8
 az:∀c∈x.cps.toList,97<=c/\c<=122
structure Nms (ws:List Str):Prop where
 nm:∀x∈ws,isNm x
 nd:ws.Nodup
theorem Nms.nil:Nms []:=⟨fun _ h=>(nomatch h),Y5⟩
theorem Nms.snoc {ws:List Str}{x:Str}(n:Nms ws) (h:isNm x) (hx:x∉ws):Nms (ws++[x]) :=
 ⟨fun y hy=>(E_.mp hy).elim (n.nm y) fun z=>by rw[g_.mp z];exact h,kI n.nd hx⟩
structure Wk where
 tasks:List (Str × Int × List Str)
 orders:List (Str × Str)
 pairs:List (Str × Str × Str)
 row:List Str
def sT (xs:List Str):T:=.tup (xs.map T.str)
def tkT (t:Str × Int × List Str):T:=.tup [.str t.1,.int t.2.1,sT t.2.2]
def orT (o:Str × Str):T:=.tup [.str o.1,.str o.2]
def prT (p:Str × Str × Str):T:=.tup [.str p.1,.str p.2.1,.str p.2.2]
def Wk.enc (W:Wk):T:=.tup [.tup (W.tasks.map tkT),.tup (W.orders.map orT),.tup (W.pairs.map prT),sT W.row]
structure tkOk (t:Str × Int × List Str):Prop where
 nm:isNm t.1
 lo:1<=t.2.1
 hi:t.2.1<10^60
 ks:Nms t.2.2
 kl:t.2.2.length<=4
structure WkOk (W:Wk):Prop where
 t1:1<=W.tasks.length
 t8:W.tasks.length<=8
 tk:∀t∈W.tasks,tkOk t
 nd:(W.tasks.map (·.1)).Nodup
 os:W.orders.length<=28
 od:W.orders.Nodup
 oo:∀o∈W.orders,o.1≠o.2/\o.1∈W.tasks.map (·.1)/\o.2∈W.tasks.map (·.1)
 ps:W.pairs.length<=12
 pd:W.pairs.Nodup
 pp:∀p∈W.pairs,(p.1="with"\/p.1="apart")/\p.2.1≠p.2.2/\p.2.1∈W.tasks.map (·.1)/\p.2.2∈W.tasks.map (·.1)
 r1:1<=W.row.length
 r8:W.row.length<=8
 rn:∀x∈W.row,isNm x
theorem eX {α:Type}{f:α->T}(hf:∀{a b},f a=f b->a=b) {x:α}{xs:List α}:f x∈xs.map f↔x∈xs:=by
 rw[x_];exact⟨fun ⟨y,hy,e⟩=>hf e▸hy,fun h=>⟨x,h,rfl⟩⟩
theorem ju {a b:Str}(h:T.str a=T.str b):a=b:=by injection h
theorem UW {α:Type}{f:α->T}(hf:∀{a b},f a=f b->a=b) {x:α}{xs:List α}:dD true (f x) (xs.map f)=true↔x∉xs:=by
 unfold dD;simp [eX hf]
theorem gG (xs:List Str):(xs.map T.str).all (pl 20)=true:=by rw[S_];intro t ht;obtain⟨x,_,rfl⟩:=x_.mp ht;rfl
theorem O7 (W:Wk) (H:Hp3) (Q:VK3):q9 W.enc (.int 0) H Q=Q (.tup (W.tasks.map tkT)) H:=rfl
theorem O8 (W:Wk) (H:Hp3) (Q:VK3):q9 W.enc (.int 1) H Q=Q (.tup (W.orders.map orT)) H:=rfl
theorem O9 (W:Wk) (H:Hp3) (Q:VK3):q9 W.enc (.int 2) H Q=Q (.tup (W.pairs.map prT)) H:=rfl
theorem Pa (W:Wk) (H:Hp3) (Q:VK3):q9 W.enc (.int 3) H Q=Q (.tup (W.row.map T.str)) H:=rfl
def pick:List Str->Int->List Str
 |[],_=>[]
 |x::r,b=>if b%2=1 then x::pick r (b / 2) else pick r (b / 2)
def tot:List Str->Int->Int
 |[],_=>0
 |_::r,b=>(if b%2=1 then 1 else 0)+2*tot r (b / 2)
def numOf:List Str->List Str->Int
 |[],_=>0
 |x::r,ss=>(if x∈ss then 1 else 0)+2*numOf r ss
theorem fL:∀(ws:List Str) (b:Int),∀x∈pick ws b,x∈ws
 |[],_,x,h=>by cases h
 |y::r,b,x,h=>by
  unfold pick at h
  split at h
  ·
   rcases l_.mp h with rfl | h
   ·
    exact i_
   ·
    exact n_ _ (fL r _ x h)
  ·
   exact n_ _ (fL r _ x h)
theorem j0:∀(ws ss ss':List Str),(∀x∈ws,x∈ss↔x∈ss')->numOf ws ss=numOf ws ss'
 |[],_,_,_=>rfl
 |y::r,ss,ss',h=>by
  have h1:=h y i_
  have h2:=j0 r ss ss' fun x hx=>h x (n_ _ hx)
  simp only[numOf,h2,h1]
theorem lX:∀(ws:List Str) (b:Int),ws.Nodup->numOf ws (pick ws b)=tot ws b
 |[],_,_=>rfl
 |y::r,b,nd=>by
  rw[Xl] at nd
  have ih:=lX r (b / 2) nd.2
  have hy:y∉pick r (b / 2):=fun h=>nd.1 (fL r _ y h)
  by_cases hb:b%2=1
  ·
   have e:numOf r (y::pick r (b / 2))=numOf r (pick r (b / 2)):=j0 r _ _ fun x hx=>by
    have:x≠y:=fun e=>nd.1 (e▸hx)
    simp [this]
   simp only[numOf,tot,pick,hb,if_true,e,ih,l_,true_or]
  ·
   simp only[numOf,tot,pick,hb,Xh,hy,ih]
theorem Ce:∀(ws:List Str) (b:Int),0<=b->b<2^ws.length->tot ws b=b
 |[],b,h0,h1=>by simp at h1;simp only[tot];omega
 |y::r,b,h0,h1=>by
  have h2:b / 2<2^r.length:=by
   rw[e_,YL] at h1
   omega
  have ih:=Ce r (b / 2) (by omega) h2
  simp only[tot,ih]
  split <;> omega
theorem lY:∀(A:List Str) (y:Str) (ss:List Str),numOf (A++[y]) ss=numOf A ss+2^A.length*(if y∈ss then 1 else 0)
 |[],y,ss=>by simp [numOf]
 |x::A,y,ss=>by
  have ih:=lY A y ss
  simp only[YB,numOf,e_,ih,YL]
  generalize (2:Int)^A.length=w
  generalize (if y∈ss then (1:Int) else 0)=z
  rw[Int.mul_add,<- Int.mul_assoc,Int.mul_comm 2 w]
  omega
theorem rW:∀(A B:List Str) (b:Int),pick (A++B) b=pick A b++pick B (b / 2^A.length)
 |[],B,b=>by simp [pick]
 |y::A,B,b=>by
  have ih:=rW A B (b / 2)
  have e:b / 2 / 2^A.length=b / 2^(A.length+1):=by
   rw[YL,Int.mul_comm,Int.ediv_ediv_of_nonneg (by decide)]
  simp only[YB,pick,e_,ih,e]
  split <;> simp
theorem jw (m n:Nat):Builtin.bitAnd (m:Int) (n:Int)=((m &&& n:Nat):Int):=by
 unfold Builtin.bitAnd;rfl
theorem Cg (m n:Nat):Builtin.bitOr (m:Int) (n:Int)=((m ||| n:Nat):Int):=by
 have h:∀z:Nat,decide ((0:Int)<=Builtin.bitNot (z:Int))=false:=fun z=>B_ (by unfold Builtin.bitNot;omega);have g:∀z:Int,Builtin.bitNot (Builtin.bitNot z)=z:=fun z=>by unfold Builtin.bitNot;omega
 unfold Builtin.bitOr Builtin.bitAnd;rw[h,h];simp only[g,YJ]
def b8:List Str->List Str->Nat
 |[],_=>0
 |x::r,ss=>(if x∈ss then 1 else 0)+2*b8 r ss
theorem cg:∀(ns ss:List Str),numOf ns ss=((b8 ns ss:Nat):Int)
 |[],_=>rfl
 |x::r,ss=>by
  have:=cg r ss
  simp only[numOf,b8,this]
  by_cases h:x∈ss <;> simp [h]
theorem G7 (b c a d:Nat) (hb:b<2) (hc:c<2):(b+2*a) &&& (c+2*d)=(if b=1/\c=1 then 1 else 0)+2*(a &&& d):=by
 have h1:((b+2*a) &&& (c+2*d)) / 2=(b+2*a) / 2 &&& (c+2*d) / 2:=Nat.and_div_two;have e1:(b+2*a) / 2=a:=by omega
 have e2:(c+2*d) / 2=d:=by omega
 rw[e1,e2] at h1;have h2:((b+2*a) &&& (c+2*d))%2=1↔(b+2*a)%2=1/\(c+2*d)%2=1:=Nat.and_mod_two_eq_one;by_cases h:b=1/\c=1
 ·rw[if_pos h];have:=h2.mpr ⟨by omega,by omega⟩;omega
 rw[if_neg h];have:¬((b+2*a) &&& (c+2*d))%2=1:=fun z=>h (by have:=h2.mp z;omega);omega
theorem Pb (b c a d:Nat) (hb:b<2) (hc:c<2):(b+2*a) ||| (c+2*d)=(if b=1\/c=1 then 1 else 0)+2*(a ||| d):=by
 have h1:((b+2*a) ||| (c+2*d)) / 2=(b+2*a) / 2 ||| (c+2*d) / 2:=Nat.or_div_two;have e1:(b+2*a) / 2=a:=by omega
 have e2:(c+2*d) / 2=d:=by omega
 rw[e1,e2] at h1;have h2:((b+2*a) ||| (c+2*d))%2=1↔(b+2*a)%2=1\/(c+2*d)%2=1:=Nat.or_mod_two_eq_one;by_cases h:b=1\/c=1
 ·rw[if_pos h];have:=h2.mpr (by omega);omega
 rw[if_neg h];have:¬((b+2*a) ||| (c+2*d))%2=1:=fun z=>h (by have:=h2.mp z;omega);omega
theorem lg (p:Prop) [Decidable p]:(if p then 1 else 0)<2:=by split <;> decide
theorem lZ:∀(ns A B:List Str),b8 ns A &&& b8 ns B=b8 ns (A.filter fun x=>decide (x∈B))
 |[],_,_=>by simp [b8]
 |x::r,A,B=>by
  simp only[b8]
  rw[G7 _ _ _ _ (lg _) (lg _),lZ r A B]
  by_cases h1:x∈A <;> by_cases h2:x∈B <;> simp [h1,h2]
theorem wY:∀(ns A B:List Str),b8 ns A ||| b8 ns B=b8 ns (A++B)
 |[],_,_=>by simp [b8]
 |x::r,A,B=>by
  simp only[b8]
  rw[Pb _ _ _ _ (lg _) (lg _),wY r A B]
  by_cases h1:x∈A <;> by_cases h2:x∈B <;> simp [h1,h2]
theorem jx:∀(ns A B:List Str),b8 ns A=b8 ns B↔∀x∈ns,x∈A↔x∈B
 |[],_,_=>by simp [b8]
 |y::r,A,B=>by
  have ih:=jx r A B
  simp only[b8,l_,forall_eq_or_imp]
  rw[<- ih]
  by_cases h1:y∈A <;> by_cases h2:y∈B <;> simp only[h1,h2,if_true,Xh,iff_true,iff_false,true_iff,false_iff,true_and,not_true,not_false_eq_true,false_and] <;> omega
theorem jy:∀ns:List Str,b8 ns []=0
 |[]=>rfl
 |x::r=>by simp only[b8,Xk,Xh,jy r]
theorem yJ (ns A:List Str):b8 ns A=0↔∀x∈ns,x∉A:=by
 have:=jx ns A [];rw[jy] at this;rw[this];simp
theorem eY (ns A B:List Str):(Builtin.bitAnd (numOf ns A) (numOf ns B)=numOf ns B)↔∀x∈ns,x∈B->x∈A:=by
 rw[cg,cg,jw,lZ];constructor
 ·intro h x hx hB;have:=(jx ns _ _).mp (Int.ofNat.inj h) x hx;exact (R_.mp (this.mpr hB)).1
 intro h;refine T_ Int.ofNat ((jx ns _ _).mpr fun x hx=>?_);rw[R_,p_];exact⟨fun z=>z.2,fun z=>⟨h x hx z,z⟩⟩
theorem jz (ns A B:List Str):(Builtin.bitAnd (numOf ns A) (numOf ns B)=0)↔∀x∈ns,¬(x∈A/\x∈B):=by
 rw[cg,cg,jw,lZ];have e:((b8 ns (A.filter fun x=>decide (x∈B)):Nat):Int)=0↔b8 ns (A.filter fun x=>decide (x∈B))=0:=by omega
 rw[e,yJ];constructor
 ·intro h x hx z;exact h x hx (R_.mpr ⟨z.1,P_ z.2⟩)
 intro h x hx z;have:=R_.mp z;exact h x hx ⟨this.1,Xv this.2⟩
theorem Ci (ns A B:List Str):Builtin.bitOr (numOf ns A) (numOf ns B)=numOf ns (A++B):=by
 rw[cg,cg,cg,Cg,wY]
theorem Cj (ns A:List Str):0<=numOf ns A:=by rw[cg];exact YC _
theorem rY:∀(ns A:List Str),numOf ns A<2^ns.length
 |[],_=>by simp [numOf]
 |x::r,A=>by
  have:=rY r A
  simp only[numOf,e_,YL]
  split <;> omega
theorem rZ:∀(ns:List Str) (A:List Str),ns.Nodup->pick ns (numOf ns A)=ns.filter fun x=>decide (x∈A)
 |[],_,_=>rfl
 |x::r,A,nd=>by
  rw[Xl] at nd
  have ih:=rZ r A nd.2
  have n0:=Cj r A
  by_cases h:x∈A
  ·
   have e1:(1+2*numOf r A)%2=1:=by omega
   have e2:(1+2*numOf r A) / 2=numOf r A:=by omega
   simp only[numOf,h,if_true,pick,e1,e2,ih,Xu,Xz]
  ·
   have e1:¬(0+2*numOf r A)%2=1:=by omega
   have e2:(0+2*numOf r A) / 2=numOf r A:=by omega
   simp only[numOf,h,Xh,pick,e1,e2,ih,Xu,XC,H_]
theorem Ck {ns:List Str}{n:Int}(nd:ns.Nodup) (h0:0<=n) (h1:n<2^ns.length):numOf ns (pick ns n)=n:=by rw[lX ns n nd,Ce ns n h0 h1]
universe u
variable {α:Type u}
inductive TC (R:α->α->Prop):α->α->Prop
 |base {a b:α}:R a b->TC R a b
 |step {a b c:α}:TC R a b->R b c->TC R a c
inductive RT (R:α->α->Prop):α->α->Prop
 |refl {a:α}:RT R a a
 |step {a b c:α}:RT R a b->R b c->RT R a c
theorem TC.trans {R:α->α->Prop}{a b c:α}(h:TC R a b) (g:TC R b c):TC R a c:=by
 induction g with
 |base r=>exact .step h r
 |step _ r ih=>exact .step ih r
theorem TC.rt {R:α->α->Prop}{a b:α}(h:TC R a b):RT R a b:=by
 induction h with
 |base r=>exact .step .refl r
 |step _ r ih=>exact .step ih r
theorem RT.trans {R:α->α->Prop}{a b c:α}(h:RT R a b) (g:RT R b c):RT R a c:=by
 induction g with
 |refl=>exact h
 |step _ r ih=>exact .step ih r
theorem rt_iff {R:α->α->Prop}{a b:α}:RT R a b↔b=a\/TC R a b:=by
 constructor
 ·intro h;induction h with
  |refl=>exact .inl rfl
  |step _ r ih =>
  rcases ih with e | t
  ·subst e;exact .inr (.base r)
  exact .inr (.step t r)
 rintro (e | t)
 ·subst e;exact .refl
 exact t.rt
theorem RT.flip {R:α->α->Prop}{a b:α}(h:RT R a b):RT (fun x y=>R y x) b a:=by
 induction h with
 |refl=>exact .refl
 |step _ r ih=>exact (RT.step (R:=fun x y=>R y x) .refl r).trans ih
theorem G8 {R:α->α->Prop}{a b:α}:RT (fun x y=>R y x) a b↔RT R b a:=⟨fun h=>h.flip,fun h=>h.flip⟩
theorem RT.mono {R S:α->α->Prop}(hs:∀a b,R a b->S a b) {a b:α}(h:RT R a b):RT S a b:=by
 induction h with
 |refl=>exact .refl
 |step _ r ih=>exact .step ih (hs _ _ r)
theorem TC.mono {R S:α->α->Prop}(hs:∀a b,R a b->S a b) {a b:α}(h:TC R a b):TC S a b:=by
 induction h with
 |base r=>exact .base (hs _ _ r)
 |step _ r ih=>exact .step ih (hs _ _ r)
theorem TC.last {R:α->α->Prop}{a b:α}(h:TC R a b):∃c,R c b:=by
 cases h with
 |base r=>exact⟨_,r⟩
 |step _ r=>exact⟨_,r⟩
def fwS (f:α->α->Bool) (m:α):α->α->Bool:=fun a b=>f a b||(f a m&&f m b)
def fw (f:α->α->Bool) (A:List α):α->α->Bool:=A.foldl fwS f
theorem G9 (f:α->α->Bool) (A:List α) (m:α):fw f (A++[m])=fwS (fw f A) m:=by unfold fw;rw[X6];rfl
theorem wZ (f:α->α->Bool) {a b:α}(h:f a b=true):∀A:List α,fw f A a b=true:=by
 intro A;induction A generalizing f with
 |nil=>exact h
 |cons m A ih=>exact ih (fwS f m) (by unfold fwS;rw[h];rfl)
theorem Cm (f:α->α->Bool):∀(A:List α) (a b:α),fw f A a b=true->TC (fun x y=>f x y=true) a b:=by
 intro A;induction A generalizing f with
 |nil=>intro a b h;exact .base h
 |cons m A ih =>
 intro a b h;have h2:=ih (fwS f m) a b h;clear h ih;have one:∀x y,fwS f m x y=true->TC (fun x y=>f x y=true) x y:=by
  intro x y h;unfold fwS at h;rw[YG,L_] at h;rcases h with h | ⟨h1,h2⟩
  ·exact .base h
  exact .step (.base h1) h2
 induction h2 with
 |base r=>exact one _ _ r
 |step _ r ih=>exact ih.trans (one _ _ r)
theorem Pg (f:α->α->Bool) (B:List α):∀k∈B,∀i j,fw f B i k=true->fw f B k j=true->fw f B i j=true:=by
 have key:∀(n:Nat) (B:List α),B.length=n->∀k∈B,∀i j,fw f B i k=true->fw f B k j=true->fw f B i j=true:=by
  intro n;induction n with
  |zero=>intro B hB k hk;rw[X5 hB] at hk;cases hk
  |succ n ih =>
  intro B hB k hk i j h1 h2;rcases List.eq_nil_or_concat B with e | ⟨A,m,e⟩
  ·subst e;cases hB
  rw[List.concat_eq_append] at e;subst e;have hA:A.length=n:=by simpa using hB
  have T:=ih A hA;rw[G9] at h1 h2 ⊢;generalize fw f A=g at *;unfold fwS at *;rw[YG,L_] at *;rcases E_.mp hk with hk | hk
  ·rcases h1 with a | ⟨a,b⟩ <;> rcases h2 with c | ⟨c,d⟩
   ·exact .inl (T k hk i j a c)
   ·exact .inr ⟨T k hk i m a c,d⟩
   ·exact .inr ⟨a,T k hk m j b c⟩
   exact .inr ⟨a,d⟩
  have hk':k=m:=by simpa using hk
  subst hk';have a:g i k=true:=by rcases h1 with a | ⟨a,_⟩ <;> exact a
  have d:g k j=true:=by rcases h2 with c | ⟨_,d⟩ <;> assumption
  exact .inr ⟨a,d⟩
 exact key B.length B rfl
theorem Ph {f:α->α->Bool}{B:List α}(hf:∀a b,f a b=true->b∈B) {a b:α}:fw f B a b=true↔TC (fun x y=>f x y=true) a b:=by
 constructor
 ·exact Cm f B a b
 intro h;induction h with
 |base r=>exact wZ f r B
 |step t r ih =>
 obtain⟨c,hc⟩:=t.last;exact Pg f B _ (hf _ _ hc) _ _ ih (wZ f r B)
theorem U0 {L:List (α × α)}{F:List α}{s x:α}(hs:s∈F) (hc:∀a b,(a,b)∈L->a∈F->b∈F) (h:RT (fun a b=>(a,b)∈L) s x):x∈F:=by
 induction h with
 |refl=>exact hs
 |step _ r ih=>exact hc _ _ r ih
theorem uT [DecidableEq α]:∀{l m:List α},l.Nodup->(∀x∈l,x∈m)->l.length<=m.length:=by
 intro l;induction l with
 |nil=>intro m _ _;exact X8 _
 |cons a l ih =>
 intro m nd hs;rw[Xl] at nd;have ha:=hs a i_;have h:=ih (m:=m.erase a) nd.2 fun x hx=>by have hx':=hs x (n_ _ hx);have hne:x≠a:=fun e=>nd.1 (e▸hx);exact (List.mem_erase_of_ne hne).mpr hx'
 have e:=List.length_erase_of_mem ha;have p:0<m.length:=List.length_pos_of_mem ha;simp only[e_];omega
def mkS (l:List Nat):Str:=⟨l.toArray⟩
theorem dj (l:List Nat):(mkS l).cps.toList=l:=rfl
theorem dM (l:List Nat):(mkS l).length=l.length:=by show (l.toArray).size=_;simp
theorem uU (x:Str):∃l,x=mkS l:=⟨x.cps.toList,by cases x;rfl⟩
theorem xf {a b:List Nat}(h:mkS a=mkS b):a=b:=by have:=T_ (fun x=>x.cps.toList) h;exact this
theorem qg (a b:List Nat):mkS a++mkS b=mkS (a++b):=by
 show (⟨a.toArray++b.toArray⟩:Str)=⟨(a++b).toArray⟩;simp
theorem U3 (l:List Nat) (k:Nat) (h:k<=l.length):Txt.slice (mkS l) none (some (k:Int))=mkS (l.take k):=by
 have e:=StrLaws.sliceText_to (x:=mkS l) (j:=(k:Int)) ⟨YC k,by rw[dj];omega⟩;rw[dj,List.drop_zero,Int.sub_zero,YJ] at e;exact e
theorem Ha (l:List Nat) (k:Nat) (h:k<=l.length):Txt.slice (mkS l) (some (k:Int)) none=mkS (l.drop k):=by
 have e:=StrLaws.sliceText_from (x:=mkS l) (i:=(k:Int)) ⟨YC k,by rw[dj];omega⟩;rw[dj,YJ,Ye (by rw[Yz];omega)] at e;exact e
def j9:List Nat:=[97,98,99,100,101,102,103,104,105,106,107,108,109,110,111,112,113,114,115,116,117,118,119,120,121,122]
theorem Cp:("abcdefghijklmnopqrstuvwxyz":Str)=mkS j9:=by decide +kernel
theorem Hb:∀i:_root_.Fin 26,j9[i.val]?=some (97+i.val):=by decide
theorem Cq (i:Int) (h0:0<=i) (h1:i<26):atI j9 i=some (97+i.toNat):=by
 obtain⟨j,rfl⟩:=Int.eq_ofNat_of_zero_le h0;have hj:j<26:=by omega
 have:=Hb ⟨j,hj⟩;exact bu (by simpa using this)
theorem Hc:∀i:_root_.Fin 26,Builtin.Str.occurrences (mkS j9) (mkS [97+i.val]) 0 26 1=[i.val]:=by decide +kernel
theorem Pj (c:Nat) (h0:97<=c) (h1:c<=122):Builtin.Str.occurrences (mkS j9) (mkS [c]) 0 (mkS j9).length 1=[c - 97]:=by
 have:=Hc ⟨c - 97,by omega⟩;rw[show 97+(c - 97)=c by omega] at this;exact this
theorem JR {l:List Nat}(h1:1<=l.length) (h8:l.length<=8) (h:∀c∈l,97<=c/\c<=122):isNm (mkS l):=⟨by rw[dM];exact h1,by rw[dM];exact h8,by rw[dj];exact h⟩
def tkW (t:Str × Int × List Str):List Str:=([("task":Str),t.1,(toString t.2.1:String)]:List Str)++t.2.2
def tkR (t:Str × Int × List Str):Str:=Txt.join " " (tkW t)
theorem qb {B:Nat}:∀{ys:List Str},(∀y∈ys,y.length<=B)->(ys.map (·.length)).sum<=ys.length*B
 |[],_=>by simp
 |y::r,h=>by
  have h1:=h y i_
  have h2:=qb (ys:=r) fun z hz=>h z (n_ _ hz)
  simp only[D_,ZK,e_,Nat.succ_mul]
  omega
theorem Pk (z:Str) (ys:List Str):(Txt.join z ys).length=(ys.map (·.length)).sum+(ys.length - 1)*z.length:=size_glued z ys
theorem qi:(" ":Str).length=1:=by decide +kernel
theorem xg {z:Str}{ys:List Str}{B n:Nat}(hz:z.length=1) (hn:ys.length<=n) (h:∀y∈ys,y.length<=B):(Txt.join z ys).length<=n*B+n:=by
 rw[Pk,hz];have h1:=qb h;have h2:ys.length*B<=n*B:=Nat.mul_le_mul_right B hn;omega
theorem Hd:("task":Str).length=4:=by decide +kernel
theorem Cr:("order":Str).length=5:=by decide +kernel
theorem Hf:("with":Str).length=4:=by decide +kernel
theorem Cu:("apart":Str).length=5:=by decide +kernel
theorem Pn:("row":Str).length=3:=by decide +kernel
theorem Hg {n:Int}(h1:1<=n) (h:n<10^60):((toString n:String):Str).length<=60:=toString_length_le (by omega) (by decide) h
theorem Cv {t:Str × Int × List Str}(h:tkOk t):(tkW t).length<=7/\∀y∈tkW t,y.length<=60:=by
 unfold tkW;refine⟨by have:=h.kl;simp only[a_,e_,Yv];omega,fun y hy=>?_⟩;rcases E_.mp hy with hy | hy
 ·simp only[l_,Xk,Yo] at hy;rcases hy with rfl | rfl | rfl
  ·rw[Hd];decide
  ·exact J_ h.nm.hi (by decide)
  exact Hg h.lo h.hi
 exact J_ (h.ks.nm y hy).hi (by decide)
theorem Pq {t:Str × Int × List Str}(h:tkOk t):(tkR t).length<=500:=J_ (xg qi (Cv h).1 (Cv h).2) (by decide)
theorem U4 {o:Str × Str}(h1:isNm o.1) (h2:isNm o.2):∀y∈(["order",o.1,o.2]:List Str),y.length<=8:=fun y hy=>by
 simp only[l_,Xk,Yo] at hy;rcases hy with rfl | rfl | rfl
 ·rw[Cr];decide
 ·exact h1.hi
 exact h2.hi
theorem U5 {o:Str × Str × Str}(h0:o.1="with"\/o.1="apart") (h1:isNm o.2.1) (h2:isNm o.2.2):∀y∈([o.1,o.2.1,o.2.2]:List Str),y.length<=8:=fun y hy=>by
 simp only[l_,Xk,Yo] at hy;rcases hy with rfl | rfl | rfl
 ·rcases h0 with h0 | h0
  ·rw[h0,Hf];decide
  rw[h0,Cu];decide
 ·exact h1.hi
 exact h2.hi
theorem U6 {xs:List Str}(h:∀x∈xs,isNm x):∀y∈(([("row":Str)]:List Str)++xs),y.length<=8:=fun y hy=>by
 rcases E_.mp hy with hy | hy
 ·rw[g_.mp hy,Pn];decide
 exact (h y hy).hi
def glue (c:Nat):List (List Nat)->List Nat
 |[]=>[]
 |[x]=>x
 |x::y::r=>x++c::glue c (y::r)
theorem Cw {c:Nat}:∀{x y A B:List Nat},c∉x->c∉y->x++c::A=y++c::B->x=y/\A=B
 |[],[],A,B,_,_,h=>by simp at h;exact⟨rfl,h⟩
 |[],b::y,A,B,_,hy,h=>by
  simp at h
  exact absurd h.1 (fun e=>hy (e▸i_))
 |a::x,[],A,B,hx,_,h=>by
  simp at h
  exact absurd h.1.symm (fun e=>hx (e▸i_))
 |a::x,b::y,A,B,hx,hy,h=>by
  simp only[YB,X7] at h
  obtain⟨e,h⟩:=h
  have:=Cw (fun z=>hx (n_ _ z)) (fun z=>hy (n_ _ z)) h
  exact⟨by rw[e,this.1],this.2⟩
theorem sr {c:Nat}:∀{xs ys:List (List Nat)},xs≠[]->ys≠[]->(∀x∈xs,c∉x)->(∀y∈ys,c∉y)->glue c xs=glue c ys->xs=ys
 |[],_,h,_,_,_,_=>absurd rfl h
 |_,[],_,h,_,_,_=>absurd rfl h
 |[x],[y],_,_,_,_,h=>by rw[show x=y from h]
 |[x],y::y2::r,_,_,hx,_,h=>by
  have h':x=y++c::glue c (y2::r):=h
  exact absurd (show c∈x by rw[h'];simp) (hx x i_)
 |x::x2::r,[y],_,_,_,hy,h=>by
  have h':x++c::glue c (x2::r)=y:=h
  exact absurd (show c∈y by rw[<- h'];simp) (hy y i_)
 |x::x2::r,y::y2::r',_,_,hx,hy,h=>by
  obtain⟨e,h⟩:=Cw (hx x i_) (hy y i_) h
  rw[e,sr (by simp) (by simp) (fun z hz=>hx z (n_ _ hz)) (fun z hz=>hy z (n_ _ hz)) h]
theorem xj (a b:Str):(a++b).cps.toList=a.cps.toList++b.cps.toList:=by
 show (a.cps++b.cps).toList=_;simp
theorem jP (c:Nat):∀xs:List Str,(Str.join ⟨#[c]⟩ xs).cps.toList=glue c (xs.map fun x=>x.cps.toList)
 |[]=>rfl
 |[x]=>rfl
 |x::y::r=>by
  show (x++⟨#[c]⟩++Str.join ⟨#[c]⟩ (y::r)).cps.toList=_
  rw[xj,xj,jP c (y::r)]
  simp [glue]
theorem Hh {a b:Str}(h:a.cps.toList=b.cps.toList):a=b:=by
 obtain⟨l,rfl⟩:=uU a;obtain⟨m,rfl⟩:=uU b;rw[dj,dj] at h;rw[h]
theorem j4:∀{xs ys:List Str},xs.map (fun x=>x.cps.toList)=ys.map (fun x=>x.cps.toList)->xs=ys
 |[],[],_=>rfl
 |[],_::_,h=>by cases h
 |_::_,[],h=>by cases h
 |x::xs,y::ys,h=>by
  simp only[D_,X7] at h
  rw[Hh h.1,j4 h.2]
theorem Cy (x y:Str):Txt.split x y≠[]:=by
 unfold Txt.split;split
 ·simp
 split
 ·simp
 intro h;have:=T_ List.length h;rw[length_partsBetween] at this;simp at this
theorem uV {c:Nat}{ws:List Str}(hn:ws≠[]) (hc:∀w∈ws,c∉w.cps.toList):Txt.split (Str.join ⟨#[c]⟩ ws) ⟨#[c]⟩=ws:=by
 have h1:=StrLaws.join_split (Str.join ⟨#[c]⟩ ws) ⟨#[c]⟩;have h2:=StrLaws.split_free (Str.join ⟨#[c]⟩ ws) c;have h3:=T_ (fun z:Str=>z.cps.toList) h1;simp only[jP] at h3;refine j4 (sr (c:=c) (by simp [Cy]) (by simp [hn]) ?_ ?_ h3)
 ·intro x hx;obtain⟨p,hp,rfl⟩:=x_.mp hx;exact h2 p hp
 intro x hx;obtain⟨p,hp,rfl⟩:=x_.mp hx;exact hc p hp
theorem JS:(" ":Str)=⟨#[32]⟩:=by decide +kernel
theorem JT (z:Str) (ys:List Str):Txt.join z ys=Str.join z ys:=by
 exact PySem.StrLaws.glued_eq_join z ys
theorem Cz {ws:List Str}(hn:ws≠[]) (hc:∀w∈ws,32∉w.cps.toList):Txt.split (Txt.join " " ws) " "=ws:=by
 rw[JT,JS];exact uV hn hc
theorem su {c d:Nat}:∀{xs:List (List Nat)},d∈glue c xs->d=c\/∃x∈xs,d∈x
 |[],h=>by cases h
 |[x],h=>.inr ⟨x,by simp,h⟩
 |x::y::r,h=>by
  have h':d∈x++c::glue c (y::r):=h
  rw[E_,l_] at h'
  rcases h' with h' | h' | h'
  ·
   exact .inr ⟨x,by simp,h'⟩
  ·
   exact .inl h'
  ·
   rcases su h' with e | ⟨z,hz,e⟩
   ·
    exact .inl e
   ·
    exact .inr ⟨z,n_ _ hz,e⟩
theorem Hi {ws:List Str}(hc:∀w∈ws,10∉w.cps.toList):10∉(Txt.join " " ws).cps.toList:=by
 rw[JT,JS,jP];intro h;rcases su h with e | ⟨x,hx,e⟩
 ·exact absurd e (by decide)
 obtain⟨p,hp,rfl⟩:=x_.mp hx;exact hc p hp e
def cleanS (w:Str):Prop:=∀c∈w.cps.toList,48<=c
theorem isNm.clean {x:Str}(h:isNm x):cleanS x:=fun c hc=>by have:=h.az c hc;omega
theorem cleanS.no {w:Str}(h:cleanS w) {c:Nat}(hc:c<48):c∉w.cps.toList:=fun z=>by have:=h c z;omega
theorem Hj:cleanS "task":=by unfold cleanS;decide +kernel
theorem CG:cleanS "order":=by unfold cleanS;decide +kernel
theorem Hk:cleanS "with":=by unfold cleanS;decide +kernel
theorem CJ:cleanS "apart":=by unfold cleanS;decide +kernel
theorem Pu:cleanS "row":=by unfold cleanS;decide +kernel
theorem Hl {n:Int}(h1:1<=n):∃m:Nat,n=m/\1<=m:=⟨n.toNat,by omega,by omega⟩
theorem yK (m:Nat):(((toString ((m:Nat):Int):String):Str)).cps.toList=(Nat.toDigits 10 m).map Char.toNat:=PySem.W.KIN.signs_num m
theorem Hm {m c:Nat}(h:c∈(Nat.toDigits 10 m).map Char.toNat):48<=c/\c<=57:=by
 obtain⟨ch,hch,e⟩:=x_.mp h;have r:=PyProof.Rows.digit_range (Nat.isDigit_of_mem_toDigits (by decide) (by decide) hch);rw[<- e];exact r
theorem Px {n:Int}(h1:1<=n):cleanS ((toString n:String):Str):=by
 obtain⟨m,rfl,_⟩:=Hl h1;intro c hc;rw[yK] at hc;exact (Hm hc).1
end M
namespace L3
open L2
theorem Py (a:T) (r:List T):dG (a::r) (some 1) none=r:=jq (k:=1)
theorem Pz (a b:T) (r:List T):dG (a::b::r) (some 2) none=r:=jq (k:=2)
theorem PB (a b c:T) (r:List T):dG (a::b::c::r) (some 3) none=r:=jq (k:=3)
structure Shut (p:Prop):Prop where
 out:p
theorem aD {t u:TS3}{D:Ends3}{Z:St3}{H:Hp3}(h:∀R,Shut (R=u)->(vY t R) D Z H):(vY t u) D Z H:=h u ⟨rfl⟩
theorem yL {c:TT3}{tb:TS3}{D:Ends3}{Z:St3}{H:Hp3}(W:Nat->St3->Hp3->Prop) (h0:∃m,W m Z H) (h1:∀m Z H,W m Z H->∀(WI:Nat->St3->Hp3->Prop) (TB:TS3) (NX:St3->Hp3->Prop),Shut (WI=W)->Shut (TB=tb)->Shut (NX=D.nx) ->
  c Z H fun b H1=>if b=true then TB { D with nx:=fun Z' H'=>∃m',m'<m/\WI m' Z' H',ct:=fun Z' H'=>∃m',m'<m/\WI m' Z' H',bk:=D.nx} Z H1 else NX Z H1):pH c tb D Z H :=
 ⟨W,h0,fun m Z H w=>h1 m Z H w W tb D.nx ⟨rfl⟩ ⟨rfl⟩ ⟨rfl⟩⟩
theorem cX {α:Type}(enc f:α->T) (p:α->Bool) (as:List α) (rest:St3) {tt:TT3}{te:TE3}{still:Hp3->Prop}{fin:List T->Hp3->Prop}{v:Option T}{H:Hp3}(hst:still H) (hl:as.length<=sizeLine)
  (hc:∀a∈as,∀Q:Bool->Hp3->Prop,Q (p a) H->tt (some (enc a)::rest) H Q)
  (ht:∀a∈as,p a=true->∀Q:VK3,Q (f a) H->te (some (enc a)::rest) H Q) (hfin:fin ((as.filter p).map f) H):cIter3 (dC 0) tt te still fin (as.map enc) [] (v::rest) H:=by
 refine ik (fun r ys Z H'=>∃(rs ds:List α) (v:Option T),Z=v::rest/\r=rs.map enc/\ys=(ds.filter p).map f/\ds++rs=as/\H'=H) ⟨as,[],v,rfl,rfl,rfl,rfl,rfl⟩ ?_ ?_
 ·rintro ys Z H' ⟨rs,ds,v,rfl,hrs,rfl,hsp,rfl⟩;have hrs':rs=[]:=Yx.mp hrs.symm;subst hrs';rw[I_] at hsp;subst hsp;exact⟨hst,by rw[b_];exact J_ (Xf _ _) hl,hfin⟩
 rintro x r ys Z H' N ⟨rs,ds,v,rfl,hrs,rfl,hsp,rfl⟩ hN;cases rs with
 |nil=>cases hrs
 |cons t rs =>
 injection hrs with e1 e2;subst e1 e2;refine⟨hst,?_⟩;show tt (some (enc t)::rest) H' _;refine hc t (by rw[<- hsp];simp) _ ?_;cases hp:p t with
 |true=>rw[if_pos rfl];refine ht t (by rw[<- hsp];simp) hp _ ⟨?_,hN _ _ _ ⟨rs,ds++[t],_,rfl,rfl,by simp [hp],by rw[<- hsp];simp,rfl⟩⟩;have:=T_ List.length hsp;simp only[a_,e_] at this;rw[b_];have:=Xf p ds;omega
 |false =>
 rw[if_neg u_];exact hN _ _ _ ⟨rs,ds++[t],_,rfl,rfl,by simp [hp],by rw[<- hsp];simp,rfl⟩
end L3
namespace M
open L2 L3
local macro_rules | `(tactic| walk_at "c") => `(tactic| try dsimp only [pI,List.replicate,D_,Xy,YB,List.nil_append,Xq,XD,Option.getD_some])
local macro_rules | `(tactic| walk_at "n") => `(tactic| (obtain ⟨e⟩:=‹Shut (_ = _)›; subst e; try dsimp only))
local macro_rules | `(tactic| walk_at "") => do
 let ls <- ((nm0.splitOn " ").toArray.map String.toName).filterM fun n => do return !(<- Lean.Macro.resolveGlobalName n).isEmpty
 let ls <- ls.mapM fun n => let i:=Lean.mkIdent n; `(Lean.Parser.Tactic.simpLemma| $i:ident)
 `(tactic| ((try dsimp only [$[$ls:simpLemma],*]); try simp only [*,$[$ls:simpLemma],*]))
inductive Rw where
 |tk (t:Str × Int × List Str) | od (o:Str × Str) | pr (p:Str × Str × Str)
def Rw.words:Rw->List Str
 |.tk t=>tkW t
 |.od o=>["order",o.1,o.2]
 |.pr p=>[p.1,p.2.1,p.2.2]
def prs:List Rw->List (Str × Str × Str)
 |[]=>[]
 |.pr p::r=>p::prs r
 |_::r=>prs r
inductive RowW:List Str->Prop
 |tk {t:Str × Int × List Str} (h:tkOk t):RowW (tkW t)
 |od {a b:Str} (h1:isNm a) (h2:isNm b):RowW ["order",a,b]
 |pr {z a b:Str} (h0:z="with"\/z="apart") (h1:isNm a) (h2:isNm b):RowW [z,a,b]
 |row {xs:List Str} (h1:1<=xs.length) (h8:xs.length<=8) (h:∀x∈xs,isNm x):RowW (([("row":Str)]:List Str)++xs)
theorem RowW.ne {ws:List Str}(h:RowW ws):ws≠[]:=by cases h <;> simp [tkW]
theorem RowW.clean {ws:List Str}(h:RowW ws):∀w∈ws,cleanS w:=by
 intro w hw;cases h with
 |tk h =>
  rcases E_.mp hw with hw | hw
  ·simp only[l_,Xk,Yo] at hw;rcases hw with rfl | rfl | rfl
   ·exact Hj
   ·exact h.nm.clean
   exact Px h.lo
  exact (h.ks.nm w hw).clean
 |od h1 h2 =>
  simp only[l_,Xk,Yo] at hw;rcases hw with rfl | rfl | rfl
  ·exact CG
  ·exact h1.clean
  exact h2.clean
 |pr h0 h1 h2 =>
  simp only[l_,Xk,Yo] at hw;rcases hw with rfl | rfl | rfl
  ·rcases h0 with rfl | rfl
   ·exact Hk
   exact CJ
  ·exact h1.clean
  exact h2.clean
 |row h1 h8 h =>
 rcases E_.mp hw with hw | hw
 ·rw[g_.mp hw];exact Pu
 exact (h w hw).clean
theorem RowW.split {ws:List Str}(h:RowW ws):Txt.split (Txt.join " " ws) " "=ws:=Cz h.ne fun w hw=>(h.clean w hw).no (by decide)
theorem RowW.len {ws:List Str}(h:RowW ws):(Txt.join " " ws).length<=500:=by
 cases h with
 |tk h=>exact Pq h
 |od h1 h2=>exact J_ (xg qi (n:=3) (by simp) (U4 (o:=(_,_)) h1 h2)) (by decide)
 |pr h0 h1 h2=>exact J_ (xg qi (n:=3) (by simp) (U5 (o:=(_,_,_)) h0 h1 h2)) (by decide)
 |row h1 h8 h=>exact J_ (xg qi (n:=9) (by simp only[a_,q_];omega) (U6 h)) (by decide)
theorem RowW.free {ws:List Str}(h:RowW ws):10∉(Txt.join " " ws).cps.toList:=Hi fun w hw=>(h.clean w hw).no (by decide)
def lkP (ws:List Str) (p:Str × Str × Str):List (Str × Str):=if p.1∈ws then [(p.2.1,p.2.2),(p.2.2,p.2.1)] else []
def lkW (ws:List Str) (W:Wk):List (Str × Str):=W.orders++W.pairs.flatMap (lkP ws)
def lkR (ws:List Str) (W:Wk) (a b:Str):Prop:=(a,b)∈lkW ws W
theorem Hn (ws:List Str) (p:Str × Str × Str):(lkP ws p).length<=2:=by unfold lkP;split <;> simp
theorem lq (ws:List Str):∀ps:List (Str × Str × Str),(ps.flatMap (lkP ws)).length<=2*ps.length
 |[]=>o_ _
 |p::r=>by
  have h1:=Hn ws p
  have h2:=lq ws r
  simp only[ZD,a_,e_]
  omega
theorem xm {ws:List Str}{W:Wk}(h:WkOk W):(lkW ws W).length<=52:=by
 have h1:=lq ws W.pairs;have h2:=h.os;have h3:=h.ps;unfold lkW;rw[a_];omega
theorem CK {ws:List Str}{W:Wk}(h:WkOk W) {a b:Str}(m:(a,b)∈lkW ws W):a∈W.tasks.map (·.1)/\b∈W.tasks.map (·.1):=by
 unfold lkW at m;rcases E_.mp m with m | m
 ·exact (h.oo _ m).2
 obtain⟨p,hp,hm⟩:=List.mem_flatMap.mp m;obtain⟨_,_,q1,q2⟩:=h.pp p hp;unfold lkP at hm;split at hm
 ·simp only[l_,Prod.mk.injEq,Xk,Yo] at hm;rcases hm with ⟨rfl,rfl⟩ | ⟨rfl,rfl⟩
  ·exact⟨q1,q2⟩
  exact⟨q2,q1⟩
 cases hm
def dF (F:List Str):List (Str × T):=F.map fun z=>(z,T.bl true)
theorem lr (z:Str):∀F:List Str,(aU z (dF F)).isSome=decide (z∈F)
 |[]=>rfl
 |y::r=>by
  have ih:=lr z r
  unfold dF at ih ⊢
  simp only[D_,aU]
  by_cases h:y=z
  ·
   simp [h]
  ·
   rw[if_neg h,ih]
   have h':¬z=y:=fun e=>h e.symm
   simp [h']
theorem PJ (z:Str) (F:List Str):((dF F).any fun kv=>decide (kv.1=z))=decide (z∈F):=by
 unfold dF;rw[List.any_map];induction F with
 |nil=>rfl
 |cons y r ih =>
 simp only[Zv,Function.comp_apply,ih];by_cases h:y=z
 ·simp [h]
 have h':¬z=y:=fun e=>h e.symm;simp [h,h']
theorem PK {z:Str}{F:List Str}(h:z∉F):put3 z (T.bl true) (dF F)=dF (F++[z]):=by
 unfold put3;rw[PJ,B_ h,if_neg u_];unfold dF;rw[z_];rfl
theorem PL (F:List Str):(dF F).length=F.length:=b_ _
theorem PN (z:Str):[(z,T.bl true)]=dF [z]:=rfl
theorem CN {x:T}{ts:List T}{H:Hp3}{R:List T->(Hp3->Prop)->Hp3->Prop}(hx:(∃a,x=.ref a/\H a=some (.lst ts))\/x=.tup ts)
  (h:∀still:Hp3->Prop,(still=cL\/∃a,still=cC a ts/\H a=some (.lst ts))->R ts still H):yx x H R:=by
 rcases hx with ⟨a,rfl,e⟩ | rfl
 ·rw[Nk,e,wF];exact h _ (.inr ⟨a,rfl,e⟩)
 rw[Nj];exact h _ (.inl rfl)
def gM (W:Wk) (t:Str):List Str:=(W.tasks.map (·.1)).filter fun x=>@decide (RT (lkR ["with"] W) t x/\RT (lkR ["with"] W) x t) (Classical.propDecidable _)
def gO (W:Wk) (t:Str):List Str:=(W.tasks.map (·.1)).filter fun x=>@decide (RT (lkR ["with"] W) x t/\¬RT (lkR ["with"] W) t x) (Classical.propDecidable _)
def swp (o:Str × Str):Str × Str:=(o.2,o.1)
theorem PP {L:List (Str × Str)}{a b:Str}:RT (fun x y=>(x,y)∈L.map swp) a b↔RT (fun x y=>(x,y)∈L) b a:=by
 have e:(fun x y=>(x,y)∈L.map swp)=fun x y:Str=>(y,x)∈L:=by funext x y;refine propext ⟨fun h=>?_,fun h=>x_.mpr ⟨(y,x),h,rfl⟩⟩;obtain⟨o,ho,eo⟩:=x_.mp h;obtain⟨o1,o2⟩:=o;cases eo;exact ho
 rw[e];exact G8
structure Hs (H:Hp3) (fs:List (Addr × O3)):Prop where
 at':∀q∈fs,H q.1=some q.2
 nd:(fs.map (·.1)).Nodup
theorem Hs.nil {H:Hp3}:Hs H []:=⟨fun _ h=>(nomatch h),Y5⟩
theorem Hs.hd {H:Hp3}{p:Addr}{o:O3}{fs:List (Addr × O3)}(w:Hs H ((p,o)::fs)):H p=some o:=w.at' (p,o) i_
theorem Hs.tl {H:Hp3}{p:Addr × O3}{fs:List (Addr × O3)}(w:Hs H (p::fs)):Hs H fs:=⟨fun q hq=>w.at' q (n_ _ hq),(Xl.mp w.nd).2⟩
theorem Hs.new {H:Hp3}{fs:List (Addr × O3)}(w:Hs H fs) {p:Addr}{o:O3}(hp:H p=none):Hs (up3 H p o) ((p,o)::fs):=by
 have ne:∀q∈fs,q.1≠p:=fun q hq e=>by have:=w.at' q hq;rw[e,hp] at this;cases this
 refine⟨fun q hq=>?_,?_⟩
 ·rcases l_.mp hq with rfl | hq
  ·exact aA
  rw[aC (ne q hq)];exact w.at' q hq
 rw[D_,Xl];refine⟨fun h=>?_,w.nd⟩;obtain⟨q,hq,e⟩:=x_.mp h;exact ne q hq e
theorem Hs.set {H:Hp3}{fs:List (Addr × O3)}{p:Addr}{o:O3}(w:Hs H ((p,o)::fs)) (o':O3):Hs (up3 H p o') ((p,o')::fs):=by
 have nd:=w.nd;rw[D_,Xl] at nd;refine⟨fun q hq=>?_,by rw[D_,Xl];exact nd⟩;rcases l_.mp hq with rfl | hq
 ·exact aA
 have ne:q.1≠p:=fun e=>nd.1 (x_.mpr ⟨q,hq,e⟩);rw[aC ne];exact w.at' q (n_ _ hq)
theorem Hs.sub {H:Hp3}{fs gs:List (Addr × O3)}(w:Hs H fs) (h:gs.Sublist fs):Hs H gs:=⟨fun q hq=>w.at' q (h.subset hq),List.Nodup.sublist (h.map _) w.nd⟩
theorem Hs.of {H:Hp3}{p:Addr}{o:O3}(h:H p=some o):Hs H [(p,o)]:=⟨fun q hq=>by rw[g_.mp hq];exact h,by simp⟩
theorem Hs.le {H H':Hp3}{fs:List (Addr × O3)}(w:Hs H fs) (h:Sub3 H H'):Hs H' fs:=⟨fun q hq=>h _ _ (w.at' q hq),w.nd⟩
def SeqS (H:Hp3) (x:T) (ss:List Str):Prop:=x=sT ss\/∃a,x=.ref a/\H a=some (.lst (ss.map T.str))
theorem Ho {neg:Bool}{y:Str}{x:T}{ss:List Str}{H:Hp3}{Q:VK3}(h:SeqS H x ss) (q:Q (.bl (if neg then !decide (y∈ss) else decide (y∈ss))) H):uo neg (.str y) x H Q:=by
 have e:dD neg (T.str y) (ss.map T.str)=(if neg then !decide (y∈ss) else decide (y∈ss)):=by unfold dD;have:(T.str y∈ss.map T.str)↔y∈ss:=eX ju;simp only[this]
 rcases h with rfl | ⟨a,rfl,ha⟩
 ·show uo neg (.str y) (.tup (ss.map T.str)) H Q;rw[Jg,e];exact⟨rfl,gG ss,q⟩
 rw[Jh,ha,Ji,e];exact⟨rfl,gG ss,q⟩
theorem SeqS.le {H H':Hp3}{x:T}{ss:List Str}(h:SeqS H x ss) (s:Sub3 H H'):SeqS H' x ss:=h.imp id fun ⟨a,e,ha⟩=>⟨a,e,s _ _ ha⟩
def mj (ks:List Str) (k:Str):Bool:=decide (ks=[])||decide (k∈ks)
def iu (W:Wk) (t:Str):List Str:=(W.pairs.filter fun p=>decide (p.1=("apart":Str))&&decide (p.2.1=t)).map (·.2.2)
def okT (W:Wk) (kind:Str) (D S:List Str) (t:Str × Int × List Str):Bool :=
 !decide (t.1∈D)&&mj t.2.2 kind&&@decide (∀x∈gM W t.1,x∈S) (Classical.propDecidable _)&&@decide (∀x∈gO W t.1,x∈S++D) (Classical.propDecidable _)&&@decide (∀x∈iu W t.1,x∉S) (Classical.propDecidable _)
def dz (ts:List (Str × Int × List Str)) (S:List Str):Int:=((ts.filter fun t=>decide (t.1∈S)).map (·.2.1)).sum
def qj (W:Wk) (beat:Int) (kind:Str) (D S:List Str):Bool:=(W.tasks.all fun t=>!decide (t.1∈S)||okT W kind D S t)&&decide (dz W.tasks S<=beat)
def ruT (W:Wk) (ns:List Str) (t:Str × Int × List Str):T:=.tup [.int (numOf ns [t.1]),.int t.2.1,sT t.2.2,.int (numOf ns (gM W t.1)),.int (numOf ns (gO W t.1)),.int (numOf ns (iu W t.1))]
theorem uW (A:List (Str × Int × List Str)) (t:Str × Int × List Str) (S:List Str):dz (A++[t]) S=dz A S+if t.1∈S then t.2.1 else 0:=by
 unfold dz;rw[Xw,z_,List.sum_append];by_cases h:t.1∈S <;> simp [h]
theorem ql {ns A:List Str}{x:Str}(hx:x∈ns):(Builtin.bitAnd (numOf ns A) (numOf ns [x])=numOf ns [x])↔x∈A:=by
 rw[eY];constructor
 ·intro h;exact h x hx (by simp)
 intro h y _ hy;rw[g_.mp hy];exact h
end M
namespace L3
open L2
section
variable {X:Cx}
def ppH (o:Option O3) (a:Addr) (H:Hp3) (Q:VK3):Prop:=match o with
 |some (.lst xs)=>oq (xs[xs.length - 1]?) fun t=>Q t (up3 H a (.lst xs.dropLast))
 |_=>False
def CP:T->List T->Hp3->VK3->Prop:=fun x ts H Q=>match x,ts with
 |.ref a,[]=>ppH (H a) a H Q
 |_,_=>False
theorem CQ (a:Addr) (H:Hp3) (Q:VK3):CP (.ref a) [] H Q=ppH (H a) a H Q:=rfl
theorem JV (xs:List T) (a:Addr) (H:Hp3) (Q:VK3):ppH (some (.lst xs)) a H Q=oq (xs[xs.length - 1]?) fun t=>Q t (up3 H a (.lst xs.dropLast)):=rfl
theorem Reps.dropLast {K:Frag}{H:Hp}{ts:List T}{vs:List V}(r:Reps K H ts vs):Reps K H ts.dropLast vs.dropLast:=by
 rw[List.dropLast_eq_take,List.dropLast_eq_take,r.length];exact r.take _
theorem PQ:ni X "list.pop" CP:=by
 refine MtR.imp Ls ?_;rintro x xs H Q ⟨tx,ts,H3,Q3,rx,rs,sh,h,k⟩;cases tx with
 |ref a =>
  cases ts with
  |cons _ _=>exact h.elim
  |nil =>
  rw[CQ] at h;cases e:H3 a with
  |none=>rw[e] at h;exact h.elim
  |some o =>
  rw[e] at h;cases o with
  |lst ls =>
   rw[JV] at h;obtain⟨ys,hH,r⟩:=sh a _ e;cases e2:ls[ls.length - 1]? with
   |none=>rw[e2] at h;exact h.elim
   |some t =>
   rw[e2,ig] at h;obtain⟨v,hv,rv⟩:=r.get e2;refine⟨a,ys,v,rx.ref,rs.inv0,hH,by rw[<- r.length];exact hv,k _ _ _ _ (bA (by rw[hH];exact trivial)) (sh.wrL hH r.dropLast) (rv.mono (bA (by rw[hH];exact trivial))) h⟩
  |_=>exact h.elim
 |_=>exact h.elim
def eqR (a b:Addr) (o u:Option O3) (H:Hp3) (Q:VK3):Prop:=match o,u with
 |some (.rol xs),some (.lst ys)=>a≠b/\xs.all (pl 20)=true/\ys.all (pl 20)=true/\Q (.bl (decide (xs=ys))) H
 |_,_=>False
def JW:R3:=fun x y H Q=>match x,y with
 |.ref a,.ref b=>eqR a b (H a) (H b) H Q
 |_,_=>False
theorem JX (a b:Addr) (H:Hp3) (Q:VK3):JW (.ref a) (.ref b) H Q=eqR a b (H a) (H b) H Q:=rfl
theorem CT (a b:Addr) (xs ys:List T) (H:Hp3) (Q:VK3):eqR a b (some (.rol xs)) (some (.lst ys)) H Q=(a≠b/\xs.all (pl 20)=true/\ys.all (pl 20)=true/\Q (.bl (decide (xs=ys))) H):=rfl
theorem PX (hu:X.A.units+30<cLine):du X (compareOp .Eq) JW:=by
 intro pins s Z H x y v u Q I rv ru h;obtain⟨tx,ty,H3,Q3,rx,ry,sh,h,k⟩:=h;cases tx with
 |ref a =>
  cases ty with
  |ref b =>
   rw[JX] at h;cases e1:H3 a with
   |none=>rw[e1] at h;exact h.elim
   |some o =>
   cases e2:H3 b with
   |none=>rw[e1,e2] at h;cases o <;> exact h.elim
   |some o2 =>
   rw[e1,e2] at h;cases o with
   |rol ts =>
    cases o2 with
    |lst us =>
     rw[CT] at h;obtain⟨xs,g1,r⟩:=sh.sqL (.inr e1);obtain⟨ys,g2,r'⟩:=sh b _ e2;cases rx.ref;cases ry.ref;cases rv;cases ru;obtain⟨its,rv1,ht,_⟩:=I.list (X:=X) g1;obtain⟨its',rv2,ht',_⟩:=I.list (X:=X) (.of g2);have hl:its.length=ts.length:=by rw[<- rv1.length,<- r.length]
     have hl':its'.length=us.length:=by rw[<- rv2.length,<- r'.length]
     by_cases hsz:ts.length=us.length
     ·refine SeqAt.eq_listAt (e:=fun j=>decide (ts[j]?=us[j]?)) ht.isList ht'.isList (by simp;omega) (by omega) (gY I hu h.2.1 h.2.2.1 r r' rv1 rv2) ⟨.bl _,H,I,rfl,?_⟩;have e:=gZ (ts:=ts) (us:=us);rw[<- hsz,Nat.min_self,beq_self_eq_true,YS] at e;rw[k_,hl,e];exact k _ _ _ _ .refl sh .ofBl h.2.2.2
     refine SeqAt.eq_list_lengthsAt ht.isList ht'.isList (by simp;omega) (by omega) ⟨.bl false,H,I,rfl,?_⟩;have e:decide (ts=us)=false:=B_ fun z=>hsz (by rw[z]);have q:=h.2.2.2;rw[e] at q;exact k _ _ _ _ .refl sh .ofBl q
    |_=>exact h.elim
   |_=>cases o2 <;> exact h.elim
  |_=>exact h.elim
 |_=>exact h.elim
end
end L3
namespace M
open L2 L3
local macro_rules | `(tactic| walk_at "c") => `(tactic| try dsimp only [pI,List.replicate,D_,Xy,YB,List.nil_append,Xq,XD,Option.getD_some])
local macro_rules | `(tactic| walk_at "n") => `(tactic| (obtain ⟨e⟩:=‹Shut (_ = _)›; subst e; try dsimp only))
local macro_rules | `(tactic| walk_at "") => do
 let ls <- ((nm0.splitOn " ").toArray.map String.toName).filterM fun n => do return !(<- Lean.Macro.resolveGlobalName n).isEmpty
 let ls <- ls.mapM fun n => let i:=Lean.mkIdent n; `(Lean.Parser.Tactic.simpLemma| $i:ident)
 `(tactic| ((try dsimp only [$[$ls:simpLemma],*]); try simp only [*,$[$ls:simpLemma],*]))
structure Box (p:Prop):Prop where
 out:p
structure Cl (H:Hp3) (a:Addr):Prop where
 ex:∃ns:List Int,H a=some (.lst (ns.map T.int))/\ns.length<=504
structure Drw (a:Addr) (H H':Hp3):Prop where
 cl:Cl H' a
 off:∀b,b≠a->H' b=H b
theorem Drw.trans {a:Addr}{H H1 H2:Hp3}(x:Drw a H H1) (y:Drw a H1 H2):Drw a H H2:=⟨y.cl,fun b h=>(y.off b h).trans (x.off b h)⟩
theorem Cl.refl {a:Addr}{H:Hp3}(D:Cl H a):Drw a H H:=⟨D,fun _ _=>rfl⟩
theorem Cl.ne {a p:Addr}{H:Hp3}(D:Cl H a) (hp:H p=none):p≠a:=fun e=>by obtain⟨ns,h,_⟩:=D.ex;rw[<- e,hp] at h;cases h
theorem Cl.new {a p:Addr}{H:Hp3}{u:O3}(D:Cl H a) (h:p≠a):Cl (up3 H p u) a:=by
 obtain⟨ns,e,r⟩:=D.ex;exact⟨ns,by rw[aC (Ne.symm h)];exact e,r⟩
def Kep (a:Addr) (H H':Hp3):Prop:=∀b o,H b=some o->b≠a->H' b=some o
theorem Kep.refl {a:Addr}{H:Hp3}:Kep a H H:=fun _ _ h _=>h
theorem Kep.drw {a:Addr}{H H1 H2:Hp3}(x:Kep a H H1) (y:Drw a H1 H2):Kep a H H2:=fun b o h h1=>by rw[y.off b h1];exact x b o h h1
theorem Kep.new {a p:Addr}{H H1:Hp3}{u:O3}(x:Kep a H H1) (hp:H1 p=none):Kep a H (up3 H1 p u):=fun b o h h1=>by
 have:=x b o h h1;rw[aC (aX this hp)];exact this
theorem Kep.at {a p:Addr}{H H1:Hp3}{u:O3}(x:Kep a H H1) (hp:H p=none):Kep a H (up3 H1 p u):=fun b o h h1=>by
 rw[aC (aX h hp)];exact x b o h h1
theorem Kep.sub {a:Addr}{H H1 H2:Hp3}(x:Kep a H H1) (s:Sub3 H1 H2):Kep a H H2:=fun b o h h1=>s b o (x b o h h1)
theorem iM {a:Addr}{H H':Hp3}{Q:VK3}{v:T}(D:Cl H' a) (k:Kep a H H') (q:∀H'',Drw a H H''->Q v H''):Fin3 Q v H':=by
 refine⟨fun b=>if b=a then H' b else H b,fun b o hb=>?_,q _ ⟨?_,fun b h1=>?_⟩⟩
 ·by_cases h:b=a
  ·simp only[h,if_true] at hb ⊢;exact hb
  simp only[h,Xh] at hb;exact k b o hb h
 ·obtain⟨ns,e,r⟩:=D.ex;exact⟨ns,by simp only[if_true];exact e,r⟩
 simp only[h1,Xh]
structure Wt (c:Addr) (H0 H:Hp3) (fs:List (Addr × O3)):Prop where
 cl:Cl H c
 kp:Kep c H0 H
 at':∀p∈fs,H p.1=some p.2/\p.1≠c
theorem Wt.drw {c:Addr}{H0 H H':Hp3}{fs:List (Addr × O3)}(w:Wt c H0 H fs) (d:Drw c H H'):Wt c H0 H' fs:=⟨d.cl,w.kp.drw d,fun p hp=>⟨by rw[d.off _ (w.at' p hp).2];exact (w.at' p hp).1,(w.at' p hp).2⟩⟩
theorem Wt.new {c p:Addr}{H0 H:Hp3}{fs:List (Addr × O3)}{o:O3}(w:Wt c H0 H fs) (hp:H p=none):Wt c H0 (up3 H p o) ((p,o)::fs):=⟨w.cl.new (w.cl.ne hp),w.kp.new hp,fun q hq=>by
 rcases l_.mp hq with rfl | hq
 ·exact⟨aA,w.cl.ne hp⟩
 exact⟨by rw[aC (aX (w.at' q hq).1 hp)];exact (w.at' q hq).1,(w.at' q hq).2⟩⟩
theorem Wt.hd {c p:Addr}{H0 H:Hp3}{o:O3}{fs:List (Addr × O3)}(w:Wt c H0 H ((p,o)::fs)):H p=some o:=(w.at' (p,o) i_).1
theorem Wt.tl {c:Addr}{q:Addr × O3}{H0 H:Hp3}{fs:List (Addr × O3)}(w:Wt c H0 H (q::fs)):Wt c H0 H fs:=⟨w.cl,w.kp,fun p hp=>w.at' p (n_ _ hp)⟩
theorem Wt.set {c p:Addr}{H0 H:Hp3}{o:O3}{fs:List (Addr × O3)}(w:Wt c H0 H ((p,o)::fs)) (hp0:H0 p=none) (hd:∀q∈fs,q.1≠p) (o':O3):Wt c H0 (up3 H p o') ((p,o')::fs) :=
 have hc:=(w.at' (p,o) i_).2
 ⟨w.cl.new hc,w.kp.at hp0,fun q hq=>by
  rcases l_.mp hq with rfl | hq
  ·
   exact⟨aA,hc⟩
  ·
   exact⟨by rw[aC (hd q hq)];exact (w.at' q (n_ _ hq)).1,(w.at' q (n_ _ hq)).2⟩⟩
theorem Wt.fresh {c p:Addr}{H0 H:Hp3}{fs:List (Addr × O3)}(w:Wt c H0 H fs) (hp:H p=none):H0 p=none:=by
 cases e:H0 p with
 |none=>rfl
 |some o=>rw[w.kp p o e (w.cl.ne hp)] at hp;cases hp
def JZ:Sp3:=fun ts H Q=>∃(a:Addr) (ns:List Int),ts=[.ref a]/\H a=some (.rol (ns.map T.int))/\ns.length<=63/\∀(p:Addr) (H':Hp3),Sub3 H H'->H p=none->Cl H' p->Q (.ref p) H'
def mq:Sp3:=fun ts H Q=>∃(d:Addr) (m:Int),ts=[.ref d,.int m]/\0<m/\Cl H d/\∀(n:Int) (H':Hp3),0<=n->n<m->Drw d H H'->Q (.int n) H'
def P0:Sp3:=fun ts H Q=>∃(d:Addr) (m:Int),ts=[.ref d,.int m]/\0<m/\Cl H d/\∀(n:Int) (H':Hp3),0<=n->n<m->Drw d H H'->Q (.int n) H'
theorem fM {d p:Addr}{H H':Hp3}{Q:VK3}{o:O3}(D:Cl H' d) (k:Kep d H H') (hp:H' p=some o) (h0:H p=none) (hd:p≠d) (q:∀H1,Drw d H H1->H1 p=none->Q (.ref p) (up3 H1 p o)):Fin3 Q (.ref p) H':=by
 refine⟨up3 (fun b=>if b=d then H' b else H b) p o,fun b u hb=>?_,q _ ⟨?_,fun b h1=>?_⟩ ?_⟩
 ·by_cases e:b=p
  ·subst e;rw[aA] at hb;rw[hp];exact hb
  rw[aC e] at hb;by_cases h:b=d
  ·simp only[h,if_true] at hb ⊢;exact hb
  simp only[h,Xh] at hb;exact k b u hb h
 ·obtain⟨ns,e,r⟩:=D.ex;exact⟨ns,by simp only[if_true];exact e,r⟩
 ·simp only[h1,Xh]
 simp only[hd,Xh];exact h0
theorem Wt.swap {c p q:Addr}{H0 H:Hp3}{o u:O3}(w:Wt c H0 H [(p,o),(q,u)]):Wt c H0 H [(q,u),(p,o)]:=⟨w.cl,w.kp,fun x hx=>w.at' x (by
 rcases l_.mp hx with rfl | hx
 ·
  simp
 ·
  rw[g_.mp hx];simp)⟩
def Hq:Sp3:=fun ts H Q=>∃(d a:Addr) (xs:List T),ts=[.ref d,.ref a]/\a≠d/\H a=some (.lst xs)/\xs.all (pl 20)=true/\xs.length<=60/\Cl H d/\∀(ys:List T) (H1:Hp3) (p:Addr),ys.Perm xs->Drw d H H1->H1 p=none->Q (.ref p) (up3 H1 p (.lst ys))
theorem Hr {α:Type}{xs:List α}{j:Nat}(h:j<xs.length):(xs[j]::xs.eraseIdx j).Perm xs:=by
 have e:xs=xs.take j++xs[j]::xs.drop (j+1):=by rw[<- Zo h];exact (List.take_append_drop j xs).symm
 rw[List.eraseIdx_eq_take_drop_succ];exact List.perm_middle.symm.trans (by rw[<- e])
theorem Qa {xs:List T}(h:xs.all (pl 20)=true) (j:Nat):(xs.eraseIdx j).all (pl 20)=true:=by
 rw[S_] at h ⊢;exact fun t ht=>h t (List.mem_of_mem_eraseIdx ht)
theorem dm (n:Nat):dh 0 n=(List.range n).map fun (i:Nat)=>T.int (i:Int):=by
 unfold dh;exact Yi fun i _=>by rw[Int.zero_add]
theorem cU {H H':Hp3}{p:Addr}(s:Sub3 H H') (hp:H' p=none):H p=none:=by
 cases e:H p with
 |none=>rfl
 |some o=>rw[s _ _ e] at hp;cases hp
theorem CV (ns:List Int) (hl:ns.length<=63):∃cs:List Int,1<=cs.length/\cs.length<=63/\dG (ns.map T.int) none (some 63)++(List.replicate (if decide (ns.map T.int=[])=true then (1:Int) else 0).toNat [T.int 0]).flatten=cs.map T.int:=by
 have e:dG (ns.map T.int) none (some 63)=ns.map T.int:=by rw[show (63:Int)=((63:Nat):Int) from rfl,M8,Ye (by rw[b_];exact hl)]
 rw[e];cases ns with
 |nil=>exact⟨[0],by decide,by decide,rfl⟩
 |cons n r=>exact⟨n::r,by simp,hl,by simp⟩
structure Nb (H0 H:Hp3) (pc pf:Addr) (cs fs:List Int):Prop where
 sb:Sub3 H0 H
 c:H pc=some (.lst (cs.map T.int))
 f:H pf=some (.lst (fs.map T.int))
 f0:H0 pf=none
 ne:pc≠pf
theorem Nb.new {H0 H:Hp3}{pc pf p:Addr}{cs fs:List Int}{o:O3}(x:Nb H0 H pc pf cs fs) (hp:H p=none):Nb H0 (up3 H p o) pc pf cs fs :=
 ⟨x.sb.trans (Sub3.new hp),by rw[aC (aX x.c hp)];exact x.c,by rw[aC (aX x.f hp)];exact x.f,x.f0,x.ne⟩
theorem Nb.put {H0 H:Hp3}{pc pf:Addr}{cs fs:List Int}(x:Nb H0 H pc pf cs fs) (z:Int):Nb H0 (up3 H pf (.lst (fs.map T.int++[T.int z]))) pc pf cs (fs++[z]) :=
 ⟨fun a u e=>by rw[aC (aX e x.f0)];exact x.sb a u e,by rw[aC x.ne];exact x.c,by rw[aA,z_];rfl,x.f0,x.ne⟩
theorem CW (ns:List Int) (n:Int):((ns++[n]).map T.int)[((ns++[n]).map T.int).length - 1]?=some (T.int n):=by simp
theorem yM (ns:List Int) (n:Int):((ns++[n]).map T.int).dropLast=ns.map T.int:=by simp
def U7:Sp3:=fun ts H Q=>∃(d:Addr) (m:Nat),ts=[.ref d,.int (m:Int)]/\m<=8/\Cl H d/\∀(ls:List Int) (H1:Hp3) (p:Addr),ls.length=m->(∀l∈ls,1<=l/\l<10^60)->Drw d H H1->H1 p=none->Q (.ref p) (up3 H1 p (.lst (ls.map T.int)))
theorem t60:(10:Int)^Int.toNat 60=1000000000000000000000000000000000000000000000000000000000000:=by decide
theorem t58:(10:Int)^Int.toNat 58=10000000000000000000000000000000000000000000000000000000000:=by decide
theorem U8:(10:Int)^60=1000000000000000000000000000000000000000000000000000000000000:=by decide
theorem pig:∀(ws:List Str) (f:Nat->Str),(∀i j,i<=ws.length->j<=ws.length->f i=f j->i=j)->(∀i,i<=ws.length->f i∈ws)->False
 |[],f,_,h=>by have:=h 0 (o_ _);simp at this
 |w::ws,f,inj,h=>by
  rw[e_] at inj h
  by_cases q:∃j,j<=ws.length+1/\f j=w
  ·
   obtain⟨j,hj,e⟩:=q
   refine pig ws (fun i=>if i<j then f i else f (i+1)) (fun a b ha hb hab=>?_) (fun i hi=>?_)
   ·
    try dsimp only at hab
    split at hab <;> split at hab
    ·
     exact inj a b (by omega) (by omega) hab
    ·
     have:=inj a (b+1) (by omega) (by omega) hab;omega
    ·
     have:=inj (a+1) b (by omega) (by omega) hab;omega
    ·
     have:=inj (a+1) (b+1) (by omega) (by omega) hab;omega
   ·
    show (if i<j then f i else f (i+1))∈ws
    split
    ·
     exact (l_.mp (h i (by omega))).resolve_left fun e2=>by have:=inj i j (by omega) hj (e2.trans e.symm);omega
    ·
     exact (l_.mp (h (i+1) (by omega))).resolve_left fun e2=>by have:=inj (i+1) j (by omega) hj (e2.trans e.symm);omega
  ·
   exact pig ws f (fun a b ha hb=>inj a b (by omega) (by omega)) fun i hi=>(l_.mp (h i (by omega))).resolve_left fun e=>q ⟨i,by omega,e⟩
def dg:Nat->Int->List Nat
 |0,_=>[]
 |n+1,l=>(97+(l%26).toNat)::dg n (l / 26)
theorem uX:∀(n:Nat) (l:Int),(dg n l).length=n
 |0,_=>rfl
 |n+1,l=>by rw[dg,e_,uX n]
theorem J0:∀(n:Nat) (l:Int),∀c∈dg n l,97<=c/\c<=122
 |0,_,_,h=>nomatch h
 |n+1,l,c,h=>by
  rw[dg] at h
  have:=XJ l (show (0:Int)<26 by decide)
  rcases l_.mp h with rfl | h
  ·
   omega
  ·
   exact J0 n _ c h
theorem Qc {n:Nat}{num:Int}{i j:Nat}(hi:i<=25) (hj:j<=25) (h:mkS (dg (n+1) (num+i))=mkS (dg (n+1) (num+j))):i=j:=by
 have e:=xf h;rw[dg,dg,X7] at e;have e1:=e.1;have a1:=XM (num+i) (show (26:Int)≠0 by decide);have a2:=XM (num+j) (show (26:Int)≠0 by decide);omega
def U9:Sp3:=fun ts H Q=>∃(sz:Nat) (num:Int) (a:Addr) (ws:List Str),ts=[.int (sz:Int),.int num,.ref a]/\1<=sz/\sz<=8/\H a=some (.lst (ws.map T.str))/\ws.length<=8/\∀x,isNm x->x∉ws->Q (.str x) H
def nmK (l:List Nat) (a s i:Nat):Str:=mkS (l.take a++[97+(((s:Int)+(i:Int))%26).toNat]++l.drop (a+1))
theorem Qd {l:List Nat}{a s i:Nat}(h8:l.length<=8) (ha:a<l.length) (az:∀c∈l,97<=c/\c<=122):isNm (nmK l a s i):=by
 have hlen:(l.take a++[97+(((s:Int)+(i:Int))%26).toNat]++l.drop (a+1)).length=l.length:=by rw[a_,a_,X_,Yz,q_];omega
 refine JR (by rw[hlen];omega) (by rw[hlen];exact h8) fun c hc=>?_;rcases E_.mp hc with hc | hc
 ·rcases E_.mp hc with hc | hc
  ·exact az c (List.mem_of_mem_take hc)
  rw[g_.mp hc];have:=XJ ((s:Int)+(i:Int)) (show (0:Int)<26 by decide);omega
 exact az c (List.mem_of_mem_drop hc)
theorem Ht {l:List Nat}{a s i j:Nat}(hi:i<26) (hj:j<26) (h:nmK l a s i=nmK l a s j):i=j:=by
 have e:=xf h;rw[Xn,Xn,List.append_cancel_left_eq,List.singleton_append,List.singleton_append,X7] at e;have e1:=e.1;have a1:=XM ((s:Int)+(i:Int)) (show (26:Int)≠0 by decide);have a2:=XM ((s:Int)+(j:Int)) (show (26:Int)≠0 by decide);omega
theorem Hu {l:List Nat}{a s m:Nat}(h8:l.length<=8) (ha:a<l.length) (az:∀c∈l,97<=c/\c<=122) (hm:m<=8):Nms ((List.range m).map (nmK l a s)):=by
 refine⟨fun x hx=>?_,?_⟩
 ·obtain⟨i,_,rfl⟩:=x_.mp hx;exact Qd h8 ha az
 rw[List.Nodup,List.pairwise_map];refine Zw (fun {x y} hx hy hne he=>?_) (List.nodup_range (n:=m));have h1:=C_.mp hx;have h2:=C_.mp hy;exact hne (Ht (by omega) (by omega) he)
def Va:Sp3:=fun ts H Q=>∃(d:Addr) (m:Nat),ts=[.ref d,.int (m:Int)]/\1<=m/\m<=8/\Cl H d/\∀(ws:List Str) (H1:Hp3) (p:Addr),ws.length=m->Nms ws->Drw d H H1->H1 p=none->Q (.ref p) (up3 H1 p (.lst (ws.map T.str)))
structure Tb (H0 H:Hp3) (p:Addr) (m:Nat) (as:List Addr):Prop where
 sb:Sub3 H0 H
 l:as.length=m
 t:H p=some (.lst (as.map T.ref))
 r:∀a∈as,∃bs:List Bool,bs.length=m/\H a=some (.lst (bs.map T.bl))
 np:p∉as
 f0:H0 p=none
 fa:∀a∈as,H0 a=none
theorem Tb.put {H0 H:Hp3}{p a:Addr}{m:Nat}{as:List Addr}{bs:List Bool}(x:Tb H0 H p m as) (ha:a∈as) (hb:bs.length=m):Tb H0 (up3 H a (.lst (bs.map T.bl))) p m as:=by
 have hpa:p≠a:=fun e=>x.np (e▸ha);refine⟨fun b u e=>by rw[aC (aX e (x.fa a ha))];exact x.sb b u e,x.l,by rw[aC hpa];exact x.t,fun b hb'=>?_,x.np,x.f0,x.fa⟩;by_cases e:b=a
 ·subst e;exact⟨bs,hb,aA⟩
 obtain⟨cs,h1,h2⟩:=x.r b hb';exact⟨cs,h1,by rw[aC e];exact h2⟩
theorem Tb.at' {H0 H:Hp3}{p:Addr}{m:Nat}{as:List Addr}(x:Tb H0 H p m as) {i:Nat}(hi:i<m):∃(a:Addr) (bs:List Bool),atI (as.map T.ref) (i:Int)=some (.ref a)/\a∈as/\bs.length=m/\H a=some (.lst (bs.map T.bl)):=by
 have hl:i<as.length:=by rw[x.l];exact hi
 obtain⟨bs,h1,h2⟩:=x.r _ (Xp hl);exact⟨as[i],bs,bu (by rw[y_,d_ hl];rfl),Xp hl,h1,h2⟩
theorem xn {bs:List Bool}{j:Nat}(h:j<bs.length):∃b,atI (bs.map T.bl) (j:Int)=some (.bl b):=⟨bs[j],bu (by rw[y_,d_ h];rfl)⟩
def Vb:Sp3:=fun ts H Q=>∃(m:Nat) (a:Addr) (es:List T),ts=[.int (m:Int),.ref a]/\m<=8/\H a=some (.lst es)/\es.all (pl 20)=true/\∀(p:Addr) (as:List Addr) (H':Hp3),Tb H H' p m as->Q (.ref p) H'
def bw (b:Bool):Str:=if b then "with" else "apart"
def pT3 (x:Bool × Nat × Nat):T:=.tup [.str (bw x.1),.int (x.2.1:Int),.int (x.2.2:Int)]
def row2 (b:Bool) (m i:Nat):List (Bool × Nat × Nat):=(List.range m).map fun j=>(b,i,j)
def enm (b:Bool) (m:Nat) (A:List Nat):List (Bool × Nat × Nat):=A.flatMap (row2 b m)
def full (m:Nat):List (Bool × Nat × Nat):=enm true m (List.range m)++enm false m (List.range m)
theorem Hv:∀m:_root_.Fin 9,(full m.val).Nodup:=by decide +kernel
theorem sy (b:Bool) (m:Nat) (A:List Nat) (i:Nat):enm b m (A++[i])=enm b m A++row2 b m i:=by simp [enm]
structure Tq (d:Addr) (H0 H:Hp3) (p:Addr) (m:Nat) (as:List Addr):Prop where
 l:as.length=m
 t:H p=some (.lst (as.map T.ref))
 r:∀a∈as,∃bs:List Bool,bs.length=m/\H a=some (.lst (bs.map T.bl))
 f0:H0 p=none
 fa:∀a∈as,H0 a=none
 nd:p≠d
 na:∀a∈as,a≠d
theorem Tq.drw {d:Addr}{H0 H H':Hp3}{p:Addr}{m:Nat}{as:List Addr}(x:Tq d H0 H p m as) (D:Drw d H H'):Tq d H0 H' p m as :=
 ⟨x.l,by rw[D.off _ x.nd];exact x.t,fun a ha=>by obtain⟨bs,h1,h2⟩:=x.r a ha;exact⟨bs,h1,by rw[D.off _ (x.na a ha)];exact h2⟩,x.f0,x.fa,x.nd,x.na⟩
theorem Tq.new {d q:Addr}{H0 H:Hp3}{p:Addr}{m:Nat}{as:List Addr}{o:O3}(x:Tq d H0 H p m as) (hq:H q=none):Tq d H0 (up3 H q o) p m as :=
 ⟨x.l,by rw[aC (aX x.t hq)];exact x.t,fun a ha=>by obtain⟨bs,h1,h2⟩:=x.r a ha;exact⟨bs,h1,by rw[aC (aX h2 hq)];exact h2⟩,x.f0,x.fa,x.nd,x.na⟩
theorem Tq.at' {d:Addr}{H0 H:Hp3}{p:Addr}{m:Nat}{as:List Addr}(x:Tq d H0 H p m as) {i:Nat}(hi:i<m):∃(a:Addr) (bs:List Bool),atI (as.map T.ref) (i:Int)=some (.ref a)/\a∈as/\bs.length=m/\H a=some (.lst (bs.map T.bl)):=by
 have hl:i<as.length:=by rw[x.l];exact hi
 obtain⟨bs,h1,h2⟩:=x.r _ (Xp hl);exact⟨as[i],bs,bu (by rw[y_,d_ hl];rfl),Xp hl,h1,h2⟩
structure PI (d:Addr) (H0 H:Hp3) (pp pe a:Addr) (ws:List Str) (ps:List (Bool × Nat × Nat)) (es:List T):Prop where
 w:Wt d H0 H [(pp,.lst (ps.map pT3)),(pe,.lst es),(a,.lst (ws.map T.str))]
 ne:pe≠pp
 na:a≠pp
 l12:ps.length<=12
 ea:es.all (pl 20)=true
 el:es.length<=28+2*ps.length
 ok:∀x∈ps,x.2.1≠x.2.2/\x.2.1<ws.length/\x.2.2<ws.length
theorem PI.drw {d:Addr}{H0 H H':Hp3}{pp pe a:Addr}{ws:List Str}{ps:List (Bool × Nat × Nat)}{es:List T}(x:PI d H0 H pp pe a ws ps es) (D:Drw d H H'):PI d H0 H' pp pe a ws ps es:={ x with w:=x.w.drw D}
theorem PI.add {d:Addr}{H0 H:Hp3}{pp pe a q:Addr}{ws:List Str}{ps:List (Bool × Nat × Nat)}{es fs:List T}{y:Bool × Nat × Nat}(x:PI d H0 H pp pe a ws ps es) (p0:H0 pp=none) (h12:ps.length<12) (hy:y.2.1≠y.2.2/\y.2.1<ws.length/\y.2.2<ws.length) {o:O3}{q0:Addr}
  (hq0:up3 H pp (.lst ((ps++[y]).map pT3)) q0=none) (hq:up3 (up3 H pp (.lst ((ps++[y]).map pT3))) q0 o q=none) (fa:fs.all (pl 20)=true) (fl:fs.length=2):PI d H0 (up3 (up3 (up3 H pp (.lst ((ps++[y]).map pT3))) q0 o) q (.lst (es++fs))) pp q a ws (ps++[y]) (es++fs):=by
 have w1:=x.w.set p0 (fun r hr=>by
  rcases l_.mp hr with rfl | hr
  ·
   exact x.ne
  ·
   rw[g_.mp hr];exact x.na) (.lst ((ps++[y]).map pT3))
 have w2:=(w1.new (o:=o) hq0).tl;have w3:=w2.new (o:=.lst (es++fs)) hq;refine⟨⟨w3.cl,w3.kp,fun r hr=>w3.at' r ?_⟩,Ne.symm (aX w2.hd hq),x.na,by rw[a_,q_];omega,by rw[Y_,x.ea,fa];rfl,by have:=x.el;rw[a_,a_,q_,fl];omega,fun z hz=>?_⟩
 ·simp only[l_,Xk,Yo] at hr ⊢;rcases hr with h | h | h
  ·exact .inr (.inl h)
  ·exact .inl h
  exact .inr (.inr (.inr h))
 rcases E_.mp hz with h | h
 ·exact x.ok z h
 rw[g_.mp h];exact hy
theorem PI.add1 {d:Addr}{H0 H:Hp3}{pp pe a:Addr}{ws:List Str}{ps:List (Bool × Nat × Nat)}{es:List T}{y:Bool × Nat × Nat}(x:PI d H0 H pp pe a ws ps es) (p0:H0 pp=none) (h12:ps.length<12) (hy:y.2.1≠y.2.2/\y.2.1<ws.length/\y.2.2<ws.length):PI d H0 (up3 H pp (.lst ((ps++[y]).map pT3))) pp pe a ws (ps++[y]) es:=by
 refine⟨x.w.set p0 (fun r hr=>by
  rcases l_.mp hr with rfl | hr
  ·
   exact x.ne
  ·
   rw[g_.mp hr];exact x.na) _,x.ne,x.na,by rw[a_,q_];omega,x.ea,by have:=x.el;rw[a_,q_];omega,fun z hz=>?_⟩
 rcases E_.mp hz with h | h
 ·exact x.ok z h
 rw[g_.mp h];exact hy
theorem PI.sub {d:Addr}{H0 H H':Hp3}{pp pe a:Addr}{ws:List Str}{ps:List (Bool × Nat × Nat)}{es:List T}(x:PI d H0 H pp pe a ws ps es) (s:Sub3 H H'):PI d H0 H' pp pe a ws ps es:=by
 refine { x with w:=⟨?_,x.w.kp.sub s,fun q hq=>⟨s _ _ (x.w.at' q hq).1,(x.w.at' q hq).2⟩⟩};obtain⟨ns,h1,h2⟩:=x.w.cl.ex;exact⟨ns,s _ _ h1,h2⟩
theorem Tb.tq {d:Addr}{H0 H H':Hp3}{p:Addr}{m:Nat}{as:List Addr}(x:Tb H H' p m as) (c:Cl H d) (k:Kep d H0 H):Tq d H0 H' p m as:=by
 have nd:∀b,H b=none->b≠d:=fun b hb=>c.ne hb;have f0:∀b,H b=none->H0 b=none:=fun b hb=>by
  cases e:H0 b with
  |none=>rfl
  |some o=>rw[k b o e (nd b hb)] at hb;cases hb
 exact⟨x.l,x.t,x.r,f0 _ x.f0,fun a ha=>f0 a (x.fa a ha),nd _ x.f0,fun a ha=>nd a (x.fa a ha)⟩
theorem Tq.set {d q:Addr}{H0 H:Hp3}{p:Addr}{m:Nat}{as:List Addr}{o:O3}(x:Tq d H0 H p m as) (h1:p≠q) (h2:∀a∈as,a≠q):Tq d H0 (up3 H q o) p m as :=
 ⟨x.l,by rw[aC h1];exact x.t,fun a ha=>by obtain⟨bs,g1,g2⟩:=x.r a ha;exact⟨bs,g1,by rw[aC (h2 a ha)];exact g2⟩,x.f0,x.fa,x.nd,x.na⟩
theorem jA {α β:Type}{f:α->β}:∀{ys xs:List β},ys.Perm xs->∀l:List α,xs=l.map f->∃l':List α,l'.Perm l/\ys=l'.map f:=by
 intro ys xs h;induction h with
 |nil=>intro l e;rw[Yx.mp e.symm];exact⟨[],List.Perm.refl _,rfl⟩
 |cons x _ ih =>
  intro l e;cases l with
  |nil=>cases e
  |cons a r =>
  rw[D_,X7] at e;obtain⟨l',h1,h2⟩:=ih r e.2;exact⟨a::l',h1.cons a,by rw[D_,h2,e.1]⟩
 |swap x y t =>
  intro l e;cases l with
  |nil=>cases e
  |cons a r =>
  cases r with
  |nil=>rw[D_,X7] at e;cases e.2
  |cons b r =>
  rw[D_,D_,X7,X7] at e;exact⟨b::a::r,List.Perm.swap a b r,by rw[D_,D_,<- e.1,<- e.2.1,<- e.2.2]⟩
 |trans _ _ ih1 ih2 =>
 intro l e;obtain⟨l2,p2,e2⟩:=ih2 l e;obtain⟨l1,p1,e1⟩:=ih1 l2 e2;exact⟨l1,p1.trans p2,e1⟩
def nmP (ws:List Str) (x:Bool × Nat × Nat):Str × Str × Str:=(bw x.1,ws.getD x.2.1 "",ws.getD x.2.2 "")
theorem fP {ws:List Str}(h:ws.Nodup) {i j:Nat}(hi:i<ws.length) (hj:j<ws.length) (e:ws.getD i ""=ws.getD j ""):i=j:=by
 rw[m_,m_,d_ hi,d_ hj] at e;have e':ws[i]=ws[j]:=e;have pw:=Zq.mp h;rcases Nat.lt_trichotomy i j with q | q | q
 ·exact absurd e' (pw i j hi hj q)
 ·exact q
 exact absurd e'.symm (pw j i hj hi q)
theorem Qe {ws:List Str}(h:ws.Nodup) {ps:List (Bool × Nat × Nat)}(nd:ps.Nodup) (ok:∀x∈ps,x.2.1≠x.2.2/\x.2.1<ws.length/\x.2.2<ws.length):(ps.map (nmP ws)).Nodup:=by
 rw[List.Nodup,List.pairwise_map];refine Zw (fun {x y} hx hy hne he=>hne ?_) nd;have ox:=ok x hx;have oy:=ok y hy;obtain⟨b1,i1,j1⟩:=x;obtain⟨b2,i2,j2⟩:=y;simp only[nmP,Prod.mk.injEq] at he;have e1:i1=i2:=fP h ox.2.1 oy.2.1 he.2.1;have e2:j1=j2:=fP h ox.2.2 oy.2.2 he.2.2;have e3:b1=b2:=by have:=he.1;cases b1 <;> cases b2 <;> first | rfl | (exact absurd this (by decide +kernel))
 rw[e1,e2,e3]
theorem Qf {ws:List Str}(h:ws.Nodup) {x:Bool × Nat × Nat}(o:x.2.1≠x.2.2/\x.2.1<ws.length/\x.2.2<ws.length):((nmP ws x).1="with"\/(nmP ws x).1="apart")/\(nmP ws x).2.1≠(nmP ws x).2.2/\(nmP ws x).2.1∈ws/\(nmP ws x).2.2∈ws:=by
 have mem:∀i,i<ws.length->ws.getD i ""∈ws:=fun i hi=>by rw[m_,d_ hi];exact Xp hi
 refine⟨?_,fun e=>o.1 (fP h o.2.1 o.2.2 e),mem _ o.2.1,mem _ o.2.2⟩;obtain⟨b,i,j⟩:=x;cases b
 ·exact .inr rfl
 exact .inl rfl
theorem getD_at {ws:List Str}{i:Nat}(h:i<ws.length):atI (ws.map T.str) (i:Int)=some (.str (ws.getD i "")):=bu (by rw[y_,d_ h,m_,d_ h];rfl)
theorem uY {α:Type}{ps E:List α}{y:α}(h:ps.Sublist E):(ps++[y]).Sublist (E++[y]):=h.append (List.Sublist.refl _)
theorem uZ {α:Type}{ps E:List α}{y:α}(h:ps.Sublist E):ps.Sublist (E++[y]):=h.trans (List.sublist_append_left _ _)
def Vc:Sp3:=fun ts H Q=>∃(d a o:Addr) (ws:List Str) (es:List T) (lots:Int),ts=[.ref d,.ref a,.ref o,.int lots]/\1<=lots/\lots<=100/\a≠d/\o≠d/\H a=some (.lst (ws.map T.str))/\Nms ws/\ws.length<=8/\H o=some (.lst es)/\es.all (pl 20)=true/\es.length<=28/\Cl H d /\
 ∀(prs:List (Str × Str × Str)) (p:Addr) (as:List Addr) (H':Hp3),prs.length<=12->prs.Nodup->(∀x∈prs,(x.1="with"\/x.1="apart")/\x.2.1≠x.2.2/\x.2.1∈ws/\x.2.2∈ws)->Cl H' d->Kep d H H'->Tq d H H' p ws.length as->Q (.tup [.tup (prs.map prT),.ref p]) H'
theorem Vd (ps:List (Bool × Nat × Nat)):(ps.map pT3).all (pl 20)=true:=by rw[S_];intro t ht;obtain⟨x,_,rfl⟩:=x_.mp ht;rfl
def Ve:Sp3:=fun ts H Q=>∃(d a:Addr) (cm:Str) (ws:List Str),ts=[.ref d,.str cm,.ref a]/\a≠d/\H a=some (.lst (ws.map T.str))/\Nms ws/\ws.length<=8/\isNm cm/\Cl H d/\∀(ks:List Str) (H':Hp3),Nms ks->ks.length<=4->Drw d H H'->Q (.tup (ks.map T.str)) H'
theorem Nms.ins {ws:List Str}{i:Nat}{x:Str}(h:Nms ws) (hx:isNm x) (hn:x∉ws):Nms (ws.take i++x::ws.drop i):=by
 have hp:(ws.take i++x::ws.drop i).Perm (x::ws):=List.perm_middle.trans (by rw[List.take_append_drop]);refine⟨fun y hy=>?_,hp.nodup_iff.mpr (Xl.mpr ⟨hn,h.nd⟩)⟩;rcases l_.mp (hp.mem_iff.mp hy) with rfl | h'
 ·exact hx
 exact h.nm y h'
theorem CZ {ws:List Str}{i:Nat}{x y:Str}(h:y∈ws.take i++x::ws.drop i):y=x\/y∈ws:=by
 have hp:(ws.take i++x::ws.drop i).Perm (x::ws):=List.perm_middle.trans (by rw[List.take_append_drop]);exact l_.mp (hp.mem_iff.mp h)
theorem sE {m i:Nat}{A B:List Nat}(e:List.range m=A++i::B):i=A.length:=by
 have h:=T_ (fun l=>l[A.length]?) e;simp only[F_ (o_ _),Nat.sub_self,Xq] at h;have hl:A.length<m:=by have:=T_ List.length e;simp only[h_,a_,e_] at this;omega
 rw[Xo hl] at h;exact (G_ h).symm
theorem oO {m:Nat}{A B:List Nat}(e:List.range m=A++B):A=List.range A.length:=by
 have h:=T_ (List.take A.length) e;rw[List.take_left',List.take_range] at h
 ·have hl:A.length<=m:=by have:=T_ List.length e;simp only[h_,a_] at this;omega
  rw[Nat.min_eq_left hl] at h;exact h.symm
 rfl
structure KI (d:Addr) (H3 H0 H:Hp3) (pf pc r a t:Addr) (row ws:List Str) (m:Nat) (as:List Addr) (cs:List Str) (ks:List (List Str)):Prop where
 w:Wt d H3 H [(pf,.lst (ks.map sT)),(pc,.lst (cs.map T.str)),(r,.lst (row.map T.str)),(a,.lst (ws.map T.str))]
 tq:Tq d H0 H t m as
 nfc:pf≠pc
 nr:r≠pc/\r≠pf
 na:a≠pc/\a≠pf
 nt:t≠pc/\t≠pf
 ns:∀x∈as,x≠pc/\x≠pf
 c0:H3 pc=none
 f0:H3 pf=none
theorem KI.drw {d:Addr}{H3 H0 H H':Hp3}{pf pc r a t:Addr}{row ws:List Str}{m:Nat}{as:List Addr}{cs:List Str}{ks:List (List Str)}(x:KI d H3 H0 H pf pc r a t row ws m as cs ks) (D:Drw d H H'):KI d H3 H0 H' pf pc r a t row ws m as cs ks:={ x with w:=x.w.drw D,tq:=x.tq.drw D}
theorem KI.new {d q:Addr}{H3 H0 H:Hp3}{pf pc r a t:Addr}{row ws:List Str}{m:Nat}{as:List Addr}{cs:List Str}{ks:List (List Str)}{o:O3}(x:KI d H3 H0 H pf pc r a t row ws m as cs ks) (hq:H q=none):KI d H3 H0 (up3 H q o) pf pc r a t row ws m as cs ks:={ x with w:=(x.w.new hq).tl,tq:=x.tq.new hq}
theorem KI.putf {d:Addr}{H3 H0 H:Hp3}{pf pc r a t:Addr}{row ws:List Str}{m:Nat}{as:List Addr}{cs:List Str}{ks:List (List Str)}(x:KI d H3 H0 H pf pc r a t row ws m as cs ks) (ks':List (List Str)):KI d H3 H0 (up3 H pf (.lst (ks'.map sT))) pf pc r a t row ws m as cs ks' :=
 { x with
  w:=x.w.set x.f0 (fun q hq=>by
   simp only[l_,Xk,Yo] at hq
   rcases hq with rfl | rfl | rfl
   ·
    exact Ne.symm x.nfc
   ·
    exact x.nr.2
   ·
    exact x.na.2) _
  tq:=x.tq.set x.nt.2 fun y hy=>(x.ns y hy).2}
theorem KI.putc {d:Addr}{H3 H0 H:Hp3}{pf pc r a t:Addr}{row ws:List Str}{m:Nat}{as:List Addr}{cs:List Str}{ks:List (List Str)}(x:KI d H3 H0 H pf pc r a t row ws m as cs ks) (cs':List Str):KI d H3 H0 (up3 H pc (.lst (cs'.map T.str))) pf pc r a t row ws m as cs' ks:=by
 refine { x with
  w:=⟨x.w.cl.new (x.w.at' (pc,.lst (cs.map T.str)) (by simp)).2,x.w.kp.at x.c0,fun q hq=>?_⟩
  tq:=x.tq.set x.nt.1 fun y hy=>(x.ns y hy).1}
 simp only[l_,Xk,Yo] at hq;rcases hq with rfl | rfl | rfl | rfl
 ·exact⟨by rw[aC x.nfc];exact (x.w.at' (pf,.lst (ks.map sT)) (by simp)).1,(x.w.at' (pf,.lst (ks.map sT)) (by simp)).2⟩
 ·exact⟨aA,(x.w.at' (pc,.lst (cs.map T.str)) (by simp)).2⟩
 ·exact⟨by rw[aC x.nr.1];exact (x.w.at' (r,.lst (row.map T.str)) (by simp)).1,(x.w.at' (r,.lst (row.map T.str)) (by simp)).2⟩
 exact⟨by rw[aC x.na.1];exact (x.w.at' (a,.lst (ws.map T.str)) (by simp)).1,(x.w.at' (a,.lst (ws.map T.str)) (by simp)).2⟩
def Vf:Sp3:=fun ts H Q=>∃(d r a t:Addr) (row ws:List Str) (m:Nat) (H0:Hp3) (as:List Addr),ts=[.ref d,.ref r,.ref a,.ref t]/\r≠d/\a≠d/\H r=some (.lst (row.map T.str))/\1<=row.length/\row.length<=8/\(∀x∈row,isNm x)/\H a=some (.lst (ws.map T.str))/\Nms ws/\ws.length<=8/\Tq d H0 H t m as/\m<=8/\Cl H d /\
 ∀(ks:List (List Str)) (H1:Hp3) (p:Addr),ks.length=m->(∀k∈ks,Nms k/\k.length<=4)->Drw d H H1->H1 p=none->Q (.ref p) (up3 H1 p (.lst (ks.map sT)))
def tkD (ws:List Str) (ls:List Int) (kk:List (List Str)) (k:Nat):Str × Int × List Str:=(ws.getD k "",ls.getD k 0,kk.getD k [])
def oD (ws:List Str) (tv:List Nat) (x:Nat × Nat):Str × Str:=(ws.getD (tv.getD x.1 0) "",ws.getD (tv.getD x.2 0) "")
theorem getD_mem {α:Type}{l:List α}{d:α}{i:Nat}(h:i<l.length):l.getD i d∈l:=by
 rw[m_,d_ h];exact Xp h
theorem my {tv:List Nat}(h:tv.Nodup) {i j:Nat}(hi:i<tv.length) (hj:j<tv.length) (e:tv.getD i 0=tv.getD j 0):i=j:=by
 rw[m_,m_,d_ hi,d_ hj] at e;have e':tv[i]=tv[j]:=e;have pw:=Zq.mp h;rcases Nat.lt_trichotomy i j with q | q | q
 ·exact absurd e' (pw i j hi hj q)
 ·exact q
 exact absurd e'.symm (pw j i hj hi q)
theorem Hw (ws:List Str) (ls:List Int) (kk:List (List Str)):((List.range ws.length).map (tkD ws ls kk)).map (·.1)=ws:=by
 apply List.ext_getElem?;intro i;rw[y_,y_];by_cases h:i<ws.length
 ·rw[Xo h,d_ h];simp [tkD,m_,d_ h]
 rw[W_ (by simp;omega),W_ (by omega)];rfl
theorem Vg {ws:List Str}{ls:List Int}{kk:List (List Str)}{tv:List Nat}{os:List (Nat × Nat)}{prs:List (Str × Str × Str)}{row:List Str}(hws:Nms ws) (w1:1<=ws.length) (w8:ws.length<=8) (hll:ls.length=ws.length) (hlb:∀l∈ls,1<=l/\l<10^60) (hkk:kk.length=ws.length) (hkb:∀k∈kk,Nms k/\k.length<=4)
  (tvl:tv.length=ws.length) (tvn:tv.Nodup) (tvm:∀x∈tv,x<ws.length) (ol:os.length<=28) (ond:os.Nodup) (oin:∀x∈os,x.1<x.2/\x.2<ws.length) (p12:prs.length<=12) (pnd:prs.Nodup) (pok:∀x∈prs,(x.1="with"\/x.1="apart")/\x.2.1≠x.2.2/\x.2.1∈ws/\x.2.2∈ws)
  (r1:1<=row.length) (r8:row.length<=8) (rn:∀x∈row,isNm x):WkOk ⟨(List.range ws.length).map (tkD ws ls kk),os.map (oD ws tv),prs,row⟩:=by
 have e:=Hw ws ls kk;have tm:∀i,i<ws.length->tv.getD i 0<ws.length:=fun i hi=>tvm _ (getD_mem (by omega));refine⟨by show 1<=((List.range ws.length).map (tkD ws ls kk)).length;rw[b_,h_];exact w1,by show ((List.range ws.length).map (tkD ws ls kk)).length<=8;rw[b_,h_];exact w8,fun t ht=>?_,by show (((List.range ws.length).map (tkD ws ls kk)).map (·.1)).Nodup;rw[e];exact hws.nd,by show (os.map (oD ws tv)).length<=28;rw[b_];exact ol,?_,fun o ho=>?_,p12,pnd,fun q hq=>?_,r1,r8,rn⟩
 ·obtain⟨k,hk,rfl⟩:=x_.mp ht;have hk':=C_.mp hk;have hl:=hlb _ (getD_mem (d:=0) (show k<ls.length by omega));have hkd:=hkb _ (getD_mem (d:=[]) (show k<kk.length by omega));exact⟨hws.nm _ (getD_mem hk'),hl.1,hl.2,hkd.1,hkd.2⟩
 ·show (os.map (oD ws tv)).Nodup;rw[List.Nodup,List.pairwise_map];refine Zw (fun {x y} hx hy hne he=>hne ?_) ond;have ox:=oin x hx;have oy:=oin y hy;obtain⟨i1,j1⟩:=x;obtain⟨i2,j2⟩:=y;simp only at ox oy;simp only[oD,Prod.mk.injEq] at he;have q1:=fP hws.nd (tm i1 (by omega)) (tm i2 (by omega)) he.1;have q2:=fP hws.nd (tm j1 (by omega)) (tm j2 (by omega)) he.2;rw[my tvn (by omega) (by omega) q1,my tvn (by omega) (by omega) q2]
 ·show _/\o.1∈((List.range ws.length).map (tkD ws ls kk)).map (·.1)/\o.2∈((List.range ws.length).map (tkD ws ls kk)).map (·.1);rw[e];obtain⟨x,hx,rfl⟩:=x_.mp ho;have ox:=oin x hx;refine⟨fun h=>?_,getD_mem (tm _ (by omega)),getD_mem (tm _ (by omega))⟩;have:=my tvn (by omega) (by omega) (fP hws.nd (tm _ (by omega)) (tm _ (by omega)) h);omega
 show _/\_/\q.2.1∈((List.range ws.length).map (tkD ws ls kk)).map (·.1)/\q.2.2∈((List.range ws.length).map (tkD ws ls kk)).map (·.1);rw[e];exact pok q hq
theorem J1 {ls:List Int}{i:Nat}(h:i<ls.length):atI (ls.map T.int) (i:Int)=some (.int (ls.getD i 0)):=bu (by rw[y_,d_ h,m_,d_ h];rfl)
theorem Vh {ls:List (List Str)}{i:Nat}(h:i<ls.length):atI (ls.map sT) (i:Int)=some (sT (ls.getD i [])):=bu (by rw[y_,d_ h,m_,d_ h];rfl)
theorem Wt.kep {c:Addr}{H0 H H':Hp3}{fs:List (Addr × O3)}(w:Wt c H0 H fs) (cl:Cl H' c) (kp:Kep c H H'):Wt c H0 H' fs:=⟨cl,fun b o h h1=>kp b o (w.kp b o h h1) h1,fun p hp=>⟨kp _ _ (w.at' p hp).1 (w.at' p hp).2,(w.at' p hp).2⟩⟩
def Vi:Sp3:=fun ts H Q=>∃(d:Addr) (most st:Int),ts=[.ref d,.int most,.int st]/\1<=most/\most<=8/\1<=st/\st<=8/\Cl H d/\∀(W:Wk) (H':Hp3),WkOk W->(W.tasks.length:Int)<=most->(W.row.length:Int)<=st->Drw d H H'->Q W.enc H'
def tri (m:Nat) (A:List Nat):List (Nat × Nat):=A.flatMap fun i=>(List.range' (i+1) (m - (i+1))).map fun j=>(i,j)
theorem Qg:∀m:_root_.Fin 9,(tri m.val (List.range m.val)).Nodup:=by decide +kernel
theorem xq:∀m:_root_.Fin 9,(tri m.val (List.range m.val)).length<=28:=by decide +kernel
theorem Dc (m:Nat) (A:List Nat) (i:Nat):tri m (A++[i])=tri m A++(List.range' (i+1) (m - (i+1))).map fun j=>(i,j):=by simp [tri]
def oT (tv:List Nat) (x:Nat × Nat):T:=.tup [.int ((tv.getD x.1 0:Nat):Int),.int ((tv.getD x.2 0:Nat):Int)]
theorem Vj (i m:Nat):dh ((i:Int)+1) ((m:Int) - ((i:Int)+1)).toNat=(List.range' (i+1) (m - (i+1))).map fun (j:Nat)=>T.int (j:Int):=by
 rw[show ((m:Int) - ((i:Int)+1)).toNat=m - (i+1) by omega];generalize m - (i+1)=n;unfold dh;rw[List.range'_eq_map_range,Xi];exact Yi fun k _=>by show T.int _=T.int _;congr 1
theorem J2 {tv:List Nat}{i:Nat}(h:i<tv.length):atI (tv.map fun (k:Nat)=>T.int (k:Int)) (i:Int)=some (.int ((tv.getD i 0:Nat):Int)):=bu (by rw[y_,d_ h,m_,d_ h];rfl)
theorem J3 (tv:List Nat) (ps:List (Nat × Nat)):(ps.map (oT tv)).all (pl 20)=true:=by rw[S_];intro t ht;obtain⟨x,_,rfl⟩:=x_.mp ht;rfl
theorem Vk (ks:List Nat):(ks.map fun (k:Nat)=>T.int (k:Int)).all (pl 20)=true:=by rw[S_];intro t ht;obtain⟨x,_,rfl⟩:=x_.mp ht;rfl
theorem Hx {m:Nat}{x:Nat × Nat}{A:List Nat}(hA:∀i∈A,i<m) (h:x∈tri m A):x.1<x.2/\x.2<m:=by
 obtain⟨i,hi,hx⟩:=List.mem_flatMap.mp h;obtain⟨j,hj,rfl⟩:=x_.mp hx;have:=List.mem_range'_1.mp hj;exact⟨by omega,by omega⟩
def fu (f:Str->Nat) (n:Str) (v:Nat):Str->Nat:=fun x=>if x=n then v else f x
def mu (m:Nat) (ns:List Str) (f:Str->Nat):Nat:=(ns.map fun n=>m - f n).sum
def shn:Nat->T->Bool
 |_,.int _=>true
 |_,.str _=>true
 |_,.non=>true
 |d+1,.tup ts=>decide (ts.length<=sizeLine)&&ts.all (shn d)
 |_,_=>false
theorem Qh {ts:List T}{i:Nat}(h:i<ts.length):atI ts (i:Int)=some ts[i]:=by
 rw[show atI ts (i:Int)=(ixN ts.length (i:Int)).bind (ts[·]?) from rfl,kO h];exact d_ h
def pW (d:Nat):Sp3:=fun ts H Q=>∃t,d≠0/\ts=[t,t]/\shn (d - 1) t=true/\Q (.bl true) H
theorem rC {P:Program}{w:World}{K:Frag}{mg:Str->Option Value}{base:Heap}{k:Nat}{f:Addr}{fd:FuncData}{ps:List Str}{sp:Sp3}(h:∀ts H Q,¬sp ts H Q):FnOk3 P w K mg base k f fd ps sp :=
 ⟨fun vs H Q E ⟨ts,H3,Q3,_,_,q,_⟩=>absurd q (h _ _ _),fun A outer s H args us vs Q E _ _ _ _ ⟨ts,H3,Q3,_,_,q,_⟩=>absurd q (h _ _ _)⟩
def ld (tk:List (Str × Int × List Str)) (ns:List Str):Int:=((tk.filter (fun t=>dD false (.str t.1) (ns.map T.str))).map (·.2.1)).sum
def W2 (k:Nat) (f:Str->Nat) (xs:List Str):Str->Nat:=xs.foldl (fun f n=>fu f n k) f
def fD (D:List (List Str)):Str->Nat:=D.zipIdx.foldl (fun f p=>W2 p.2 f p.1) (fun _=>0)
def kdOf (ts:List (Str × Int × List Str)) (n:Str):List Str:=match ts.find? (fun t=>decide (t.1=n)) with
 |some t=>t.2.2
 |none=>[]
def W3 (row:List Str) (D:List (List Str)):Option T:=if D.length>row.length then some (.tup [.str "stands",.int (D.length:Int)]) else none
def Qi (ns xs:List Str):Option T:=(xs.find? fun x=>!decide (x∈ns)).map fun x=>.tup [.str "strange",.str x]
def twG:List Str->List Str->Option Str
 |_,[]=>none
 |sn,x::r=>if x∈sn then some x else twG (sn++[x]) r
def twF (xs:List Str):Option T:=(twG [] xs).map fun x=>.tup [.str "twice",.str x]
def W4 (ns xs:List Str):Option T:=(ns.find? fun n=>!decide (n∈xs)).map fun n=>.tup [.str "lost",.str n]
def W5 (f:Str->Nat) (os:List (Str × Str)):Option T:=(os.find? fun o=>decide (f o.2<f o.1)).map fun o=>.tup [.str "order",.str o.1,.str o.2]
def W6 (f:Str->Nat) (ps:List (Str × Str × Str)):Option T:=(ps.find? fun p=>decide (f p.2.1=f p.2.2) != decide (p.1=("with":Str))).map fun p=>.tup [.str p.1,.str p.2.1,.str p.2.2]
def okK (ks:List Str) (k:Str):Bool:=decide (ks=[])||decide (k∈ks)
def Vl (kd:Str->List Str) (row:List Str):Nat->List (List Str)->Option T
 |_,[]=>none
 |k,s::r=>match s.find? fun n=>!okK (kd n) (row.getD k "") with
  |some n=>some (.tup [.str "kind",.str n,.int (k:Int)])
  |none=>Vl kd row (k+1) r
def Vm (g:List Str->Int) (beat:Int):Nat->List (List Str)->Option T
 |_,[]=>none
 |k,s::r=>if g s>beat then some (.tup [.str "beat",.int (k:Int)]) else Vm g beat (k+1) r
def W7 (W:Wk) (D:List (List Str)):Option T:=(W3 W.row D).or ((Qi (W.tasks.map (·.1)) D.flatten).or ((twF D.flatten).or (W4 (W.tasks.map (·.1)) D.flatten)))
def W8 (W:Wk) (beat:Int) (D:List (List Str)):Option T:=(W5 (fD D) W.orders).or ((W6 (fD D) W.pairs).or ((Vl (kdOf W.tasks) W.row 0 D).or (Vm (ld W.tasks) beat 0 D)))
def flt (W:Wk) (beat:Int) (D:List (List Str)):Option T:=(W7 W D).or (W8 W beat D)
theorem str_none {ns xs:List Str}(h:Qi ns xs=none):∀x∈xs,x∈ns:=fun x hx=>by
 unfold Qi at h;rw[Option.map_eq_none_iff,List.find?_eq_none] at h;have:=h x hx;simpa using this
theorem yN {α:Type}(enc:α->T) (xs:List α) {g:TG3}{tb:TS3}{D:Ends3}{still:Hp3->Prop}{Z:St3}{H:Hp3}(I:List α->St3->Hp3->Prop) (h0:I [] Z H) (hn:∀Z H,I xs Z H->still H/\D.nx Z H)
  (hs:∀A x B Z H (N:St3->Hp3->Prop),xs=A++x::B->I A Z H->(∀Z' H',I (A++[x]) Z' H'->N Z' H')->still H/\g (.tup [.int (A.length:Int),enc x]) Z H fun Z2 H2=>tb { D with nx:=N,ct:=N,bk:=D.nx} Z2 H2):iter3 g tb D still (eU 0 (xs.map enc)) Z H:=by
 have:∀(B A:List α) (Z:St3) (H:Hp3),xs=A++B->I A Z H->iter3 g tb D still (eU (A.length:Int) (B.map enc)) Z H:=by
  intro B;induction B with
  |nil=>intro A Z H e h;rw[I_] at e;subst e;exact hn Z H h
  |cons x B ih =>
  intro A Z H e h;refine hs A x B Z H _ e h fun Z' H' h'=>?_;have q:=ih (A++[x]) Z' H' (by rw[e,Xn];rfl) h';rw[a_,q_,Int.natCast_add] at q;exact q
 exact this xs [] Z H rfl h0
theorem Qj (ts:List T) (i:Int) (H:Hp3) (Q:VK3):ixH (some (.rol ts)) i H Q=oq (atI ts i) fun t=>Q t H:=rfl
def Vn:Sp3:=fun ts H Q=>∃tk:List (Str × Int × List Str),ts=[.tup (tk.map tkT)]/\tk.length<=8/\∀p,H p=none->Q (.ref p) (up3 H p (.lst ((tk.map (·.1)).map T.str)))
structure Fil (W:Wk) (beat:Int) (kind:Str) (D S:List Str):Prop where
 one:∀t∈W.tasks,t.1∈S->t.1∉D/\mj t.2.2 kind=true/\(∀x∈gM W t.1,x∈S)/\(∀x∈gO W t.1,x∈S\/x∈D)/\∀x∈iu W t.1,x∉S
 ld:dz W.tasks S<=beat
theorem fil_iff {W:Wk}{beat:Int}{kind:Str}{D S:List Str}:qj W beat kind D S=true↔Fil W beat kind D S:=by
 unfold qj;rw[L_,p_,S_];have key:∀t:Str × Int × List Str,(!decide (t.1∈S)||okT W kind D S t)=true↔(t.1∈S->t.1∉D/\mj t.2.2 kind=true/\(∀x∈gM W t.1,x∈S)/\(∀x∈gO W t.1,x∈S\/x∈D)/\∀x∈iu W t.1,x∉S):=fun t=>by
  unfold okT;rw[YG,ZF,Yt,L_,L_,L_,L_,ZF,Yt,@p_ _ (Classical.propDecidable _),@p_ _ (Classical.propDecidable _),@p_ _ (Classical.propDecidable _)];constructor
  ·intro h hs;obtain⟨⟨⟨⟨h1,h2⟩,h3⟩,h4⟩,h5⟩:=h.resolve_left (fun z=>z hs);exact⟨h1,h2,h3,fun x hx=>E_.mp (h4 x hx),h5⟩
  intro h;by_cases hs:t.1∈S
  ·obtain⟨h1,h2,h3,h4,h5⟩:=h hs;exact .inr ⟨⟨⟨⟨h1,h2⟩,h3⟩,fun x hx=>E_.mpr (h4 x hx)⟩,h5⟩
  exact .inl hs
 exact⟨fun ⟨a,b⟩=>⟨fun t ht=>(key t).mp (a t ht),b⟩,fun h=>⟨fun t ht=>(key t).mpr (h.one t ht),h.ld⟩⟩
theorem sG {ts:List (Str × Int × List Str)}{S S':List Str}(h:∀x,x∈S↔x∈S'):dz ts S=dz ts S':=by
 have e:(ts.filter fun t=>decide (t.1∈S))=ts.filter fun t=>decide (t.1∈S'):=Yu fun t _=>by rw[Zn];exact h t.1
 unfold dz;rw[e]
theorem Fil.congr {W:Wk}{beat:Int}{kind:Str}{D S D' S':List Str}(f:Fil W beat kind D S) (hD:∀x,x∈D↔x∈D') (hS:∀x,x∈S↔x∈S'):Fil W beat kind D' S' :=
 ⟨fun t ht hs=>by
  obtain⟨h1,h2,h3,h4,h5⟩:=f.one t ht ((hS _).mpr hs)
  exact⟨fun z=>h1 ((hD _).mpr z),h2,fun x hx=>(hS x).mp (h3 x hx),fun x hx=>(h4 x hx).imp (hS x).mp (hD x).mp,fun x hx z=>h5 x hx ((hS x).mpr z)⟩,by rw[<- sG hS];exact f.ld⟩
def Fils (W:Wk) (beat:Int) (D:List (List Str)):Prop:=∀k s,D[k]?=some s->Fil W beat (W.row.getD k "") (D.take k).flatten s
theorem Fils.snoc {W:Wk}{beat:Int}{D:List (List Str)}{s:List Str}(h:Fils W beat D) (f:Fil W beat (W.row.getD D.length "") D.flatten s):Fils W beat (D++[s]):=fun k s' e=>by
 by_cases hk:k<D.length
 ·rw[Xj hk] at e;rw[List.take_append_of_le_length (by omega)];exact h k s' e
 rw[F_ (by omega)] at e;have h0:k - D.length=0:=by
  cases hz:k - D.length with
  |zero=>rfl
  |succ n=>rw[hz] at e;simp at e
 have hk':k=D.length:=by omega
 subst hk';rw[h0] at e;simp only[Xq,ZG] at e;subst e;rw[List.take_left']
 ·exact f
 rfl
theorem Fils.nil {W:Wk}{beat:Int}:Fils W beat []:=fun k s e=>by simp at e
def Vo:Sp3:=fun ts H Q=>∃(d:Addr) (W:Wk),ts=[.ref d,W.enc]/\WkOk W/\Cl H d/\∀(n:Int) (H':Hp3),0<=n->Drw d H H'->Q (.int n) H'
theorem u5:∀{l:List Int},(∀x∈l,0<=x)->0<=l.sum
 |[],_=>Yp _
 |x::r,h=>by
  have h1:=h x i_
  have h2:=u5 fun y hy=>h y (n_ _ hy)
  rw[ZK]
  omega
theorem Hy {l:List Int}(h:∀x∈l,0<=x) (i:Nat):0<=l.getD i 0:=by
 rw[m_];cases e:l[i]? with
 |none=>exact Yp _
 |some x=>exact h x (XX e)
theorem Qk {row:List Str}{k:Nat}(h:k<row.length):atI (row.map T.str) (k:Int)=some (.str (row.getD k "")):=bu (by rw[y_,d_ h,m_,d_ h];rfl)
theorem oR:∀ns:List Str,pick ns 0=[]
 |[]=>rfl
 |n::r=>by
  have:=oR r
  unfold pick
  simpa using this
theorem yO (m:Nat):List.range (m+m)=List.range m++(List.range m).map (·+m):=by
 rw[List.range_add];congr 1;exact Yi fun a _=>Nat.add_comm _ _
theorem xu:∀(ws:List Str) (b:Int),(pick ws b).length<=ws.length
 |[],_=>o_ _
 |x::r,b=>by
  unfold pick
  have:=xu r (b / 2)
  split
  ·
   rw[e_,e_];omega
  ·
   rw[e_];omega
def dq (b a:Nat):Bool:=decide (Builtin.bitAnd (b:Int) (a:Int)=(a:Int))
theorem iw (b a:Nat):dq b a=true↔b &&& a=a:=by
 unfold dq;rw[p_,jw];exact Int.ofNat_inj
def nm (W:Wk):List Str:=W.tasks.map (·.1)
def pk (W:Wk) (i:Nat):List Str:=pick (nm W) (i:Int)
def top2 (W:Wk):Nat:=2^W.tasks.length
theorem qm (W:Wk):(nm W).length=W.tasks.length:=b_ _
theorem gH {W:Wk}(hW:WkOk W) {i:Nat}(h:i<top2 W):b8 (nm W) (pk W i)=i:=by
 have h1:((i:Int))<2^(nm W).length:=by
  have e:((2^W.tasks.length:Nat):Int)=(2:Int)^W.tasks.length:=by push_cast;rfl
  rw[qm,<- e];exact Int.ofNat_lt.mpr h
 have:=Ck (ns:=nm W) hW.nd (YC i) h1;rw[cg] at this;exact Int.ofNat.inj this
theorem lu {W:Wk}(A:List Str):b8 (nm W) A<top2 W:=by
 have:=rY (nm W) A;rw[cg,qm] at this;have e:((2^W.tasks.length:Nat):Int)=(2:Int)^W.tasks.length:=by push_cast;rfl
 rw[<- e] at this;exact Int.ofNat_lt.mp this
theorem Vp {W:Wk}(hW:WkOk W) (A:List Str):pk W (b8 (nm W) A)=(nm W).filter fun x=>decide (x∈A):=by
 unfold pk;rw[<- cg];exact rZ _ _ hW.nd
theorem u6 {W:Wk}(hW:WkOk W) {A:List Str}{x:Str}:x∈pk W (b8 (nm W) A)↔x∈nm W/\x∈A:=by
 rw[Vp hW,R_,p_]
theorem De {W:Wk}{i:Nat}{x:Str}(h:x∈pk W i):x∈nm W:=fL _ _ x h
theorem jf:∀(ns A B:List Str),(∀x∈ns,x∈B↔x∉A)->b8 ns A+b8 ns B+1=2^ns.length
 |[],_,_,_=>rfl
 |x::r,A,B,h=>by
  have ih:=jf r A B fun y hy=>h y (n_ _ hy)
  have hx:=h x i_
  simp only[b8,e_,Nat.pow_succ]
  by_cases hA:x∈A
  ·
   rw[if_pos hA,if_neg (fun z=>hx.mp z hA)];omega
  ·
   rw[if_neg hA,if_pos (hx.mpr hA)];omega
theorem iy:∀(ns A B:List Str),(∀x∈ns,¬(x∈A/\x∈B))->b8 ns A+b8 ns B=b8 ns (A++B)
 |[],_,_,_=>rfl
 |x::r,A,B,h=>by
  have ih:=iy r A B fun y hy=>h y (n_ _ hy)
  have hx:=h x i_
  simp only[b8,E_]
  by_cases hA:x∈A
  ·
   have hB:x∉B:=fun z=>hx ⟨hA,z⟩
   simp only[hA,hB,if_true,Xh,Yo];omega
  ·
   by_cases hB:x∈B
   ·
    simp only[hA,hB,if_true,Xh,or_true];omega
   ·
    simp only[hA,hB,Xh,or_self];omega
theorem Df {W:Wk}{A B:List Str}:dq (b8 (nm W) A) (b8 (nm W) B)=true↔∀x∈nm W,x∈B->x∈A:=by
 unfold dq;rw[p_,<- cg,<- cg];exact eY _ _ _
def sH (N:Nat):List Nat:=(List.range (N+1)).filter (dq N)
theorem Hz {N i:Nat}(h:dq N i=true):i<=N:=by
 have:=(iw N i).mp h;have:=Nat.and_le_left (n:=N) (m:=i);omega
theorem xx {N M:Nat}(h:N<M):(List.range M).filter (dq N)=sH N:=by
 obtain⟨k,rfl⟩:∃k,M=(N+1)+k:=⟨M - (N+1),by omega⟩;unfold sH;rw[List.range_add,Xw];have:((List.range k).map fun x=>N+1+x).filter (dq N)=[]:=by rw[Y8];intro a ha;obtain⟨x,_,rfl⟩:=x_.mp ha;intro z;have:=Hz z;omega
 rw[this,I_]
theorem sI {N k i:Nat}(hi:i<2^k):dq N (i+2^k)=(dq N (2^k)&&dq N i):=by
 have hor:i+2^k=2^k ||| i:=by have:=Nat.two_pow_add_eq_or_of_lt hi 1;rw[Nat.mul_one] at this;omega
 rw[Xg,L_,iw,iw,iw,hor];constructor
 ·intro h;have hb:∀j,(N &&& (2^k ||| i)).testBit j=(2^k ||| i).testBit j:=fun j=>by rw[h]
  refine⟨Nat.eq_of_testBit_eq fun j=>?_,Nat.eq_of_testBit_eq fun j=>?_⟩
  ·have:=hb j;rw[Nat.testBit_and,Nat.testBit_or] at this;rw[Nat.testBit_and];cases h1:(2^k).testBit j <;> simp_all
  have:=hb j;rw[Nat.testBit_and,Nat.testBit_or] at this;rw[Nat.testBit_and];cases h1:i.testBit j <;> simp_all
 rintro⟨h1,h2⟩;rw[Nat.and_or_distrib_left,h1,h2]
theorem Dg {N k:Nat}:(List.range (2^(k+1))).filter (dq N)=(List.range (2^k)).filter (dq N)++if dq N (2^k)=true then ((List.range (2^k)).filter (dq N)).map (·+2^k) else []:=by
 rw[show 2^(k+1)=2^k+2^k by rw[Nat.pow_succ];omega,yO,Xw];congr 1;rw[List.filter_map];by_cases h:dq N (2^k)=true
 ·rw[if_pos h];congr 1;refine Yu fun i hi=>?_;show dq N (i+2^k)=dq N i;rw[sI (C_.mp hi),h,Yc]
 rw[if_neg h,Y8.mpr,Xy];intro i hi;show ¬dq N (i+2^k)=true;rw[sI (C_.mp hi),L_];exact fun z=>h z.1
def fil (W:Wk) (beat:Int) (k d i:Nat):Bool:=qj W beat (W.row.getD k "") (pk W d) (pk W i)
def fls (W:Wk) (beat:Int) (k d:Nat):List Nat:=(List.range (top2 W)).filter (fil W beat k d)
theorem fls_mem {W:Wk}{beat:Int}{k d i:Nat}:i∈fls W beat k d↔i<top2 W/\Fil W beat (W.row.getD k "") (pk W d) (pk W i):=by
 unfold fls;rw[R_,C_];unfold fil;rw[fil_iff]
theorem Fil.apart {W:Wk}{beat:Int}{kind:Str}{D S:List Str}(f:Fil W beat kind D S) {x:Str}(hx:x∈nm W) (hs:x∈S):x∉D:=by
 obtain⟨t,ht,rfl⟩:=x_.mp hx;exact (f.one t ht hs).1
theorem yP {W:Wk}{beat:Int}{k d:Nat}(hW:WkOk W) (hd:d<top2 W):(sH (top2 W - 1 - d)).filter (fil W beat k d)=fls W beat k d:=by
 have hN:top2 W - 1 - d<top2 W:=by omega
 rw[<- xx hN];unfold fls;rw[List.filter_filter];refine Yu fun i hi=>?_;have hi':=C_.mp hi;cases h:fil W beat k d i with
 |false=>rfl
 |true =>
 rw[Yc];have f:Fil W beat (W.row.getD k "") (pk W d) (pk W i):=fil_iff.mp h;have e1:top2 W - 1 - d=b8 (nm W) ((nm W).filter fun x=>decide (x∉pk W d)):=by
  have:=jf (nm W) (pk W d) ((nm W).filter fun x=>decide (x∉pk W d)) fun x hx=>by rw[R_,p_];exact⟨fun z=>z.2,fun z=>⟨hx,z⟩⟩
  rw[gH hW hd,qm] at this;unfold top2;omega
 rw[e1,show i=b8 (nm W) (pk W i) from (gH hW hi').symm];rw[Df];intro x hx hs;rw[R_,p_];exact⟨hx,f.apart hx hs⟩
inductive Frw (W:Wk) (beat:Int):List Nat->Nat->Prop
 |nil:Frw W beat [] 0
 |snoc {fs:List Nat} {d f:Nat}:Frw W beat fs d->fs.length<W.row.length->f∈fls W beat fs.length d->Frw W beat (fs++[f]) (d+f)
theorem HB (W:Wk):pk W 0=[]:=oR _
theorem Frw.ok {W:Wk}{beat:Int}{fs:List Nat}{d:Nat}(hW:WkOk W) (r:Frw W beat fs d):d<top2 W/\fs.length<=W.row.length/\(∀x,x∈pk W d↔x∈(fs.map (pk W)).flatten)/\Fils W beat (fs.map (pk W))/\∀f∈fs,f<top2 W:=by
 induction r with
 |nil=>exact⟨Nat.pow_pos (by decide),X8 _,fun x=>by rw[HB];rfl,Fils.nil,fun _ h=>(nomatch h)⟩
 |@snoc fs d f r hl hf ih =>
 obtain⟨hd,_,hm,hF,hb⟩:=ih;obtain⟨hft,F⟩:=fls_mem.mp hf;have e:d+f=b8 (nm W) (pk W d++pk W f):=by rw[<- iy _ _ _ fun x hx z=>F.apart hx z.2 z.1,gH hW hd,gH hW hft]
 refine⟨by rw[e];exact lu _,by rw[a_];exact hl,fun x=>?_,?_,fun g hg=>?_⟩
 ·rw[e,u6 hW,z_,List.flatten_append,E_,E_,<- hm x];simp only[D_,Xy,Ys,List.flatten_nil,I_];exact⟨fun z=>z.2,fun z=>⟨z.elim De De,z⟩⟩
 ·rw[z_];refine hF.snoc ?_;rw[b_];exact F.congr hm fun x=>Iff.rfl
 rcases E_.mp hg with hg | hg
 ·exact hb g hg
 rw[g_.mp hg];exact hft
theorem Frw.of {W:Wk}{beat:Int}(hW:WkOk W):∀{D:List (List Str)},D.length<=W.row.length->(∀s∈D,∀n∈s,n∈nm W)->Fils W beat D->Frw W beat (D.map (b8 (nm W))) (b8 (nm W) D.flatten):=by
 intro D;induction hl:D.length generalizing D with
 |zero=>intro _ _ _;rw[List.length_eq_zero_iff.mp hl,Xy,List.flatten_nil,jy];exact .nil
 |succ m ih =>
 intro hr hs F;obtain⟨A,l,rfl⟩:∃A l,D=A++[l]:=⟨D.dropLast,D.getLast (by intro z;rw[z] at hl;cases hl),(List.dropLast_concat_getLast _).symm⟩;have hA:A.length=m:=by simp at hl;exact hl
 have FA:Fils W beat A:=fun k s e=>by
  have hk:k<A.length:=by
   rcases Nat.lt_or_ge k A.length with z | z
   ·exact z
   rw[W_ z] at e;cases e
  have:=F k s (by rw[Xj hk];exact e)
  rwa [List.take_append_of_le_length (by omega)] at this
 have r:=ih hA (by omega) (fun s h=>hs s (Xx _ h)) FA;have f:=F A.length l (by rw[F_ (o_ _)];simp);rw[List.take_left' rfl] at f;have hln:=hs l (by simp);have hAn:∀n∈A.flatten,n∈nm W:=fun n hn=>by obtain⟨s,h,hn⟩:=List.mem_flatten.mp hn;exact hs s (Xx _ h) n hn
 have:=Frw.snoc r (by rw[b_];omega) (f:=b8 (nm W) l) (fls_mem.mpr ⟨lu _,by
  rw[b_]
  exact f.congr (fun x=>by rw[u6 hW];exact⟨fun z=>⟨hAn x z,z⟩,fun z=>z.2⟩) fun x=>by rw[u6 hW];exact⟨fun z=>⟨hln x z,z⟩,fun z=>z.2⟩⟩)
 rw[iy _ _ _ fun x hx z=>f.apart hx z.2 z.1] at this;rw[z_,List.flatten_append];simpa using this
theorem yQ {W:Wk}{A:List Str}(h:∀x∈nm W,x∈A):b8 (nm W) A=top2 W - 1:=by
 have:=jf (nm W) A [] fun y hy=>by simp [h y hy]
 rw[jy,qm] at this;unfold top2;omega
def cI (i:Nat):T:=.int (i:Int)
def wkF (W:Wk) (beat:Int) (p:Addr):List (Str × T):=[("works",W.enc),("beat",.int beat),("rules",.ref p),("whole",.int ((top2 W:Int) - 1))]
structure Wlk (C:Addr) (W:Wk) (beat:Int) (H:Hp3) (a:Addr):Prop where
 ex:∃p,H a=some (.ins C (wkF W beat p))/\H p=some (.lst (W.tasks.map (ruT W (W.tasks.map (·.1)))))
theorem Wlk.sub {C:Addr}{W:Wk}{beat:Int}{H H':Hp3}{a:Addr}(h:Wlk C W beat H a) (s:Sub3 H H'):Wlk C W beat H' a:=by
 obtain⟨p,h1,h2⟩:=h.ex;exact⟨p,s _ _ h1,s _ _ h2⟩
theorem Dh {W:Wk}{beat:Int}{p:Addr}:aU "works" (wkF W beat p)=some W.enc:=rfl
theorem HD {W:Wk}{beat:Int}{p:Addr}:aU "beat" (wkF W beat p)=some (.int beat):=by unfold wkF aU;rw[if_neg (by decide +kernel)];unfold aU;rw[if_pos rfl]
theorem sJ {W:Wk}{beat:Int}{p:Addr}:aU "rules" (wkF W beat p)=some (.ref p):=by unfold wkF aU;rw[if_neg (by decide +kernel)];unfold aU;rw[if_neg (by decide +kernel)];unfold aU;rw[if_pos rfl]
theorem Di {W:Wk}{beat:Int}{p:Addr}:aU "whole" (wkF W beat p)=some (.int ((top2 W:Int) - 1)):=by unfold wkF aU;rw[if_neg (by decide +kernel)];unfold aU;rw[if_neg (by decide +kernel)];unfold aU;rw[if_neg (by decide +kernel)];unfold aU;rw[if_pos rfl]
theorem J4 {W:Wk}{beat:Int}{p:Addr}{m:Str}(h:m∉(["works","beat","rules","whole"]:List Str)):aU m (wkF W beat p)=none:=by
 simp only[l_,Xk,Yo,not_or] at h;unfold wkF;simp only[aU];rw[if_neg (Ne.symm h.1),if_neg (Ne.symm h.2.1),if_neg (Ne.symm h.2.2.1),if_neg (Ne.symm h.2.2.2)]
theorem Dj {W:Wk}(hW:WkOk W) {i:Nat}(h:i<top2 W):numOf (W.tasks.map (·.1)) (pk W i)=(i:Int):=by
 rw[cg];exact T_ Int.ofNat (gH hW h)
theorem qp {W:Wk}(hW:WkOk W):top2 W<=256:=Yq (n:=2) (by decide) hW.t8
theorem jB (W:Wk):0<top2 W:=Nat.pow_pos (by decide)
def J5:Sp3:=fun ts H Q=>∃N:Nat,ts=[.int (N:Int)]/\N<256/\∀p,H p=none->Q (.ref p) (up3 H p (.lst ((sH N).map cI)))
def Vq (C:Addr):Sp3:=fun ts H Q=>∃(a:Addr) (W:Wk) (beat:Int),ts=[.ref a,W.enc,.int beat]/\WkOk W/\H a=some (.ins C [])/\∀H',(∀b o,b≠a->H b=some o->H' b=some o)->Wlk C W beat H' a->Q .non H'
def Vr (C:Addr):Sp3:=fun ts H Q=>∃(a:Addr) (W:Wk) (beat:Int) (k d:Nat),ts=[.ref a,.int (k:Int),.int (d:Int)]/\WkOk W/\Wlk C W beat H a/\k<W.row.length/\d<top2 W/\∀p,H p=none->Q (.ref p) (up3 H p (.lst ((fls W beat k d).map cI)))
def J6 (C:Addr):Sp3:=fun ts H Q=>∃(a:Addr) (W:Wk) (beat:Int) (i:Nat),ts=[.ref a,.int (i:Int)]/\WkOk W/\Wlk C W beat H a/\i<top2 W/\Q (.int (dz W.tasks (pk W i))) H
section
variable {α:Type}
def bz (k:Nat):List (Nat × α)->Option α
 |[]=>none
 | (k',v)::r=>if k'=k then some v else bz k r
def putN (k:Nat) (v:α) (E:List (Nat × α)):List (Nat × α) :=
 if (E.any fun e=>decide (e.1=k))=true then E.map (fun e=>if e.1=k then (e.1,v) else e) else E++[(k,v)]
def dI (enc:α->T) (E:List (Nat × α)):List (Int × T):=E.map fun e=>((e.1:Int),enc e.2)
theorem u9 (enc:α->T) (E:List (Nat × α)):(dI enc E).length=E.length:=b_ _
theorem iQ (enc:α->T) (k:Nat):∀E:List (Nat × α),cz (k:Int) (dI enc E)=(bz k E).map enc
 |[]=>rfl
 | (k',v)::r=>by
  have ih:=iQ enc k r
  unfold dI at ih ⊢
  rw[D_]
  unfold cz bz
  by_cases h:k'=k
  ·
   rw[if_pos h,if_pos (show ((k':Nat):Int)=(k:Int) by rw[h])];rfl
  ·
   rw[if_neg h,if_neg (show ¬((k':Nat):Int)=(k:Int) by omega),ih]
theorem Dk (enc:α->T) (k:Nat) (v:α) (E:List (Nat × α)):nj (k:Int) (enc v) (dI enc E)=dI enc (putN k v E):=by
 have e1:((dI enc E).any fun kv=>decide (kv.1=(k:Int)))=E.any fun e=>decide (e.1=k):=by unfold dI;rw[List.any_map];congr 1;funext e;show decide ((e.1:Int)=(k:Int))=decide (e.1=k);rw[Zn];omega
 unfold nj putN;rw[e1];split
 ·unfold dI;rw[Xi,Xi];refine Yi fun e _=>?_;show (if (e.1:Int)=(k:Int) then ((e.1:Int),enc v) else ((e.1:Int),enc e.2))=_;show _=((((if e.1=k then (e.1,v) else e).1:Nat):Int),enc (if e.1=k then (e.1,v) else e).2);by_cases h:e.1=k
  ·rw[if_pos h,if_pos (by rw[h])]
  rw[if_neg h,if_neg (by omega)]
 unfold dI;rw[z_];rfl
theorem fU {k:Nat}{v:α}:∀{E:List (Nat × α)},bz k E=some v->(k,v)∈E
 | (k',v')::r,h=>by
  unfold bz at h
  by_cases e:k'=k
  ·
   rw[if_pos e] at h;cases h;subst e;exact i_
  ·
   rw[if_neg e] at h;exact n_ _ (fU h)
theorem mC {k:Nat}:∀{E:List (Nat × α)},bz k E=none->∀e∈E,e.1≠k
 | (k',v')::r,h,e,he=>by
  unfold bz at h
  by_cases z:k'=k
  ·
   rw[if_pos z] at h;cases h
  ·
   rw[if_neg z] at h
   rcases l_.mp he with rfl | he
   ·
    exact z
   ·
    exact mC h e he
theorem yR (k:Nat) (v:α) (E:List (Nat × α)):(putN k v E).map (·.1)=if k∈E.map (·.1) then E.map (·.1) else E.map (·.1)++[k]:=by
 have e1:(E.any fun e=>decide (e.1=k))=decide (k∈E.map (·.1)):=by rw[Xg,List.any_eq_true,p_,x_];exact⟨fun ⟨e,h,z⟩=>⟨e,h,Xv z⟩,fun ⟨e,h,z⟩=>⟨e,h,P_ z⟩⟩
 unfold putN;rw[e1];by_cases h:k∈E.map (·.1)
 ·rw[if_pos h,if_pos (P_ h),Xi];refine Yi fun e _=>?_;show (if e.1=k then (e.1,v) else e).1=e.1;split <;> rfl
 rw[if_neg h,if_neg (uI h),z_];rfl
theorem iz {k:Nat}{v:α}{E:List (Nat × α)}{e:Nat × α}(h:e∈putN k v E):e=(k,v)\/(e∈E/\e.1≠k)\/(e∈E/\k∉E.map (·.1)):=by
 unfold putN at h;split at h
 ·obtain⟨x,hx,rfl⟩:=x_.mp h;by_cases z:x.1=k
  ·rw[if_pos z,z];exact .inl rfl
  rw[if_neg z];exact .inr (.inl ⟨hx,z⟩)
 rename_i hn;rcases E_.mp h with h | h
 ·refine .inr (.inr ⟨h,fun z=>hn ?_⟩);obtain⟨x,hx,e⟩:=x_.mp z;exact List.any_eq_true.mpr ⟨x,hx,P_ e⟩
 exact .inl (g_.mp h)
theorem iB (k:Nat) (v:α) (E:List (Nat × α)):(k,v)∈putN k v E:=by
 unfold putN;split
 ·rename_i h;obtain⟨x,hx,e⟩:=List.any_eq_true.mp h;refine x_.mpr ⟨x,hx,?_⟩;have:=Xv e;rw[if_pos this,this]
 exact V_ _ (g_.mpr rfl)
theorem mD {k:Nat}{v:α}{E:List (Nat × α)}{e:Nat × α}(h:e∈E) (hk:e.1≠k):e∈putN k v E:=by
 unfold putN;split
 ·exact x_.mpr ⟨e,h,if_neg hk⟩
 exact Xx _ h
theorem jC {k:Nat}{v:α}{E:List (Nat × α)}(h:(E.map (·.1)).Nodup):((putN k v E).map (·.1)).Nodup:=by
 rw[yR];split
 ·exact h
 rename_i z;exact kI h z
theorem dN {k:Nat}{v:α}:∀{E:List (Nat × α)},(E.map (·.1)).Nodup->(k,v)∈E->bz k E=some v
 | (k',v')::r,nd,h=>by
  rw[D_,Xl] at nd
  unfold bz
  rcases l_.mp h with e | h
  ·
   cases e;rw[if_pos rfl]
  ·
   rw[if_neg (fun z=>nd.1 (by rw[z];exact x_.mpr ⟨_,h,rfl⟩))]
   exact dN nd.2 h
end
def evT (v:Int × List Nat):T:=.tup [.int v.1,.tup (v.2.map cI)]
abbrev Ev:=List (Nat × Int × List Nat)
def ldN (W:Wk) (i:Nat):Int:=dz W.tasks (pk W i)
def sqs (W:Wk) (fs:List Nat):Int:=(fs.map fun f=>ldN W f^2).sum
def stp (W:Wk) (d:Nat) (v:Int × List Nat) (B:Ev) (f:Nat):Ev:=match bz (d+f) B with
 |none=>putN (d+f) (v.1+ldN W f^2,v.2++[f]) B
 |some u=>if v.1+ldN W f^2<u.1 then putN (d+f) (v.1+ldN W f^2,v.2++[f]) B else B
def ebh (W:Wk) (beat:Int) (k:Nat) (E:Ev):Ev:=E.foldl (fun B e=>(fls W beat k e.1).foldl (stp W e.1 e.2) B) []
def evs (W:Wk) (beat:Int):Nat->Ev
 |0=>[(0,0,[])]
 |k+1=>ebh W beat k (evs W beat k)
structure Tbl (W:Wk) (beat:Int) (k:Nat) (E:Ev):Prop where
 nd:(E.map (·.1)).Nodup
 ok:∀e∈E,Frw W beat e.2.2 e.1/\e.2.2.length=k/\e.2.1=sqs W e.2.2
 al:∀fs d,Frw W beat fs d->fs.length=k->∃e∈E,e.1=d/\e.2.1<=sqs W fs
theorem jD (W:Wk) (fs:List Nat) (f:Nat):sqs W (fs++[f])=sqs W fs+ldN W f^2:=by
 unfold sqs;rw[z_,List.sum_append];simp
structure TbI (W:Wk) (beat:Int) (k:Nat) (sub:Nat->Int × List Nat->Nat->Prop) (B:Ev):Prop where
 nd:(B.map (·.1)).Nodup
 ok:∀e∈B,Frw W beat e.2.2 e.1/\e.2.2.length=k+1/\e.2.1=sqs W e.2.2
 al:∀d v f,sub d v f->∃e∈B,e.1=d+f/\e.2.1<=v.1+ldN W f^2
theorem TbI.step {W:Wk}{beat:Int}{k:Nat}{sub:Nat->Int × List Nat->Nat->Prop}{B:Ev}{d:Nat}{v:Int × List Nat}{f:Nat}(h:TbI W beat k sub B) (hr:Frw W beat v.2 d) (hl:v.2.length=k) (hv:v.1=sqs W v.2) (hk:k<W.row.length) (hf:f∈fls W beat k d) :
  TbI W beat k (fun d' v' f'=>sub d' v' f'\/(d'=d/\v'=v/\f'=f)) (stp W d v B f):=by
 have new:Frw W beat (v.2++[f]) (d+f)/\(v.2++[f]).length=k+1/\v.1+ldN W f^2=sqs W (v.2++[f]) :=
  ⟨.snoc hr (by omega) (by rw[hl];exact hf),by rw[a_,hl];rfl,by rw[jD,hv]⟩
 unfold stp;cases e:bz (d+f) B with
 |none =>
  refine⟨jC h.nd,fun x hx=>?_,fun d' v' f' hs=>?_⟩
  ·rcases iz hx with rfl | ⟨hx,_⟩ | ⟨hx,_⟩
   ·exact new
   ·exact h.ok x hx
   exact h.ok x hx
  rcases hs with hs | ⟨rfl,rfl,rfl⟩
  ·obtain⟨x,hx,e1,e2⟩:=h.al d' v' f' hs;exact⟨x,mD hx (mC e x hx),e1,e2⟩
  exact⟨_,iB _ _ _,rfl,Yp _⟩
 |some u =>
  have hu:=fU e
  show TbI W beat k _ (if v.1+ldN W f^2<u.1 then putN (d+f) (v.1+ldN W f^2,v.2++[f]) B else B)
  by_cases c:v.1+ldN W f^2<u.1
  ·
   rw[if_pos c]
   refine⟨jC h.nd,fun x hx=>?_,fun d' v' f' hs=>?_⟩
   ·
    rcases iz hx with rfl | ⟨hx,_⟩ | ⟨hx,_⟩
    ·
     exact new
    ·
     exact h.ok x hx
    ·
     exact h.ok x hx
   ·
    rcases hs with hs | ⟨rfl,rfl,rfl⟩
    ·
     obtain⟨x,hx,e1,e2⟩:=h.al d' v' f' hs
     by_cases z:x.1=d+f
     ·
      have hxu:x.2=u:=by
       have q:=dN h.nd (show (x.1,x.2)∈B from hx)
       rw[z,e] at q
       exact (G_ q).symm
      exact⟨_,iB _ _ _,by rw[<- e1,z],by rw[hxu] at e2;show v.1+ldN W f^2<=_;omega⟩
     ·
      exact⟨x,mD hx z,e1,e2⟩
    ·
     exact⟨_,iB _ _ _,rfl,Yp _⟩
  ·
   rw[if_neg c]
   refine⟨h.nd,h.ok,fun d' v' f' hs=>?_⟩
   rcases hs with hs | ⟨rfl,rfl,rfl⟩
   ·
    exact h.al d' v' f' hs
   ·
    exact⟨_,hu,rfl,by show u.1<=_;omega⟩
theorem TbI.inner {W:Wk}{beat:Int}{k:Nat}{sub:Nat->Int × List Nat->Nat->Prop}{B:Ev}{d:Nat}{v:Int × List Nat}(hr:Frw W beat v.2 d) (hl:v.2.length=k) (hv:v.1=sqs W v.2) (hk:k<W.row.length) :
  ∀{xs:List Nat},(∀f∈xs,f∈fls W beat k d)->TbI W beat k sub B->TbI W beat k (fun d' v' f'=>sub d' v' f'\/(d'=d/\v'=v/\f'∈xs)) (xs.foldl (stp W d v) B):=by
 intro xs;induction xs generalizing sub B with
 |nil=>intro _ h;exact⟨h.nd,h.ok,fun d' v' f' hs=>h.al d' v' f' (hs.resolve_right fun z=>nomatch z.2.2)⟩
 |cons f r ih =>
 intro hx h;have h1:=ih (fun g hg=>hx g (n_ _ hg)) (h.step hr hl hv hk (hx f i_));refine⟨h1.nd,h1.ok,fun d' v' f' hs=>h1.al d' v' f' ?_⟩;rcases hs with hs | ⟨e1,e2,e3⟩
 ·exact .inl (.inl hs)
 rcases l_.mp e3 with e3 | e3
 ·exact .inl (.inr ⟨e1,e2,e3⟩)
 exact .inr ⟨e1,e2,e3⟩
theorem TbI.outer {W:Wk}{beat:Int}{k:Nat}(hk:k<W.row.length):∀{xs:Ev}{sub:Nat->Int × List Nat->Nat->Prop}{B:Ev},(∀e∈xs,Frw W beat e.2.2 e.1/\e.2.2.length=k/\e.2.1=sqs W e.2.2)->TbI W beat k sub B ->
  TbI W beat k (fun d v f=>sub d v f\/((d,v)∈xs/\f∈fls W beat k d)) (xs.foldl (fun B e=>(fls W beat k e.1).foldl (stp W e.1 e.2) B) B)
 |[],_,_,_,h=>⟨h.nd,h.ok,fun d v f hs=>h.al d v f (hs.resolve_right fun z=>nomatch z.1)⟩
 |e::r,sub,B,hx,h=>by
  obtain⟨h1,h2,h3⟩:=hx e i_
  have q:=TbI.outer hk (xs:=r) (fun x hxr=>hx x (n_ _ hxr)) (TbI.inner (xs:=fls W beat k e.1) h1 h2 h3 hk (fun f hf=>hf) h)
  refine⟨q.nd,q.ok,fun d v f hs=>q.al d v f ?_⟩
  rcases hs with hs | ⟨e1,e2⟩
  ·
   exact .inl (.inl hs)
  ·
   rcases l_.mp e1 with z | z
   ·
    rw[<- z] at *
    exact .inl (.inr ⟨rfl,rfl,e2⟩)
   ·
    exact .inr ⟨z,e2⟩
theorem Frw.inv {W:Wk}{beat:Int}{gs:List Nat}{d:Nat}(r:Frw W beat gs d) {k:Nat}(hl:gs.length=k+1):∃fs d' f,gs=fs++[f]/\d=d'+f/\Frw W beat fs d'/\fs.length=k/\f∈fls W beat k d':=by
 cases r with
 |nil=>cases hl
 |@snoc fs d' f r h1 h2 =>
  have:fs.length=k:=by rw[a_] at hl;simp at hl;exact hl
  exact⟨fs,d',f,rfl,rfl,r,this,by rw[<- this];exact h2⟩
theorem Dl {W:Wk}{beat:Int}{k:Nat}{E:Ev}(h:Tbl W beat k E) (hk:k<W.row.length):Tbl W beat (k+1) (ebh W beat k E):=by
 have q:=TbI.outer (W:=W) (beat:=beat) hk (xs:=E) (sub:=fun _ _ _=>False) (B:=[]) h.ok ⟨Y5,fun _ z=>(nomatch z),fun _ _ _ z=>z.elim⟩;refine⟨q.nd,q.ok,fun fs d r hl=>?_⟩;obtain⟨gs,d',f,rfl,rfl,r',hl',hf⟩:=r.inv hl;obtain⟨e,he,e1,e2⟩:=h.al gs d' r' hl';obtain⟨x,hx,x1,x2⟩:=q.al d' e.2 f (.inr ⟨by rw[<- e1];exact he,hf⟩);exact⟨x,hx,x1,by rw[jD];omega⟩
theorem Frw.nil0 {W:Wk}{beat:Int}{gs:List Nat}{d:Nat}(r:Frw W beat gs d) (h:gs=[]):d=0:=by
 cases r with
 |nil=>rfl
 |@snoc fs d' f r h1 h2=>exact absurd h (by simp)
theorem mF {W:Wk}{beat:Int}:∀{k:Nat},k<=W.row.length->Tbl W beat k (evs W beat k)
 |0,_=>⟨by simp [evs],fun e he=>by rw[g_.mp (show e∈[(0,0,[])] from he)];exact⟨.nil,rfl,rfl⟩,fun fs d r hl=>by
  have h0:=List.length_eq_zero_iff.mp hl
  exact⟨_,g_.mpr rfl,(r.nil0 h0).symm,by rw[h0];exact Yp _⟩⟩
 |k+1,h=>Dl (mF (k:=k) (by omega)) h
structure EOk (W:Wk) (n:Nat) (E:Ev):Prop where
 nd:(E.map (·.1)).Nodup
 lt:∀e∈E,e.1<top2 W/\e.2.2.length<=n/\∀f∈e.2.2,f<top2 W
theorem EOk.len {W:Wk}{n:Nat}{E:Ev}(h:EOk W n E):E.length<=top2 W:=by
 have:=uT (l:=E.map (·.1)) (m:=List.range (top2 W)) h.nd fun x hx=>by obtain⟨e,he,rfl⟩:=x_.mp hx;exact C_.mpr (h.lt e he).1
 rwa [b_,h_] at this
theorem xF {W:Wk}{beat:Int}{k d f:Nat}(hW:WkOk W) (hd:d<top2 W) (hf:f∈fls W beat k d):d+f<top2 W:=by
 obtain⟨hft,F⟩:=fls_mem.mp hf;have e:d+f=b8 (nm W) (pk W d++pk W f):=by rw[<- iy _ _ _ fun x hx z=>F.apart hx z.2 z.1,gH hW hd,gH hW hft]
 rw[e];exact lu _
theorem EOk.stp {W:Wk}{beat:Int}{k n d f:Nat}{v:Int × List Nat}{B:Ev}(hW:WkOk W) (h:EOk W (n+1) B) (hd:d<top2 W) (hv:v.2.length<=n) (hvt:∀f∈v.2,f<top2 W) (hf:f∈fls W beat k d):EOk W (n+1) (stp W d v B f):=by
 have new:EOk W (n+1) (putN (d+f) (v.1+ldN W f^2,v.2++[f]) B):=⟨jC h.nd,fun x hx=>by
  rcases iz hx with rfl | ⟨hx,_⟩ | ⟨hx,_⟩
  ·
   refine⟨xF hW hd hf,by rw[a_];simp;exact hv,fun g hg=>?_⟩
   rcases E_.mp hg with hg | hg
   ·
    exact hvt g hg
   ·
    rw[g_.mp hg];exact (fls_mem.mp hf).1
  ·
   exact h.lt x hx
  ·
   exact h.lt x hx⟩
 unfold M.stp;split
 ·exact new
 split
 ·exact new
 exact h
theorem Tbl.eok {W:Wk}{beat:Int}{k:Nat}{E:Ev}(hW:WkOk W) (h:Tbl W beat k E):EOk W k E:=⟨h.nd,fun e he=>by
 obtain⟨r,hl,_⟩:=h.ok e he;obtain⟨h1,_,_,_,h5⟩:=r.ok hW;exact⟨h1,by omega,h5⟩⟩
theorem xG {W:Wk}(hW:WkOk W) (S:List Str):0<=dz W.tasks S/\dz W.tasks S<10^61:=by
 have h:∀l:List (Str × Int × List Str),(∀t∈l,tkOk t)->0<=(l.map (·.2.1)).sum/\(l.map (·.2.1)).sum<=l.length*10^60:=by
  intro l;induction l with
  |nil=>intro _;exact⟨Yp _,Yp _⟩
  |cons t r ih =>
  intro ht;obtain⟨h1,h2⟩:=ih fun x hx=>ht x (n_ _ hx);have q:=ht t i_;have q1:=q.lo;have q2:=q.hi;rw[D_,ZK,e_];constructor
  ·omega
  push_cast
  omega
 obtain⟨h1,h2⟩:=h (W.tasks.filter fun t=>decide (t.1∈S)) fun t ht=>hW.tk t (R_.mp ht).1;have h3:(W.tasks.filter fun t=>decide (t.1∈S)).length<=8:=J_ (Xf _ _) hW.t8;unfold dz;exact⟨h1,by omega⟩
theorem sO {x:Int}(h0:0<=x) (h1:x<10^61):x.natAbs<2^1000:=by
 have h2:x.natAbs<10^61:=by omega
 exact Zm h2 (by decide +kernel)
def evE (e:Nat × Int × List Nat):T:=.tup [.int (e.1:Int),evT e.2]
theorem Vs (E:Ev):(dI evT E).map itT=E.map evE:=by unfold dI;rw[Xi];rfl
def ebF (W:Wk) (beat:Int) (k:Nat) (B:Ev) (e:Nat × Int × List Nat):Ev:=(fls W beat k e.1).foldl (stp W e.1 e.2) B
def Vt (C:Addr):Sp3:=fun ts H Q=>∃(a q:Addr) (W:Wk) (beat:Int) (k n:Nat) (E:Ev),ts=[.ref a,.int (k:Int),.ref q]/\WkOk W/\Wlk C W beat H a/\k<W.row.length/\n<=8/\EOk W n E/\H q=some (.dci (dI evT E))/\∀o p,H p=none->Q (.ref p) (up3 (up3 H q (.dif o (dI evT E))) p (.dci (dI evT (ebh W beat k E))))
def Ql (W:Wk) (beat:Int) (H:Hp3) (as:List Addr):Prop:=∀(j:Nat) (a:Addr),as[j]?=some a->∃o,H a=some (.dif o (dI evT (evs W beat j)))
def Vu (C:Addr):Sp3:=fun ts H Q=>∃(a:Addr) (W:Wk) (beat:Int) (m:Nat),ts=[.ref a,.int (m:Int)]/\WkOk W/\Wlk C W beat H a/\m<=W.row.length/\∀(H':Hp3) (p:Addr) (as:List Addr) (q:Addr),Sub3 H H'->as.length=m->H' p=some (.lst (as.map T.ref++[.ref q]))->Ql W beat H' as->H' q=some (.dci (dI evT (evs W beat m)))->Q (.ref p) H'
theorem Wlk.frz {C:Addr}{W:Wk}{beat:Int}{H:Hp3}{a q:Addr}{o:O3}{E:List (Int × T)}(h:Wlk C W beat H a) (hq:H q=some (.dci E)):Wlk C W beat (up3 H q o) a:=by
 obtain⟨p,h1,h2⟩:=h.ex;exact⟨p,by rw[aC (ne3 h1 hq (by simp))];exact h1,by rw[aC (ne3 h2 hq (by simp))];exact h2⟩
def Kb1 (pb:Addr) (H H':Hp3):Prop:=∀b u,b≠pb->H b=some u->H' b=some u
theorem Kb1.refl {pb:Addr}{H:Hp3}:Kb1 pb H H:=fun _ _ _ h=>h
theorem Kb1.new {pb p:Addr}{H H':Hp3}{o:O3}(k:Kb1 pb H H') (hp:H' p=none):Kb1 pb H (up3 H' p o):=fun b u hb h=>by rw[aC (aX (k b u hb h) hp)];exact k b u hb h
theorem Kb1.put {pb:Addr}{H H':Hp3}{o:O3}(k:Kb1 pb H H'):Kb1 pb H (up3 H' pb o):=fun b u hb h=>by rw[aC hb];exact k b u hb h
theorem Kb1.wlk {C:Addr}{W:Wk}{beat:Int}{pb a:Addr}{H H':Hp3}(k:Kb1 pb H H') (hp:H pb=none) (h:Wlk C W beat H a):Wlk C W beat H' a:=by
 obtain⟨p,h1,h2⟩:=h.ex;exact⟨p,k _ _ (aX h1 hp) h1,k _ _ (aX h2 hp) h2⟩
abbrev Lv:=List (Nat × Int)
def mnI (t u:Int):Int:=if u<t then u else t
def nxS (W:Wk) (d:Nat) (v:Int) (B:Lv) (f:Nat):Lv:=putN (d+f) (mnI (v+ldN W f*ldN W f) ((bz (d+f) B).getD (v+ldN W f*ldN W f))) B
def nxL (W:Wk) (beat:Int) (k:Nat) (L:Lv):Lv:=L.foldl (fun B e=>(fls W beat k e.1).foldl (nxS W e.1 e.2) B) []
def lvs (W:Wk) (beat:Int):Nat->Lv
 |0=>[(0,0)]
 |k+1=>nxL W beat k (lvs W beat k)
structure LvO (W:Wk) (beat:Int) (k:Nat) (L:Lv):Prop where
 nd:(L.map (·.1)).Nodup
 ok:∀e∈L,∃fs,Frw W beat fs e.1/\fs.length=k/\e.2=sqs W fs
 al:∀fs d,Frw W beat fs d->fs.length=k->∃e∈L,e.1=d/\e.2<=sqs W fs
structure LvI (W:Wk) (beat:Int) (k:Nat) (sub:Nat->Int->Nat->Prop) (B:Lv):Prop where
 nd:(B.map (·.1)).Nodup
 ok:∀e∈B,∃fs,Frw W beat fs e.1/\fs.length=k+1/\e.2=sqs W fs
 al:∀d v f,sub d v f->∃e∈B,e.1=d+f/\e.2<=v+ldN W f^2
theorem Qm (x:Int):x*x=x^2:=by rw[YL,YL,Int.pow_zero,Int.one_mul]
theorem LvI.step {W:Wk}{beat:Int}{k:Nat}{sub:Nat->Int->Nat->Prop}{B:Lv}{d:Nat}{v:Int}{f:Nat}{vf:List Nat}(h:LvI W beat k sub B) (hr:Frw W beat vf d) (hl:vf.length=k) (hv:v=sqs W vf) (hk:k<W.row.length) (hf:f∈fls W beat k d) :
  LvI W beat k (fun d' v' f'=>sub d' v' f'\/(d'=d/\v'=v/\f'=f)) (nxS W d v B f):=by
 have new:Frw W beat (vf++[f]) (d+f)/\(vf++[f]).length=k+1/\v+ldN W f^2=sqs W (vf++[f]) :=
  ⟨.snoc hr (by omega) (by rw[hl];exact hf),by rw[a_,hl];rfl,by rw[jD,hv]⟩
 unfold nxS;rw[Qm];have hval:(∃fs,Frw W beat fs (d+f)/\fs.length=k+1/\mnI (v+ldN W f^2) ((bz (d+f) B).getD (v+ldN W f^2))=sqs W fs)/\mnI (v+ldN W f^2) ((bz (d+f) B).getD (v+ldN W f^2))<=v+ldN W f^2/\∀u,bz (d+f) B=some u->mnI (v+ldN W f^2) ((bz (d+f) B).getD (v+ldN W f^2))<=u:=by
  cases e:bz (d+f) B with
  |none =>
   have:mnI (v+ldN W f^2) ((none:Option Int).getD (v+ldN W f^2))=v+ldN W f^2:=by unfold mnI;simp
   rw[this]
   exact⟨⟨_,new⟩,Yp _,fun u z=>nomatch z⟩
  |some u =>
  rw[Option.getD_some];unfold mnI;by_cases c:u<v+ldN W f^2
  ·rw[if_pos c];exact⟨h.ok _ (fU e),Int.le_of_lt c,fun u' z=>by cases z;exact Yp _⟩
  rw[if_neg c];exact⟨⟨_,new⟩,Yp _,fun u' z=>by cases z;omega⟩
 generalize mnI (v+ldN W f^2) ((bz (d+f) B).getD (v+ldN W f^2))=y at hval;obtain⟨hy1,hy2,hy3⟩:=hval;refine⟨jC h.nd,fun x hx=>?_,fun d' v' f' hs=>?_⟩
 ·rcases iz hx with rfl | ⟨hx,_⟩ | ⟨hx,_⟩
  ·exact hy1
  ·exact h.ok x hx
  exact h.ok x hx
 rcases hs with hs | ⟨rfl,rfl,rfl⟩
 ·obtain⟨x,hx,e1,e2⟩:=h.al d' v' f' hs;by_cases z:x.1=d+f
  ·have q:=dN h.nd (show (x.1,x.2)∈B from hx);rw[z] at q;exact⟨_,iB _ _ _,by rw[<- e1,z],Int.le_trans (hy3 _ q) e2⟩
  exact⟨x,mD hx z,e1,e2⟩
 exact⟨_,iB _ _ _,rfl,hy2⟩
theorem LvI.inner {W:Wk}{beat:Int}{k:Nat}{sub:Nat->Int->Nat->Prop}{B:Lv}{d:Nat}{v:Int}{vf:List Nat}(hr:Frw W beat vf d) (hl:vf.length=k) (hv:v=sqs W vf) (hk:k<W.row.length) :
  ∀{xs:List Nat},(∀f∈xs,f∈fls W beat k d)->LvI W beat k sub B->LvI W beat k (fun d' v' f'=>sub d' v' f'\/(d'=d/\v'=v/\f'∈xs)) (xs.foldl (nxS W d v) B):=by
 intro xs;induction xs generalizing sub B with
 |nil=>intro _ h;exact⟨h.nd,h.ok,fun d' v' f' hs=>h.al d' v' f' (hs.resolve_right fun z=>nomatch z.2.2)⟩
 |cons f r ih =>
 intro hx h;have h1:=ih (fun g hg=>hx g (n_ _ hg)) (h.step hr hl hv hk (hx f i_));refine⟨h1.nd,h1.ok,fun d' v' f' hs=>h1.al d' v' f' ?_⟩;rcases hs with hs | ⟨e1,e2,e3⟩
 ·exact .inl (.inl hs)
 rcases l_.mp e3 with e3 | e3
 ·exact .inl (.inr ⟨e1,e2,e3⟩)
 exact .inr ⟨e1,e2,e3⟩
theorem LvI.outer {W:Wk}{beat:Int}{k:Nat}(hk:k<W.row.length):∀{xs:Lv}{sub:Nat->Int->Nat->Prop}{B:Lv},(∀e∈xs,∃fs,Frw W beat fs e.1/\fs.length=k/\e.2=sqs W fs)->LvI W beat k sub B ->
  LvI W beat k (fun d v f=>sub d v f\/((d,v)∈xs/\f∈fls W beat k d)) (xs.foldl (fun B e=>(fls W beat k e.1).foldl (nxS W e.1 e.2) B) B)
 |[],_,_,_,h=>⟨h.nd,h.ok,fun d v f hs=>h.al d v f (hs.resolve_right fun z=>nomatch z.1)⟩
 |e::r,sub,B,hx,h=>by
  obtain⟨fs,h1,h2,h3⟩:=hx e i_
  have q:=LvI.outer hk (xs:=r) (fun x hxr=>hx x (n_ _ hxr)) (LvI.inner (xs:=fls W beat k e.1) h1 h2 h3 hk (fun f hf=>hf) h)
  refine⟨q.nd,q.ok,fun d v f hs=>q.al d v f ?_⟩
  rcases hs with hs | ⟨e1,e2⟩
  ·
   exact .inl (.inl hs)
  ·
   rcases l_.mp e1 with z | z
   ·
    rw[<- z] at *
    exact .inl (.inr ⟨rfl,rfl,e2⟩)
   ·
    exact .inr ⟨z,e2⟩
theorem mG {W:Wk}{beat:Int}:∀{k:Nat},k<=W.row.length->LvO W beat k (lvs W beat k)
 |0,_=>⟨by simp [lvs],fun e he=>by rw[g_.mp (show e∈[(0,(0:Int))] from he)];exact⟨[],.nil,rfl,rfl⟩,fun fs d r hl=>by
  have h0:=List.length_eq_zero_iff.mp hl
  exact⟨_,g_.mpr rfl,(r.nil0 h0).symm,by rw[h0];exact Yp _⟩⟩
 |k+1,h=>by
  have hp:=mG (W:=W) (beat:=beat) (k:=k) (by omega)
  have q:=LvI.outer (W:=W) (beat:=beat) (k:=k) (by omega) (xs:=lvs W beat k) (sub:=fun _ _ _=>False) (B:=[]) hp.ok ⟨Y5,fun _ z=>(nomatch z),fun _ _ _ z=>z.elim⟩
  refine⟨q.nd,q.ok,fun fs d r hl=>?_⟩
  obtain⟨gs,d',f,rfl,rfl,r',hl',hf⟩:=r.inv hl
  obtain⟨e,he,e1,e2⟩:=hp.al gs d' r' hl'
  obtain⟨x,hx,x1,x2⟩:=q.al d' e.2 f (.inr ⟨by rw[<- e1];exact he,hf⟩)
  exact⟨x,hx,x1,by rw[jD];omega⟩
theorem Vv {W:Wk}{beat:Int}{k:Nat}(hk:k<=W.row.length):(∀d,d∈(evs W beat k).map (·.1)↔d∈(lvs W beat k).map (·.1))/\∀d v x,bz d (evs W beat k)=some v->bz d (lvs W beat k)=some x->v.1=x:=by
 have E:=mF (W:=W) (beat:=beat) hk;have L:=mG (W:=W) (beat:=beat) hk;refine⟨fun d=>⟨fun h=>?_,fun h=>?_⟩,fun d v x hv hx=>?_⟩
 ·obtain⟨e,he,rfl⟩:=x_.mp h;obtain⟨r,hl,_⟩:=E.ok e he;obtain⟨y,hy,e1,_⟩:=L.al _ _ r hl;exact x_.mpr ⟨y,hy,e1⟩
 ·obtain⟨e,he,rfl⟩:=x_.mp h;obtain⟨fs,r,hl,_⟩:=L.ok e he;obtain⟨y,hy,e1,_⟩:=E.al _ _ r hl;exact x_.mpr ⟨y,hy,e1⟩
 obtain⟨r,hl,e1⟩:=E.ok _ (fU hv);obtain⟨fs,r2,hl2,e2⟩:=L.ok _ (fU hx);obtain⟨y,hy,y1,y2⟩:=L.al _ _ r hl;obtain⟨z,hz,z1,z2⟩:=E.al _ _ r2 hl2;have q1:=dN L.nd (show (y.1,y.2)∈_ from hy);rw[y1,show ((d,v):Nat × Int × List Nat).1=d from rfl,hx] at q1;have q2:=dN E.nd (show (z.1,z.2)∈_ from hz);rw[z1,show ((d,x):Nat × Int).1=d from rfl,hv] at q2;have a1:x=y.2:=G_ q1;have a2:v=z.2:=G_ q2;have b1:v.1=sqs W v.2:=e1;have b2:x=sqs W fs:=e2;have y2':y.2<=sqs W v.2:=y2;rw[<- a2] at z2;omega
theorem xH:∀{ns:List Str}{i:Nat}{x:Str}{b:Int},ns.Nodup->ns[i]?=some x->(x∈pick ns b↔b / 2^i%2=1)
 |[],_,_,_,_,e=>by simp at e
 |y::r,0,x,b,nd,e=>by
  rw[Xq,ZG] at e
  subst e
  rw[Xl] at nd
  have hn:y∉pick r (b / 2):=fun z=>nd.1 (fL _ _ _ z)
  rw[Int.pow_zero,Int.ediv_one]
  unfold pick
  by_cases c:b%2=1 <;> simp [c,hn]
 |y::r,i+1,x,b,nd,e=>by
  rw[XD] at e
  rw[Xl] at nd
  have hne:x≠y:=fun z=>nd.1 (by rw[<- z];exact XX e)
  have ih:=xH (b:=b / 2) nd.2 e
  have ed:b / 2^(i+1)=b / 2 / 2^i:=by rw[Int.ediv_ediv_of_nonneg (by decide),YL,Int.mul_comm]
  rw[ed,<- ih]
  show x∈(if b%2=1 then y::pick r (b / 2) else pick r (b / 2))↔_
  by_cases c:b%2=1
  ·
   rw[if_pos c,l_]
   exact⟨fun z=>z.resolve_left hne,.inr⟩
  ·
   rw[if_neg c]
theorem iC {W:Wk}{b i:Nat}{t:Str × Int × List Str}(hW:WkOk W) (h:W.tasks[i]?=some t):decide (Builtin.bitAnd ((b:Int) / 2^i) 1=1)=decide (t.1∈pk W b):=by
 have e1:(nm W)[i]?=some t.1:=by unfold nm;rw[y_,h];rfl
 have e2:((b:Int) / 2^i)=((b / 2^i:Nat):Int):=by push_cast;rfl
 have e3:Builtin.bitAnd ((b / 2^i:Nat):Int) 1=((b / 2^i%2:Nat):Int):=by have:=jw (b / 2^i) 1;rw[Nat.and_one_is_mod] at this;exact this
 rw[Zn,e2,e3];unfold pk;rw[xH (ns:=nm W) hW.nd e1,e2];omega
theorem HF (n i:Nat):Builtin.bitAnd ((n:Int) / 2^i) 1=((n / 2^i%2:Nat):Int):=by
 have e2:((n:Int) / 2^i)=((n / 2^i:Nat):Int):=by push_cast;rfl
 rw[e2];have:=jw (n / 2^i) 1;rw[Nat.and_one_is_mod] at this;exact this
theorem HH {W:Wk}{b i:Nat}{t:Str × Int × List Str}(hW:WkOk W) (h:W.tasks[i]?=some t):decide (Builtin.bitAnd ((b:Int) / 2^i) 1=0)=!decide (t.1∈pk W b):=by
 rw[<- iC hW h,HF,Xg,ZF,p_,Yt];omega
theorem Qn {W:Wk}{d b i:Nat}{t:Str × Int × List Str}(hW:WkOk W) (h:W.tasks[i]?=some t):decide (Builtin.bitAnd (Builtin.bitOr (d:Int) (b:Int) / 2^i) 1=0)=(!decide (t.1∈pk W d)&&!decide (t.1∈pk W b)):=by
 rw[Cg,HF,<- iC hW h,<- iC hW h,HF,HF];have e1:=Nat.testBit_or d b i;rw[YM,YM,YM] at e1;have hx:=Zh ((d ||| b) / 2^i);have hy:=Zh (d / 2^i);have hz:=Zh (b / 2^i);generalize (d ||| b) / 2^i%2=x at e1 hx;generalize d / 2^i%2=y at e1 hy;generalize b / 2^i%2=z at e1 hz;rcases hx with rfl | rfl <;> rcases hy with rfl | rfl <;> rcases hz with rfl | rfl <;> first | rfl | (exfalso;revert e1;decide)
def ixS:List Str->Str->Nat
 |[],_=>0
 |y::r,z=>if y=z then 0 else ixS r z+1
theorem eN:∀{ns:List Str}{z:Str},z∈ns->ns[ixS ns z]?=some z/\∀m,m<ixS ns z->ns[m]?≠some z
 |[],_,h=>nomatch h
 |y::r,z,h=>by
  unfold ixS
  by_cases e:y=z
  ·
   rw[if_pos e,Xq,e]
   exact⟨rfl,fun m hm=>absurd hm (Zy _)⟩
  ·
   obtain⟨h1,h2⟩:=eN ((l_.mp h).resolve_left fun q=>e q.symm)
   rw[if_neg e,XD]
   refine⟨h1,fun m hm=>?_⟩
   cases m with
   |zero=>rw[Xq];exact fun q=>e (G_ q)
   |succ m=>rw[XD];exact h2 m (by omega)
theorem Dm {ns:List Str}{i:Nat}{z:Str}(nd:ns.Nodup) (h:ns[i]?=some z):ixS ns z=i:=by
 have hm:=(eN (XX h)).1;have hl:i<ns.length:=(Xr.mp h).1;exact ((List.getElem?_inj hl nd).mp (h.trans hm.symm)).symm
theorem Vw {W:Wk}{x:Str}(h:x∈nm W):∃t,W.tasks[ixS (nm W) x]?=some t/\t.1=x:=by
 have e:=(eN h).1;generalize ixS (nm W) x=i at e;unfold nm at e;rw[y_] at e;cases q:W.tasks[i]? with
 |none=>rw[q] at e;cases e
 |some t=>rw[q] at e;exact⟨t,rfl,G_ e⟩
theorem Do {W:Wk}{b:Nat}{x:Str}(hW:WkOk W) (h:x∈nm W):decide (Builtin.bitAnd ((b:Int) / 2^ixS (nm W) x) 1=1)=decide (x∈pk W b):=by
 obtain⟨t,h1,h2⟩:=Vw h;rw[iC hW h1,h2]
def fc (ws:List Str) (W:Wk) (a b:Str):Bool:=@decide (TC (lkR ws W) a b) (Classical.propDecidable _)
def mH (W:Wk) (kind:Str) (D S:List Str) (t:Str × Int × List Str):Bool :=
 !decide (t.1∈D)&&mj t.2.2 kind&&(W.tasks.map (·.1)).all fun o=>!fc ["with"] W o t.1||decide (o∈S)||(decide (o∈D)&&!fc ["with"] W t.1 o)
def sS (S:List Str) (p:Str × Str × Str):Bool:=!(decide (p.1=("apart":Str))&&decide (p.2.1∈S)&&decide (p.2.2∈S))
theorem farW_iff {ws:List Str}{W:Wk}{a b:Str}:fc ws W a b=true↔TC (lkR ws W) a b:=by unfold fc;rw[@p_ _ (Classical.propDecidable _)]
theorem qt {W:Wk}(kind:Str) (D S:List Str) {t:Str × Int × List Str}(ht:t.1∈S) (hm:t.1∈W.tasks.map (·.1)):okT W kind D S t=(mH W kind D S t&&@decide (∀x∈iu W t.1,x∉S) (Classical.propDecidable _)):=by
 unfold okT mH;have e:(@decide (∀x∈gM W t.1,x∈S) (Classical.propDecidable _)&&@decide (∀x∈gO W t.1,x∈S++D) (Classical.propDecidable _))=((W.tasks.map (·.1)).all fun o=>!fc ["with"] W o t.1||decide (o∈S)||(decide (o∈D)&&!fc ["with"] W t.1 o)):=by
  rw[Xg,L_,@p_ _ (Classical.propDecidable _),@p_ _ (Classical.propDecidable _),S_];have mg:∀x,x∈gM W t.1↔x∈W.tasks.map (·.1)/\(RT (lkR ["with"] W) t.1 x/\RT (lkR ["with"] W) x t.1):=fun x=>by unfold gM;rw[R_,@p_ _ (Classical.propDecidable _)]
  have ma:∀x,x∈gO W t.1↔x∈W.tasks.map (·.1)/\(RT (lkR ["with"] W) x t.1/\¬RT (lkR ["with"] W) t.1 x):=fun x=>by unfold gO;rw[R_,@p_ _ (Classical.propDecidable _)]
  constructor
  ·rintro⟨h1,h2⟩ o ho;by_cases f1:TC (lkR ["with"] W) o t.1
   ·by_cases f2:TC (lkR ["with"] W) t.1 o
    ·have:=h1 o ((mg o).mpr ⟨ho,f2.rt,f1.rt⟩);simp [this]
    by_cases eo:o=t.1
    ·subst eo;simp [ht]
    have nr:¬RT (lkR ["with"] W) t.1 o:=fun z=>by
     rcases rt_iff.mp z with z | z
     ·exact eo z
     exact f2 z
    have nf:fc ["with"] W t.1 o=false:=by
     cases q:fc ["with"] W t.1 o with
     |false=>rfl
     |true=>exact absurd (farW_iff.mp q) f2
    rcases E_.mp (h2 o ((ma o).mpr ⟨ho,f1.rt,nr⟩)) with z | z
    ·simp [z]
    simp [z,nf]
   have nf:fc ["with"] W o t.1=false:=by
    cases q:fc ["with"] W o t.1 with
    |false=>rfl
    |true=>exact absurd (farW_iff.mp q) f1
   simp [nf]
  intro h;refine⟨fun x hx=>?_,fun x hx=>?_⟩
  ·obtain⟨hxn,r1,r2⟩:=(mg x).mp hx;rcases rt_iff.mp r1 with z | f2
   ·rw[z];exact ht
   rcases rt_iff.mp r2 with z | f1
   ·rw[<- z];exact ht
   have:=h x hxn;simp only[farW_iff.mpr f1,farW_iff.mpr f2,XN,YQ,Zg,Bool.or_false,decide_eq_true_eq] at this;exact this
  obtain⟨hxn,r2,nr⟩:=(ma x).mp hx;rcases rt_iff.mp r2 with z | f1
  ·exact absurd (rt_iff.mpr (.inl z.symm)) nr
  have:=h x hxn;simp only[farW_iff.mpr f1,XN,YQ,YG,L_,decide_eq_true_eq] at this;rcases this with z | ⟨z,_⟩
  ·exact Xx _ z
  exact V_ _ z
 rw[<- e];simp only[Bool.and_assoc]
theorem Dp {W:Wk}(hW:WkOk W) (beat:Int) (kind:Str) (D S:List Str):qj W beat kind D S=((W.tasks.all fun t=>!decide (t.1∈S)||mH W kind D S t)&&W.pairs.all (sS S)&&decide (dz W.tasks S<=beat)):=by
 unfold qj;congr 1;rw[Xg,L_,S_,S_,S_];constructor
 ·intro h;refine⟨fun t ht=>?_,fun p hp=>?_⟩
  ·by_cases z:t.1∈S
   ·have:=h t ht;rw[qt kind D S z (x_.mpr ⟨t,ht,rfl⟩)] at this;simp only[z,Xz,XN,YQ,L_] at this ⊢;exact this.1
   simp [z]
  unfold sS;by_cases z:p.1=("apart":Str)/\p.2.1∈S/\p.2.2∈S
  ·obtain⟨z1,z2,z3⟩:=z;obtain⟨t,ht,et⟩:=x_.mp (hW.pp p hp).2.2.1;have:=h t ht;rw[qt kind D S (by rw[et];exact z2) (x_.mpr ⟨t,ht,rfl⟩)] at this;simp only[show t.1∈S by rw[et];exact z2,Xz,XN,YQ,L_,@p_ _ (Classical.propDecidable _)] at this;refine absurd z3 (this.2 p.2.2 ?_);unfold iu;exact x_.mpr ⟨p,R_.mpr ⟨hp,by simp [z1,et]⟩,rfl⟩
  by_cases z1:p.1=("apart":Str) <;> by_cases z2:p.2.1∈S <;> by_cases z3:p.2.2∈S <;> simp_all
 rintro⟨h1,h2⟩ t ht;by_cases z:t.1∈S
 ·rw[qt kind D S z (x_.mpr ⟨t,ht,rfl⟩)];have:=h1 t ht;simp only[z,Xz,XN,YQ,L_,@p_ _ (Classical.propDecidable _)] at this ⊢;refine⟨this,fun x hx hs=>?_⟩;unfold iu at hx;obtain⟨p,hp,rfl⟩:=x_.mp hx;obtain⟨hp,q⟩:=R_.mp hp;simp only[L_,decide_eq_true_eq] at q;have:=h2 p hp;unfold sS at this;simp [q.1,q.2,z,hs] at this
 simp [z]
def Vx:Sp3:=fun ts H Q=>∃(W:Wk) (b:Nat),ts=[W.enc,.int (b:Int)]/\WkOk W/\Q (.int (ldN W b)) H
def lnB (W:Wk) (b c:Nat):List Int:=((W.tasks.take c).filter fun t=>decide (t.1∈pk W b)).map (·.2.1)
theorem xJ (W:Wk) (b:Nat):(lnB W b W.tasks.length).sum=ldN W b:=by unfold lnB ldN dz;rw[Y4]
theorem Dq {W:Wk}{i:Nat}{t:Str × Int × List Str}(h:W.tasks[i]?=some t):atI (W.tasks.map tkT) (i:Int)=some (tkT t):=bu (by rw[y_,h];rfl)
theorem sU {W:Wk}{b i:Nat}{t:Str × Int × List Str}(h:W.tasks[i]?=some t):lnB W b (i+1)=lnB W b i++if t.1∈pk W b then [t.2.1] else []:=by
 have hl:i<W.tasks.length:=by
  rcases Nat.lt_or_ge i W.tasks.length with z | z
  ·exact z
  rw[W_ z] at h;cases h
 rw[d_ hl] at h;unfold lnB;rw[List.take_succ_eq_append_getElem hl,G_ h,Xw,z_];by_cases c:t.1∈pk W b <;> simp [c]
structure Tt (W:Wk) (H:Hp3) (t:Addr):Prop where
 ex:∃(as:List Addr),as.length=(nm W).length/\H t=some (.lst (as.map T.ref))/\∀(i:Nat) (a:Addr),as[i]?=some a->∃bs:List Bool,bs.length=(nm W).length/\H a=some (.lst (bs.map T.bl))/\∀(j:Nat) (x y:Str),(nm W)[i]?=some x->(nm W)[j]?=some y->bs.getD j false=fc ["with"] W x y
theorem Tt.keep {W:Wk}{H H':Hp3}{t:Addr}(h:Tt W H t) (k:∀b ts,H b=some (.lst ts)->H' b=some (.lst ts)):Tt W H' t:=by
 obtain⟨as,h1,h2,h3⟩:=h.ex;refine⟨as,h1,k _ _ h2,fun i a ha=>?_⟩;obtain⟨bs,b1,b2,b3⟩:=h3 i a ha;exact⟨bs,b1,k _ _ b2,b3⟩
theorem atR {as:List Addr}{i:Nat}{a:Addr}(h:as[i]?=some a):atI (as.map T.ref) (i:Int)=some (.ref a):=bu (by rw[y_,h];rfl)
theorem Vy {bs:List Bool}{j:Nat}(h:j<bs.length):atI (bs.map T.bl) (j:Int)=some (.bl (bs.getD j false)):=bu (by rw[y_,m_,d_ h];rfl)
def J7:Sp3:=fun ts H Q=>∃(W:Wk) (t:Addr) (beat:Int) (k d b:Nat),ts=[W.enc,.ref t,.int beat,.str (W.row.getD k ""),.int (d:Int),.int (b:Int)]/\WkOk W/\Tt W H t/\d<top2 W/\b<top2 W/\Q (.bl (fil W beat k d b)) H
def lvT (v:Int):T:=.int v
structure LOk (W:Wk) (L:Lv):Prop where
 nd:(L.map (·.1)).Nodup
 lt:∀e∈L,e.1<top2 W
theorem LOk.len {W:Wk}{L:Lv}(h:LOk W L):L.length<=top2 W:=by
 have:=uT (l:=L.map (·.1)) (m:=List.range (top2 W)) h.nd fun x hx=>by obtain⟨e,he,rfl⟩:=x_.mp hx;exact C_.mpr (h.lt e he)
 rwa [b_,h_] at this
theorem LOk.nxS {W:Wk}{L:Lv}{d f:Nat}{v:Int}(h:LOk W L) (hf:d+f<top2 W):LOk W (nxS W d v L f):=⟨jC h.nd,fun x hx=>by
 rcases iz hx with rfl | ⟨hx,_⟩ | ⟨hx,_⟩
 ·exact hf
 ·exact h.lt x hx
 exact h.lt x hx⟩
theorem Vz (L:Lv):(dI lvT L).map kyT=L.map fun e=>T.int (e.1:Int):=by unfold dI;rw[Xi];rfl
def nxF (W:Wk) (beat:Int) (k:Nat) (B:Lv) (e:Nat × Int):Lv:=(fls W beat k e.1).foldl (nxS W e.1 e.2) B
theorem sV {W:Wk}{beat:Int}{k d b:Nat}(hW:WkOk W) (hd:d<top2 W) (hb:b<top2 W) (h:fil W beat k d b=true):Builtin.bitAnd (b:Int) (d:Int)=0/\Builtin.bitOr (d:Int) (b:Int)=((d+b:Nat):Int)/\d+b<top2 W:=by
 have F:=fil_iff.mp h;have n1:=Dj hW hd;have n2:=Dj hW hb;have e1:=(jz (nm W) (pk W b) (pk W d)).mpr fun x hx z=>F.apart hx z.1 z.2;have e2:=Ci (nm W) (pk W d) (pk W b);have e3:=iy (nm W) (pk W d) (pk W b) fun x hx z=>F.apart hx z.2 z.1;rw[gH hW hd,gH hW hb] at e3;rw[show numOf (nm W) (pk W b)=(b:Int) from n2,show numOf (nm W) (pk W d)=(d:Int) from n1] at e1 e2;rw[cg,<- e3] at e2;exact⟨e1,e2,by rw[e3];exact lu _⟩
def VB:Sp3:=fun ts H Q=>∃(W:Wk) (t q:Addr) (beat:Int) (k:Nat) (L:Lv),ts=[W.enc,.ref t,.int beat,.str (W.row.getD k ""),.ref q]/\WkOk W/\Tt W H t/\LOk W L/\H q=some (.dci (dI lvT L))/\∀o p,H p=none->Q (.ref p) (up3 (up3 H q (.dif o (dI lvT L))) p (.dci (dI lvT (nxL W beat k L))))
section
variable {c p:Addr}{ds d':List Int}{H0 H H':Hp3}{fs:List (Addr × O3)}{o:O3}
end
theorem HJ {P:Program}{w:World}{K:Frag}{mg:Str->Option Value}{base:Heap}{k:Nat}{x:Str}{st:Stmt}{ps:List Str}{sp sp':Sp3}(D:Cal P w K mg base k x st ps sp) (h:∀ts H Q,sp' ts H Q->sp ts H Q):Cal P w K mg base k x st ps sp':=by
 obtain⟨f,fd,g,F⟩:=D.ex;refine⟨f,fd,g,FnOk.imp F fun vs H Q E q=>?_⟩;obtain⟨ts,H3,Q3,r,sh,q,k⟩:=q;exact⟨ts,H3,Q3,r,sh,h _ _ _ q,k⟩
section
variable {P:Program}{w:World}{K:Frag}{mg:Str->Option Value}{base:Heap}{k:Nat}{x:Str}{st:Stmt}{ps:List Str}
end
structure Rwx (H0 H:Hp3) (m:Nat) (as:List Addr) (tt:List (List Bool)):Prop where
 sb:Sub3 H0 H
 ll:tt.length=as.length
 r:∀(i:Nat) (a:Addr),as[i]?=some a->∃bs:List Bool,tt[i]?=some bs/\bs.length=m/\H a=some (.lst (bs.map T.bl))
 fa:∀a∈as,H0 a=none
 nd:as.Nodup
structure Tbx (H0 H:Hp3) (p:Addr) (m:Nat) (as:List Addr) (tt:List (List Bool)):Prop where
 rw:Rwx H0 H m as tt
 l:as.length=m
 t:H p=some (.lst (as.map T.ref))
 np:p∉as
 f0:H0 p=none
theorem Rwx.grow {H0 H:Hp3}{m:Nat}{as:List Addr}{tt:List (List Bool)}{q:Addr}{bs:List Bool}(x:Rwx H0 H m as tt) (hb:bs.length=m) (hq:H q=none):Rwx H0 (up3 H q (.lst (bs.map T.bl))) m (as++[q]) (tt++[bs]):=by
 have hn:∀a∈as,a≠q:=fun a ha=>by obtain⟨i,hi⟩:=Zi ha;obtain⟨_,_,_,h2⟩:=x.r i a hi;exact aX h2 hq
 refine⟨x.sb.trans (Sub3.new hq),by rw[a_,a_,x.ll];rfl,fun i a ha=>?_,fun a ha=>?_,?_⟩
 ·by_cases h:i<as.length
  ·rw[Xj h] at ha;obtain⟨cs,h0,h1,h2⟩:=x.r i a ha;exact⟨cs,by rw[Xj (by rw[x.ll];exact h)];exact h0,h1,by rw[aC (aX h2 hq)];exact h2⟩
  rw[F_ (by omega)] at ha;have hz:i - as.length=0:=by
   cases z:i - as.length with
   |zero=>rfl
   |succ n=>rw[z] at ha;simp at ha
  rw[hz] at ha;simp only[Xq,ZG] at ha;subst ha;exact⟨bs,by rw[F_ (by rw[x.ll];omega),x.ll,hz];rfl,hb,aA⟩
 ·rcases E_.mp ha with h | h
  ·exact x.fa a h
  rw[g_.mp h];exact cU x.sb hq
 rw[List.nodup_append];exact⟨x.nd,by simp,fun a ha b hb=>by rw[g_.mp hb];exact hn a ha⟩
theorem Tbx.put {H0 H:Hp3}{p a:Addr}{m i:Nat}{as:List Addr}{tt:List (List Bool)}{bs:List Bool}(x:Tbx H0 H p m as tt) (hi:as[i]?=some a) (hb:bs.length=m):Tbx H0 (up3 H a (.lst (bs.map T.bl))) p m as (tt.set i bs):=by
 have ha:=XX hi;have hpa:p≠a:=fun e=>x.np (e▸ha);have hil:i<as.length:=by
  rcases Nat.lt_or_ge i as.length with z | z
  ·exact z
  rw[W_ z] at hi;cases hi
 refine⟨⟨fun b u e=>by rw[aC (aX e (x.rw.fa a ha))];exact x.rw.sb b u e,by rw[Zx];exact x.rw.ll,fun j b hj=>?_,x.rw.fa,x.rw.nd⟩,x.l,by rw[aC hpa];exact x.t,x.np,x.f0⟩;by_cases e:j=i
 ·subst e;rw[hi] at hj;cases hj;exact⟨bs,by rw[Yd (by rw[x.rw.ll];exact hil)],hb,aA⟩
 obtain⟨cs,h0,h1,h2⟩:=x.rw.r j b hj;have hne:b≠a:=fun z=>by
  rw[z,<- hi] at hj;have hjl:j<as.length:=by
   rcases Nat.lt_or_ge j as.length with z | z
   ·exact z
   rw[W_ z,hi] at hj;cases hj
  exact e ((List.getElem?_inj hjl x.rw.nd).mp hj)
 exact⟨cs,by rw[Ym (Ne.symm e)];exact h0,h1,by rw[aC hne];exact h2⟩
theorem Tbx.at' {H0 H:Hp3}{p:Addr}{m:Nat}{as:List Addr}{tt:List (List Bool)}(x:Tbx H0 H p m as tt) {i:Nat}(hi:i<m):∃(a:Addr) (bs:List Bool),atI (as.map T.ref) (i:Int)=some (.ref a)/\as[i]?=some a/\tt.getD i []=bs/\bs.length=m/\H a=some (.lst (bs.map T.bl)):=by
 have hl:i<as.length:=by rw[x.l];exact hi
 have ha:=d_ hl;obtain⟨bs,h0,h1,h2⟩:=x.rw.r i _ ha;exact⟨as[i],bs,bu (by rw[y_,ha];rfl),ha,by rw[m_,h0];rfl,h1,h2⟩
theorem vd {bs:List Bool}{j:Nat}(h:j<bs.length):atI (bs.map T.bl) (j:Int)=some (.bl (bs.getD j false)):=bu (by rw[y_,m_,d_ h];rfl)
theorem Tbx.tb {H0 H:Hp3}{p:Addr}{m:Nat}{as:List Addr}{tt:List (List Bool)}(x:Tbx H0 H p m as tt):Tb H0 H p m as:=⟨x.rw.sb,x.l,x.t,fun a ha=>by
 obtain⟨i,hi⟩:=Zi ha;obtain⟨bs,_,h1,h2⟩:=x.rw.r i a hi;exact⟨bs,h1,h2⟩,x.np,x.f0,x.rw.fa⟩
def ch0 (es:List T) (m i:Nat):List Bool:=(List.range m).map fun (j:Nat)=>dD false (.tup [.int (i:Int),.int (j:Int)]) es
def ch3 (k i:Nat) (tt:List (List Bool)) (j:Nat):List (List Bool):=tt.set i ((tt.getD i []).set j ((tt.getD i []).getD j false||((tt.getD i []).getD k false&&(tt.getD k []).getD j false)))
def ch2 (m k:Nat) (tt:List (List Bool)) (i:Nat):List (List Bool):=(List.range m).foldl (ch3 k i) tt
def ch1 (m:Nat) (tt:List (List Bool)) (k:Nat):List (List Bool):=(List.range m).foldl (ch2 m k) tt
def chF (m:Nat) (es:List T):List (List Bool):=(List.range m).foldl (ch1 m) ((List.range m).map (ch0 es m))
def Qo:Sp3:=fun ts H Q=>∃(m:Nat) (a:Addr) (es:List T),ts=[.int (m:Int),.ref a]/\m<=8/\H a=some (.lst es)/\es.all (pl 20)=true/\∀(p:Addr) (as:List Addr) (H':Hp3),Tbx H H' p m as (chF m es)->Q (.ref p) H'
def gB (tt:List (List Bool)) (i j:Nat):Bool:=(tt.getD i []).getD j false
structure Th (m:Nat) (R:Nat->Nat->Prop) (tt:List (List Bool)):Prop where
 l:tt.length=m
 r:∀i,i<m->(tt.getD i []).length=m
 sd:∀i j,gB tt i j=true->TC R i j
theorem mJ {β:Type}(l:List β) (i j:Nat) (x d:β):(l.set i x).getD j d=if j=i/\i<l.length then x else l.getD j d:=by
 rw[m_,m_];by_cases e:j=i
 ·subst e;by_cases h:j<l.length
  ·rw[Yd h,if_pos ⟨rfl,h⟩];rfl
  rw[if_neg fun z=>h z.2,List.set_eq_of_length_le (by omega)]
 rw[Ym (fun z=>e z.symm),if_neg fun z=>e z.1]
theorem vg (k a:Nat) (tt:List (List Bool)) (b i j:Nat):gB (ch3 k a tt b) i j=if i=a/\a<tt.length/\j=b/\b<(tt.getD a []).length then (gB tt a b||(gB tt a k&&gB tt k b)) else gB tt i j:=by
 unfold gB ch3;rw[mJ];by_cases e:i=a/\a<tt.length
 ·rw[if_pos e,mJ];by_cases e2:j=b/\b<(tt.getD a []).length
  ·rw[if_pos e2,if_pos ⟨e.1,e.2,e2⟩]
  rw[if_neg e2,if_neg fun z=>e2 z.2.2,e.1]
 rw[if_neg e,if_neg fun z=>e ⟨z.1,z.2.1⟩]
theorem Qp {m k a:Nat}{R:Nat->Nat->Prop}{tt:List (List Bool)}(h:Th m R tt) (b:Nat):Th m R (ch3 k a tt b):=by
 refine⟨by unfold ch3;rw[Zx];exact h.l,fun i hi=>?_,fun i j g=>?_⟩
 ·unfold ch3;rw[mJ];split
  ·rename_i z;rw[Zx,<- z.1];exact h.r i hi
  exact h.r i hi
 rw[vg] at g;split at g
 ·rename_i z;rw[z.1,z.2.2.1];rw[YG,L_] at g;rcases g with g | ⟨g1,g2⟩
  ·exact h.sd _ _ g
  exact (h.sd _ _ g1).trans (h.sd _ _ g2)
 exact h.sd _ _ g
theorem vh {k a b i j:Nat}{tt:List (List Bool)}(g:gB tt i j=true):gB (ch3 k a tt b) i j=true:=by
 rw[vg];split
 ·rename_i z;rw[<- z.1,<- z.2.2.1,g];rfl
 exact g
theorem HN {m k a b:Nat}{R:Nat->Nat->Prop}{tt:List (List Bool)}(h:Th m R tt) (ha:a<m) (hb:b<m) (g1:gB tt a k=true) (g2:gB tt k b=true):gB (ch3 k a tt b) a b=true:=by
 rw[vg,if_pos ⟨rfl,by rw[h.l];exact ha,rfl,by rw[h.r a ha];exact hb⟩,g1,g2,YS,Bool.or_true]
theorem VD {m k a:Nat}{R:Nat->Nat->Prop}(ha:a<m):∀(xs:List Nat) {tt:List (List Bool)},Th m R tt->Th m R (xs.foldl (ch3 k a) tt)/\(∀i j,gB tt i j=true->gB (xs.foldl (ch3 k a) tt) i j=true)/\∀b∈xs,b<m->gB tt a k=true->gB tt k b=true->gB (xs.foldl (ch3 k a) tt) a b=true
 |[],_,h=>⟨h,fun _ _ g=>g,fun _ z=>nomatch z⟩
 |x::r,tt,h=>by
  obtain⟨h1,h2,h3⟩:=VD ha r (Qp (k:=k) (a:=a) h x)
  refine⟨h1,fun i j g=>h2 i j (vh g),fun b hb hbm g1 g2=>?_⟩
  rcases l_.mp hb with e | hb
  ·
   rw[e] at hbm g2 ⊢
   exact h2 _ _ (HN h ha hbm g1 g2)
  ·
   exact h3 b hb hbm (vh g1) (vh g2)
theorem VF {m k:Nat}{R:Nat->Nat->Prop}:∀(xs:List Nat) {tt:List (List Bool)},(∀x∈xs,x<m)->Th m R tt->Th m R (xs.foldl (ch2 m k) tt)/\(∀i j,gB tt i j=true->gB (xs.foldl (ch2 m k) tt) i j=true)/\∀a∈xs,∀b,b<m->gB tt a k=true->gB tt k b=true->gB (xs.foldl (ch2 m k) tt) a b=true
 |[],_,_,h=>⟨h,fun _ _ g=>g,fun _ z=>nomatch z⟩
 |x::r,tt,hm,h=>by
  obtain⟨q1,q2,q3⟩:=VD (k:=k) (hm x i_) (List.range m) h
  obtain⟨h1,h2,h3⟩:=VF r (fun y hy=>hm y (n_ _ hy)) q1
  refine⟨h1,fun i j g=>h2 i j (q2 i j g),fun a ha b hb g1 g2=>?_⟩
  rcases l_.mp ha with e | ha
  ·
   rw[e] at g1 ⊢
   exact h2 _ _ (q3 b (C_.mpr hb) hb g1 g2)
  ·
   exact h3 a ha b hb (q2 _ _ g1) (q2 _ _ g2)
theorem VG {m:Nat}{R:Nat->Nat->Prop}:∀(xs:List Nat) {tt:List (List Bool)}{f:Nat->Nat->Bool},Th m R tt->(∀i j,f i j=true->i<m/\j<m/\gB tt i j=true)->Th m R (xs.foldl (ch1 m) tt)/\∀i j,fw f xs i j=true->gB (xs.foldl (ch1 m) tt) i j=true
 |[],_,_,h,hf=>⟨h,fun i j g=>(hf i j g).2.2⟩
 |k::r,tt,f,h,hf=>by
  obtain⟨q1,q2,q3⟩:=VF (k:=k) (List.range m) (fun x hx=>C_.mp hx) h
  refine VG r (f:=fwS f k) q1 fun i j g=>?_
  unfold fwS at g
  rw[YG,L_] at g
  rcases g with g | ⟨g1,g2⟩
  ·
   obtain⟨a,b,c⟩:=hf i j g
   exact⟨a,b,q2 _ _ c⟩
  ·
   obtain⟨a,_,c⟩:=hf i k g1
   obtain⟨_,b',c'⟩:=hf k j g2
   exact⟨a,b',q3 i (C_.mpr a) j b' c c'⟩
def esR (m:Nat) (es:List T) (i j:Nat):Prop:=i<m/\j<m/\dD false (.tup [.int (i:Int),.int (j:Int)]) es=true
theorem Dr (m:Nat) (es:List T) (i j:Nat):gB ((List.range m).map (ch0 es m)) i j=true↔esR m es i j:=by
 have e:((List.range m).map (ch0 es m)).getD i []=if i<m then ch0 es m i else []:=by
  rw[m_,y_];split
  ·rename_i hi;rw[Xo hi];rfl
  rw[W_ (by rw[h_];omega)];rfl
 unfold gB esR;rw[e];by_cases hi:i<m
 ·rw[if_pos hi];unfold ch0;rw[m_,y_];by_cases hj:j<m
  ·rw[Xo hj];exact⟨fun h=>⟨hi,hj,h⟩,fun h=>h.2.2⟩
  rw[W_ (by rw[h_];omega)];exact⟨fun h=>(nomatch h),fun h=>absurd h.2.1 hj⟩
 rw[if_neg hi];exact⟨fun h=>by simp at h,fun h=>absurd h.1 hi⟩
theorem HQ (m:Nat) (es:List T) (i j:Nat):gB (chF m es) i j=true↔TC (esR m es) i j:=by
 have t0:Th m (esR m es) ((List.range m).map (ch0 es m)):=by refine⟨by rw[b_,h_],fun i hi=>?_,fun i j g=>.base ((Dr m es i j).mp g)⟩;rw[m_,y_,Xo hi];show (ch0 es m i).length=m;unfold ch0;rw[b_,h_]
 obtain⟨h1,h2⟩:=VG (List.range m) (f:=fun i j=>gB ((List.range m).map (ch0 es m)) i j) t0 fun i j g=>⟨((Dr m es i j).mp g).1,((Dr m es i j).mp g).2.1,g⟩;refine⟨h1.sd i j,fun h=>h2 i j ?_⟩;rw[Ph fun a b hab=>C_.mpr ((Dr m es a b).mp hab).2.1];exact h.mono fun a b hab=>(Dr m es a b).mpr hab
def edT (ns:List Str) (p:Str × Str):T:=.tup [.int (ixS ns p.1:Int),.int (ixS ns p.2:Int)]
theorem qu {W:Wk}(hW:WkOk W) {i j:Nat}{x y:Str}(hi:(nm W)[i]?=some x) (hj:(nm W)[j]?=some y):dD false (.tup [.int (i:Int),.int (j:Int)]) ((lkW ["with"] W).map (edT (nm W)))=true↔lkR ["with"] W x y:=by
 show decide (_∈(lkW ["with"] W).map (edT (nm W)))=true↔_;rw[p_,x_];constructor
 ·rintro⟨p,hp,e⟩;have e':=T.tup.inj e;simp only[X7,T.int.injEq,and_true] at e';obtain⟨a,b⟩:=CK hW (a:=p.1) (b:=p.2) hp;have a':=(eN (ns:=nm W) a).1;have b':=(eN (ns:=nm W) b).1;rw[show ixS (nm W) p.1=i by omega,hi] at a';rw[show ixS (nm W) p.2=j by omega,hj] at b';rw[G_ a',G_ b'];exact hp
 intro h;exact⟨(x,y),h,by unfold edT;rw[show ixS (nm W) x=i from Dm hW.nd hi,show ixS (nm W) y=j from Dm hW.nd hj]⟩
theorem VH {W:Wk}(hW:WkOk W) {i j:Nat}{x y:Str}(hi:(nm W)[i]?=some x) (hj:(nm W)[j]?=some y):TC (esR (nm W).length ((lkW ["with"] W).map (edT (nm W)))) i j↔TC (lkR ["with"] W) x y:=by
 constructor
 ·intro h;induction h generalizing y with
  |base r=>exact .base ((qu hW hi hj).mp r.2.2)
  |step t r ih =>
   have hb:=d_ r.1
   exact .step (ih hb) ((qu hW hb hj).mp r.2.2)
 intro h;have lt:∀{a:Nat} {z:Str},(nm W)[a]?=some z->a<(nm W).length:=fun q=>(Xr.mp q).1;induction h generalizing j with
 |base r=>exact .base ⟨lt hi,lt hj,(qu hW hi hj).mpr r⟩
 |step t r ih =>
 obtain⟨b,hb⟩:=Zi (CK hW r).1;exact .step (ih hb) ⟨lt hb,lt hj,(qu hW hb hj).mpr r⟩
theorem VJ {W:Wk}(hW:WkOk W) {H H':Hp3}{p:Addr}{as:List Addr}(h:Tbx H H' p (nm W).length as (chF (nm W).length ((lkW ["with"] W).map (edT (nm W))))):Tt W H' p:=by
 refine⟨as,h.l,h.t,fun i a ha=>?_⟩;obtain⟨bs,h0,h1,h2⟩:=h.rw.r i a ha;refine⟨bs,h1,h2,fun j x y hi hj=>?_⟩;rw[Xg,farW_iff,<- VH hW hi hj,<- HQ];unfold gB;rw[m_ (l:=chF _ _),h0];rfl
theorem vm {P:Program}{w:World}{K:Frag}{mg:Str->Option Value}{base:Heap}{k:Nat}{x:Str}{st:Stmt}{ps:List Str}(D:Cal P w K mg base k x st ps Qo):Cal P w K mg base k x st ps Vb:=HJ D fun ts H Q ⟨m,a,es,e,hm,ha,hp,q⟩=>⟨m,a,es,e,hm,ha,hp,fun p as H' t=>q p as H' t.tb⟩
theorem Ds:∀{us vs:List Int},us.Pairwise (·<·)->vs.Pairwise (·<·)->(∀x,x∈us↔x∈vs)->us=vs
 |[],[],_,_,_=>rfl
 |[],v::_,_,_,h=>absurd ((h v).mpr i_) (fun z=>nomatch z)
 |u::_,[],_,_,h=>absurd ((h u).mp i_) (fun z=>nomatch z)
 |u::us,v::vs,hu,hv,h=>by
  rw[List.pairwise_cons] at hu hv
  have e:u=v:=by
   have h1:=(h u).mp i_
   have h2:=(h v).mpr i_
   rcases l_.mp h1 with e | h1
   ·
    exact e
   ·
    rcases l_.mp h2 with e | h2
    ·
     exact e.symm
    ·
     have a:=hv.1 u h1
     have b:=hu.1 v h2
     omega
  subst e
  rw[Ds hu.2 hv.2 fun x=>?_]
  have hx:=h x
  rw[l_,l_] at hx
  constructor
  ·
   intro z
   rcases hx.mp (.inr z) with e | e
   ·
    have:=hu.1 x z;omega
   ·
    exact e
  ·
   intro z
   rcases hx.mpr (.inr z) with e | e
   ·
    have:=hv.1 x z;omega
   ·
    exact e
def ksN (W:Wk) (ks:List Nat):List Nat:=(List.range (top2 W)).filter fun d=>decide (d∈ks)
theorem Dt {α:Type}{W:Wk}{enc:α->T}{E:List (Nat × α)}(nd:(E.map (·.1)).Nodup) (lt:∀e∈E,e.1<top2 W) {us:List Int}(h:us.Perm ((dI enc E).map (·.1))) (hs:us.Pairwise fun x y=>intOrd.kle x y):us=(ksN W (E.map (·.1))).map fun (d:Nat)=>(d:Int):=by
 have e0:(dI enc E).map (·.1)=(E.map (·.1)).map fun (d:Nat)=>(d:Int):=by unfold dI;rw[Xi,Xi];rfl
 rw[e0] at h;have ndU:us.Nodup:=h.nodup_iff.mpr (List.Pairwise.map _ (fun a b (q:a≠b)=>by omega) nd);have key:∀x y:Int,decide (y<x)=false->x≠y->x<y:=fun x y a b=>by have:=of_decide_eq_false a;omega
 refine Ds ?_ ?_ fun x=>?_
 ·refine (hs.and ndU).imp fun {x y} q=>?_;exact key _ _ q.1 q.2
 ·refine List.Pairwise.map _ (fun a b (q:a<b)=>by omega) ?_;exact List.Pairwise.filter _ (List.pairwise_lt_range)
 rw[h.mem_iff,x_,x_];unfold ksN;constructor
 ·rintro⟨d,hd,rfl⟩;obtain⟨e,he,rfl⟩:=x_.mp hd;exact⟨e.1,R_.mpr ⟨C_.mpr (lt e he),P_ hd⟩,rfl⟩
 rintro⟨d,hd,rfl⟩;exact⟨d,Xv (R_.mp hd).2,rfl⟩
theorem mK (W:Wk) (ks:List Nat):(ksN W ks).length<=top2 W:=J_ (Xf _ _) (by rw[h_];exact o_ _)
def tbR (W:Wk) (k d:Nat) (v:Int):T:=.tup [.int (k:Int),sT (pk W d),.int v]
def lvR (W:Wk) (k:Nat) (L:Lv):List T:=(ksN W (L.map (·.1))).map fun d=>tbR W k d ((bz d L).getD 0)
def gP (W:Wk) (beat:Int) (m:Nat):List T:=.tup [.int 0,.tup [],.int 0]::(List.range m).flatMap fun k=>lvR W (k+1) (lvs W beat (k+1))
theorem xK {W:Wk}{beat:Int}{k:Nat}(hW:WkOk W) (hk:k<=W.row.length):LOk W (lvs W beat k):=⟨(mG hk).nd,fun e he=>by
 obtain⟨fs,r,_,_⟩:=(mG hk).ok e he;exact (r.ok hW).1⟩
theorem oU:∀{ns:List Str}{b:Int},ns.Nodup->ns.filter (fun x=>decide (x∈pick ns b))=pick ns b
 |[],_,_=>rfl
 |y::r,b,nd=>by
  rw[Xl] at nd
  have ih:=oU (b:=b / 2) nd.2
  have hn:y∉pick r (b / 2):=fun z=>nd.1 (fL _ _ _ z)
  have e1:∀x∈r,x≠y:=fun x hx z=>nd.1 (z▸hx)
  unfold pick
  by_cases c:b%2=1
  ·
   rw[if_pos c,Xu,if_pos (by simp)]
   congr 1
   rw[<- ih]
   exact Yu fun x hx=>by rw[ih];simp [e1 x hx]
  ·
   rw[if_neg c,Xu,if_neg (by simp [hn])]
   exact ih
theorem HR {W:Wk}(hW:WkOk W) (d:Nat):(nm W).filter (fun x=>decide (x∈pk W d))=pk W d:=oU hW.nd
theorem lw (f:Nat->Nat) (c:Nat) (h:∀k,f k<=c):∀xs:List Nat,(xs.map f).sum<=c*xs.length
 |[]=>X8 _
 |x::r=>by
  have h1:=lw f c h r
  have h2:=h x
  rw[D_,ZK,e_,Nat.mul_succ]
  omega
theorem Du (W:Wk) (d:Nat):(pk W d).length<=(nm W).length:=by
 have:∀(ns:List Str) (b:Int),(pick ns b).length<=ns.length:=fun ns=>by
  induction ns with
  |nil=>intro b;exact o_ _
  |cons y r ih =>
  intro b;unfold pick;have:=ih (b / 2);split <;> simp only[e_] <;> omega
 exact this _ _
def J8:Sp3:=fun ts H Q=>∃(W:Wk) (beat:Int) (m:Nat),ts=[W.enc,.int beat,.int (m:Int)]/\WkOk W/\W.tasks.length<=5/\m<=W.row.length/\∀p,H p=none->Q (.ref p) (up3 H p (.lst (gP W beat m)))
section
variable {P:Program}{w:World}{K:Frag}{mg:Str->Option Value}{base:Heap}
theorem VL (ns:List Str) (xs:List (Str × Str)):(xs.map (edT ns)).all (pl 20)=true:=by rw[S_];intro t ht;obtain⟨x,_,rfl⟩:=x_.mp ht;rfl
def VM:Sp3:=fun ts H Q=>∃W:Wk,ts=[W.enc]/\WkOk W/\∀(p:Addr) (H':Hp3),Sub3 H H'->Tt W H' p->Q (.ref p) H'
abbrev dO:List Str:=["_law_works_here","_law_names_here","_law_edges","_law_word","_law_one","_law_other"]
theorem sc_chain_table:FnScope dO ["_law_works_here"] (aB (top 43)):=bh
theorem mL {f:Addr}{fd:FuncData}(g:G3 K mg "_law_chain_table" (top 43) ["_law_works_here"] f fd) (B:Bl mg) (F_chained:Cal P w K mg base 1 "_law_chained" (top 37) ["_law_many","_law_edges"] Qo):Cal P w K mg base 3 "_law_chain_table" (top 43) ["_law_works_here"] VM:=by
 refine⟨f,fd,g,?_⟩;refine fn3 g.fn sc_chain_table (fun ts H Q h=>?_) (fun cdv A outer s H E ts H3 Q hr h=>?_)
 ·obtain⟨W,rfl,_⟩:=h;rfl
 have hu30:=Room.u30 hr;obtain⟨W,rfl,hW,kk⟩:=h;refine⟨_,(ao (aG (i:=1) sc_chain_table.nd (bx rfl (bF (n0:=(aB (top 43)).names) (N:=dO) (N':=["_law_name","_law_length","_law_kinds_here"]) (nt:=3) (cap:=[]) rfl rfl (by decide +kernel)) (cT (aK ix3 (v3 0) aq)) (fun cl pins s H C0 fp=>⟨(cH (n:=3) rfl (aJ (aF (i:=0) (show List.Nodup [("_law_name":Str),("_law_length":Str),("_law_kinds_here":Str)] by decide +kernel)) (aJ (aF (i:=1) (show List.Nodup [("_law_name":Str),("_law_length":Str),("_law_kinds_here":Str)] by decide +kernel)) (aJ (aF (i:=2) (show List.Nodup [("_law_name":Str),("_law_length":Str),("_law_kinds_here":Str)] by decide +kernel)) bN)))),bW,(v3 0)⟩)))
   (ao (kJ (i:=2) rfl sc_chain_table.nd (bF (n0:=(aB (top 43)).names) (N:=dO) (N':=["_law_one","_law_other","_law_names_here"]) (nt:=2) (cap:=[1]) rfl rfl (by decide +kernel)) (cT (aK ix3 (v3 0) aq)) (fun cl pins s H C0 fp=>⟨(cH (n:=2) rfl (aJ (aF (i:=0) (show List.Nodup [("_law_one":Str),("_law_other":Str),("_law_names_here":Str)] by decide +kernel)) (aJ (aF (i:=1) (show List.Nodup [("_law_one":Str),("_law_other":Str),("_law_names_here":Str)] by decide +kernel)) bN))),bW,(bD (aa (bZ t_ XF XH eV (v3 2) (aa (v3 0) ak)) (aa (bZ t_ XF XH eV (v3 2) (aa (v3 1) ak)) ak)))⟩))
   (ao (bc A_ rfl (cT (aK ix3 (v3 0) aq)) (cH (n:=3) rfl (aJ (aF (i:=3) sc_chain_table.nd) (aJ (aF (i:=4) sc_chain_table.nd) (aJ (aF (i:=5) sc_chain_table.nd) bN)))) (au (bQ (aW (bR hu30) (v3 3) d9) (au (aG (i:=2) sc_chain_table.nd (aH aY (v3 2) (bK (aa (bD (aa (bZ t_ XF XH eV (v3 1) (aa (v3 4) ak)) (aa (bZ t_ XF XH eV (v3 1) (aa (v3 5) ak)) ak))) (aa (bD (aa (bZ t_ XF XH eV (v3 1) (aa (v3 5) ak)) (aa (bZ t_ XF XH eV (v3 1) (aa (v3 4) ak)) ak))) ak)))))) aZ)))
   (au (aO (aL F_chained hr rfl (aa (aM bH rfl B.len_ bI (aa (v3 1) ak)) (aa (v3 2) ak)))))))),?_⟩
 rw[show aR dO [W.enc]=[some (W.enc),none,none,none,none,none] from rfl];have hsz:sizeLine=16777216:=rfl;have t8:=hW.t8;have k':=Box.mk kk;have hW':=Box.mk hW;clear kk hW;refine aD fun R0 hR0=>?_;walk_at "";walk_at "c";refine ir (fun t:Str × Int × List Str=>.str t.1) (fun t=>.int t.2.1) (fun t=>.tup (t.2.2.map T.str)) (fun t=>T.str t.1) (fun _=>true) W.tasks [] trivial (by omega) (fun t ht Q' hq=>hq) (fun t ht _ Q' hq=>?_) (fun pn hpn=>?_)
 ·clear k' hR0;walk_at "";try exact hq
 rw[YX.mpr (fun _ _=>rfl)];have en:W.tasks.map (fun t=>T.str t.1)=(W.tasks.map (·.1)).map T.str:=by rw[Xi];rfl
 rw[en];have ln:(nm W).length=W.tasks.length:=by unfold nm;rw[b_]
 rw[show W.tasks.map (·.1)=nm W from rfl];have gn:up3 H3 pn (.lst ((nm W).map T.str)) pn=some (.lst ((nm W).map T.str)):=aA;have sub:Sub3 H3 (up3 H3 pn (.lst ((nm W).map T.str))):=Sub3.new hpn;generalize up3 H3 pn (.lst ((nm W).map T.str))=H4 at gn sub ⊢;clear hpn en;walk_at "n";refine aD fun R1 hR1=>?_;walk_at "";walk_at "c";have os:=hW'.out.os;have ps:=hW'.out.ps;refine jY (fun o:Str × Str=>.str o.1) (fun o=>.str o.2) (edT (nm W)) W.orders [some (.ref pn)] trivial (by omega) (fun o ho Q' hq=>?_) (fun pe hpe=>?_)
 ·have x1:=eN (hW'.out.oo o ho).2.1;have x2:=eN (hW'.out.oo o ho).2.2;have es:=iJ (nm W);have hq':=Box.mk hq;clear k' hR1 hq;walk_at "";exact⟨⟨trivial,trivial⟩,_,x1.1,x1.2,⟨trivial,trivial⟩,_,x2.1,x2.2,by decide,hq'.out⟩
 have ge:up3 H4 pe (.lst (W.orders.map (edT (nm W)))) pe=some (.lst (W.orders.map (edT (nm W)))):=aA;have sub':Sub3 H3 (up3 H4 pe (.lst (W.orders.map (edT (nm W))))):=sub.trans (Sub3.new hpe);have gn':up3 H4 pe (.lst (W.orders.map (edT (nm W)))) pn=some (.lst ((nm W).map T.str)):=(Sub3.new hpe) _ _ gn;generalize up3 H4 pe (.lst (W.orders.map (edT (nm W))))=H5 at ge sub' gn' ⊢;clear hpe gn sub;walk_at "n";refine aD fun R2 hR2=>?_;walk_at "";refine aQ prT W.pairs (fun A Z H=>∃(pe:Addr) (v3 v4 v5:Option T),Z=[some W.enc,some (.ref pn),some (.ref pe),v3,v4,v5]/\Sub3 H5 H/\H pe=some (.lst ((W.orders++A.flatMap (lkP ["with"])).map (edT (nm W))))) ⟨pe,_,_,_,rfl,Sub3.refl,by rw[ge];simp⟩ ?_ ?_
 ·rintro Z H ⟨pe,v3,v4,v5,rfl,sb,ge⟩;refine⟨trivial,?_⟩;walk_at "n";have gn2:=sb _ _ gn';walk_at "";rw[show W.orders++W.pairs.flatMap (lkP ["with"])=lkW ["with"] W from rfl] at ge;refine⟨W.tasks.length,pe,_,rfl,t8,ge,VL _ _,fun p as H' tb=>?_⟩;rw[<- ln] at tb;exact Fin3.of Sub3.refl (k'.out p H' ((sub'.trans sb).trans tb.rw.sb) (VJ hW'.out tb))
 rintro A ⟨wd,a,c⟩ B Z H N e ⟨pe,v3,v4,v5,rfl,sb,ge⟩ hN;refine⟨trivial,?_⟩;have gn2:=sb _ _ gn';have hpp:=hW'.out.pp (wd,a,c) (by rw[e];simp);have x1:=eN hpp.2.2.1;have x2:=eN hpp.2.2.2;have es:=iJ (nm W);have hl:((W.orders++A.flatMap (lkP ["with"])).map (edT (nm W))).length+2<16777216:=by have h1:=lq ["with"] A;have h2:=T_ List.length e;simp only[a_,e_] at h2;rw[b_,a_];omega
 have fN:Box (∀H' pe,Sub3 H5 H'->H' pe=some (.lst (((W.orders++A.flatMap (lkP ["with"])).map (edT (nm W)))++(lkP ["with"] (wd,a,c)).map (edT (nm W))))->N [some W.enc,some (.ref pn),some (.ref pe),some (.str wd),some (.str a),some (.str c)] H'):=⟨fun H' pe h1 h2=>hN _ _ ⟨_,_,_,_,rfl,h1,by rw[h2,Zr,<- Xn,z_];simp⟩⟩;clear hN e k' hR2 hpp;generalize (W.orders++A.flatMap (lkP ["with"])).map (edT (nm W))=cur at *;unfold lkP at fN;simp only[prT];walk_at "";refine⟨trivial,?_⟩;by_cases hw:wd="with"
 ·simp only[hw,Xz,if_true,g_] at fN ⊢;refine⟨⟨trivial,trivial⟩,_,x1.1,x1.2,⟨trivial,trivial⟩,_,x2.1,x2.2,by decide,⟨trivial,trivial⟩,_,x2.1,x2.2,⟨trivial,trivial⟩,_,x1.1,x1.2,by decide,by decide,fun p hp=>?_⟩;rw[aC (aX ge hp),ge];walk_at "";refine⟨by omega,fun p1 hp1=>?_⟩;exact fN.out _ _ ((sb.trans (Sub3.new hp)).trans (Sub3.new hp1)) (by rw[aA];rfl)
 simp only[hw,XC,H_,Xh,g_] at fN ⊢;exact fN.out _ _ sb (by rw[ge];simp)
theorem W9 {X:Cx}(i:Nat) {x:Str}{pos posp p5:Pos}{k v:Expr}{tk tv:TE3}(hN:X.N.Nodup) (hk:PE3 X k tk) (hv:PE3 X v tv) (hi:X.N[i]?=some x) (hx:Loc X.env.scope x) (hf:X.fn x=true\/X.env.scope.names.lookup x=some .local):PS3 X (.Assign [.Name x posp] (.Dict [some k] [v] p5) pos) (qU (jr tk tv) (dC i)):=aG hN (oJ hk hv) hi hx rfl hf
abbrev xM:List Str:=["_law_works_here","_law_beat_here","_law_many","_law_table","_law_names_here","_law_level","_law_rows","_law_k","_law_done","_law_tasks"]
theorem sc_due:FnScope xM ["_law_works_here","_law_beat_here","_law_many"] (aB (top 48)):=bh
theorem Qq {f:Addr}{fd:FuncData}(g:G3 K mg "_law_due" (top 48) ["_law_works_here","_law_beat_here","_law_many"] f fd) (B:Bl mg) (F_chain_table:Cal P w K mg base 3 "_law_chain_table" (top 43) ["_law_works_here"] VM) (F_next:Cal P w K mg base 3 "_law_next" (top 47) ["_law_works_here","_law_table","_law_beat_here","_law_kind","_law_level"] VB):Cal P w K mg base 4 "_law_due" (top 48) ["_law_works_here","_law_beat_here","_law_many"] J8:=by
 refine⟨f,fd,g,?_⟩;refine fn3 g.fn sc_due (fun ts H Q h=>?_) (fun cdv A outer s H E ts H3 Q hr h=>?_)
 ·obtain⟨W,beat,m,rfl,_⟩:=h;rfl
 have hu30:=Room.u30 hr;have hu1:=Room.u1 hr;obtain⟨W,beat,m,rfl,hW,t5,hm,kk⟩:=h;refine⟨_,(ao (aG (i:=3) sc_due.nd (aL F_chain_table hr rfl (aa (v3 0) ak)))
   (ao (aG (i:=4) sc_due.nd (bx rfl (bF (n0:=(aB (top 48)).names) (N:=xM) (N':=["_law_name","_law_length","_law_kinds_here"]) (nt:=3) (cap:=[]) rfl rfl (by decide +kernel)) (cT (aK ix3 (v3 0) aq)) (fun cl pins s H C0 fp=>⟨(cH (n:=3) rfl (aJ (aF (i:=0) (show List.Nodup [("_law_name":Str),("_law_length":Str),("_law_kinds_here":Str)] by decide +kernel)) (aJ (aF (i:=1) (show List.Nodup [("_law_name":Str),("_law_length":Str),("_law_kinds_here":Str)] by decide +kernel)) (aJ (aF (i:=2) (show List.Nodup [("_law_name":Str),("_law_length":Str),("_law_kinds_here":Str)] by decide +kernel)) bN)))),bW,(v3 0)⟩)))
   (@ao _ _ _ _ _ (@W9 _ 5 _ _ _ _ _ _ _ _ sc_due.nd aq aq rfl (by first | exact Or.inl rfl | exact Or.inr rfl) (by first | exact .inl rfl | exact .inr rfl | assumption))
   (ao (aG (i:=6) sc_due.nd (bK (aa (bD (aa aq (aa (bD ak) (aa aq ak)))) ak)))
   (ao (bc A_ rfl (aN rfl B.range_ (aa (v3 2) ak)) (aF (i:=7) sc_due.nd) (ao (aG (i:=5) sc_due.nd (aL F_next hr rfl (aa (v3 0) (aa (v3 3) (aa (v3 1) (aa (aK ix3 (aK ix3 (v3 0) aq) (v3 7)) (aa (v3 5) ak)))))))
    (au (bc A_ rfl (cM (aM (wX hr) rfl B.sorted_ oM (aa (v3 5) ak))) (aF (i:=8) sc_due.nd) (ao (aG (i:=9) sc_due.nd (bG cP rfl B.tuple_ cD (aa (bx rfl (bF (n0:=(aB (top 48)).names) (N:=xM) (N':=["_law_j","_law_names_here","_law_done"]) (nt:=1) (cap:=[4,8]) rfl rfl (by decide +kernel)) (aN rfl B.range_ (aa (aM bH rfl B.len_ bI (aa (v3 4) ak)) ak)) (fun cl pins s H C0 fp=>⟨(aF (i:=0) (show List.Nodup [("_law_j":Str),("_law_names_here":Str),("_law_done":Str)] by decide +kernel)),(di (aW (bR hu30) (aH dX (aH gD (v3 2) (v3 0)) aq) aq)),(aK ix3 (v3 1) (v3 0))⟩)) ak)))
     (au (bL (bZ t_ M_ N_ bB (v3 6) (aa (bD (aa (aH aY (v3 7) aq) (aa (v3 9) (aa (jt hu1 (v3 5) (v3 8)) ak)))) ak)))))))))
   (au (aO (v3 6)))))))),?_⟩
 rw[show aR xM [W.enc,T.int beat,T.int (m:Int)]=[some (W.enc),some (T.int beat),some (T.int (m:Int)),none,none,none,none,none,none,none] from rfl];have hsz:sizeLine=16777216:=rfl;have t8:=hW.t8;have r8:=hW.r8;have t32:top2 W<=32:=Yq (n:=2) (by decide) t5;have k':=Box.mk kk;have hW':=Box.mk hW;clear kk hW;refine aD fun R0 hR0=>?_;walk_at "";refine⟨W,rfl,hW'.out,fun pt H4 sb4 hT=>?_⟩;walk_at "n";refine aD fun R1 hR1=>?_;walk_at "";walk_at "c";refine ir (fun t:Str × Int × List Str=>.str t.1) (fun t=>.int t.2.1) (fun t=>.tup (t.2.2.map T.str)) (fun t=>T.str t.1) (fun _=>true) W.tasks [] trivial (by omega) (fun t ht Q' hq=>hq) (fun t ht _ Q' hq=>?_) (fun pn hpn=>?_)
 ·clear k' hR1;walk_at "";try exact hq
 rw[YX.mpr (fun _ _=>rfl)];have en:W.tasks.map (fun t=>T.str t.1)=(W.tasks.map (·.1)).map T.str:=by rw[Xi];rfl
 rw[en];have ln:(nm W).length=W.tasks.length:=by unfold nm;rw[b_]
 rw[show W.tasks.map (·.1)=nm W from rfl];have gn:up3 H4 pn (.lst ((nm W).map T.str)) pn=some (.lst ((nm W).map T.str)):=aA;have sb5:Sub3 H3 (up3 H4 pn (.lst ((nm W).map T.str))):=sb4.trans (Sub3.new hpn);have hT5:Tt W (up3 H4 pn (.lst ((nm W).map T.str))) pt:=hT.keep fun b ts hb=>(Sub3.new hpn) _ _ hb;generalize up3 H4 pn (.lst ((nm W).map T.str))=H5 at gn sb5 hT5 ⊢;clear hpn en sb4 hT;walk_at "n";refine aD fun R2 hR2=>?_;walk_at "";intro q0 hq0;have e0:([(0,T.int 0)]:List (Int × T))=dI lvT (lvs W beat 0):=rfl;rw[e0];walk_at "n";refine⟨trivial,?_⟩;refine aD fun R3 hR3=>?_;walk_at "";refine⟨by decide,by decide,by decide,fun pr hpr=>?_⟩;have nqr:q0≠pr:=aX aA hpr;have hpr5:H5 pr=none:=by rw[aC (Ne.symm nqr)] at hpr;exact hpr
 have sb6:Sub3 H5 (up3 (up3 H5 q0 (.dci (dI lvT (lvs W beat 0)))) pr (.lst (gP W beat 0))):=(Sub3.new hq0).trans (Sub3.new hpr);have gr6:up3 (up3 H5 q0 (.dci (dI lvT (lvs W beat 0)))) pr (.lst (gP W beat 0)) pr=some (.lst (gP W beat 0)):=aA;have gq6:up3 (up3 H5 q0 (.dci (dI lvT (lvs W beat 0)))) pr (.lst (gP W beat 0)) q0=some (.dci (dI lvT (lvs W beat 0))):=by rw[aC nqr];exact aA
 rw[show [T.tup [T.int 0,T.tup [],T.int 0]]=gP W beat 0 from rfl];generalize up3 (up3 H5 q0 (.dci (dI lvT (lvs W beat 0)))) pr (.lst (gP W beat 0))=H6 at sb6 gr6 gq6 ⊢;clear hpr nqr e0;walk_at "n";refine aD fun R4 hR4=>?_;walk_at "";refine⟨trivial,by omega,by omega,?_⟩;rw[dm];refine aQ (fun (i:Nat)=>T.int (i:Int)) (List.range m) (fun A Z H=>∃(q:Addr) (v7 v8 v9:Option T),Z=[some W.enc,some (.int beat),some (.int (m:Int)),some (.ref pt),some (.ref pn),some (.ref q),some (.ref pr),v7,v8,v9]/\Sub3 H5 H/\H5 q=none/\H q=some (.dci (dI lvT (lvs W beat A.length)))/\H pr=some (.lst (gP W beat A.length))) ⟨q0,_,_,_,rfl,sb6,hq0,gq6,gr6⟩ ?_ ?_
 ·rintro Z H ⟨q,v7,v8,v9,rfl,sb,hq,gq,gr⟩;refine⟨trivial,?_⟩;rw[h_] at gr;walk_at "n";walk_at "";refine Fin3.of (fun b u hb=>?_) (k'.out pr (cU sb5 hpr5));by_cases e:b=pr
  ·subst e;rw[aA] at hb;rw[gr,<- hb]
  rw[aC e] at hb;exact sb _ _ (sb5 _ _ hb)
 rintro A i B Z H N e ⟨q,v7,v8,v9,rfl,sb,hq,gq,gr⟩ hN;refine⟨trivial,?_⟩;have hA:A.length<m:=by have:=T_ List.length e;simp only[a_,e_,h_] at this;omega
 have hi:i=A.length:=by
  have h1:(List.range m)[A.length]?=some i:=by rw[e,F_ (o_ _)];simp
  rw[Xo hA] at h1;exact (G_ h1).symm
 subst hi;have hO:=xK hW'.out (beat:=beat) (show A.length<=W.row.length by omega);have hO1:=xK hW'.out (beat:=beat) (show A.length+1<=W.row.length by omega);have x1:atI (W.row.map T.str) (A.length:Int)=some (.str (W.row.getD A.length "")):=bu (by rw[y_,m_,d_ (show A.length<W.row.length by omega)];rfl);have hN':=Box.mk hN;have hdu:gP W beat (A.length+1)=gP W beat A.length++lvR W (A.length+1) (lvs W beat (A.length+1)):=by unfold gP;rw[List.range_succ,Zr];simp
 clear hN e k' hR4 gq6 gr6 sb6;refine aD fun R5 hR5=>?_;walk_at "";refine⟨W,pt,q,beat,A.length,lvs W beat A.length,rfl,hW'.out,hT5.keep fun b ts hb=>sb _ _ hb,hO,gq,fun o p2 hp2=>?_⟩;have nq2:q≠p2:=aX gq hp2;have nr2:pr≠p2:=aX gr hp2;have nrq:pr≠q:=ne3 gr gq (by simp);rw[show nxL W beat A.length (lvs W beat A.length)=lvs W beat (A.length+1) from rfl];have sb7:Sub3 H5 (up3 (up3 H q (.dif o (dI lvT (lvs W beat A.length)))) p2 (.dci (dI lvT (lvs W beat (A.length+1))))):=fun b u hb=>by rw[aC (aX (sb _ _ hb) hp2),aC (aX hb hq)];exact sb _ _ hb
 have h52:H5 p2=none:=cU sb hp2;have gq7:up3 (up3 H q (.dif o (dI lvT (lvs W beat A.length)))) p2 (.dci (dI lvT (lvs W beat (A.length+1)))) p2=some (.dci (dI lvT (lvs W beat (A.length+1)))):=aA;have gr7:up3 (up3 H q (.dif o (dI lvT (lvs W beat A.length)))) p2 (.dci (dI lvT (lvs W beat (A.length+1)))) pr=some (.lst (gP W beat A.length)):=by rw[aC nr2,aC nrq];exact gr
 generalize up3 (up3 H q (.dif o (dI lvT (lvs W beat A.length)))) p2 (.dci (dI lvT (lvs W beat (A.length+1))))=H7 at sb7 gq7 gr7 ⊢;clear gq gr sb hq hp2 nq2 nrq hO x1;walk_at "n";have dl:(dI lvT (lvs W beat (A.length+1))).length<64:=by rw[u9];have:=hO1.len;omega
 walk_at "";refine⟨by first | trivial | exact dl,fun us hpm hsr ps hps=>?_⟩;have eus:=Dt hO1.nd hO1.lt hpm hsr;subst eus;rw[Xi];have klen:=mK W ((lvs W beat (A.length+1)).map (·.1));have kmem:∀d∈ksN W ((lvs W beat (A.length+1)).map (·.1)),d<top2 W/\cz (d:Int) (dI lvT (lvs W beat (A.length+1)))=some (.int ((bz d (lvs W beat (A.length+1))).getD 0)):=fun d hd=>by unfold ksN at hd;obtain⟨h1,h2⟩:=R_.mp hd;obtain⟨e,he,rfl⟩:=x_.mp (Xv h2);rw[iQ,dN hO1.nd (show (e.1,e.2)∈_ from he)];exact⟨C_.mp h1,rfl⟩
 rw[show lvR W (A.length+1) (lvs W beat (A.length+1))=(ksN W ((lvs W beat (A.length+1)).map (·.1))).map fun d=>tbR W (A.length+1) d ((bz d (lvs W beat (A.length+1))).getD 0) from rfl] at hdu;have hNd:Box (∀v7 v8 v9 H,Sub3 H5 H->H p2=some (.dci (dI lvT (lvs W beat (A.length+1))))->H pr=some (.lst (gP W beat A.length++(ksN W ((lvs W beat (A.length+1)).map (·.1))).map fun d=>tbR W (A.length+1) d ((bz d (lvs W beat (A.length+1))).getD 0)))->N [some W.enc,some (.int beat),some (.int (m:Int)),some (.ref pt),some (.ref pn),some (.ref p2),some (.ref pr),v7,v8,v9] H):=⟨fun v7 v8 v9 H h1 h2 h3=>hN'.out _ _ ⟨_,_,_,_,rfl,h1,h52,by rw[a_];exact h2,by rw[a_,q_,hdu];exact h3⟩⟩;clear hN' hdu hpm hsr hO1 dl;have dlen:(gP W beat A.length).length<=1+8*32:=by unfold gP;rw[e_,List.length_flatMap];have:=lw (fun k=>(lvR W (k+1) (lvs W beat (k+1))).length) 32 (fun k=>by unfold lvR;rw[b_];exact J_ (mK _ _) t32) (List.range A.length);rw[h_] at this;omega
 generalize ksN W ((lvs W beat (A.length+1)).map (·.1))=KS at *;generalize lvs W beat (A.length+1)=L1 at *;generalize gP W beat A.length=D0 at *;have nps:pr≠ps:=aX gr7 hps;have n2s:p2≠ps:=aX gq7 hps;have n2r:p2≠pr:=ne3 gq7 gr7 (by simp);have h5s:H5 ps=none:=cU sb7 hps;have sb8:Sub3 H5 (up3 H7 ps (.lst (KS.map (T.int ∘ fun (d:Nat)=>(d:Int))))):=sb7.trans (Sub3.new hps);have gq8:up3 H7 ps (.lst (KS.map (T.int ∘ fun (d:Nat)=>(d:Int)))) p2=some (.dci (dI lvT L1)):=by rw[aC n2s];exact gq7
 have gr8:up3 H7 ps (.lst (KS.map (T.int ∘ fun (d:Nat)=>(d:Int)))) pr=some (.lst (D0++([]:List Nat).map fun d=>tbR W (A.length+1) d ((bz d L1).getD 0))):=by rw[aC nps,Xy,I_];exact gr7
 have gs8:up3 H7 ps (.lst (KS.map (T.int ∘ fun (d:Nat)=>(d:Int)))) ps=some (.lst (KS.map (T.int ∘ fun (d:Nat)=>(d:Int)))):=aA;generalize up3 H7 ps (.lst (KS.map (T.int ∘ fun (d:Nat)=>(d:Int))))=H8 at sb8 gq8 gr8 gs8 ⊢;clear gq7 gr7 sb7 hps;refine aQ (T.int ∘ fun (d:Nat)=>(d:Int)) KS (fun A2 Z H=>∃(v8 v9:Option T),Z=[some W.enc,some (.int beat),some (.int (m:Int)),some (.ref pt),some (.ref pn),some (.ref p2),some (.ref pr),some (.int (A.length:Int)),v8,v9]/\Sub3 H5 H/\H p2=some (.dci (dI lvT L1))/\H ps=some (.lst (KS.map (T.int ∘ fun (d:Nat)=>(d:Int))))/\H pr=some (.lst (D0++A2.map fun d=>tbR W (A.length+1) d ((bz d L1).getD 0)))) ⟨_,_,rfl,sb8,gq8,gs8,gr8⟩ ?_ ?_
 ·rintro Z H ⟨v8,v9,rfl,sb,gq,gs,gr⟩;exact⟨.inl gs,hNd.out _ _ _ _ sb gq gr⟩
 rintro A2 d B2 Z H N2 eE ⟨v8,v9,rfl,sb,gq,gs,gr⟩ hN2;refine⟨.inl gs,?_⟩;have km:=kmem d (by rw[eE];simp);have kl:A2.length<=256:=by have:=T_ List.length eE;simp only[a_,e_] at this;omega
 have gn2:=sb _ _ gn;have fN:Box (∀v8 v9 H',Sub3 H5 H'->H' p2=some (.dci (dI lvT L1))->H' ps=some (.lst (KS.map (T.int ∘ fun (d:Nat)=>(d:Int))))->H' pr=some (.lst ((D0++A2.map fun d=>tbR W (A.length+1) d ((bz d L1).getD 0))++[tbR W (A.length+1) d ((bz d L1).getD 0)]))->N2 [some W.enc,some (.int beat),some (.int (m:Int)),some (.ref pt),some (.ref pn),some (.ref p2),some (.ref pr),some (.int (A.length:Int)),v8,v9] H'):=⟨fun v8 v9 H' h1 h2 h3 h4=>hN2 _ _ ⟨_,_,rfl,h1,h2,h3,by rw[h4,z_,Xn];rfl⟩⟩;have dl2:(D0++A2.map fun d=>tbR W (A.length+1) d ((bz d L1).getD 0)).length<16777216:=by rw[a_,b_];omega
 clear hN2 eE hNd kmem gq8 gr8 gs8 sb8;generalize (D0++A2.map fun d=>tbR W (A.length+1) d ((bz d L1).getD 0))=R0 at *;simp only[Function.comp];refine aD fun R6 hR6=>?_;walk_at "";refine⟨trivial,by omega,by omega,?_⟩;rw[dm];walk_at "c";refine c7 (fun (i:Nat)=>T.int (i:Int)) (List.range W.tasks.length) (fun A3 ys Z H'=>∃v:Option T,Z=[v,some (.ref pn),some (.int (d:Int))]/\ys=(((nm W).take A3.length).filter fun x=>decide (x∈pk W d)).map T.str/\H'=H) ⟨_,rfl,rfl,rfl⟩ ?_ ?_
 ·rintro ys Z H' ⟨v,rfl,rfl,rfl⟩;rw[h_,<- ln,Y4,HR hW'.out];have pl8:(pk W d).length<=8:=J_ (Du W d) (by omega);refine⟨trivial,by rw[b_];omega,fun p hp=>?_⟩;walk_at "";walk_at "n";have sb9:Sub3 H5 (up3 H' p (.lst ((pk W d).map T.str))):=sb.trans (Sub3.new hp);have gq9:up3 H' p (.lst ((pk W d).map T.str)) p2=some (.dci (dI lvT L1)):=(Sub3.new hp) _ _ gq;have gs9:=(Sub3.new (o:=.lst ((pk W d).map T.str)) hp) _ _ gs;have gr9:up3 H' p (.lst ((pk W d).map T.str)) pr=some (.lst R0):=(Sub3.new hp) _ _ gr;generalize up3 H' p (.lst ((pk W d).map T.str))=H9 at sb9 gq9 gs9 gr9 ⊢;clear gq gs gr sb hp gn2;have km2:=km.2;walk_at "";refine⟨by first | trivial | decide,by first | trivial | decide,by first | trivial | exact dl2,?_⟩;refine fN.out _ _ _ ?_ ?_ ?_ ?_
  ·exact fun b u hb=>by rw[aC (aX hb hpr5)];exact sb9 _ _ hb
  ·rw[aC n2r];exact gq9
  ·rw[aC (Ne.symm nps)];exact gs9
  rw[aA];rfl
 rintro A3 i B3 ys Z H' N3 e3 ⟨v,rfl,rfl,rfl⟩ hN3;refine⟨trivial,?_⟩;have hA3:A3.length<W.tasks.length:=by have:=T_ List.length e3;simp only[a_,e_,h_] at this;omega
 have hi:i=A3.length:=by
  have h1:(List.range W.tasks.length)[A3.length]?=some i:=by rw[e3,F_ (o_ _)];simp
  rw[Xo hA3] at h1;exact (G_ h1).symm
 subst hi;have htj:=d_ hA3;have hxj:(nm W)[A3.length]?=some (W.tasks[A3.length]).1:=by unfold nm;rw[y_,htj];rfl
 have hts:(nm W).take (A3.length+1)=(nm W).take A3.length++[(W.tasks[A3.length]).1]:=by rw[List.take_succ,hxj];rfl
 have q0:=iC (b:=d) hW'.out htj;have x3:atI ((nm W).map T.str) (A3.length:Int)=some (.str (W.tasks[A3.length]).1):=bu (by rw[y_,hxj];rfl);generalize W.tasks[A3.length]=y at *;have yes:Box (y.1∈pk W d->N3 ((((nm W).take A3.length).filter fun x=>decide (x∈pk W d)).map T.str++[T.str y.1]) [some (.int (A3.length:Int)),some (.ref pn),some (.int (d:Int))] H'):=⟨fun z=>hN3 _ _ _ ⟨_,rfl,by rw[a_,q_,hts,Xw,z_,Xu,if_pos (P_ z)];rfl,rfl⟩⟩;have no:Box (y.1∉pk W d->N3 ((((nm W).take A3.length).filter fun x=>decide (x∈pk W d)).map T.str) [some (.int (A3.length:Int)),some (.ref pn),some (.int (d:Int))] H'):=⟨fun z=>hN3 _ _ _ ⟨_,rfl,by rw[a_,q_,hts,Xw,Xu,if_neg (uI z),List.filter_nil,I_],rfl⟩⟩;have hl3:(((nm W).take A3.length).filter fun x=>decide (x∈pk W d)).length<16777216:=by have:=Xf (fun x=>decide (x∈pk W d)) ((nm W).take A3.length);rw[X_] at this;omega
 clear hN3 e3 fN hts htj hxj hR6;generalize ((nm W).take A3.length).filter (fun x=>decide (x∈pk W d))=cur at *;walk_at "";refine⟨by omega,?_⟩;by_cases c:y.1∈pk W d
 ·rw[if_pos (P_ c)];exact⟨by first | trivial | exact hl3,yes.out c⟩
 rw[if_neg (uI c)];exact no.out c
def Qs:Sp3:=fun ts H Q=>∃W:Wk,ts=[W.enc]/\WkOk W/\∀p,H p=none->Q (.ref p) (up3 H p (.lst ((lkW ["with"] W).map orT)))
def Qt:Sp3:=fun ts H Q=>∃(x:T) (L:List (Str × Str)) (s:Str),ts=[x,.str s]/\((∃a,x=.ref a/\H a=some (.lst (L.map orT)))\/x=.tup (L.map orT))/\L.length<=100 /\
 ∀(p:Addr) (kvs:List (Str × T)),H p=none->(∀z,(aU z kvs).isSome=true↔RT (fun a b=>(a,b)∈L) s z)->Q (.ref p) (up3 H p (.dct kvs))
def Qu:Sp3:=fun ts H Q=>∃(W:Wk) (t:Str),ts=[W.enc,.str t]/\WkOk W/\∀(p:Addr) (kvs:List (Str × T)),H p=none->(∀z,(aU z kvs).isSome=true↔RT (lkR ["with"] W) t z)->Q (.ref p) (up3 H p (.dct kvs))
def Qv:Sp3:=fun ts H Q=>∃(W:Wk) (t:Str),ts=[W.enc,.str t]/\WkOk W/\∀(p:Addr) (kvs:List (Str × T)),H p=none->(∀z,(aU z kvs).isSome=true↔RT (lkR ["with"] W) z t)->Q (.ref p) (up3 H p (.dct kvs))
def VN:Sp3:=fun ts H Q=>∃(W:Wk) (a b:Addr) (ka kb:List (Str × T)),ts=[W.enc,.ref a,.ref b]/\WkOk W/\H a=some (.dct ka)/\H b=some (.dct kb)/\Q (sT ((W.tasks.map (·.1)).filter fun x=>(aU x ka).isSome&&(aU x kb).isSome)) H
def VP:Sp3:=fun ts H Q=>∃(W:Wk) (a b:Addr) (ka kb:List (Str × T)),ts=[W.enc,.ref a,.ref b]/\WkOk W/\H a=some (.dct ka)/\H b=some (.dct kb)/\Q (sT ((W.tasks.map (·.1)).filter fun x=>(aU x ka).isSome&&!(aU x kb).isSome)) H
def VR:Sp3:=fun ts H Q=>∃(W:Wk) (t:Str),ts=[W.enc,.str t]/\WkOk W/\Q (sT (gM W t)) H
def V0:Sp3:=fun ts H Q=>∃(W:Wk) (t:Str),ts=[W.enc,.str t]/\WkOk W/\Q (sT (gO W t)) H
abbrev mO:List Str:=["works","links","word","one","other"]
theorem sc_links_of:FnScope mO ["works"] (aB (top 5)):=bh
theorem sW {f:Addr}{fd:FuncData}(g:G3 K mg "links_of" (top 5) ["works"] f fd) (B:Bl mg):Cal P w K mg base 1 "links_of" (top 5) ["works"] Qs:=by
 refine⟨f,fd,g,?_⟩;refine fn3 g.fn sc_links_of (fun ts H Q h=>?_) (fun cdv A outer s H E ts H3 Q hr h=>?_)
 ·obtain⟨W,rfl,_⟩:=h;rfl
 have hu30:=Room.u30 hr;obtain⟨⟨tk,ors,prs,row⟩,rfl,hW,k⟩:=h;refine⟨_,(ao (aG (i:=1) sc_links_of.nd (bG pO rfl B.list_ jo (aa (aK ix3 (v3 0) aq) ak)))
   (ao (bc A_ rfl (cT (aK ix3 (v3 0) aq)) (cH (n:=3) rfl (aJ (aF (i:=2) sc_links_of.nd) (aJ (aF (i:=3) sc_links_of.nd) (aJ (aF (i:=4) sc_links_of.nd) bN)))) (au (bQ (aW (bR hu30) (v3 2) d9) (ao (bL (bZ t_ M_ N_ bB (v3 1) (aa (bD (aa (v3 3) (aa (v3 4) ak))) ak)))
     (au (bL (bZ t_ M_ N_ bB (v3 1) (aa (bD (aa (v3 4) (aa (v3 3) ak))) ak))))) aZ)))
   (au (aO (v3 1))))),?_⟩
 rw[show aR mO [Wk.enc ⟨tk,ors,prs,row⟩]=[some (T.tup [T.tup (tk.map tkT),T.tup (ors.map orT),T.tup (prs.map prT),T.tup (row.map T.str)]),none,none,none,none] from rfl];have hsz:sizeLine=16777216:=rfl;have os28:ors.length<=28:=hW.os;have ps12:prs.length<=12:=hW.ps;walk_at "";intro p hp;refine aQ prT prs (fun A Z H=>∃(v2 v3 v4:Option T),Z=[some (T.tup [T.tup (tk.map tkT),T.tup (ors.map orT),T.tup (prs.map prT),T.tup (row.map T.str)]),some (.ref p),v2,v3,v4]/\H=up3 H3 p (.lst ((ors++A.flatMap (lkP ["with"])).map orT))) ⟨none,none,none,rfl,by simp⟩ ?_ ?_
 ·rintro Z H ⟨v2,v3,v4,rfl,rfl⟩;refine⟨trivial,?_⟩;walk_at "";exact Fin3.of Sub3.refl (k p hp)
 rintro A ⟨w,a,b⟩ B Z H N e ⟨v2,v3,v4,rfl,rfl⟩ hN;have hl:=lq ["with"] A;have hA:A.length<=12:=by have:=T_ List.length e;simp only[a_,e_] at this;omega
 have hl2:(ors++A.flatMap (lkP ["with"])).length<=52:=by rw[a_];omega
 have fin:N [some (T.tup [T.tup (tk.map tkT),T.tup (ors.map orT),T.tup (prs.map prT),T.tup (row.map T.str)]),some (.ref p),some (.str w),some (.str a),some (.str b)] (up3 H3 p (.lst ((ors++A.flatMap (lkP ["with"])).map orT++(lkP ["with"] (w,a,b)).map orT))):=hN _ _ ⟨_,_,_,rfl,by rw[Zr,<- Xn,z_];simp⟩;generalize ors++A.flatMap (lkP ["with"])=cur at fin hl2;replace fin:=Box.mk fin;refine⟨trivial,?_⟩;clear hN e k hW hl;simp only[prT];walk_at "";refine⟨trivial,?_⟩;by_cases hw:w="with"
 ·subst hw;have e1:lkP ["with"] ("with",a,b)=[(a,b),(b,a)]:=by unfold lkP;simp
  rw[e1] at fin;try simp only[Xz,if_true]
  refine⟨⟨trivial,trivial⟩,by omega,by omega,⟨trivial,trivial⟩,by omega,by simp;omega,?_⟩;have fo:=fin.out;simp only[D_,Xy,orT] at fo;rw[Xn];exact fo
 have e1:lkP ["with"] (w,a,b)=[]:=by unfold lkP;simp [hw]
 rw[e1,Xy,I_] at fin;simp only[hw,XC,H_,Xh];exact fin.out
abbrev oV:List Str:=["links","start","found","grown","one","other"]
theorem sc_reached:FnScope oV ["links","start"] (aB (top 6)):=bh
theorem vo {f:Addr}{fd:FuncData}(g:G3 K mg "reached" (top 6) ["links","start"] f fd) (B:Bl mg):Cal P w K mg base 1 "reached" (top 6) ["links","start"] Qt:=by
 refine⟨f,fd,g,?_⟩;refine fn3 g.fn sc_reached (fun ts H Q h=>?_) (fun cdv A outer s H E ts H3 Q hr h=>?_)
 ·obtain⟨x,L,s,rfl,_⟩:=h;rfl
 have hu1:=Room.u1 hr;obtain⟨x,L,s0,rfl,hx,hL,k⟩:=h;refine⟨_,(ao (aG (i:=2) sc_reached.nd (An (v3 1) eQ))
   (ao (aG (i:=3) sc_reached.nd eQ)
   (ao (lJ A_ (bY (v3 3)) (ao (aG (i:=3) sc_reached.nd eQ)
    (au (bc A_ rfl (Gm 0) (cH (n:=2) rfl (aJ (aF (i:=4) sc_reached.nd) (aJ (aF (i:=5) sc_reached.nd) bN))) (au (bQ (PW3.pt (cB (pU hu1 (v3 4) (v3 2)) (cG (oE hu1 (v3 5) (v3 2))))) (ao (FP hu1 (v3 2) (v3 5) eQ)
      (au (aG (i:=3) sc_reached.nd eQ))) aZ))))))
   (au (aO (v3 2)))))),?_⟩
 rw[show aR oV [x,T.str s0]=[some (x),some (T.str s0),none,none,none,none] from rfl];have hsz:sizeLine=16777216:=rfl;walk_at "";intro p hp;refine⟨trivial,?_⟩;rw[PN];refine⟨fun m Z H=>∃(F:List Str) (g:Bool) (v4 v5:Option T),Z=[some x,some (.str s0),some (.ref p),some (.bl g),v4,v5]/\H=up3 H3 p (.dct (dF F))/\s0∈F/\F.Nodup/\(∀z∈F,RT (fun a b=>(a,b)∈L) s0 z)/\(g=false->∀a b,(a,b)∈L->a∈F->b∈F)/\m=2*(L.length+1 - F.length)+(if g then 1 else 0),
  ⟨_,[s0],true,none,none,rfl,rfl,i_,by simp,(fun z hz=>by rw[g_.mp hz];exact .refl),(fun z=>nomatch z),rfl⟩,?_⟩
 have bound:∀F:List Str,F.Nodup->(∀z∈F,RT (fun a b=>(a,b)∈L) s0 z)->F.length<=L.length+1:=fun F nd hF=>by
  have:=uT (l:=F) (m:=s0::L.map (·.2)) nd fun z hz=>by
   cases hF z hz with
   |refl=>exact i_
   |step _ r=>exact n_ _ (x_.mpr ⟨_,r,rfl⟩)
  simpa using this
 rintro m Z H ⟨F,g,v4,v5,rfl,rfl,hs,nd,hR,hg,rfl⟩;walk_at "";cases g with
 |false=>simp only[H_,Xh];refine Fin3.of Sub3.refl (k p _ hp fun z=>?_);rw[lr,p_];exact⟨hR z,fun h=>U0 hs (hg rfl) h⟩
 |true =>
  try simp only[if_true]
  have hx':(∃a,x=.ref a/\up3 H3 p (.dct (dF F)) a=some (.lst (L.map orT)))\/x=.tup (L.map orT):=by
   rcases hx with ⟨a,rfl,e⟩ | e
   ·
    exact .inl ⟨a,rfl,by rw[aC (aX e hp)];exact e⟩
   ·
    exact .inr e
  refine CN hx' fun still hst=>?_
  have hst':∀F',still (up3 H3 p (.dct (dF F'))):=by
   rcases hst with rfl | ⟨a,rfl,e⟩
   ·
    exact fun _=>trivial
   ·
    have hpa:a≠p:=fun z=>by subst z;rw[aA] at e;cases e
    rw[aC hpa] at e
    exact fun F'=>.inl (by rw[aC hpa];exact e)
  refine aQ orT L (fun A Z H=>∃(F':List Str) (g':Bool) (v4 v5:Option T),Z=[some x,some (.str s0),some (.ref p),some (.bl g'),v4,v5]/\H=up3 H3 p (.dct (dF F'))/\s0∈F'/\F'.Nodup/\(∀z∈F',RT (fun a b=>(a,b)∈L) s0 z)/\(g'=false->F'=F/\∀o∈A,o.1∈F->o.2∈F)/\(g'=true->F.length<F'.length)) ⟨F,false,v4,v5,rfl,rfl,hs,nd,hR,fun _=>⟨rfl,(fun _ h=>nomatch h)⟩,(fun z=>nomatch z)⟩ ?_ ?_
  ·
   rintro Z H ⟨F',g',v4,v5,rfl,rfl,hs',nd',hR',h1,h2⟩
   refine⟨hst' F',?_⟩
   have b1:=bound F nd hR
   have b2:=bound F' nd' hR'
   cases g' with
   |true =>
    have:=h2 rfl
    exact⟨_,by simp only[if_true];omega,F',true,v4,v5,rfl,rfl,hs',nd',hR',(fun z=>nomatch z),rfl⟩
   |false =>
    obtain⟨e,hc⟩:=h1 rfl
    subst e
    exact⟨_,by simp,F',false,v4,v5,rfl,rfl,hs',nd',hR',fun _ a b hab ha=>hc (a,b) hab ha,rfl⟩
  ·
   rintro A ⟨a,b⟩ B Z H N e ⟨F',g',v4,v5,rfl,rfl,hs',nd',hR',h1,h2⟩ hN
   refine⟨hst' F',?_⟩
   have hab:(a,b)∈L:=by rw[e];simp
   have b2:=bound F' nd' hR'
   have l1:=lr a F'
   have l2:=lr b F'
   have l3:=PL F'
   have no:¬(a∈F'/\b∉F')->N [some x,some (.str s0),some (.ref p),some (.bl g'),some (.str a),some (.str b)] (up3 H3 p (.dct (dF F'))):=fun hno=>hN _ _ ⟨F',g',_,_,rfl,rfl,hs',nd',hR',fun hg'=>by
    obtain⟨e1,hc⟩:=h1 hg'
    subst e1
    refine⟨rfl,fun o ho=>?_⟩
    rcases E_.mp ho with ho | ho
    ·
     exact hc o ho
    ·
     rw[g_.mp ho]
     intro ha
     exact Classical.byContradiction fun hb=>hno ⟨ha,hb⟩,h2⟩
   have yes:a∈F'->b∉F'->N [some x,some (.str s0),some (.ref p),some (.bl true),some (.str a),some (.str b)] (up3 H3 p (.dct (put3 b (T.bl true) (dF F')))):=fun ha hb=>by
    rw[PK hb]
    refine hN _ _ ⟨F'++[b],true,_,_,rfl,rfl,Xx _ hs',kI nd' hb,fun z hz=>?_,(fun z=>nomatch z),fun _=>?_⟩
    ·
     rcases E_.mp hz with hz | hz
     ·
      exact hR' z hz
     ·
      rw[g_.mp hz]
      exact .step (hR' a ha) hab
    ·
     rw[a_,q_]
     cases g' with
     |true=>have:=h2 rfl;omega
     |false=>obtain⟨e1,_⟩:=h1 rfl;subst e1;omega
   replace no:=Box.mk no
   replace yes:=Box.mk yes
   clear hN h1 h2 hst' hst bound k hx hx' hg hR hR' nd nd' hs hs' e hab
   simp only[orT]
   walk_at ""
   refine⟨trivial,?_⟩
   by_cases ha:a∈F'
   ·
    simp only[ha,Xz,if_true]
    by_cases hb:b∈F'
    ·
     simp only[hb,Xz,XN,H_,Xh]
     exact no.out fun z=>z.2 hb
    ·
     simp only[hb,XC,Yr,if_true]
     exact⟨by omega,yes.out ha hb⟩
   ·
    simp only[ha,XC,H_,Xh]
    exact no.out fun z=>ha z.1
abbrev iD:List Str:=["works","task"]
theorem yS:FnScope iD iD (aB (top 7)):=bh
theorem yU {f:Addr}{fd:FuncData}(g:G3 K mg "led_to" (top 7) iD f fd) (B:Bl mg) (F_reached:Cal P w K mg base 1 "reached" (top 6) ["links","start"] Qt) (F_links_of:Cal P w K mg base 1 "links_of" (top 5) ["works"] Qs):Cal P w K mg base 2 "led_to" (top 7) iD Qu:=by
 refine⟨f,fd,g,?_⟩;refine fn3 g.fn yS (fun ts H Q h=>?_) (fun cdv A outer s H E ts H3 Q hr h=>?_)
 ·obtain⟨W,t,rfl,_⟩:=h;rfl
 obtain⟨W,t,rfl,hW,k⟩:=h;refine⟨_,(au (aO (aL F_reached hr rfl (aa (aL F_links_of hr rfl (aa (v3 0) ak)) (aa (v3 1) ak))))),?_⟩;rw[show aR iD [W.enc,T.str t]=[some (W.enc),some (T.str t)] from rfl];walk_at "";refine⟨W,rfl,hW,fun q hq=>?_⟩;try dsimp only
 refine⟨_,lkW ["with"] W,t,rfl,.inl ⟨q,rfl,aA⟩,J_ (xm hW) (by decide),fun p kvs hp hk=>?_⟩;obtain⟨n1,hp⟩:=b7 hp;refine Fin3.of (fun a o e=>?_) (k p kvs hp hk);by_cases h:a=p
 ·subst h;rw[aA] at e ⊢;exact e
 rw[aC h] at e ⊢;rw[aC (aX e hq)];exact e
abbrev dJ:List Str:=["works","task"]
theorem sX:FnScope dJ dJ (aB (top 8)):=bh
theorem sY {f:Addr}{fd:FuncData}(g:G3 K mg "led_from" (top 8) dJ f fd) (B:Bl mg) (F_reached:Cal P w K mg base 1 "reached" (top 6) ["links","start"] Qt) (F_links_of:Cal P w K mg base 1 "links_of" (top 5) ["works"] Qs):Cal P w K mg base 2 "led_from" (top 8) dJ Qv:=by
 refine⟨f,fd,g,?_⟩;refine fn3 g.fn sX (fun ts H Q h=>?_) (fun cdv A outer s H E ts H3 Q hr h=>?_)
 ·obtain⟨W,t,rfl,_⟩:=h;rfl
 obtain⟨W,t,rfl,hW,k⟩:=h;refine⟨_,(au (aO (aL F_reached hr rfl (aa (bx rfl (bF (n0:=(aB (top 8)).names) (N:=dJ) (N':=["one","other"]) (nt:=2) (cap:=[]) rfl rfl (by decide +kernel)) (cM (aL F_links_of hr rfl (aa (v3 0) ak))) (fun cl pins s H C0 fp=>⟨(cH (n:=2) rfl (aJ (aF (i:=0) (show List.Nodup [("one":Str),("other":Str)] by decide +kernel)) (aJ (aF (i:=1) (show List.Nodup [("one":Str),("other":Str)] by decide +kernel)) bN))),bW,(bD (aa (v3 1) (aa (v3 0) ak)))⟩)) (aa (v3 1) ak))))),?_⟩;rw[show aR dJ [W.enc,T.str t]=[some (W.enc),some (T.str t)] from rfl];have hsz:sizeLine=16777216:=rfl;have hl:=xm (ws:=["with"]) hW;walk_at "";refine⟨W,rfl,hW,fun q hq=>?_⟩;try dsimp only
 rw[Jm,aA,wF];walk_at "c";refine c7 orT (lkW ["with"] W) (fun A ys Z H=>H=up3 H3 q (.lst ((lkW ["with"] W).map orT))/\ys=(A.map swp).map orT/\∃v0 v1:Option T,Z=[v0,v1]) ⟨rfl,rfl,none,none,rfl⟩ ?_ ?_
 ·rintro ys Z H ⟨rfl,rfl,v0,v1,rfl⟩;refine⟨.inl aA,by rw[b_,b_];omega,fun r hr=>?_⟩;obtain⟨n0,hr0⟩:=b7 hr;refine⟨_,(lkW ["with"] W).map swp,t,rfl,.inl ⟨r,rfl,aA⟩,by rw[b_];omega,fun p kvs hp hk=>?_⟩;obtain⟨n1,hp⟩:=b7 hp;obtain⟨n2,hp⟩:=b7 hp;refine Fin3.of (fun a o e=>?_) (k p kvs hp fun z=>(hk z).trans PP);by_cases h:a=p
  ·subst h;rw[aA] at e ⊢;exact e
  rw[aC h] at e ⊢;rw[aC (aX e hr0),aC (aX e hq)];exact e
 rintro A ⟨a,b⟩ B ys Z H N e ⟨rfl,rfl,v0,v1,rfl⟩ hN;have hA:A.length<=52:=by have:=T_ List.length e;simp only[a_,e_] at this;omega
 refine⟨.inl aA,?_⟩;have fin:=hN (((A.map swp).map orT)++[orT (b,a)]) [some (.str a),some (.str b)] _ ⟨rfl,by rw[z_,z_];rfl,_,_,rfl⟩;replace fin:=Box.mk fin;clear hN k e;simp only[orT] at fin ⊢;walk_at "";exact⟨trivial,by omega,by omega,fin.out⟩
abbrev d7:List Str:=["works","found","other"]
theorem vp:FnScope d7 d7 (aB (top 9)):=bh
theorem vz {f:Addr}{fd:FuncData}(g:G3 K mg "in_both" (top 9) d7 f fd) (B:Bl mg):Cal P w K mg base 1 "in_both" (top 9) d7 VN:=by
 refine⟨f,fd,g,?_⟩;refine fn3 g.fn vp (fun ts H Q h=>?_) (fun cdv A outer s H E ts H3 Q hr h=>?_)
 ·obtain⟨W,a,b,ka,kb,rfl,_⟩:=h;rfl
 have hu1:=Room.u1 hr;obtain⟨⟨tk,ors,prs,row⟩,a,b,ka,kb,rfl,hW,ha,hb,k⟩:=h;refine⟨_,(au (aO (bG cP rfl B.tuple_ cD (aa (bx rfl (bF (n0:=(aB (top 9)).names) (N:=d7) (N':=["task","found","other"]) (nt:=1) (cap:=[1,2]) rfl rfl (by decide +kernel)) (cT (aK ix3 (v3 0) aq)) (fun cl pins s H C0 fp=>⟨(aF (i:=0) (show List.Nodup [("task":Str),("found":Str),("other":Str)] by decide +kernel)),(di (PW3.pt (cB (pU hu1 (aK ix3 (v3 0) aq) (v3 1)) (cG (pU hu1 (aK ix3 (v3 0) aq) (v3 2)))))),(aK ix3 (v3 0) aq)⟩)) ak)))),?_⟩;rw[show aR d7 [Wk.enc ⟨tk,ors,prs,row⟩,T.ref a,T.ref b]=[some (T.tup [T.tup (tk.map tkT),T.tup (ors.map orT),T.tup (prs.map prT),T.tup (row.map T.str)]),some (T.ref a),some (T.ref b)] from rfl];have hsz:sizeLine=16777216:=rfl;have t8:tk.length<=8:=hW.t8;walk_at "";walk_at "c";refine cX tkT (fun t=>T.str t.1) (fun t=>(aU t.1 ka).isSome&&(aU t.1 kb).isSome) tk [some (.ref a),some (.ref b)] trivial (by omega) (fun t ht Q' hq=>?_) (fun t ht hpt Q' hq=>?_) (fun p hp=>?_)
 ·obtain⟨nm,len,ks⟩:=t;simp only[tkT];dsimp only at hq;cases e1:(aU nm ka).isSome <;> cases e2:(aU nm kb).isSome <;> simp only[e1,e2,YS,Zg,XN,Yr,Yc,Yn] at hq <;> walk_at ""
 ·simp only[tkT];walk_at "";try exact hq
 walk_at "";refine Fin3.of (Sub3.new hp) ?_;have e:(tk.filter fun t=>(aU t.1 ka).isSome&&(aU t.1 kb).isSome).map (fun t=>T.str t.1)=((tk.map (·.1)).filter fun x=>(aU x ka).isSome&&(aU x kb).isSome).map T.str:=by rw[List.filter_map,Xi];rfl
 rw[e];exact k
abbrev cY:List Str:=["works","task"]
theorem sZ:FnScope cY cY (aB (top 11)):=bh
theorem tu {f:Addr}{fd:FuncData}(g:G3 K mg "group_of" (top 11) cY f fd) (B:Bl mg) (F_in_both:Cal P w K mg base 1 "in_both" (top 9) ["works","found","other"] VN) (F_led_to:Cal P w K mg base 2 "led_to" (top 7) cY Qu) (F_led_from:Cal P w K mg base 2 "led_from" (top 8) cY Qv):Cal P w K mg base 3 "group_of" (top 11) cY VR:=by
 refine⟨f,fd,g,?_⟩;refine fn3 g.fn sZ (fun ts H Q h=>?_) (fun cdv A outer s H E ts H3 Q hr h=>?_)
 ·obtain⟨W,t,rfl,_⟩:=h;rfl
 obtain⟨W,t,rfl,hW,k⟩:=h;refine⟨_,(au (aO (aL F_in_both hr rfl (aa (v3 0) (aa (aL F_led_to hr rfl (aa (v3 0) (aa (v3 1) ak))) (aa (aL F_led_from hr rfl (aa (v3 0) (aa (v3 1) ak))) ak)))))),?_⟩;rw[show aR cY [W.enc,T.str t]=[some (W.enc),some (T.str t)] from rfl];walk_at "";refine⟨W,t,rfl,hW,fun p ka hp hka=>?_⟩;try dsimp only
 refine⟨W,t,rfl,hW,fun q kb hq hkb=>?_⟩;obtain⟨n1,hq0⟩:=b7 hq;try dsimp only
 refine⟨W,p,q,ka,kb,rfl,hW,by rw[aC (Ne.symm n1)];exact aA,aA,?_⟩;refine Fin3.of (fun a o e=>by rw[aC (aX e hq0),aC (aX e hp)];exact e) ?_;rw[show (W.tasks.map (·.1)).filter (fun x=>(aU x ka).isSome&&(aU x kb).isSome)=gM W t from ?_]
 ·exact k
 unfold gM;refine Yu fun x hx=>?_;rw[Xg,L_,@p_ _ (Classical.propDecidable _),hka x,hkb x]
abbrev bT:List Str:=["works","found","other"]
theorem jE:FnScope bT bT (aB (top 10)):=bh
theorem jF {f:Addr}{fd:FuncData}(g:G3 K mg "in_first_alone" (top 10) bT f fd) (B:Bl mg):Cal P w K mg base 1 "in_first_alone" (top 10) bT VP:=by
 refine⟨f,fd,g,?_⟩;refine fn3 g.fn jE (fun ts H Q h=>?_) (fun cdv A outer s H E ts H3 Q hr h=>?_)
 ·obtain⟨W,a,b,ka,kb,rfl,_⟩:=h;rfl
 have hu1:=Room.u1 hr;obtain⟨⟨tk,ors,prs,row⟩,a,b,ka,kb,rfl,hW,ha,hb,k⟩:=h;refine⟨_,(au (aO (bG cP rfl B.tuple_ cD (aa (bx rfl (bF (n0:=(aB (top 10)).names) (N:=bT) (N':=["task","found","other"]) (nt:=1) (cap:=[1,2]) rfl rfl (by decide +kernel)) (cT (aK ix3 (v3 0) aq)) (fun cl pins s H C0 fp=>⟨(aF (i:=0) (show List.Nodup [("task":Str),("found":Str),("other":Str)] by decide +kernel)),(di (PW3.pt (cB (pU hu1 (aK ix3 (v3 0) aq) (v3 1)) (cG (oE hu1 (aK ix3 (v3 0) aq) (v3 2)))))),(aK ix3 (v3 0) aq)⟩)) ak)))),?_⟩;rw[show aR bT [Wk.enc ⟨tk,ors,prs,row⟩,T.ref a,T.ref b]=[some (T.tup [T.tup (tk.map tkT),T.tup (ors.map orT),T.tup (prs.map prT),T.tup (row.map T.str)]),some (T.ref a),some (T.ref b)] from rfl];have hsz:sizeLine=16777216:=rfl;have t8:tk.length<=8:=hW.t8;walk_at "";walk_at "c";refine cX tkT (fun t=>T.str t.1) (fun t=>(aU t.1 ka).isSome&&!(aU t.1 kb).isSome) tk [some (.ref a),some (.ref b)] trivial (by omega) (fun t ht Q' hq=>?_) (fun t ht hpt Q' hq=>?_) (fun p hp=>?_)
 ·obtain⟨nm,len,ks⟩:=t;simp only[tkT];dsimp only at hq;cases e1:(aU nm ka).isSome <;> cases e2:(aU nm kb).isSome <;> simp only[e1,e2,YS,Zg,XN,Yr,Yc,Yn] at hq <;> walk_at ""
 ·simp only[tkT];walk_at "";try exact hq
 walk_at "";refine Fin3.of (Sub3.new hp) ?_;have e:(tk.filter fun t=>(aU t.1 ka).isSome&&!(aU t.1 kb).isSome).map (fun t=>T.str t.1)=((tk.map (·.1)).filter fun x=>(aU x ka).isSome&&!(aU x kb).isSome).map T.str:=by rw[List.filter_map,Xi];rfl
 rw[e];exact k
abbrev cZ:List Str:=["works","task"]
theorem tD:FnScope cZ cZ (aB (top 12)):=bh
theorem tE {f:Addr}{fd:FuncData}(g:G3 K mg "ahead_of" (top 12) cZ f fd) (B:Bl mg) (F_in_first_alone:Cal P w K mg base 1 "in_first_alone" (top 10) ["works","found","other"] VP) (F_led_from:Cal P w K mg base 2 "led_from" (top 8) cZ Qv) (F_led_to:Cal P w K mg base 2 "led_to" (top 7) cZ Qu):Cal P w K mg base 3 "ahead_of" (top 12) cZ V0:=by
 refine⟨f,fd,g,?_⟩;refine fn3 g.fn tD (fun ts H Q h=>?_) (fun cdv A outer s H E ts H3 Q hr h=>?_)
 ·obtain⟨W,t,rfl,_⟩:=h;rfl
 obtain⟨W,t,rfl,hW,k⟩:=h;refine⟨_,(au (aO (aL F_in_first_alone hr rfl (aa (v3 0) (aa (aL F_led_from hr rfl (aa (v3 0) (aa (v3 1) ak))) (aa (aL F_led_to hr rfl (aa (v3 0) (aa (v3 1) ak))) ak)))))),?_⟩;rw[show aR cZ [W.enc,T.str t]=[some (W.enc),some (T.str t)] from rfl];walk_at "";refine⟨W,t,rfl,hW,fun p ka hp hka=>?_⟩;try dsimp only
 refine⟨W,t,rfl,hW,fun q kb hq hkb=>?_⟩;obtain⟨n1,hq0⟩:=b7 hq;try dsimp only
 refine⟨W,p,q,ka,kb,rfl,hW,by rw[aC (Ne.symm n1)];exact aA,aA,?_⟩;refine Fin3.of (fun a o e=>by rw[aC (aX e hq0),aC (aX e hp)];exact e) ?_;rw[show (W.tasks.map (·.1)).filter (fun x=>(aU x ka).isSome&&!(aU x kb).isSome)=gO W t from ?_]
 ·exact k
 unfold gO;refine Yu fun x hx=>?_;rw[Xg,L_,@p_ _ (Classical.propDecidable _),hka x,ZF,<- Bool.not_eq_true,hkb x]
def Dv:Sp3:=fun ts H Q=>∃(W:Wk) (x:T) (ss:List Str),ts=[W.enc,x]/\WkOk W/\SeqS H x ss/\Q (.int (numOf (W.tasks.map (·.1)) ss)) H
def J9:Sp3:=fun ts H Q=>∃(W:Wk) (n:Int),ts=[W.enc,.int n]/\WkOk W/\0<=n/\n<2^W.tasks.length/\Q (sT (pick (W.tasks.map (·.1)) n)) H
def Ka:Sp3:=fun ts H Q=>∃(ks:List Str) (k:Str),ts=[sT ks,.str k]/\Q (.bl (mj ks k)) H
def xN:Sp3:=fun ts H Q=>∃a b:Int,ts=[.int a,.int b]/\Q (.bl (decide (Builtin.bitAnd a b=b))) H
def Kc:Sp3:=fun ts H Q=>∃(W:Wk) (t:Str),ts=[W.enc,.str t]/\WkOk W/\∀p,H p=none->Q (.ref p) (up3 H p (.lst ((iu W t).map T.str)))
def Kd:Sp3:=fun ts H Q=>∃W:Wk,ts=[W.enc]/\WkOk W/\∀p,H p=none->Q (.ref p) (up3 H p (.lst (W.tasks.map (ruT W (W.tasks.map (·.1))))))
def Ke:Sp3:=fun ts H Q=>∃(W:Wk) (a:Addr) (beat:Int) (kind:Str) (D S:List Str),ts=[.ref a,.int beat,.str kind,.int (numOf (W.tasks.map (·.1)) D),.int (numOf (W.tasks.map (·.1)) S)]/\WkOk W/\H a=some (.lst (W.tasks.map (ruT W (W.tasks.map (·.1)))))/\Q (.bl (qj W beat kind D S)) H
abbrev j5:List Str:=["works","tasks","number","worth","task"]
theorem sc_number_of:FnScope j5 ["works","tasks"] (aB (top 2)):=bh
theorem qw {f:Addr}{fd:FuncData}(g:G3 K mg "number_of" (top 2) ["works","tasks"] f fd) (B:Bl mg):Cal P w K mg base 1 "number_of" (top 2) ["works","tasks"] Dv:=by
 refine⟨f,fd,g,?_⟩;refine fn3 g.fn sc_number_of (fun ts H Q h=>?_) (fun cdv A outer s H E ts H3 Q hr h=>?_)
 ·obtain⟨W,x,ss,rfl,_⟩:=h;rfl
 have hu31:=Room.u31 hr;obtain⟨⟨tk,ors,prs,row⟩,x,ss,rfl,hW,hx,k⟩:=h;refine⟨_,(ao (aG (i:=2) sc_number_of.nd aq)
   (ao (aG (i:=3) sc_number_of.nd aq)
   (ao (bc A_ rfl (cT (aK ix3 (v3 0) aq)) (aF (i:=4) sc_number_of.nd) (ao (bQ (aW (zY hu31) (aK ix3 (v3 4) aq) (v3 1) rfl) (au (aG (i:=2) sc_number_of.nd (aH aY (v3 2) (v3 3)))) aZ)
    (au (aG (i:=3) sc_number_of.nd (aH gW (v3 3) aq)))))
   (au (aO (v3 2)))))),?_⟩
 rw[show aR j5 [Wk.enc ⟨tk,ors,prs,row⟩,x]=[some (T.tup [T.tup (tk.map tkT),T.tup (ors.map orT),T.tup (prs.map prT),T.tup (row.map T.str)]),some (x),none,none,none] from rfl];have hsz:sizeLine=16777216:=rfl;have t8:tk.length<=8:=hW.t8;walk_at "";refine aQ tkT tk (fun A Z H=>∃v:Option T,H=H3/\Z=[some (T.tup [T.tup (tk.map tkT),T.tup (ors.map orT),T.tup (prs.map prT),T.tup (row.map T.str)]),some x,some (.int (numOf (A.map (·.1)) ss)),some (.int (2^A.length)),v]) ⟨none,rfl,rfl⟩ ?_ ?_
 ·rintro Z H ⟨v,rfl,rfl⟩;refine⟨trivial,?_⟩;walk_at "";exact Fin3.of Sub3.refl k
 rintro A t B Z H N e ⟨v,rfl,rfl⟩ hN;have hlA:A.length+1<=8:=by have:=T_ List.length e;simp only[a_,e_] at this;omega
 have p3:0<(2:Int)^A.length/\(2:Int)^A.length<=256:=by
  have:A.length=0\/A.length=1\/A.length=2\/A.length=3\/A.length=4\/A.length=5\/A.length=6\/A.length=7:=by omega
  rcases this with e | e | e | e | e | e | e | e <;> rw[e] <;> decide
 have cm:CMul (2^A.length) 2:=.inl ⟨by omega,by omega⟩;have fin:∀v,N [some (T.tup [T.tup (tk.map tkT),T.tup (ors.map orT),T.tup (prs.map prT),T.tup (row.map T.str)]),some x,some (.int (numOf (A.map (·.1)) ss+2^A.length*(if t.1∈ss then 1 else 0))),some (.int (2^A.length*2)),v] H:=fun v=>by have:=hN [some (T.tup [T.tup (tk.map tkT),T.tup (ors.map orT),T.tup (prs.map prT),T.tup (row.map T.str)]),some x,some (.int (numOf ((A++[t]).map (·.1)) ss)),some (.int (2^(A++[t]).length)),v] H ⟨v,rfl,rfl⟩;rw[show (2:Int)^(A++[t]).length=2^A.length*2 by rw[a_,q_,YL],z_,D_,Xy,lY,b_] at this;exact this
 replace fin:=Box.mk fin;obtain⟨nm,len,ks⟩:=t;refine⟨trivial,?_⟩;clear hN e k;simp only[tkT,sT];walk_at "";refine Ho hx ?_;by_cases hm:nm∈ss
 ·simp only[hm,Xz,if_true,H_,Xh,ie,Int.mul_one] at fin ⊢;exact⟨by first | trivial | exact cm,fin.out _⟩
 simp only[hm,XC,if_true,H_,Xh,ie,Int.mul_zero,Int.add_zero] at fin ⊢;exact⟨by first | trivial | exact cm,fin.out _⟩
abbrev cV:List Str:=["kinds","kind"]
theorem mQ:FnScope cV cV (aB (top 14)):=bh
theorem mR {f:Addr}{fd:FuncData}(g:G3 K mg "may_be_done" (top 14) cV f fd) (B:Bl mg):Cal P w K mg base 1 "may_be_done" (top 14) cV Ka:=by
 refine⟨f,fd,g,?_⟩;refine fn3 g.fn mQ (fun ts H Q h=>?_) (fun cdv A outer s H E ts H3 Q hr h=>?_)
 ·obtain⟨ks,k,rfl,_⟩:=h;rfl
 have hu30:=Room.u30 hr;have hu31:=Room.u31 hr;obtain⟨ks,kd,rfl,k⟩:=h;refine⟨_,(au (aO (Iu (dU (bR hu30) (aM bH rfl B.len_ bI (aa (v3 0) ak)) aq) (lH (dU (zY hu31) (v3 1) (v3 0) rfl))))),?_⟩;rw[show aR cV [sT ks,T.str kd]=[some (T.tup (ks.map T.str)),some (T.str kd)] from rfl];have i1:pl 20 (T.str kd)=true:=rfl;have i2:=gG ks;have e1:dD false (T.str kd) (ks.map T.str)=decide (kd∈ks):=by unfold dD;have:(T.str kd∈ks.map T.str)↔kd∈ks:=eX ju;simp only[this];simp
 walk_at "";unfold mj at k;cases ks with
 |nil=>simp only[Xz,Bool.true_or,Yv,if_true] at k ⊢;exact Fin3.of Sub3.refl k
 |cons y r =>
  have:¬(((r.length+1:Nat)):Int)=0:=by omega
  simp only[e_,this,XC,H_,Xh] at k ⊢
  exact⟨trivial,trivial,Fin3.of Sub3.refl (by simpa using k)⟩
abbrev fV:List Str:=["number","part"]
theorem vA:FnScope fV fV (aB (top 18)):=bh
theorem vB {f:Addr}{fd:FuncData}(g:G3 K mg "has_all" (top 18) fV f fd) (B:Bl mg):Cal P w K mg base 1 "has_all" (top 18) fV xN:=by
 refine⟨f,fd,g,?_⟩;refine fn3 g.fn vA (fun ts H Q h=>?_) (fun cdv A outer s H E ts H3 Q hr h=>?_)
 ·obtain⟨a,b,rfl,_⟩:=h;rfl
 have hu30:=Room.u30 hr;obtain⟨a,b,rfl,k⟩:=h;refine⟨_,(au (aO (dU (bR hu30) (aH dX (v3 0) (v3 1)) (v3 1)))),?_⟩;rw[show aR fV [T.int a,T.int b]=[some (T.int a),some (T.int b)] from rfl];walk_at "";exact Fin3.of Sub3.refl k
abbrev cR:List Str:=["works","task"]
theorem nq:FnScope cR cR (aB (top 16)):=bh
theorem nu {f:Addr}{fd:FuncData}(g:G3 K mg "apart_from" (top 16) cR f fd) (B:Bl mg):Cal P w K mg base 1 "apart_from" (top 16) cR Kc:=by
 refine⟨f,fd,g,?_⟩;refine fn3 g.fn nq (fun ts H Q h=>?_) (fun cdv A outer s H E ts H3 Q hr h=>?_)
 ·obtain⟨W,t,rfl,_⟩:=h;rfl
 have hu30:=Room.u30 hr;obtain⟨⟨tk,ors,prs,row⟩,t,rfl,hW,k⟩:=h;refine⟨_,(au (aO (bx rfl (bF (n0:=(aB (top 16)).names) (N:=cR) (N':=["word","one","other","task"]) (nt:=3) (cap:=[1]) rfl rfl (by decide +kernel)) (cT (aK ix3 (v3 0) aq)) (fun cl pins s H C0 fp=>⟨(cH (n:=3) rfl (aJ (aF (i:=0) (show List.Nodup [("word":Str),("one":Str),("other":Str),("task":Str)] by decide +kernel)) (aJ (aF (i:=1) (show List.Nodup [("word":Str),("one":Str),("other":Str),("task":Str)] by decide +kernel)) (aJ (aF (i:=2) (show List.Nodup [("word":Str),("one":Str),("other":Str),("task":Str)] by decide +kernel)) bN)))),(di (PW3.pt (cB (aW (bR hu30) (v3 0) d9) (cG (aW (bR hu30) (v3 1) (v3 3)))))),(v3 2)⟩)))),?_⟩;rw[show aR cR [Wk.enc ⟨tk,ors,prs,row⟩,T.str t]=[some (T.tup [T.tup (tk.map tkT),T.tup (ors.map orT),T.tup (prs.map prT),T.tup (row.map T.str)]),some (T.str t)] from rfl];have hsz:sizeLine=16777216:=rfl;have p12:prs.length<=12:=hW.ps;walk_at "";walk_at "c";refine c7 prT prs (fun A ys Z H=>H=H3/\ys=((A.filter fun p=>decide (p.1=("apart":Str))&&decide (p.2.1=t)).map (·.2.2)).map T.str/\∃v0 v1 v2:Option T,Z=[v0,v1,v2,some (.str t)]) ⟨rfl,rfl,none,none,none,rfl⟩ ?_ ?_
 ·rintro ys Z H ⟨rfl,rfl,v0,v1,v2,rfl⟩;refine⟨trivial,?_,fun p hp=>Fin3.of Sub3.refl (k p hp)⟩;rw[b_,b_];exact J_ (Xf _ _) (by omega)
 rintro A ⟨w,a,b⟩ B ys Z H N e ⟨rfl,rfl,v0,v1,v2,rfl⟩ hN;have hA:A.length<=12:=by have:=T_ List.length e;simp only[a_,e_] at this;omega
 have hl:((A.filter fun p=>decide (p.1=("apart":Str))&&decide (p.2.1=t)).map (·.2.2)).length<=12:=by rw[b_];exact J_ (Xf _ _) hA
 refine⟨trivial,?_⟩;have fY:Box (w="apart"/\a=t->N (((A.filter fun p=>decide (p.1=("apart":Str))&&decide (p.2.1=t)).map (·.2.2)).map T.str++[T.str b]) [some (.str w),some (.str a),some (.str b),some (.str t)] H):=⟨fun h=>hN _ _ _ ⟨rfl,by rw[Xw];simp [h],_,_,_,rfl⟩⟩;have fN:Box (¬(w="apart"/\a=t)->N (((A.filter fun p=>decide (p.1=("apart":Str))&&decide (p.2.1=t)).map (·.2.2)).map T.str) [some (.str w),some (.str a),some (.str b),some (.str t)] H):=⟨fun h=>hN _ _ _ ⟨rfl,by rw[Xw];simp [h],_,_,_,rfl⟩⟩;generalize ((A.filter fun p=>decide (p.1=("apart":Str))&&decide (p.2.1=t)).map (·.2.2))=cur at *;clear hN k e;simp only[prT];walk_at "";refine⟨trivial,?_⟩;by_cases h1:w="apart"
 ·simp only[h1,Xz,if_true];by_cases h2:a=t
  ·simp only[h2,Xz,if_true];have:=fY.out ⟨h1,h2⟩;rw[h1,h2] at this;exact⟨by omega,this⟩
  simp only[h2,XC,H_,Xh];have:=fN.out fun z=>h2 z.2;rw[h1] at this;exact this
 simp only[h1,XC,H_,Xh];exact fN.out fun z=>h1 z.1
abbrev mU:List Str:=["works","number","tasks","left","task"]
theorem sc_tasks_of:FnScope mU ["works","number"] (aB (top 3)):=bh
theorem tG {f:Addr}{fd:FuncData}(g:G3 K mg "tasks_of" (top 3) ["works","number"] f fd) (B:Bl mg):Cal P w K mg base 1 "tasks_of" (top 3) ["works","number"] J9:=by
 refine⟨f,fd,g,?_⟩;refine fn3 g.fn sc_tasks_of (fun ts H Q h=>?_) (fun cdv A outer s H E ts H3 Q hr h=>?_)
 ·obtain⟨W,n,rfl,_⟩:=h;rfl
 have hu30:=Room.u30 hr;obtain⟨⟨tk,ors,prs,row⟩,n,rfl,hW,n0,n1,k⟩:=h;refine⟨_,(ao (aG (i:=2) sc_tasks_of.nd (bK ak))
   (ao (aG (i:=3) sc_tasks_of.nd (v3 1))
   (ao (bc A_ rfl (cT (aK ix3 (v3 0) aq)) (aF (i:=4) sc_tasks_of.nd) (ao (bQ (aW (bR hu30) (aH dW (v3 3) aq) aq) (au (bL (bZ t_ M_ N_ bB (v3 2) (aa (aK ix3 (v3 4) aq) ak)))) aZ)
    (au (aG (i:=3) sc_tasks_of.nd (aH gm (v3 3) aq)))))
   (au (aO (bG cP rfl B.tuple_ cD (aa (v3 2) ak))))))),?_⟩
 rw[show aR mU [Wk.enc ⟨tk,ors,prs,row⟩,T.int n]=[some (T.tup [T.tup (tk.map tkT),T.tup (ors.map orT),T.tup (prs.map prT),T.tup (row.map T.str)]),some (T.int n),none,none,none] from rfl];have hsz:sizeLine=16777216:=rfl;have t8:tk.length<=8:=hW.t8;walk_at "";refine⟨by omega,fun p hp=>?_⟩;refine kW (fun r Z H=>∃(A B:List (Str × Int × List Str)) (v:Option T),tk=A++B/\r=B.map tkT/\H=up3 H3 p (.lst ((pick (A.map (·.1)) n).map T.str))/\Z=[some (T.tup [T.tup (tk.map tkT),T.tup (ors.map orT),T.tup (prs.map prT),T.tup (row.map T.str)]),some (.int n),some (.ref p),some (.int (n / 2^A.length)),v]) ⟨[],tk,none,rfl,rfl,rfl,by simp⟩ ?_ ?_
 ·rintro Z H ⟨A,B,v,e1,e2,rfl,rfl⟩;have hB:B=[]:=Yx.mp e2.symm;subst hB;rw[I_] at e1;subst e1;clear e2;refine⟨trivial,?_⟩;walk_at "";exact Fin3.of (Sub3.new hp) k
 rintro x r Z H N ⟨A,B,v,e1,e2,rfl,rfl⟩ hN;cases B with
 |nil=>cases e2
 |cons t B =>
 rw[D_,X7] at e2;obtain⟨rfl,rfl⟩:=e2;have hlA:A.length+1<=8:=by have:=T_ List.length e1;simp only[a_,e_] at this;omega
 have epk:=rW (A.map (·.1)) [t.1] n;simp only[pick,b_] at epk;have pkl:=xu (A.map (·.1)) n;rw[b_] at pkl;have epw:n / 2^A.length / 2=n / 2^(A++[t]).length:=by rw[a_,q_,YL,Int.ediv_ediv_of_nonneg (Int.le_of_lt (Int.pow_pos (by decide)))]
 have fin:∀v,N [some (T.tup [T.tup (tk.map tkT),T.tup (ors.map orT),T.tup (prs.map prT),T.tup (row.map T.str)]),some (.int n),some (.ref p),some (.int (n / 2^A.length / 2)),v] (up3 H3 p (.lst ((pick (A.map (·.1)++[t.1]) n).map T.str))):=fun v=>by rw[epw];exact hN _ _ ⟨A++[t],B,v,by rw[e1];simp,rfl,by simp,rfl⟩
 rw[epk] at fin;replace fin:=Box.mk fin;obtain⟨nm,len,ks⟩:=t;refine⟨trivial,?_⟩;clear hN e1 k epk epw;simp only[tkT,sT];walk_at "";try simp only[true_and]
 refine⟨by decide,?_⟩;by_cases hb:n / 2^A.length%2=1
 ·simp only[hb,if_true,Xz] at fin ⊢;refine⟨by omega,?_⟩;have fo:=fin.out (some (T.tup [T.str nm,T.int len,T.tup (ks.map T.str)]));rw[z_] at fo;exact⟨⟨by decide,by decide +kernel⟩,fo⟩
 simp only[hb,Xh,XC,H_,I_] at fin ⊢;exact⟨⟨by decide,by decide +kernel⟩,fin.out _⟩
def evR (W:Wk) (k:Nat) (E:Ev):List T:=(ksN W (E.map (·.1))).map fun d=>tbR W k d ((bz d E).getD (0,[])).1
def cW (W:Wk) (beat:Int) (m:Nat):List T:=(List.range m).flatMap fun k=>evR W k (evs W beat k)
def V1:Sp3:=fun ts H Q=>∃(W:Wk) (beat:Int) (m:Nat),ts=[W.enc,.int beat,.int (m:Int)]/\WkOk W/\W.tasks.length<=5/\m<=W.row.length/\∀p,H p=none->Q (.ref p) (up3 H p (.lst (cW W beat (m+1))))
theorem atE {W:Wk}{beat:Int}{H:Hp3}{as:List Addr}{q:Addr}(hs:Ql W beat H as) (gq:H q=some (.dci (dI evT (evs W beat as.length)))) {j:Nat}{a:Addr}(h:(as++[q])[j]?=some a):∃u,H a=some u/\(∀H Q,siO (some u) H Q=((dI evT (evs W beat j)).length<64/\∀us:List Int,us.Perm ((dI evT (evs W beat j)).map (·.1))->us.Pairwise (fun x y=>intOrd.kle x y)->∀p,H p=none->Q (.ref p) (up3 H p (.lst (us.map T.int)))))/\(∀k H Q,dgI (some u) k H Q=oq (cz k (dI evT (evs W beat j))) fun t=>Q t H)/\∀ts,u≠.lst ts:=by
 by_cases hj:j<as.length
 ·rw[Xj hj] at h;obtain⟨o,g⟩:=hs j a h;exact⟨_,g,fun _ _=>rfl,fun _ _ _=>rfl,fun _=>by simp⟩
 have hj':j=as.length:=by have:=(Xr.mp h).1;rw[a_,q_] at this;omega
 rw[F_ (by omega),hj',Nat.sub_self] at h;rw[hj',<- G_ (show some q=some a from h)];exact⟨_,gq,fun _ _=>rfl,fun _ _ _=>rfl,fun _=>by simp⟩
abbrev gJ:List Str:=["works","beat","many","table","stands","evens"]
theorem sc_even_table:FnScope gJ ["works","beat","many"] (aB (top 28)):=bh
theorem nA {f:Addr}{fd:FuncData}(g:G3 K mg "even_table" (top 28) ["works","beat","many"] f fd) (B:Bl mg) {C_Walk:Addr}(I_Walk:InsC K C_Walk ["works","beat","rules","whole"]) (M_Walk:MkC P w K mg base C_Walk 5 "Walk" ["self","works","beat"] (Vq C_Walk)) (F_evens_by_stands:Cal P w K mg base 5 "evens_by_stands" (top 27) ["walk","many"] (Vu C_Walk)) (F_tasks_of:Cal P w K mg base 1 "tasks_of" (top 3) ["works","number"] J9):Cal P w K mg base 7 "even_table" (top 28) ["works","beat","many"] V1:=by
 refine⟨f,fd,g,?_⟩;refine fn3 g.fn sc_even_table (fun ts H Q h=>?_) (fun cdv A outer s H E ts H3 Q hr h=>?_)
 ·obtain⟨W,beat,m,rfl,_⟩:=h;rfl
 have hu1:=Room.u1 hr;obtain⟨W,beat,m,rfl,hW,t5,hm,kk⟩:=h;refine⟨_,(ao (aG (i:=3) sc_even_table.nd (bK ak))
   (ao (bc A_ rfl (Ay rfl B.enumerate_ (aL F_evens_by_stands hr rfl (aa (GK M_Walk (hr.mono (by decide)) rfl (aa (v3 0) (aa (v3 1) ak))) (aa (v3 2) ak)))) (cH (n:=2) rfl (aJ (aF (i:=4) sc_even_table.nd) (aJ (aF (i:=5) sc_even_table.nd) bN))) (au (bL (bZ t_ PySem.F.slot_list_extend PySem.F.type_list_extend yw (v3 3) (aa (bx rfl (bF (n0:=(aB (top 28)).names) (N:=gJ) (N':=["done","stands","works","evens"]) (nt:=1) (cap:=[4,0,5]) rfl rfl (by decide +kernel)) (cM (aM (wX hr) rfl B.sorted_ oM (aa (v3 5) ak))) (fun cl pins s H C0 fp=>⟨(aF (i:=0) (show List.Nodup [("done":Str),("stands":Str),("works":Str),("evens":Str)] by decide +kernel)),bW,(bD (aa (v3 1) (aa (aL F_tasks_of hr rfl (aa (v3 2) (aa (v3 0) ak))) (aa (aK ix3 (jt hu1 (v3 3) (v3 0)) aq) ak))))⟩)) ak)))))
   (au (aO (v3 3))))),?_⟩
 rw[show aR gJ [W.enc,T.int beat,T.int (m:Int)]=[some (W.enc),some (T.int beat),some (T.int (m:Int)),none,none,none] from rfl];have hsz:sizeLine=16777216:=rfl;have t8:=hW.t8;have r8:=hW.r8;have t32:top2 W<=32:=Yq (n:=2) (by decide) t5;have k':=Box.mk kk;have hW':=Box.mk hW;clear kk hW;refine aD fun R0 hR0=>?_;walk_at "";refine⟨by decide,fun pt hpt=>?_⟩;walk_at "n";refine aD fun R1 hR1=>?_;walk_at "";intro a ha;have gt0:up3 H3 pt (.lst []) pt=some (.lst []):=aA;have nta:pt≠a:=aX gt0 ha;refine⟨a,W,beat,rfl,hW'.out,aA,fun H4 kp hw=>⟨rfl,?_⟩⟩;have sb4:Sub3 (up3 H3 pt (.lst [])) H4:=fun b u hb=>kp b u (aX hb ha) (by rw[aC (aX hb ha)];exact hb);refine⟨a,W,beat,m,rfl,hW'.out,hw,hm,fun H5 p as q sb2 hl gp hs gq=>?_⟩;have sb5:=sb4.trans sb2;have gt5:=sb5 _ _ gt0;have sb3:∀b u,H3 b=some u->H5 b=some u:=fun b u hb=>sb5 b u (by rw[aC (aX hb hpt)];exact hb);clear sb4 sb2 hw kp nta gt0 sb5 ha;rw[<- hl] at gq;have gp':H5 p=some (.lst ((as++[q]).map T.ref)):=by rw[gp,z_];rfl
 have hen:∀(j:Nat) (b:Addr),(as++[q])[j]?=some b->_:=fun j b hb=>atE hs gq hb;have hlen:(as++[q]).length=m+1:=by rw[a_,hl];rfl
 clear gp hs gq hl;generalize as++[q]=bs at *;have npt:p≠pt:=ne3 gp' gt5 fun z=>by have:=T_ List.length (O3.lst.inj z);rw[b_,hlen] at this;cases this
 have gt5':=Box.mk gt5;clear gt5;walk_at "";have gt5:=gt5'.out;clear gt5';refine yN T.ref bs (fun A Z H=>∃(v4 v5:Option T),Z=[some W.enc,some (.int beat),some (.int (m:Int)),some (.ref pt),v4,v5]/\(∀b u,b≠pt->H5 b=some u->H b=some u)/\H pt=some (.lst (cW W beat A.length))) ⟨_,_,rfl,fun _ _ _ h=>h,gt5⟩ ?_ ?_
 ·rintro Z H ⟨v4,v5,rfl,kb,gt⟩;refine⟨.inl (kb p _ npt gp'),?_⟩;rw[hlen] at gt;walk_at "n";walk_at "";refine Fin3.of (fun b u hb=>?_) (k'.out pt hpt);by_cases e:b=pt
  ·subst e;rw[aA] at hb;rw[gt,<- hb]
  rw[aC e] at hb;exact kb b u e (sb3 _ _ hb)
 rintro A x B Z H N e ⟨v4,v5,rfl,kb,gt⟩ hN;refine⟨.inl (kb p _ npt gp'),?_⟩;have hx:bs[A.length]?=some x:=by rw[e,F_ (o_ _),Nat.sub_self];rfl
 have hA:A.length<m+1:=by have:=T_ List.length e;rw[hlen,a_,e_] at this;omega
 obtain⟨u,gu5,hsi,hdg,hnl⟩:=hen A.length x hx;have nxt:x≠pt:=fun z=>by rw[z,gt5] at gu5;exact hnl _ (G_ gu5).symm
 have gu:=kb x u nxt gu5;have hE:=(mF (W:=W) (beat:=beat) (show A.length<=W.row.length by omega)).eok hW'.out;have dl:(dI evT (evs W beat A.length)).length<64:=by rw[u9];have:=hE.len;omega
 have kmem:∀d∈ksN W ((evs W beat A.length).map (·.1)),d<top2 W/\∃fs,cz (d:Int) (dI evT (evs W beat A.length))=some (.tup [.int ((bz d (evs W beat A.length)).getD (0,[])).1,.tup fs]):=fun d hd=>by unfold ksN at hd;obtain⟨h1,h2⟩:=R_.mp hd;obtain⟨e,he,rfl⟩:=x_.mp (Xv h2);rw[iQ,dN hE.nd (show (e.1,e.2)∈_ from he)];exact⟨C_.mp h1,_,rfl⟩
 have klen:=mK W ((evs W beat A.length).map (·.1));have hdu:cW W beat (A.length+1)=cW W beat A.length++(ksN W ((evs W beat A.length).map (·.1))).map fun d=>tbR W A.length d ((bz d (evs W beat A.length)).getD (0,[])).1:=by unfold cW;rw[List.range_succ,Zr];simp [evR]
 have dlen:(cW W beat A.length).length<=9*32:=by unfold cW;rw[List.length_flatMap];have:=lw (fun k=>(evR W k (evs W beat k)).length) 32 (fun k=>by unfold evR;rw[b_];exact J_ (mK _ _) t32) (List.range A.length);rw[h_] at this;omega
 have eks:∀us:List Int,us.Perm ((dI evT (evs W beat A.length)).map (·.1))->us.Pairwise (fun x y=>intOrd.kle x y)->us=_:=fun us h1 h2=>Dt hE.nd (fun e he=>(hE.lt e he).1) h1 h2;have fN:Box (∀v4 v5 H',(∀b u,b≠pt->H5 b=some u->H' b=some u)->H' pt=some (.lst (cW W beat A.length++(ksN W ((evs W beat A.length).map (·.1))).map fun d=>tbR W A.length d ((bz d (evs W beat A.length)).getD (0,[])).1))->N [some W.enc,some (.int beat),some (.int (m:Int)),some (.ref pt),v4,v5] H'):=⟨fun v4 v5 H' h1 h2=>hN _ _ ⟨_,_,rfl,h1,by rw[a_,q_,hdu];exact h2⟩⟩;clear hN hdu hE hnl gu5 hen hR1 e k' hlen;have eks':=Box.mk eks;clear eks;walk_at "";refine⟨trivial,⟨trivial,trivial⟩,by first | trivial | exact dl,fun us h1 h2 ps hps=>?_⟩;have eus:=eks'.out us h1 h2;subst eus;rw[Xi];clear eks' h1 h2 hsi dl;generalize ksN W ((evs W beat A.length).map (·.1))=KS at *;generalize evs W beat A.length=E1 at *;generalize cW W beat A.length=D0 at *;have nts:pt≠ps:=aX gt hps;have gu8:up3 H ps (.lst (KS.map (T.int ∘ fun (d:Nat)=>(d:Int)))) x=some u:=(Sub3.new hps) _ _ gu;have gt8:up3 H ps (.lst (KS.map (T.int ∘ fun (d:Nat)=>(d:Int)))) pt=some (.lst D0):=(Sub3.new hps) _ _ gt;have gs8:up3 H ps (.lst (KS.map (T.int ∘ fun (d:Nat)=>(d:Int)))) ps=some (.lst (KS.map (T.int ∘ fun (d:Nat)=>(d:Int)))):=aA;have kb8:∀b u,b≠pt->H5 b=some u->up3 H ps (.lst (KS.map (T.int ∘ fun (d:Nat)=>(d:Int)))) b=some u:=fun b u hb h=>(Sub3.new hps) _ _ (kb b u hb h);generalize up3 H ps (.lst (KS.map (T.int ∘ fun (d:Nat)=>(d:Int))))=H8 at gu8 gt8 gs8 kb8 ⊢;clear gu gt kb hps;walk_at "c";refine dH (T.int ∘ fun (d:Nat)=>(d:Int)) (fun d=>tbR W A.length d ((bz d E1).getD (0,[])).1) KS [some (.int (A.length:Int)),some W.enc,some (.ref x)] (.inl gs8) (by omega) (fun d hd Q' hq=>?_) (fun pn hpn=>?_)
 ·obtain⟨hd1,fs,hd2⟩:=kmem d hd;have hq':=Box.mk hq;clear hq fN kmem gt8 gs8 kb8;simp only[Function.comp];walk_at "";refine⟨W,(d:Int),rfl,hW'.out,by omega,?_,?_⟩
  ·unfold top2 at hd1;exact_mod_cast hd1
  walk_at "";exact⟨by decide,hq'.out⟩
 have gt9:=(Sub3.new (o:=.lst (KS.map fun d=>tbR W A.length d ((bz d E1).getD (0,[])).1)) hpn) _ _ gt8;rw[gt9,Jl];refine⟨by rw[b_];omega,fN.out _ _ _ (fun b u hb h=>?_) ?_⟩
 ·rw[aC hb];exact (Sub3.new hpn) _ _ (kb8 b u hb h)
 rw[aA]
abbrev mV:List Str:=["_law_deck","_law_most"]
theorem HW:FnScope mV mV (aB (top 31)):=bh
theorem HX {f:Addr}{fd:FuncData}(g:G3 K mg "_law_draw" (top 31) mV f fd) (B:Bl mg):Cal P w K mg base 1 "_law_draw" (top 31) mV mq:=by
 refine⟨f,fd,g,?_⟩;refine fn3 g.fn HW (fun ts H Q h=>?_) (fun cdv A outer s H E ts H3 Q hr h=>?_)
 ·obtain⟨d,m,rfl,_⟩:=h;rfl
 have hu30:=Room.u30 hr;obtain⟨d,m,rfl,hm,hC,k⟩:=h;refine⟨_,(ao (bQ (aW (bR hu30) (v3 0) (bK ak)) (au (aO aq)) aZ)
   (au (aO (aH dW (Bf t_ PySem.F.slot_list_pop PySem.F.type_list_pop PQ (v3 0)) (v3 1))))),?_⟩
 rw[show aR mV [T.ref d,T.int m]=[some (T.ref d),some (T.int m)] from rfl];have hsz:sizeLine=16777216:=rfl;obtain⟨ns,hd,hl⟩:=hC.ex;walk_at "";refine⟨by omega,fun p hp=>?_⟩;have npd:d≠p:=aX hd hp;have hpl:(ns.map T.int).all (pl 20)=true:=by rw[S_];intro t ht;obtain⟨x,_,rfl⟩:=x_.mp ht;rfl
 have k':=Box.mk k;clear k;walk_at "";refine⟨by first | trivial | exact npd,by first | trivial | exact hpl,by first | trivial | rfl,?_⟩;rcases List.eq_nil_or_concat ns with rfl | ⟨r,n,rfl⟩
 ·simp only[Xy,wI,if_true];exact iM (a:=d) (H:=H3) (hC.new (Ne.symm npd)) (Kep.refl.new hp) fun H'' hD=>k'.out 0 H'' (Yp _) hm hD
 rw[B_ (by simp),if_neg u_];rw[List.concat_eq_append] at *;have e1:=CW r n;have e2:=yM r n;have hd2:up3 H3 p (.lst []) d=some (.lst ((r++[n]).map T.int)):=by rw[aC npd];exact hd
 generalize hg:up3 H3 p (.lst [])=H4 at hd2;clear hpl;walk_at "";refine⟨⟨trivial,trivial⟩,?_⟩;rw[show (List.map T.int (r++[n]))[(r++[n]).length - 1]?=some (T.int n) by simp,ig];walk_at "";refine⟨by first | trivial | exact hm,iM (a:=d) (H:=H3) ⟨r,aA,by rw[a_,q_] at hl;omega⟩ (fun b o hb h1=>?_) fun H'' hD=>k'.out _ H'' (XM _ (by omega)) (XJ _ hm) hD⟩;rw[aC h1,<- hg,aC (aX hb hp)];exact hb
abbrev xO:List Str:=["_law_deck","_law_most","_law_total","_law_k"]
theorem sc_great:FnScope xO ["_law_deck","_law_most"] (aB (top 32)):=bh
theorem Dw {f:Addr}{fd:FuncData}(g:G3 K mg "_law_great" (top 32) ["_law_deck","_law_most"] f fd) (B:Bl mg) (F_draw:Cal P w K mg base 1 "_law_draw" (top 31) ["_law_deck","_law_most"] mq):Cal P w K mg base 2 "_law_great" (top 32) ["_law_deck","_law_most"] P0:=by
 refine⟨f,fd,g,?_⟩;refine fn3 g.fn sc_great (fun ts H Q h=>?_) (fun cdv A outer s H E ts H3 Q hr h=>?_)
 ·obtain⟨d,m,rfl,_⟩:=h;rfl
 obtain⟨d,m,rfl,hm,hC,k⟩:=h;refine⟨_,(ao (aG (i:=2) sc_great.nd aq)
   (ao (bc A_ rfl (aN rfl B.range_ (aa aq ak)) (aF (i:=3) sc_great.nd) (au (aG (i:=2) sc_great.nd (aH aY (aH gW (v3 2) (aH gC aq aq)) (aL F_draw hr rfl (aa (v3 0) (aa (aH gC aq aq) ak)))))))
   (au (aO (aH dW (v3 2) (v3 1)))))),?_⟩
 rw[show aR xO [T.ref d,T.int m]=[some (T.ref d),some (T.int m),none,none] from rfl];have k':=Box.mk k;clear k;refine aD fun R0 hR0=>?_;walk_at "";walk_at "n";refine aD fun R1 hR1=>?_;walk_at "";refine⟨by first | trivial | decide,by decide,by decide,?_⟩;generalize dh 0 (Int.toNat 6)=ts0;refine kW (fun r Z H=>∃(t:Int) (v3:Option T),Z=[some (.ref d),some (.int m),some (.int t),v3]/\Cl H d/\Kep d H3 H) ⟨_,_,rfl,hC,Kep.refl⟩ ?_ ?_
 ·rintro Z H ⟨t,v3,rfl,hc,hk⟩;refine⟨trivial,?_⟩;walk_at "n";walk_at "";refine⟨by first | trivial | exact hm,iM hc hk fun H'' hD=>k'.out _ H'' (XM _ (by omega)) (XJ _ hm) hD⟩
 rintro x r Z H N ⟨t,v3,rfl,hc,hk⟩ hN;refine⟨trivial,?_⟩;have hN':=Box.mk hN;clear hN hR1 k';walk_at "";refine⟨⟨by decide,by decide,by decide⟩,.inr ⟨by decide,by decide⟩,⟨by decide,by decide,by decide⟩,d,10^Int.toNat 12,rfl,by decide,hc,fun n H5 n0 n1 hD=>?_⟩;exact hN'.out _ _ ⟨_,_,rfl,hD.cl,hk.drw hD⟩
abbrev qx:List Str:=["_law_deck","_law_works_here","_law_lengths_here","_law_bits","_law_some","_law_total"]
theorem sc_beat:FnScope qx ["_law_deck","_law_works_here"] (aB (top 42)):=bh
theorem HY {f:Addr}{fd:FuncData}(g:G3 K mg "_law_beat" (top 42) ["_law_deck","_law_works_here"] f fd) (B:Bl mg) (F_draw:Cal P w K mg base 1 "_law_draw" (top 31) ["_law_deck","_law_most"] mq) (F_great:Cal P w K mg base 2 "_law_great" (top 32) ["_law_deck","_law_most"] P0):Cal P w K mg base 3 "_law_beat" (top 42) ["_law_deck","_law_works_here"] Vo:=by
 refine⟨f,fd,g,?_⟩;refine fn3 g.fn sc_beat (fun ts H Q h=>?_) (fun cdv A outer s H E ts H3 Q hr h=>?_)
 ·obtain⟨d,W,rfl,_⟩:=h;rfl
 have hu30:=Room.u30 hr;obtain⟨d,⟨tk,ors,prs,row⟩,rfl,hW,hC,k⟩:=h;refine⟨_,(ao (aG (i:=2) sc_beat.nd (bx rfl (bF (n0:=(aB (top 42)).names) (N:=qx) (N':=["_law_name","_law_length","_law_kinds_here"]) (nt:=3) (cap:=[]) rfl rfl (by decide +kernel)) (cT (aK ix3 (v3 1) aq)) (fun cl pins s H C0 fp=>⟨(cH (n:=3) rfl (aJ (aF (i:=0) (show List.Nodup [("_law_name":Str),("_law_length":Str),("_law_kinds_here":Str)] by decide +kernel)) (aJ (aF (i:=1) (show List.Nodup [("_law_name":Str),("_law_length":Str),("_law_kinds_here":Str)] by decide +kernel)) (aJ (aF (i:=2) (show List.Nodup [("_law_name":Str),("_law_length":Str),("_law_kinds_here":Str)] by decide +kernel)) bN)))),bW,(v3 1)⟩)))
   (ao (aG (i:=3) sc_beat.nd (aL F_draw hr rfl (aa (v3 0) (aa (aH Az aq (aM bH rfl B.len_ bI (aa (v3 2) ak))) ak))))
   (ao (aG (i:=4) sc_beat.nd (aM (pQ rfl) rfl B.sum_ pR (aa (bx rfl (bF (n0:=(aB (top 42)).names) (N:=qx) (N':=["_law_k","_law_lengths_here","_law_bits"]) (nt:=1) (cap:=[2,3]) rfl rfl (by decide +kernel)) (aN rfl B.range_ (aa (aM bH rfl B.len_ bI (aa (v3 2) ak)) ak)) (fun cl pins s H C0 fp=>⟨(aF (i:=0) (show List.Nodup [("_law_k":Str),("_law_lengths_here":Str),("_law_bits":Str)] by decide +kernel)),(di (aW (bR hu30) (aH dX (aH gD (v3 2) (v3 0)) aq) aq)),(aK ix3 (v3 1) (v3 0))⟩)) ak)))
   (ao (aG (i:=5) sc_beat.nd (aM (pQ rfl) rfl B.sum_ pR (aa (v3 2) ak)))
   (au (aO (aK ix3 (bK (aa (v3 4) (aa (aM (Gu rfl) rfl B.max_ Bd (aa aq (aa (aH pL (v3 4) aq) ak))) (aa (aH aY (v3 4) aq) (aa (v3 5) (aa (aM (Gx rfl) rfl B.max_ Bd (aa (v3 2) ak)) (aa (aL F_great hr rfl (aa (v3 0) (aa (aH gC aq aq) ak))) ak))))))) (aL F_draw hr rfl (aa (v3 0) (aa aq ak)))))))))),?_⟩
 rw[show aR qx [T.ref d,Wk.enc ⟨tk,ors,prs,row⟩]=[some (T.ref d),some (T.tup [T.tup (tk.map tkT),T.tup (ors.map orT),T.tup (prs.map prT),T.tup (row.map T.str)]),none,none,none,none] from rfl];have hsz:sizeLine=16777216:=rfl;have k':=Box.mk k;clear k;have t8:tk.length<=8:=hW.t8;have t1:1<=tk.length:=hW.t1;have w0:Wt d H3 H3 []:=⟨hC,Kep.refl,(fun _ h=>nomatch h)⟩;have hlo:Box (∀l∈tk.map (·.2.1),0<=l):=⟨fun l hl=>by obtain⟨t,ht,rfl⟩:=x_.mp hl;have:=(hW.tk t ht).lo;omega⟩;clear hC hW;refine aD fun R0 hR0=>?_;walk_at "";walk_at "c";refine ir (fun t:Str × Int × List Str=>.str t.1) (fun t=>.int t.2.1) (fun t=>.tup (t.2.2.map T.str)) (fun t=>T.int t.2.1) (fun _=>true) tk [] trivial (by omega) (fun t ht Q' hq=>hq) (fun t ht _ Q' hq=>?_) (fun pl hpl=>?_)
 ·clear k' hR0;walk_at "";try exact hq
 rw[YX.mpr (fun _ _=>rfl)];have en:tk.map (fun t=>T.int t.2.1)=(tk.map (·.2.1)).map T.int:=by rw[Xi];rfl
 rw[en];have hll:(tk.map (·.2.1)).length=tk.length:=b_ _;generalize tk.map (·.2.1)=ls at *;have l8:ls.length<=8:=by omega
 have l1:1<=ls.length:=by omega
 clear en hll;have w1:=w0.new (o:=.lst (ls.map T.int)) hpl;generalize up3 H3 pl (.lst (ls.map T.int))=H4 at w1 ⊢;clear w0 hpl;walk_at "n";have g1:=w1.hd;refine aD fun R1 hR1=>?_;walk_at "";refine⟨⟨by omega,by omega,by decide⟩,d,_,rfl,by rw[Int.one_mul];exact Int.pow_pos (by decide),w1.cl,fun bits H5 _ _ hD=>?_⟩;have w2:=w1.drw hD;clear w1 hD g1;walk_at "n";have g1:=w2.hd;refine aD fun R2 hR2=>?_;walk_at "";refine⟨by first | trivial | omega,by omega,by omega,?_⟩;rw[dm];walk_at "c";refine cX (fun (i:Nat)=>T.int (i:Int)) (fun i=>T.int (ls.getD i 0)) (fun i=>decide (Builtin.bitAnd (bits / 2^i) 1=1)) (List.range ls.length) [some (.ref pl),some (.int bits)] (still:=cL) (H:=H5) trivial (by rw[h_];omega) (fun i hi Q' hq=>?_) (fun i hi hpt Q' hq=>?_) ?_
 ·have hq':=Box.mk hq;clear hq k' hR2;walk_at "";exact⟨by omega,hq'.out⟩
 ·have hq':=Box.mk hq;have x1:=J1 (C_.mp hi);clear hq k' hR2;walk_at "";exact hq'.out
 intro pc hpc;have ei:ints3 (((List.range ls.length).filter (fun i=>decide (Builtin.bitAnd (bits / 2^i) 1=1))).map fun i=>T.int (ls.getD i 0))=some (((List.range ls.length).filter (fun i=>decide (Builtin.bitAnd (bits / 2^i) 1=1))).map fun i=>ls.getD i 0):=by rw[<- fK,Xi];rfl
 rw[ei,ig];have hsm:(0:Int)<=(((List.range ls.length).filter (fun i=>decide (Builtin.bitAnd (bits / 2^i) 1=1))).map fun i=>ls.getD i 0).sum:=u5 fun x hx=>by obtain⟨i,_,rfl⟩:=x_.mp hx;exact Hy hlo.out i
 generalize (((List.range ls.length).filter (fun i=>decide (Builtin.bitAnd (bits / 2^i) 1=1))).map fun i=>ls.getD i 0).sum=sm at hsm ⊢;have w3:=(w2.new (o:=.lst (((List.range ls.length).filter (fun i=>decide (Builtin.bitAnd (bits / 2^i) 1=1))).map fun i=>T.int (ls.getD i 0))) hpc).tl;generalize up3 H5 pc _=H6 at w3 ⊢;clear w2 hpc ei g1;walk_at "n";have g1:=w3.hd;have ei:=fK ls;refine aD fun R3 hR3=>?_;walk_at "";walk_at "n";have ht0:(0:Int)<=ls.sum:=u5 hlo.out;generalize ls.sum=tot at ht0 ⊢;walk_at "";refine⟨by intro e;rw[e] at l1;simp at l1,fun mx hm _=>?_⟩;have hz0:(0:Int)<=(if sm - 1>0 then sm - 1 else 0):=by split <;> omega
 generalize (if sm - 1>0 then sm - 1 else 0)=mz at hz0 ⊢;have hm0:=hlo.out mx hm;clear hm g1 ei hlo;refine⟨⟨by decide,by decide,by decide⟩,d,_,rfl,by decide,w3.cl,fun gr H7 g0 _ hD=>?_⟩;have w4:=w3.drw hD;clear w3 hD;refine⟨by decide,fun p hp=>?_⟩;have w5:=w4.new (o:=.lst [T.int sm,T.int mz,T.int (sm+1),T.int tot,T.int mx,T.int gr]) hp;generalize up3 H7 p _=H8 at w5 ⊢;clear w4 hp;refine⟨d,6,rfl,by decide,w5.cl,fun n H9 n0 n1 hD=>?_⟩;have w6:=w5.drw hD;have g2:=w6.hd;clear w5 hD;obtain⟨b,hbm,hb'⟩:=rB ([sm,mz,sm+1,tot,mx,gr]:List Int) n (by omega) (by show n<6;omega);have hb2:atI [T.int sm,T.int mz,T.int (sm+1),T.int tot,T.int mx,T.int gr] n=some (T.int b):=by have:=lU T.int ([sm,mz,sm+1,tot,mx,gr]:List Int) n;rw[hb'] at this;exact this
 have b0:0<=b:=by simp only[l_,Xk,Yo] at hbm;omega
 walk_at "";exact iM w6.cl w6.kp fun H'' hD=>k'.out _ H'' b0 hD
theorem Qw (W:Wk) (k d:Nat) (v:Int) (hl:(pk W d).length<=8):shn 2 (tbR W k d v)=true:=by
 have hsz:sizeLine=16777216:=rfl;have e1:shn 1 (.tup ((pk W d).map T.str))=(decide (((pk W d).map T.str).length<=sizeLine)&&((pk W d).map T.str).all (shn 0)):=rfl;have e2:shn 2 (tbR W k d v)=(decide (3<=sizeLine)&&(shn 1 (.int (k:Int))&&(shn 1 (.tup ((pk W d).map T.str))&&(shn 1 (.int v)&&true)))):=rfl;have h1:((pk W d).map T.str).length<=sizeLine:=by rw[b_];omega
 rw[e2,e1,P_ h1,P_ (show 3<=sizeLine by omega)];have:((pk W d).map T.str).all (shn 0)=true:=by rw[S_];intro t ht;obtain⟨x,_,rfl⟩:=x_.mp ht;rfl
 rw[this];rfl
theorem Qx {W:Wk}{beat:Int}(hW:WkOk W) (t5:W.tasks.length<=5) {m:Nat}(hm:m<=9):shn 3 (.tup (cW W beat m))=true:=by
 have hsz:sizeLine=16777216:=rfl;have t32:top2 W<=32:=Yq (n:=2) (by decide) t5;have e1:shn 3 (.tup (cW W beat m))=(decide ((cW W beat m).length<=sizeLine)&&(cW W beat m).all (shn 2)):=rfl;have h1:(cW W beat m).length<=32*m:=by unfold cW;rw[List.length_flatMap];have:=lw (fun k=>(evR W k (evs W beat k)).length) 32 (fun k=>by unfold evR;rw[b_];exact J_ (mK _ _) t32) (List.range m);rw[h_] at this;exact this
 rw[e1,P_ (by omega),Yc,S_];intro t ht;unfold cW at ht;obtain⟨k,_,hk⟩:=List.mem_flatMap.mp ht;obtain⟨d,_,rfl⟩:=x_.mp hk;refine Qw W k d _ (J_ (Du W d) ?_);have:=hW.t8;unfold nm;rw[b_];exact this
theorem Dy {W:Wk}{as bs:List Nat}(h:∀d,d∈as↔d∈bs):ksN W as=ksN W bs:=by
 unfold ksN;exact Yu fun d _=>Zn.mpr (h d)
theorem Xa (W:Wk):pk W 0=[]:=by
 have:∀ns:List Str,pick ns 0=[]:=fun ns=>by
  induction ns with
  |nil=>rfl
  |cons y r ih=>unfold pick;rw[if_neg (by decide)];exact ih
 exact this _
theorem Xb (W:Wk):ksN W [0]=[0]:=by
 have tp:=jB W;unfold ksN;obtain⟨n,hn⟩:∃n,top2 W=n+1:=⟨top2 W - 1,by omega⟩;rw[hn,List.range_succ_eq_map,Xu,if_pos (by simp)];congr 1;rw[Y8];intro d hd;obtain⟨k,_,rfl⟩:=x_.mp hd;simp
theorem V2 {W:Wk}{beat:Int}{m:Nat}(hm:m<=W.row.length):cW W beat (m+1)=gP W beat m:=by
 unfold cW gP;rw[List.range_succ_eq_map,ZD];have e0:evR W 0 (evs W beat 0)=[.tup [.int 0,.tup [],.int 0]]:=by show (ksN W [0]).map _=_;rw[Xb];show [tbR W 0 0 0]=_;unfold tbR sT;rw[Xa];rfl
 rw[e0,List.flatMap_map];show _::_=_;congr 1;have:∀k∈List.range m,evR W (k+1) (evs W beat (k+1))=lvR W (k+1) (lvs W beat (k+1)):=fun k hk=>by
  have hk':k+1<=W.row.length:=by have:=C_.mp hk;omega
  obtain⟨a1,a2⟩:=Vv (W:=W) (beat:=beat) hk';unfold evR lvR;rw[Dy a1];refine Yi fun d hd=>?_;have hd2:=Xv (R_.mp hd).2;obtain⟨e,he,rfl⟩:=x_.mp hd2;have h2:=dN (mG (beat:=beat) hk').nd (show (e.1,e.2)∈_ from he);obtain⟨x,hx,hxe⟩:=x_.mp ((a1 e.1).mpr hd2);have h1:=dN (mF (beat:=beat) hk').nd (show (x.1,x.2)∈_ from hx);rw[hxe] at h1;rw[h1,h2];show tbR W (k+1) e.1 x.2.1=tbR W (k+1) e.1 e.2;rw[a2 _ _ _ h1 h2]
 have key:∀xs:List Nat,(∀k∈xs,evR W (k+1) (evs W beat (k+1))=lvR W (k+1) (lvs W beat (k+1)))->xs.flatMap (fun k=>evR W (k+1) (evs W beat (k+1)))=xs.flatMap fun k=>lvR W (k+1) (lvs W beat (k+1)):=fun xs=>by
  induction xs with
  |nil=>intro _;rfl
  |cons x r ih=>intro h;rw[ZD,ZD,h x i_,ih fun k hk=>h k (n_ _ hk)]
 exact key _ this
theorem Wt.sub {c:Addr}{H0 H H':Hp3}{fs:List (Addr × O3)}(w:Wt c H0 H fs) (s:Sub3 H H'):Wt c H0 H' fs:=w.kep (by obtain⟨ns,e,r⟩:=w.cl.ex;exact⟨ns,s _ _ e,r⟩) fun b o h _=>s b o h
def xP:Sp3:=fun ts H Q=>∃(a:Addr) (ns:List Int),ts=[.ref a]/\H a=some (.rol (ns.map T.int))/\ns.length<=63/\∀H',Q (.bl true) H'
abbrev Kf:List Str:=["_law_script","_law_deck","_law_works_here","_law_many","_law_beat_here","_law_due_here","_law_turn_here","_law_found"]
theorem sc_law:FnScope Kf ["_law_script"] (aB (top 49)):=bh
theorem Qy {f:Addr}{fd:FuncData}(g:G3 K mg "law" (top 49) ["_law_script"] f fd) (B:Bl mg) (F_numbers:Cal P w K mg base 1 "_law_numbers" (top 30) ["_law_script"] JZ) (F_works:Cal P w K mg base 5 "_law_works" (top 41) ["_law_deck","_law_most","_law_stands"] Vi) (F_draw:Cal P w K mg base 1 "_law_draw" (top 31) ["_law_deck","_law_most"] mq) (F_beat:Cal P w K mg base 3 "_law_beat" (top 42) ["_law_deck","_law_works_here"] Vo) (F_due:Cal P w K mg base 4 "_law_due" (top 48) ["_law_works_here","_law_beat_here","_law_many"] J8) (F_even_table:Cal P w K mg base 7 "even_table" (top 28) ["works","beat","many"] V1) (F_same:Cal P w K mg base 4 "_law_same" (top 46) ["_law_one","_law_other"] (pW 4)):FnOk3 P w K mg base 8 f fd ["_law_script"] xP:=by
 refine fn3 g.fn sc_law (fun ts H Q h=>?_) (fun cdv A outer s H E ts H3 Q hr h=>?_)
 ·obtain⟨a,ns,rfl,_⟩:=h;rfl
 obtain⟨a,ns,rfl,ha,h63,k⟩:=h;refine⟨_,(ao (aG (i:=1) sc_law.nd (aL F_numbers hr rfl (aa (v3 0) ak)))
   (ao (aG (i:=2) sc_law.nd (aL F_works hr rfl (aa (v3 1) (aa aq (aa aq ak)))))
   (ao (aG (i:=3) sc_law.nd (aL F_draw hr rfl (aa (v3 1) (aa (aH aY (aM bH rfl B.len_ bI (aa (aK ix3 (v3 2) aq) ak)) aq) ak))))
   (ao (aG (i:=4) sc_law.nd (aL F_beat hr rfl (aa (v3 1) (aa (v3 2) ak))))
   (ao (aG (i:=5) sc_law.nd (aL F_due hr rfl (aa (v3 2) (aa (v3 4) (aa (v3 3) ak)))))
   (ao (bc A_ rfl (aN rfl B.range_ (aa aq ak)) (aF (i:=6) sc_law.nd) (ao (aG (i:=7) sc_law.nd (aL F_even_table hr rfl (aa (v3 2) (aa (v3 4) (aa (v3 3) ak)))))
    (ao (bQ (PW3.pt (jl (gU (bY (aM jM rfl B.isinstance_ cJ (aa (v3 7) (aa (ou rfl B.list_ jo) ak))))) (gh (gU (bY (aL F_same hr rfl (aa (bG cP rfl B.tuple_ cD (aa (v3 5) ak)) (aa (bG cP rfl B.tuple_ cD (aa (v3 7) ak)) ak)))))))) (au (aO eQ)) aZ)
    (au (bL (Bf t_ PySem.F.slot_list_clear PySem.F.type_list_clear Bg (v3 7)))))))
   (au (aO eQ)))))))),?_⟩
 rw[show aR Kf [T.ref a]=[some (T.ref a),none,none,none,none,none,none,none] from rfl];have hsz:sizeLine=16777216:=rfl;have k':=Box.mk k;clear k;refine aD fun R0 hR0=>?_;walk_at "";refine⟨a,ns,rfl,ha,h63,fun d H4 hsub hd hC=>?_⟩;have w0:Wt d H4 H4 []:=⟨hC,Kep.refl,(fun _ h=>nomatch h)⟩;clear hC hsub hd ha;walk_at "n";refine aD fun R1 hR1=>?_;walk_at "";refine⟨d,5,3,rfl,by decide,by decide,by decide,by decide,w0.cl,fun W H5 hW t5 r3 hD=>?_⟩;have w1:=w0.drw hD;clear w0 hD;walk_at "n";refine aD fun R2 hR2=>?_;walk_at "";refine⟨d,(W.row.length:Int)+1,rfl,by omega,w1.cl,fun n H6 n0 n1 hD=>?_⟩;have w2:=w1.drw hD;clear w1 hD;obtain⟨m,rfl⟩:∃m:Nat,n=(m:Int):=⟨n.toNat,by omega⟩;have hm:m<=W.row.length:=by omega
 clear n0 n1;walk_at "n";refine aD fun R3 hR3=>?_;walk_at "";refine⟨d,W,rfl,hW,w2.cl,fun beat H7 _ hD=>?_⟩;have w3:=w2.drw hD;clear w2 hD;have t5':W.tasks.length<=5:=by omega
 have r3':W.row.length<=3:=by omega
 have hsh:=Qx (beat:=beat) hW t5' (show m+1<=9 by omega);have heq:=V2 (W:=W) (beat:=beat) hm;have hW':=Box.mk hW;clear hW t5 r3;walk_at "n";refine aD fun R4 hR4=>?_;walk_at "";refine⟨W,beat,m,rfl,hW'.out,t5',hm,fun pd hpd=>?_⟩;rw[<- heq];have gd:up3 H7 pd (.lst (cW W beat (m+1))) pd=some (.lst (cW W beat (m+1))):=aA;generalize up3 H7 pd (.lst (cW W beat (m+1)))=H8 at gd ⊢;clear w3 hpd heq;have lL:(cW W beat (m+1)).length<=sizeLine:=by have e1:shn 3 (.tup (cW W beat (m+1)))=(decide ((cW W beat (m+1)).length<=sizeLine)&&(cW W beat (m+1)).all (shn 2)):=rfl;rw[e1,L_] at hsh;exact Xv hsh.1
 walk_at "n";refine aD fun R5 hR5=>?_;walk_at "";refine⟨trivial,by decide,by decide,?_⟩;rw[show (Int.toNat 2)=2 from rfl,dm];refine aQ (fun (i:Nat)=>T.int (i:Int)) (List.range 2) (fun A Z H=>∃(v6 v7:Option T),Z=[some (.ref a),some (.ref d),some W.enc,some (.int (m:Int)),some (.int beat),some (.ref pd),v6,v7]/\H pd=some (.lst (cW W beat (m+1)))) ⟨_,_,rfl,gd⟩ ?_ ?_
 ·rintro Z H ⟨v6,v7,rfl,gd⟩;refine⟨trivial,?_⟩;walk_at "n";walk_at "";exact Fin3.of Sub3.refl (k'.out _)
 rintro A i B Z H N e ⟨v6,v7,rfl,gd⟩ hN;refine⟨trivial,?_⟩;have hN':=Box.mk hN;clear hN e k' hR5;refine aD fun R6 hR6=>?_;walk_at "";refine⟨W,beat,m,rfl,hW'.out,t5',hm,fun pf hpf=>?_⟩;have ndf:pd≠pf:=aX gd hpf;have gd2:up3 H pf (.lst (cW W beat (m+1))) pd=some (.lst (cW W beat (m+1))):=by rw[aC ndf];exact gd
 have gf2:up3 H pf (.lst (cW W beat (m+1))) pf=some (.lst (cW W beat (m+1))):=aA;generalize up3 H pf (.lst (cW W beat (m+1)))=H9 at gd2 gf2 ⊢;generalize cW W beat (m+1)=E1 at *;clear gd hpf;walk_at "n";refine aD fun R7 hR7=>?_;walk_at "";have hi:isT "list" (.ref pf) H9=some true:=by simp [isT,gf2]
 rw[hi,ig,if_neg (by decide)];refine⟨_,by decide,rfl,hsh,?_⟩;try dsimp only
 rw[ie,if_neg (by decide)];walk_at "n";walk_at "";refine⟨⟨trivial,trivial⟩,hN'.out _ _ ⟨_,_,rfl,?_⟩⟩;rw[aC ndf];exact gd2
abbrev jQ:List Str:=["_law_many","_law_edges","_law_table","_law_k","_law_i","_law_j"]
theorem sc_chained:FnScope jQ ["_law_many","_law_edges"] (aB (top 37)):=bh
theorem vC {f:Addr}{fd:FuncData}(g:G3 K mg "_law_chained" (top 37) ["_law_many","_law_edges"] f fd) (B:Bl mg):Cal P w K mg base 1 "_law_chained" (top 37) ["_law_many","_law_edges"] Qo:=by
 refine⟨f,fd,g,?_⟩;refine fn3 g.fn sc_chained (fun ts H Q h=>?_) (fun cdv A outer s H E ts H3 Q hr h=>?_)
 ·obtain⟨m,a,es,rfl,_⟩:=h;rfl
 have hu31:=Room.u31 hr;obtain⟨m,a,es,rfl,m8,ha,hes,k⟩:=h;refine⟨_,(ao (kJ (i:=2) rfl sc_chained.nd (bF (n0:=(aB (top 37)).names) (N:=jQ) (N':=["_law_i","_law_edges","_law_many"]) (nt:=1) (cap:=[1,0]) rfl rfl (by decide +kernel)) (aN rfl B.range_ (aa (v3 0) ak)) (fun cl pins s H C0 fp=>⟨(aF (i:=0) (show List.Nodup [("_law_i":Str),("_law_edges":Str),("_law_many":Str)] by decide +kernel)),bW,(bx rfl (FT (n00:=(aB (top 37)).names) (N:=["_law_i","_law_edges","_law_many"]) (N':=["_law_j","_law_edges","_law_i"]) (nt:=1) (cap:=[1,0]) rfl rfl rfl (by decide +kernel)) (aN rfl B.range_ (aa (v3 2) ak)) (fun cl pins s H C0 fp=>⟨(aF (i:=0) (show List.Nodup [("_law_j":Str),("_law_edges":Str),("_law_i":Str)] by decide +kernel)),bW,(dU (zY hu31) (bD (aa (v3 2) (aa (v3 0) ak))) (v3 1) rfl)⟩))⟩))
   (ao (bc A_ rfl (aN rfl B.range_ (aa (v3 0) ak)) (aF (i:=3) sc_chained.nd) (au (bc A_ rfl (aN rfl B.range_ (aa (v3 0) ak)) (aF (i:=4) sc_chained.nd) (au (bc A_ rfl (aN rfl B.range_ (aa (v3 0) ak)) (aF (i:=5) sc_chained.nd) (au (ul (Iu (aK ix3 (aK ix3 (v3 2) (v3 4)) (v3 5)) (lH (pF (aK ix3 (aK ix3 (v3 2) (v3 4)) (v3 3)) (lH (aK ix3 (aK ix3 (v3 2) (v3 3)) (v3 5)))))) (Mg (aK ix3 (v3 2) (v3 4)) (v3 5) yu))))))))
   (au (aO (v3 2))))),?_⟩
 rw[show aR jQ [T.int (m:Int),T.ref a]=[some (T.int (m:Int)),some (T.ref a),none,none,none,none] from rfl];have hsz:sizeLine=16777216:=rfl;have k':=Box.mk k;clear k;have rg:dh 0 m=(List.range m).map fun (i:Nat)=>T.int (i:Int):=dm m;refine aD fun R0 hR0=>?_;walk_at "";refine⟨by first | trivial | omega,by omega,by omega,?_⟩;try rw[rg]
 walk_at "c";refine c7 (fun (i:Nat)=>T.int (i:Int)) (List.range m) (fun A ys Z H=>∃(as:List Addr) (v:Option T),Z=[v,some (.ref a),some (.int (m:Int))]/\ys=as.map T.ref/\as.length=A.length/\Rwx H3 H m as (A.map (ch0 es m))) ⟨[],_,rfl,rfl,rfl,Sub3.refl,rfl,(fun i a h=>by simp at h),(fun _ h=>nomatch h),Y5⟩ ?_ ?_;rotate_left
 ·rintro A i B ys Z H N e ⟨as,v,rfl,rfl,hl,hx⟩ hN;refine⟨trivial,?_⟩;have hA:A.length<8:=by have:=T_ List.length e;simp only[a_,e_,h_] at this;omega
  have hN':=Box.mk hN;have ha':=hx.sb _ _ ha;have hx':=Box.mk hx;clear hN e k' hR0 ha;walk_at "";refine⟨by first | trivial | omega,by omega,by omega,?_⟩;try rw[rg]
  walk_at "c";refine dH (fun (j:Nat)=>T.int (j:Int)) (fun j=>.bl (dD false (.tup [.int (i:Int),.int (j:Int)]) es)) (List.range m) [some (.ref a),some (.int (i:Int))] trivial (by rw[h_];omega) (fun j hj Q' hq=>?_) (fun q hq=>?_)
  ·clear hN' rg;walk_at "";exact⟨by decide,rfl,trivial,trivial⟩
  rw[show (List.range m).map (fun (j:Nat)=>T.bl (dD false (.tup [.int (i:Int),.int (j:Int)]) es))=((List.range m).map fun (j:Nat)=>dD false (.tup [.int (i:Int),.int (j:Int)]) es).map T.bl by rw[Xi];rfl];refine⟨by first | omega | (rw[b_,hl];omega),hN'.out _ _ _ ⟨as++[q],_,rfl,by rw[z_];rfl,by rw[a_,a_,hl];rfl,by rw[z_];exact hx'.out.grow (by rw[b_,h_]) hq⟩⟩
 rintro ys Z H ⟨as,v,rfl,rfl,hl,hx⟩;rw[h_] at hl;refine⟨trivial,by rw[b_];omega,fun p hp=>?_⟩;have tb:Tbx H3 (up3 H p (.lst (as.map T.ref))) p m as ((List.range m).map (ch0 es m)):=by
  refine⟨⟨hx.sb.trans (Sub3.new hp),hx.ll,fun i b hb=>?_,hx.fa,hx.nd⟩,hl,aA,fun hin=>?_,cU hx.sb hp⟩
  ·obtain⟨bs,h0,h1,h2⟩:=hx.r i b hb;exact⟨bs,h0,h1,by rw[aC (aX h2 hp)];exact h2⟩
  obtain⟨i,hi⟩:=Zi hin;obtain⟨bs,_,_,h2⟩:=hx.r i p hi;rw[h2] at hp;cases hp
 generalize up3 H p (.lst (as.map T.ref))=H4 at tb;clear hx hp;walk_at "n";refine aD fun R1 hR1=>?_;walk_at "";refine⟨by first | trivial | omega,by omega,by omega,?_⟩;try rw[rg]
 refine aQ (fun (i:Nat)=>T.int (i:Int)) (List.range m) (fun A1 Z H=>∃(v3 v4 v5:Option T),Z=[some (.int (m:Int)),some (.ref a),some (.ref p),v3,v4,v5]/\Tbx H3 H p m as (A1.foldl (ch1 m) ((List.range m).map (ch0 es m)))) ⟨_,_,_,rfl,tb⟩ ?_ ?_
 ·rintro Z H ⟨v3,v4,v5,rfl,tb⟩;refine⟨trivial,?_⟩;walk_at "n";walk_at "";exact Fin3.of Sub3.refl (k'.out p as H tb)
 rintro A1 kk B1 Z H N1 e1 ⟨v3,v4,v5,rfl,tb⟩ hN1;refine⟨trivial,?_⟩;have hk:kk<m:=C_.mp (by rw[e1];simp);have hM1:Box (∀v4 v5 H,Tbx H3 H p m as (ch1 m (A1.foldl (ch1 m) ((List.range m).map (ch0 es m))) kk)->N1 [some (.int (m:Int)),some (.ref a),some (.ref p),some (.int (kk:Int)),v4,v5] H):=⟨fun v4 v5 H t=>hN1 _ _ ⟨_,_,_,rfl,by rw[X6];exact t⟩⟩;generalize A1.foldl (ch1 m) ((List.range m).map (ch0 es m))=T1 at tb hM1;clear hN1 e1 hR1 k' ha;walk_at "";refine⟨by first | trivial | omega,by omega,by omega,?_⟩;try rw[rg]
 refine aQ (fun (i:Nat)=>T.int (i:Int)) (List.range m) (fun A2 Z H=>∃(v4 v5:Option T),Z=[some (.int (m:Int)),some (.ref a),some (.ref p),some (.int (kk:Int)),v4,v5]/\Tbx H3 H p m as (A2.foldl (ch2 m kk) T1)) ⟨_,_,rfl,tb⟩ ?_ ?_
 ·rintro Z H ⟨v4,v5,rfl,tb⟩;exact⟨trivial,hM1.out _ _ _ tb⟩
 rintro A2 ii B2 Z H N2 e2 ⟨v4,v5,rfl,tb⟩ hN2;refine⟨trivial,?_⟩;have hii:ii<m:=C_.mp (by rw[e2];simp);have hM2:Box (∀v5 H,Tbx H3 H p m as (ch2 m kk (A2.foldl (ch2 m kk) T1) ii)->N2 [some (.int (m:Int)),some (.ref a),some (.ref p),some (.int (kk:Int)),some (.int (ii:Int)),v5] H):=⟨fun v5 H t=>hN2 _ _ ⟨_,_,rfl,by rw[X6];exact t⟩⟩;generalize A2.foldl (ch2 m kk) T1=T2 at tb hM2;clear hN2 e2 hM1;walk_at "";refine⟨by first | trivial | omega,by omega,by omega,?_⟩;try rw[rg]
 refine aQ (fun (i:Nat)=>T.int (i:Int)) (List.range m) (fun A3 Z H=>∃(v5:Option T),Z=[some (.int (m:Int)),some (.ref a),some (.ref p),some (.int (kk:Int)),some (.int (ii:Int)),v5]/\Tbx H3 H p m as (A3.foldl (ch3 kk ii) T2)) ⟨_,rfl,tb⟩ ?_ ?_
 ·rintro Z H ⟨v5,rfl,tb⟩;exact⟨trivial,hM2.out _ _ tb⟩
 rintro A3 jj B3 Z H N3 e3 ⟨v5,rfl,tb⟩ hN3;refine⟨trivial,?_⟩;have hjj:jj<m:=C_.mp (by rw[e3];simp);have hM3:Box (∀H,Tbx H3 H p m as (ch3 kk ii (A3.foldl (ch3 kk ii) T2) jj)->N3 [some (.int (m:Int)),some (.ref a),some (.ref p),some (.int (kk:Int)),some (.int (ii:Int)),some (.int (jj:Int))] H):=⟨fun H t=>hN3 _ _ ⟨_,rfl,by rw[X6];exact t⟩⟩;generalize A3.foldl (ch3 kk ii) T2=T3 at tb hM3;clear hN3 e3 hM2 rg;have gt:=tb.t;obtain⟨ri,bi,gi,hri,ti,li,gri⟩:=tb.at' hii;obtain⟨rk,bk,gk,hrk,tk,lk,grk⟩:=tb.at' hk;have gx1:=vd (show jj<bi.length by omega);have gx2:=vd (show kk<bi.length by omega);have gx3:=vd (show jj<bk.length by omega);have hch:Box (ch3 kk ii T3 jj=T3.set ii (bi.set jj (bi.getD jj false||(bi.getD kk false&&bk.getD jj false)))):=⟨by unfold ch3;rw[ti,tk]⟩;generalize bi.getD jj false=x1 at gx1 hch;generalize bi.getD kk false=x2 at gx2 hch;generalize bk.getD jj false=x3 at gx3 hch;have li':=Box.mk li;clear li lk ti tk;have fin:∀b:Bool,b=(x1||(x2&&x3))->oq (ixN bi.length (jj:Int)) fun j=>N3 [some (T.int (m:Int)),some (T.ref a),some (T.ref p),some (T.int (kk:Int)),some (T.int (ii:Int)),some (T.int (jj:Int))] (up3 H ri (O3.lst ((List.map T.bl bi).set j (T.bl b))))  :=fun b hb=>by rw[kO (by have:=li'.out;omega),ig,<- List.map_set];refine hM3.out _ ?_;rw[hch.out,<- hb];exact tb.put hri (by rw[Zx];exact li'.out)
 have fin':=Box.mk fin;clear fin;walk_at "";split
 ·exact fin'.out true (by simp_all)
 split
 ·exact fin'.out x3 (by simp_all)
 exact fin'.out false (by simp_all)
abbrev Dz:List Str:=["_law_works_here","_law_table","_law_beat_here","_law_kind","_law_level","_law_found","_law_done","_law_bits","_law_total"]
theorem sc_next:FnScope Dz ["_law_works_here","_law_table","_law_beat_here","_law_kind","_law_level"] (aB (top 47)):=bh
theorem Ia {f:Addr}{fd:FuncData}(g:G3 K mg "_law_next" (top 47) ["_law_works_here","_law_table","_law_beat_here","_law_kind","_law_level"] f fd) (B:Bl mg) (F_l_is_filling:Cal P w K mg base 2 "_law_is_filling" (top 44) ["_law_works_here","_law_table","_law_beat_here","_law_kind","_law_done","_law_bits"] J7) (F_load:Cal P w K mg base 1 "_law_load" (top 45) ["_law_works_here","_law_bits"] Vx):Cal P w K mg base 3 "_law_next" (top 47) ["_law_works_here","_law_table","_law_beat_here","_law_kind","_law_level"] VB:=by
 refine⟨f,fd,g,?_⟩;refine fn3 g.fn sc_next (fun ts H Q h=>?_) (fun cdv A outer s H E ts H3 Q hr h=>?_)
 ·obtain⟨W,t,q,beat,k,L,rfl,_⟩:=h;rfl
 have hu30:=Room.u30 hr;have hu1:=Room.u1 hr;obtain⟨W,t,q,beat,k,L,rfl,hW,hT,hL,hq,kk⟩:=h;refine⟨_,(ao (aG (i:=5) sc_next.nd rO)
   (ao (bc A_ rfl (UJ (v3 4)) (aF (i:=6) sc_next.nd) (au (bc A_ rfl (aN rfl B.range_ (aa (aH Az aq (aM bH rfl B.len_ bI (aa (aK ix3 (v3 0) aq) ak))) ak)) (aF (i:=7) sc_next.nd) (au (bQ (PW3.pt (cB (aW (bR hu30) (aH dX (v3 7) (v3 6)) aq) (cG (bY (aL F_l_is_filling hr rfl (aa (v3 0) (aa (v3 1) (aa (v3 2) (aa (v3 3) (aa (v3 6) (aa (v3 7) ak))))))))))) (ao (aG (i:=8) sc_next.nd (aH aY (jt hu1 (v3 4) (v3 6)) (aH GP (aL F_load hr rfl (aa (v3 0) (aa (v3 7) ak))) (aL F_load hr rfl (aa (v3 0) (aa (v3 7) ak))))))
      (au (rP hu1 (v3 5) (aH wK (v3 6) (v3 7)) (aM (Gv rfl) rfl B.min_ NQ (aa (v3 8) (aa (G6 (v3 5) (aH wK (v3 6) (v3 7)) (v3 8)) ak)))))) aZ)))))
   (au (aO (v3 5))))),?_⟩
 rw[show aR Dz [W.enc,T.ref t,T.int beat,T.str (W.row.getD k ""),T.ref q]=[some (W.enc),some (T.ref t),some (T.int beat),some (T.str (W.row.getD k "")),some (T.ref q),none,none,none,none] from rfl];have hsz:sizeLine=16777216:=rfl;have k':=Box.mk kk;clear kk;have t2:=qp hW;have tp:=jB W;have t8:=hW.t8;have hL':=Box.mk hL;have hW':=Box.mk hW;clear hL hW;refine aD fun R0 hR0=>?_;walk_at "";intro pb hpb;have nqb:q≠pb:=aX hq hpb;walk_at "n";refine aD fun R1 hR1=>?_;have gq:up3 H3 pb (.dci []) q=some (.dci (dI lvT L)):=by rw[aC nqb];exact hq
 walk_at "";intro o;rw[Vz];have hw0:Tt W (up3 H3 q (.dif o (dI lvT L))) t:=hT.keep fun b ts hb=>by rw[aC (ne3 hb hq (by simp))];exact hb
 have g0:up3 H3 q (.dif o (dI lvT L)) q=some (.dif o (dI lvT L)):=aA;have n0:up3 H3 q (.dif o (dI lvT L)) pb=none:=by rw[aC (Ne.symm nqb)];exact hpb
 have kb0:Kb1 pb (up3 H3 q (.dif o (dI lvT L))) (up3 (up3 H3 pb (.dci [])) q (.dif o (dI lvT L))):=fun b u hb h=>by
  by_cases e:b=q
  ·subst e;rw[aA] at h ⊢;exact h
  rw[aC e] at h ⊢;rw[aC hb];exact h
 have gb0:up3 (up3 H3 pb (.dci [])) q (.dif o (dI lvT L)) pb=some (.dci (dI lvT ([]:Lv))):=by rw[aC (Ne.symm nqb),aA];rfl
 have k2:=Box.mk (k'.out o pb hpb);generalize up3 (up3 H3 pb (.dci [])) q (.dif o (dI lvT L))=H4 at kb0 gb0 ⊢;generalize up3 H3 q (.dif o (dI lvT L))=H0 at *;clear k' gq hq hT;refine aQ (fun e:Nat × Int=>T.int (e.1:Int)) L (fun A Z H=>∃(v6 v7 v8:Option T),Z=[some W.enc,some (.ref t),some (.int beat),some (.str (W.row.getD k "")),some (.ref q),some (.ref pb),v6,v7,v8]/\Kb1 pb H0 H/\H pb=some (.dci (dI lvT (A.foldl (nxF W beat k) [])))/\LOk W (A.foldl (nxF W beat k) [])) ⟨_,_,_,rfl,kb0,gb0,⟨Y5,fun _ z=>(nomatch z)⟩⟩ ?_ ?_
 ·rintro Z H ⟨v6,v7,v8,rfl,kb,gb,_⟩;refine⟨kb q _ nqb g0,?_⟩;walk_at "n";walk_at "";refine Fin3.of (fun b u hb=>?_) k2.out;by_cases e:b=pb
  ·subst e;rw[aA] at hb;rw[gb,<- hb];rfl
  rw[aC e] at hb;exact kb b u e hb
 rintro A e B Z H N eE ⟨v6,v7,v8,rfl,kb,gb,hB⟩ hN;refine⟨kb q _ nqb g0,?_⟩;have hmem:e∈L:=by rw[eE];simp
 have ed:=hL'.out.lt e hmem;have elk:bz e.1 L=some e.2:=dN hL'.out.nd hmem;have elk2:cz (e.1:Int) (dI lvT L)=some (.int e.2):=by rw[iQ,elk];rfl
 have hfold:(A++[e]).foldl (nxF W beat k) []=nxF W beat k (A.foldl (nxF W beat k) []) e:=by rw[X6];rfl
 have hN':=Box.mk hN;clear hN eE hR1 k2 kb0 gb0 elk;rw[hfold] at hN';generalize A.foldl (nxF W beat k) []=B0 at *;clear hfold;walk_at "";have hsh:(1:Int)*2^W.tasks.length=((top2 W:Nat):Int):=by rw[Int.one_mul];unfold top2;push_cast;rfl
 rw[hsh];refine⟨⟨by omega,by omega,by decide⟩,trivial,by omega,by omega,?_⟩;rw[YJ,dm];refine aQ (fun (i:Nat)=>T.int (i:Int)) (List.range (top2 W)) (fun A2 Z H=>∃(v7 v8:Option T),Z=[some W.enc,some (.ref t),some (.int beat),some (.str (W.row.getD k "")),some (.ref q),some (.ref pb),some (.int (e.1:Int)),v7,v8]/\Kb1 pb H0 H/\H pb=some (.dci (dI lvT ((A2.filter (fil W beat k e.1)).foldl (nxS W e.1 e.2) B0)))/\LOk W ((A2.filter (fil W beat k e.1)).foldl (nxS W e.1 e.2) B0)) ⟨_,_,rfl,kb,gb,hB⟩ ?_ ?_
 ·rintro Z H' ⟨v7,v8,rfl,kb',gb',hB'⟩;exact⟨trivial,hN'.out _ _ ⟨_,_,_,rfl,kb',gb',hB'⟩⟩
 rintro A2 b B2 Z H' N' eE ⟨v7,v8,rfl,kb',gb',hB'⟩ hN;refine⟨trivial,?_⟩;have hb:b<top2 W:=C_.mp (by rw[eE];simp);have hT':Tt W H' t:=hw0.keep fun x ts hx=>kb' x _ (fun z=>by rw[z,n0] at hx;cases hx) hx;have gq':=kb' q _ nqb g0;have yes:Box (fil W beat k e.1 b=true->∀H'' v7 v8,Kb1 pb H0 H''->H'' pb=some (.dci (dI lvT (nxS W e.1 e.2 ((A2.filter (fil W beat k e.1)).foldl (nxS W e.1 e.2) B0) b)))->N' [some W.enc,some (.ref t),some (.int beat),some (.str (W.row.getD k "")),some (.ref q),some (.ref pb),some (.int (e.1:Int)),v7,v8] H''):=⟨fun z H'' v7 v8 h1 h2=>hN _ _ ⟨v7,v8,rfl,h1,by rw[Xw,Xu,if_pos z,X6];exact h2,by rw[Xw,Xu,if_pos z,X6];exact hB'.nxS (sV hW'.out ed hb z).2.2⟩⟩;have no:Box (¬fil W beat k e.1 b=true->∀v7 v8,N' [some W.enc,some (.ref t),some (.int beat),some (.str (W.row.getD k "")),some (.ref q),some (.ref pb),some (.int (e.1:Int)),v7,v8] H'):=⟨fun z v7 v8=>hN _ _ ⟨v7,v8,rfl,kb',by rw[Xw,Xu,if_neg z,List.filter_nil,I_];exact gb',by rw[Xw,Xu,if_neg z,List.filter_nil,I_];exact hB'⟩⟩;have hlen:=hB'.len;clear hN eE hN' kb gb hB hB';generalize (A2.filter (fil W beat k e.1)).foldl (nxS W e.1 e.2) B0=B1 at *;clear hsh;walk_at "";by_cases z:fil W beat k e.1 b=true
 ·obtain⟨d1,d2,d3⟩:=sV hW'.out ed hb z;rw[if_pos (P_ d1)];refine⟨W,t,beat,k,e.1,b,rfl,hW'.out,hT',ed,hb,?_⟩;rw[z];try simp only[RK,ie,if_true]
  rw[gq',uL,elk2];refine⟨W,b,rfl,hW'.out,W,b,rfl,hW'.out,?_⟩;have l1:=xG hW'.out (pk W b);have l2:=sO l1.1 l1.2;refine⟨⟨l2,l2⟩,?_⟩;walk_at "";refine⟨trivial,?_⟩;have eg:(cz ((e.1+b:Nat):Int) (dI lvT B1)).getD (T.int (e.2+ldN W b*ldN W b))=T.int ((bz (e.1+b) B1).getD (e.2+ldN W b*ldN W b)):=by rw[iQ];cases bz (e.1+b) B1 <;> rfl
  rw[eg,uH,gb',uM];refine⟨by unfold dI;rw[b_];omega,yes.out z _ _ _ (fun x u hx h=>by rw[aC hx];exact kb' x u hx h) ?_⟩;rw[aA];exact T_ (fun l=>some (O3.dci l)) (Dk lvT (e.1+b) (mnI (e.2+ldN W b*ldN W b) ((bz (e.1+b) B1).getD (e.2+ldN W b*ldN W b))) B1)
 by_cases c:Builtin.bitAnd (b:Int) (e.1:Int)=0
 ·rw[if_pos (P_ c)];refine⟨W,t,beat,k,e.1,b,rfl,hW'.out,hT',ed,hb,?_⟩;have z':fil W beat k e.1 b=false:=by simpa using z
  rw[z'];exact no.out z _ _
 rw[if_neg (uI c)];exact no.out z _ _
abbrev eO:List Str:=["_law_works_here","_law_table","_law_beat_here","_law_kind","_law_done","_law_bits","_law_names_here","_law_load_here","_law_i","_law_name","_law_length","_law_kinds_here","_law_j","_law_word","_law_one","_law_other"]
theorem sc_l_is_filling:FnScope eO ["_law_works_here","_law_table","_law_beat_here","_law_kind","_law_done","_law_bits"] (aB (top 44)):=bh
theorem kh {f:Addr}{fd:FuncData}(g:G3 K mg "_law_is_filling" (top 44) ["_law_works_here","_law_table","_law_beat_here","_law_kind","_law_done","_law_bits"] f fd) (B:Bl mg):Cal P w K mg base 2 "_law_is_filling" (top 44) ["_law_works_here","_law_table","_law_beat_here","_law_kind","_law_done","_law_bits"] J7:=by
 refine⟨f,fd,g,?_⟩;refine fn3 g.fn sc_l_is_filling (fun ts H Q h=>?_) (fun cdv A outer s H E ts H3 Q hr h=>?_)
 ·obtain⟨W,t,beat,k,d,b,rfl,_⟩:=h;rfl
 have hu30:=Room.u30 hr;have hu31:=Room.u31 hr;obtain⟨W,t,beat,k,d,b,rfl,hW,hT,hd,hb,kk⟩:=h;refine⟨_,(ao (kJ (i:=6) rfl sc_l_is_filling.nd (bF (n0:=(aB (top 44)).names) (N:=eO) (N':=["_law_name","_law_length","_law_kinds_here"]) (nt:=3) (cap:=[]) rfl rfl (by decide +kernel)) (cT (aK ix3 (v3 0) aq)) (fun cl pins s H C0 fp=>⟨(cH (n:=3) rfl (aJ (aF (i:=0) (show List.Nodup [("_law_name":Str),("_law_length":Str),("_law_kinds_here":Str)] by decide +kernel)) (aJ (aF (i:=1) (show List.Nodup [("_law_name":Str),("_law_length":Str),("_law_kinds_here":Str)] by decide +kernel)) (aJ (aF (i:=2) (show List.Nodup [("_law_name":Str),("_law_length":Str),("_law_kinds_here":Str)] by decide +kernel)) bN)))),bW,(v3 0)⟩))
   (ao (aG (i:=7) sc_l_is_filling.nd aq)
   (ao (bc A_ rfl (aN rfl B.range_ (aa (aM bH rfl B.len_ bI (aa (v3 6) ak)) ak)) (aF (i:=8) sc_l_is_filling.nd) (au (bQ (aW (bR hu30) (aH dX (aH gD (v3 5) (v3 8)) aq) aq) (ao (ul (aK ix3 (aK ix3 (v3 0) aq) (v3 8)) (cH (n:=3) rfl (aJ (aF (i:=9) sc_l_is_filling.nd) (aJ (aF (i:=10) sc_l_is_filling.nd) (aJ (aF (i:=11) sc_l_is_filling.nd) bN)))))
     (ao (aG (i:=7) sc_l_is_filling.nd (aH aY (v3 7) (v3 10)))
     (ao (bQ (PW3.pt (jl (aW (bR hu30) (aH dX (aH gD (v3 4) (v3 8)) aq) aq) (gh (PW3.pt (cB (aW (lN hu30) (v3 11) (bD ak)) (cG (aW (q8 hu31) (v3 3) (v3 11) rfl))))))) (au (aO eQ)) aZ)
     (au (bc A_ rfl (aN rfl B.range_ (aa (aM bH rfl B.len_ bI (aa (v3 6) ak)) ak)) (aF (i:=12) sc_l_is_filling.nd) (au (bQ (PW3.pt (jl (PW3.pt (cB (bY (aK ix3 (aK ix3 (v3 1) (v3 12)) (v3 8))) (cG (aW (bR hu30) (aH dX (aH gD (aH wK (v3 4) (v3 5)) (v3 12)) aq) aq)))) (gh (PW3.pt (cB (bY (aK ix3 (aK ix3 (v3 1) (v3 8)) (v3 12))) (cB (bY (aK ix3 (aK ix3 (v3 1) (v3 12)) (v3 8))) (cG (aW (bR hu30) (aH dX (aH gD (v3 5) (v3 12)) aq) aq)))))))) (au (aO eQ)) aZ))))))) aZ)))
   (ao (bc A_ rfl (cT (aK ix3 (v3 0) aq)) (cH (n:=3) rfl (aJ (aF (i:=13) sc_l_is_filling.nd) (aJ (aF (i:=14) sc_l_is_filling.nd) (aJ (aF (i:=15) sc_l_is_filling.nd) bN)))) (au (bQ (PW3.pt (cB (aW (bR hu30) (v3 13) d9) (cB (aW (bR hu30) (aH dX (aH gD (v3 5) (bZ t_ XF XH eV (v3 6) (aa (v3 14) ak))) aq) aq) (cG (aW (bR hu30) (aH dX (aH gD (v3 5) (bZ t_ XF XH eV (v3 6) (aa (v3 15) ak))) aq) aq))))) (au (aO eQ)) aZ)))
   (au (aO (dU zW (v3 7) (v3 2)))))))),?_⟩
 rw[show aR eO [W.enc,T.ref t,T.int beat,T.str (W.row.getD k ""),T.int (d:Int),T.int (b:Int)]=[some (W.enc),some (T.ref t),some (T.int beat),some (T.str (W.row.getD k "")),some (T.int (d:Int)),some (T.int (b:Int)),none,none,none,none,none,none,none,none,none,none] from rfl];have hsz:sizeLine=16777216:=rfl;have t8:=hW.t8;unfold fil at kk;rw[Dp hW] at kk;generalize W.row.getD k ""=kind at *;have k':=Box.mk kk;have hW':=Box.mk hW;obtain⟨as,la,gt,hrow⟩:=hT.ex;clear kk hW hT;refine aD fun R0 hR0=>?_;walk_at "";walk_at "c";refine ir (fun t:Str × Int × List Str=>.str t.1) (fun t=>.int t.2.1) (fun t=>.tup (t.2.2.map T.str)) (fun t=>T.str t.1) (fun _=>true) W.tasks [] trivial (by omega) (fun t ht Q' hq=>hq) (fun t ht _ Q' hq=>?_) (fun pn hpn=>?_)
 ·clear k' hR0;walk_at "";try exact hq
 rw[YX.mpr (fun _ _=>rfl)];have en:W.tasks.map (fun t=>T.str t.1)=(W.tasks.map (·.1)).map T.str:=by rw[Xi];rfl
 rw[en];have ln:(nm W).length=W.tasks.length:=by unfold nm;rw[b_]
 rw[show W.tasks.map (·.1)=nm W from rfl];have gn:up3 H3 pn (.lst ((nm W).map T.str)) pn=some (.lst ((nm W).map T.str)):=aA;have sub:Sub3 H3 (up3 H3 pn (.lst ((nm W).map T.str))):=Sub3.new hpn;generalize up3 H3 pn (.lst ((nm W).map T.str))=H4 at gn sub ⊢;clear hpn en;walk_at "n";refine aD fun R1 hR1=>?_;walk_at "";walk_at "n";refine aD fun R2 hR2=>?_;walk_at "";refine⟨by first | trivial | omega,by omega,by omega,?_⟩;rw[dm];refine aQ (fun (i:Nat)=>T.int (i:Int)) (List.range W.tasks.length) (fun A Z H=>∃(v8 v9 v10 v11 v12 v13 v14 v15:Option T) (ln:Int),Z=[some W.enc,some (.ref t),some (.int beat),some (.str kind),some (.int (d:Int)),some (.int (b:Int)),some (.ref pn),some (.int ln),v8,v9,v10,v11,v12,v13,v14,v15]/\H=H4/\ln=(lnB W b A.length).sum/\((W.tasks.take A.length).all fun t=>!decide (t.1∈pk W b)||mH W kind (pk W d) (pk W b) t)=true) ⟨_,_,_,_,_,_,_,_,_,rfl,rfl,rfl,rfl⟩ ?_ ?_
 ·rintro Z H ⟨v8,v9,v10,v11,v12,v13,v14,v15,ln,rfl,rfl,rfl,hall⟩;refine⟨trivial,?_⟩;walk_at "n";walk_at "";rw[h_,Y4] at hall;rw[h_,xJ];have k2:=k'.out;rw[hall,Yc] at k2;have k3:=Box.mk k2;clear k2 k' hall hrow;refine aQ prT W.pairs (fun A Z H'=>∃(v8 v9 v10 v11 v12 v13 v14 v15:Option T) (ln:Int),Z=[some W.enc,some (.ref t),some (.int beat),some (.str kind),some (.int (d:Int)),some (.int (b:Int)),some (.ref pn),some (.int ln),v8,v9,v10,v11,v12,v13,v14,v15]/\H'=H/\ln=ldN W b/\A.all (sS (pk W b))=true) ⟨v8,v9,v10,v11,v12,v13,v14,v15,_,rfl,rfl,rfl,rfl⟩ ?_ ?_
  ·rintro Z H' ⟨v8,v9,v10,v11,v12,v13,v14,v15,ln,rfl,rfl,rfl,hap⟩;refine⟨trivial,?_⟩;have k4:=k3.out;rw[hap,Yc] at k4;clear k3;have k5:=Box.mk k4;clear k4;walk_at "";exact Fin3.of sub k5.out
  rintro A ⟨wd,a,c⟩ B Z H' N e ⟨v8,v9,v10,v11,v12,v13,v14,v15,ln,rfl,rfl,rfl,hap⟩ hN;refine⟨trivial,?_⟩;have hp:(wd,a,c)∈W.pairs:=by rw[e];simp
  have hpp:=hW'.out.pp _ hp;have ma:a∈nm W:=hpp.2.2.1;have mc:c∈nm W:=hpp.2.2.2;have fN:Box (sS (pk W b) (wd,a,c)=true->N [some W.enc,some (.ref t),some (.int beat),some (.str kind),some (.int (d:Int)),some (.int (b:Int)),some (.ref pn),some (.int (ldN W b)),v8,v9,v10,v11,v12,some (.str wd),some (.str a),some (.str c)] H'):=⟨fun h=>hN _ _ ⟨_,_,_,_,_,_,_,_,_,rfl,rfl,rfl,by rw[Y_,hap];simp [h]⟩⟩;have fF:Box (sS (pk W b) (wd,a,c)=false->Fin3 Q (.bl false) H'):=⟨fun h=>by
   have e0:W.pairs.all (sS (pk W b))=false:=by rw[ZJ];exact⟨(wd,a,c),hp,by simp [h]⟩
   have k4:=k3.out
   rw[e0,Yn] at k4
   exact Fin3.of sub k4⟩
  have b1:=Do (b:=b) hW'.out ma;have b2:=Do (b:=b) hW'.out mc;have x1:=eN ma;have x2:=eN mc;have es:=iJ (nm W);clear hN e k3 hap hp hpp ma mc;unfold sS at fN fF;simp only[prT];walk_at "";refine⟨trivial,?_⟩;by_cases hw:wd="apart"
  ·simp only[hw,Xz,if_true,Yc] at fN fF ⊢;refine⟨⟨trivial,trivial⟩,_,x1.1,x1.2,?_⟩;walk_at "";refine⟨by omega,?_⟩;by_cases ha:a∈pk W b
   ·simp only[ha,Xz,if_true,Yc] at fN fF ⊢;refine⟨⟨trivial,trivial⟩,_,x2.1,x2.2,by omega,?_⟩;rw[b2];by_cases hb:c∈pk W b
    ·simp only[hb,Xz,if_true] at fN fF ⊢;exact fF.out rfl
    simp only[hb,XC,H_,Xh] at fN fF ⊢;exact fN.out rfl
   simp only[ha,XC,H_,Xh,Yn] at fN fF ⊢;exact fN.out rfl
  simp only[hw,XC,H_,Xh,Yn] at fN fF ⊢;exact fN.out rfl
 rintro A i B Z H N e ⟨v8,v9,v10,v11,v12,v13,v14,v15,ln,rfl,rfl,rfl,hall⟩ hN;refine⟨trivial,?_⟩;have hA:A.length<W.tasks.length:=by have:=T_ List.length e;simp only[a_,e_,h_] at this;omega
 have hi:i=A.length:=by
  have h1:(List.range W.tasks.length)[A.length]?=some i:=by rw[e,F_ (o_ _)];simp
  rw[Xo hA] at h1;exact (G_ h1).symm
 subst hi;have ht:=d_ hA;have hts:=List.take_succ_eq_append_getElem hA;have hum:=Xp hA;have a1:=Dq ht;have hbb:=iC (b:=b) hW'.out ht;have hbd:=iC (b:=d) hW'.out ht;have hs:=sU (b:=b) ht;have hui:(nm W)[A.length]?=some (W.tasks[A.length]).1:=by unfold nm;rw[y_,ht];rfl
 generalize W.tasks[A.length]=u at *;have fF:Box (u.1∈pk W b->mH W kind (pk W d) (pk W b) u=false->Fin3 Q (.bl false) H):=⟨fun h1 h2=>by
  have e0:(W.tasks.all fun t=>!decide (t.1∈pk W b)||mH W kind (pk W d) (pk W b) t)=false:=by rw[ZJ];exact⟨u,hum,by rw[h2,P_ h1];simp⟩
  have k4:=k'.out
  rw[e0,Yn,Yn] at k4
  exact Fin3.of sub k4⟩
 have fN:Box (u.1∈pk W b->mH W kind (pk W d) (pk W b) u=true->∀v12 v13 v14 v15,N [some W.enc,some (.ref t),some (.int beat),some (.str kind),some (.int (d:Int)),some (.int (b:Int)),some (.ref pn),some (.int ((lnB W b A.length).sum+u.2.1)),some (.int (A.length:Int)),some (.str u.1),some (.int u.2.1),some (.tup (u.2.2.map T.str)),v12,v13,v14,v15] H):=⟨fun h1 h2 v12 v13 v14 v15=>hN _ _ ⟨_,_,_,_,_,_,_,_,_,rfl,rfl,by rw[a_,q_,hs,if_pos h1,List.sum_append];simp,by rw[a_,q_,hts,Y_,hall];simp [h2]⟩⟩;have fZ:Box (u.1∉pk W b->N [some W.enc,some (.ref t),some (.int beat),some (.str kind),some (.int (d:Int)),some (.int (b:Int)),some (.ref pn),some (.int (lnB W b A.length).sum),some (.int (A.length:Int)),v9,v10,v11,v12,v13,v14,v15] H):=⟨fun h1=>hN _ _ ⟨_,_,_,_,_,_,_,_,_,rfl,rfl,by rw[a_,q_,hs,if_neg h1,I_],by rw[a_,q_,hts,Y_,hall];simp [h1]⟩⟩;clear hN e k' hs ht hts hall hR2 hum;simp only[tkT] at a1;have a1':=Box.mk a1;clear a1;walk_at "";refine⟨by omega,?_⟩;by_cases c:u.1∈pk W b
 ·rw[if_pos (P_ c),a1'.out,ig];simp only[sT,Ai,wG,Ah,dC,List.set_cons_zero,List.set_cons_succ];refine⟨rfl,?_⟩;refine aD fun R3 hR3=>?_;walk_at "";walk_at "n";refine aD fun R4 hR4=>?_;have body:Box (∀Dd:Ends3,Dd.nx=N->Dd.rt=Fin3 Q->u.1∉pk W d->mj u.2.2 kind=true->R4 Dd [some W.enc,some (.ref t),some (.int beat),some (.str kind),some (.int (d:Int)),some (.int (b:Int)),some (.ref pn),some (.int ((lnB W b A.length).sum+u.2.1)),some (.int (A.length:Int)),some (.str u.1),some (.int u.2.1),some (.tup (u.2.2.map T.str)),v12,v13,v14,v15] H):=⟨by
   intro Dd hnx hrt hc1 hc2
   walk_at "n"
   walk_at ""
   refine⟨trivial,by omega,by omega,?_⟩
   rw[dm]
   refine aQ (fun (j:Nat)=>T.int (j:Int)) (List.range W.tasks.length) (fun A2 Z H'=>∃(v12 v13 v14 v15:Option T),Z=[some W.enc,some (.ref t),some (.int beat),some (.str kind),some (.int (d:Int)),some (.int (b:Int)),some (.ref pn),some (.int ((lnB W b A.length).sum+u.2.1)),some (.int (A.length:Int)),some (.str u.1),some (.int u.2.1),some (.tup (u.2.2.map T.str)),v12,v13,v14,v15]/\H'=H/\(((nm W).take A2.length).all fun o=>!fc ["with"] W o u.1||decide (o∈pk W b)||(decide (o∈pk W d)&&!fc ["with"] W u.1 o))=true) ⟨_,_,_,_,rfl,rfl,rfl⟩ ?_ ?_
   ·
    rintro Z H' ⟨v12,v13,v14,v15,rfl,rfl,hz⟩
    refine⟨trivial,?_⟩
    rw[hnx]
    refine fN.out c ?_ _ _ _ _
    rw[h_,<- ln,Y4] at hz
    unfold mH
    rw[hc2,show (W.tasks.map (·.1))=nm W from rfl,hz]
    simp [hc1]
   ·
    rintro A2 j B2 Z H' N2 e2 ⟨v12,v13,v14,v15,rfl,rfl,hz⟩ hN2
    refine⟨trivial,?_⟩
    have hA2:A2.length<W.tasks.length:=by
     have:=T_ List.length e2
     simp only[a_,e_,h_] at this
     omega
    have hj:j=A2.length:=by
     have h1:(List.range W.tasks.length)[A2.length]?=some j:=by rw[e2,F_ (o_ _)];simp
     rw[Xo hA2] at h1
     exact (G_ h1).symm
    subst hj
    have htj:=d_ hA2
    have hxj:(nm W)[A2.length]?=some (W.tasks[A2.length]).1:=by unfold nm;rw[y_,htj];rfl
    have hts:(nm W).take (A2.length+1)=(nm W).take A2.length++[(W.tasks[A2.length]).1]:=by rw[List.take_succ,hxj];rfl
    have q0:=HH (b:=b) hW'.out htj
    have q1:=Qn (d:=d) (b:=b) hW'.out htj
    generalize (W.tasks[A2.length])=y at *
    have haj:=d_ (show A2.length<as.length by omega)
    have hai:=d_ (show A.length<as.length by omega)
    have aj:=atR haj
    have ai:=atR hai
    obtain⟨bj,lj,gj0,fj⟩:=hrow _ _ haj
    obtain⟨bi,li,gi0,fi⟩:=hrow _ _ hai
    have gj:=sub _ _ gj0
    have gi:=sub _ _ gi0
    have cj:=Vy (bs:=bj) (j:=A.length) (by omega)
    have ci:=Vy (bs:=bi) (j:=A2.length) (by omega)
    rw[fj A.length y.1 u.1 hxj hui] at cj
    rw[fi A2.length u.1 y.1 hui hxj] at ci
    have gt':=sub _ _ gt
    generalize as[A2.length]=pj at *
    generalize as[A.length]=pi at *
    have nY:Box ((!fc ["with"] W y.1 u.1||decide (y.1∈pk W b)||(decide (y.1∈pk W d)&&!fc ["with"] W u.1 y.1))=true->N2 [some W.enc,some (.ref t),some (.int beat),some (.str kind),some (.int (d:Int)),some (.int (b:Int)),some (.ref pn),some (.int ((lnB W b A.length).sum+u.2.1)),some (.int (A.length:Int)),some (.str u.1),some (.int u.2.1),some (.tup (u.2.2.map T.str)),some (.int (A2.length:Int)),v13,v14,v15] H'):=⟨fun h1=>hN2 _ _ ⟨_,_,_,_,rfl,rfl,by rw[a_,q_,hts,Y_,hz];simp only[List.all_cons,List.all_nil,YS,Yc];exact h1⟩⟩
    have nF:Box ((!fc ["with"] W y.1 u.1||decide (y.1∈pk W b)||(decide (y.1∈pk W d)&&!fc ["with"] W u.1 y.1))=false->Fin3 Q (.bl false) H'):=⟨fun h1=>fF.out c (by
     have:((nm W).all fun o=>!fc ["with"] W o u.1||decide (o∈pk W b)||(decide (o∈pk W d)&&!fc ["with"] W u.1 o))=false:=by rw[ZJ];exact⟨y.1,XX hxj,by rw[h1];exact u_⟩
     unfold mH
     rw[show (W.tasks.map (·.1))=nm W from rfl,this,Zg])⟩
    clear hN2 e2 hz fF fN hrow fj fi hts htj hxj gj0 gi0 haj hai hui hc1 hc2
    generalize fc ["with"] W y.1 u.1=f1 at *
    generalize fc ["with"] W u.1 y.1=f2 at *
    walk_at ""
    have z0:(0:Int)<=(A2.length:Int):=by omega
    clear q0 q1
    generalize decide (y.1∈pk W b)=e1 at *
    generalize decide (y.1∈pk W d)=e2 at *
    cases f1 <;> cases f2 <;> cases e1 <;> cases e2 <;> first | exact nY.out rfl | exact⟨z0,nF.out rfl⟩ | exact⟨z0,nY.out rfl⟩ | exact⟨z0,z0,nY.out rfl⟩ | exact⟨z0,z0,nF.out rfl⟩⟩
  walk_at "";refine⟨by omega,?_⟩;by_cases hd':u.1∈pk W d
  ·rw[if_pos (P_ hd')];exact fF.out c (by unfold mH;simp [hd'])
  rw[if_neg (uI hd')];refine⟨by omega,gG _,rfl,?_⟩;by_cases hk0:u.2.2=[]
  ·rw[if_neg (by simp [hk0])];exact body.out _ rfl rfl hd' (by unfold mj;simp [hk0])
  rw[if_pos (by simp [hk0])];refine⟨rfl,gG _,?_⟩;have mk':dD true (T.str kind) (u.2.2.map T.str)=!decide (kind∈u.2.2):=by show (!decide (T.str kind∈u.2.2.map T.str))=_;rw[Zn.mpr (eX (f:=T.str) ju)]
  rw[mk'];by_cases hk:kind∈u.2.2
  ·rw[if_neg (by simp [hk])];exact body.out _ rfl rfl hd' (by unfold mj;simp [hk])
  rw[if_pos (by simp [hk])];exact fF.out c (by unfold mH mj;simp [hk,hk0])
 rw[if_neg (uI c)];exact fZ.out c
abbrev jR:List Str:=["_law_works_here","_law_bits"]
theorem Ib:FnScope jR jR (aB (top 45)):=bh
theorem Ie {f:Addr}{fd:FuncData}(g:G3 K mg "_law_load" (top 45) jR f fd) (B:Bl mg):Cal P w K mg base 1 "_law_load" (top 45) jR Vx:=by
 refine⟨f,fd,g,?_⟩;refine fn3 g.fn Ib (fun ts H Q h=>?_) (fun cdv A outer s H E ts H3 Q hr h=>?_)
 ·obtain⟨W,b,rfl,_⟩:=h;rfl
 have hu30:=Room.u30 hr;obtain⟨W,b,rfl,hW,kk⟩:=h;refine⟨_,(au (aO (aM (pQ rfl) rfl B.sum_ pR (aa (bx rfl (bF (n0:=(aB (top 45)).names) (N:=jR) (N':=["_law_k","_law_works_here","_law_bits"]) (nt:=1) (cap:=[0,1]) rfl rfl (by decide +kernel)) (aN rfl B.range_ (aa (aM bH rfl B.len_ bI (aa (aK ix3 (v3 0) aq) ak)) ak)) (fun cl pins s H C0 fp=>⟨(aF (i:=0) (show List.Nodup [("_law_k":Str),("_law_works_here":Str),("_law_bits":Str)] by decide +kernel)),(di (aW (bR hu30) (aH dX (aH gD (v3 2) (v3 0)) aq) aq)),(aK ix3 (aK ix3 (aK ix3 (v3 1) aq) (v3 0)) aq)⟩)) ak)))),?_⟩;rw[show aR jR [W.enc,T.int (b:Int)]=[some (W.enc),some (T.int (b:Int))] from rfl];have hsz:sizeLine=16777216:=rfl;have k':=Box.mk kk;clear kk;have t8:=hW.t8;have hW':=Box.mk hW;clear hW;walk_at "";refine⟨trivial,by omega,by omega,?_⟩;rw[dm];walk_at "c";refine c7 (fun (i:Nat)=>T.int (i:Int)) (List.range W.tasks.length) (fun A ys Z H=>∃v:Option T,Z=[v,some W.enc,some (.int (b:Int))]/\ys=(lnB W b A.length).map T.int/\H=H3) ⟨_,rfl,rfl,rfl⟩ ?_ ?_
 ·rintro ys Z H ⟨v,rfl,rfl,rfl⟩;rw[h_];have hl:(lnB W b W.tasks.length).length<=8:=by unfold lnB;rw[b_,Y4];exact J_ (Xf _ _) t8
  refine⟨trivial,by rw[b_];omega,fun p hp=>?_⟩;have ei:=fK (lnB W b W.tasks.length);have es:=xJ W b;walk_at "";exact Fin3.of (Sub3.new hp) k'.out
 rintro A i B ys Z H N e ⟨v,rfl,rfl,rfl⟩ hN;refine⟨trivial,?_⟩;have hA:A.length<W.tasks.length:=by have:=T_ List.length e;simp only[a_,e_,h_] at this;omega
 have hi:i=A.length:=by
  have h1:(List.range W.tasks.length)[A.length]?=some i:=by rw[e,F_ (o_ _)];simp
  rw[Xo hA] at h1;exact (G_ h1).symm
 subst hi;have ht:=d_ hA;have a1:=Dq ht;have hb:=iC (b:=b) hW'.out ht;have hs:=sU (b:=b) ht;generalize W.tasks[A.length]=t at *;have hll:(lnB W b A.length).length<=8:=by unfold lnB;rw[b_];refine J_ (Xf _ _) ?_;rw[X_];omega
 have yes:Box (t.1∈pk W b->N ((lnB W b A.length).map T.int++[T.int t.2.1]) [some (.int (A.length:Int)),some W.enc,some (.int (b:Int))] H):=⟨fun z=>hN _ _ _ ⟨_,rfl,by rw[a_,q_,hs,if_pos z,z_];rfl,rfl⟩⟩;have no:Box (t.1∉pk W b->N ((lnB W b A.length).map T.int) [some (.int (A.length:Int)),some W.enc,some (.int (b:Int))] H):=⟨fun z=>hN _ _ _ ⟨_,rfl,by rw[a_,q_,hs,if_neg z,I_],rfl⟩⟩;clear hN e k' hs ht;simp only[tkT] at a1;generalize lnB W b A.length=cur at *;walk_at "";refine⟨by omega,?_⟩;by_cases c:t.1∈pk W b
 ·rw[if_pos (P_ c)];exact⟨by omega,yes.out c⟩
 rw[if_neg (uI c)];exact no.out c
abbrev oW:List Str:=["_law_script","_law_cells","_law_found","_law_cell","_law_k","_law_number"]
theorem sc_numbers:FnScope oW ["_law_script"] (aB (top 30)):=bh
theorem vD {f:Addr}{fd:FuncData}(g:G3 K mg "_law_numbers" (top 30) ["_law_script"] f fd) (B:Bl mg):Cal P w K mg base 1 "_law_numbers" (top 30) ["_law_script"] JZ:=by
 refine⟨f,fd,g,?_⟩;refine fn3 g.fn sc_numbers (fun ts H Q h=>?_) (fun cdv A outer s H E ts H3 Q hr h=>?_)
 ·obtain⟨a,ns,rfl,_⟩:=h;rfl
 have hu30:=Room.u30 hr;obtain⟨a,ns,rfl,ha,hl,k⟩:=h;refine⟨_,(ao (aG (i:=1) sc_numbers.nd (aH aY (jn (v3 0) jm (fJ aq)) (aH NT (bK (aa aq ak)) (bG FQ rfl B.int_ Mm (aa (dU (PX hu30) (v3 0) (bK ak)) ak)))))
   (ao (aG (i:=2) sc_numbers.nd (bK ak))
   (ao (bQ (aW (bR hu30) (aH dW (aK ix3 (v3 1) aq) aq) aq) (ao (bc A_ rfl (cM (aH aY (bK (aa (aH gm (aK ix3 (v3 1) aq) aq) ak)) (jn (v3 1) (fJ aq) jm))) (aF (i:=3) sc_numbers.nd) (au (bc A_ rfl (aN rfl B.range_ (aa aq ak)) (aF (i:=4) sc_numbers.nd) (ao (bL (bZ t_ M_ N_ bB (v3 2) (aa (aH dW (v3 3) (aH gC aq aq)) ak)))
      (au (aG (i:=3) sc_numbers.nd (aH gm (v3 3) (aH gC aq aq))))))))
    (au (aO (wM (v3 2) (fJ (Av aq)))))) aZ)
   (ao (aG (i:=5) sc_numbers.nd (aH dW (aH gm (aK ix3 (v3 1) aq) aq) aq))
   (ao (bc A_ rfl (aN rfl B.range_ (aa aq ak)) (aF (i:=4) sc_numbers.nd) (ao (aG (i:=3) sc_numbers.nd (aH dW (aK ix3 (v3 1) (aH dW (v3 4) (aM bH rfl B.len_ bI (aa (v3 1) ak)))) aq))
    (ao (aG (i:=5) sc_numbers.nd (aH dW (aH aY (aH aY (aH gW (v3 5) (v3 5)) (aH gW aq (v3 3))) (v3 4)) aq))
    (au (bL (bZ t_ M_ N_ bB (v3 2) (aa (aH gm (aH dW (aH gW (v3 5) (aH aY (v3 5) aq)) aq) aq) ak)))))))
   (au (aO (wM (v3 2) (fJ (Av aq)))))))))),?_⟩
 rw[show aR oW [T.ref a]=[some (T.ref a),none,none,none,none,none] from rfl];have hsz:sizeLine=16777216:=rfl;have k':=Box.mk k;clear k;refine aD fun R0 hR0=>?_;walk_at "";refine fun p1 hp1=>⟨by decide,fun p2 hp2=>⟨by omega,fun p3 hp3=>?_⟩⟩;have h2:=(b7 hp2);have h3:=(b7 hp3);have h3':=(b7 h3.2);have na1:a≠p1:=aX ha hp1;have na2:a≠p2:=aX ha h2.2;have na3:a≠p3:=aX ha h3'.2;have hpl:(ns.map T.int).all (pl 20)=true:=by rw[S_];intro t ht;obtain⟨x,_,rfl⟩:=x_.mp ht;rfl
 have n32:p2≠p3:=Ne.symm h3.1;have n31:p1≠p3:=Ne.symm h3'.1;have n21:p1≠p2:=Ne.symm h2.1;walk_at "";obtain⟨cs,c1,c63,ecs⟩:=CV ns hl;refine⟨trivial,trivial,rfl,⟨by split <;> decide,by split <;> decide,by split <;> decide⟩,fun p4 hp4=>?_⟩;have h4:=b7 hp4;have h4':=b7 h4.2;have h4'':=b7 h4'.2;rw[aC (Ne.symm h4''.1),aC n31,aC n21,aA,lR,ecs];have hcl:(dG (ns.map T.int) none (some 63)).length+(List.replicate (if decide (ns.map T.int=[])=true then (1:Int) else 0).toNat [T.int 0]).flatten.length<=16777216:=by have:=T_ List.length ecs;rw[a_,b_] at this;omega
 refine⟨hcl,fun pc hpc=>?_⟩;have hS:Sub3 H3 (up3 (up3 (up3 (up3 H3 p1 (.lst (dG (ns.map T.int) none (some 63)))) p2 (.lst [T.int 0])) p3 (.lst [])) p4 (.lst (List.replicate (if decide (ns.map T.int=[])=true then (1:Int) else 0).toNat [T.int 0]).flatten)) :=
  (((Sub3.new hp1).trans (Sub3.new hp2)).trans (Sub3.new hp3)).trans (Sub3.new hp4)
 have hS2:=hS.trans (Sub3.new (o:=.lst (cs.map T.int)) hpc);have gc:∀H:Hp3,up3 H pc (.lst (cs.map T.int)) pc=some (.lst (cs.map T.int)):=fun _=>aA;have gc:=gc (up3 (up3 (up3 (up3 H3 p1 (.lst (dG (ns.map T.int) none (some 63)))) p2 (.lst [T.int 0])) p3 (.lst [])) p4 (.lst (List.replicate (if decide (ns.map T.int=[])=true then (1:Int) else 0).toNat [T.int 0]).flatten));generalize up3 (up3 (up3 (up3 (up3 H3 p1 (.lst (dG (ns.map T.int) none (some 63)))) p2 (.lst [T.int 0])) p3 (.lst [])) p4 (.lst (List.replicate (if decide (ns.map T.int=[])=true then (1:Int) else 0).toNat [T.int 0]).flatten)) pc (.lst (cs.map T.int))=H5 at hS2 gc;clear hS hcl ecs hpc hp4 h4 h4' h4'' hp3 h3 h3' hp2 h2 hp1 n32 n31 n21 na1 na2 na3 hpl ha hl;walk_at "n";refine aD fun R1 hR1=>?_;walk_at "";refine⟨by omega,fun pf hpf=>?_⟩;have nb:Nb H3 (up3 H5 pf (.lst [])) pc pf cs []:=⟨hS2.trans (Sub3.new hpf),by rw[aC (aX gc hpf)];exact gc,aA,by
  cases e:H3 pf with
  |none=>rfl
  |some o=>exact absurd (hpf.symm.trans (hS2 _ _ e)) (by simp),aX gc hpf⟩
 generalize up3 H5 pf (.lst [])=H6 at nb;clear hS2 gc hpf;walk_at "n";cases cs with
 |nil=>simp at c1
 |cons c0 cr =>
 refine aD fun R2 hR2=>?_;have gc:=nb.c;rw[D_] at gc;walk_at "";refine⟨by decide,?_⟩;by_cases hev:c0%2=0
 ·rw[P_ hev,if_pos rfl];clear hR2;refine⟨⟨by decide,by decide +kernel⟩,by decide,fun q1 hq1=>?_⟩;have nb1:=nb.new (o:=.lst [T.int (c0 / 2)]) hq1;have gq:up3 H6 q1 (.lst [T.int (c0 / 2)]) q1=some (.lst [T.int (c0 / 2)]):=aA;have gc1:=nb1.c;generalize up3 H6 q1 (.lst [T.int (c0 / 2)])=H7 at nb1 gq gc1;clear nb gc hq1;rw[gc1,Jj];intro q2 hq2;rw[show (1:Int)=((1:Nat):Int) from rfl,jq,D_,List.drop_one,List.tail_cons];have nb2:=nb1.new (o:=.lst (cr.map T.int)) hq2;have gq1:up3 H7 q2 (.lst (cr.map T.int)) q1=_ := upa gq hq2;have gq2:up3 H7 q2 (.lst (cr.map T.int)) q2=some (.lst (cr.map T.int)):=aA;generalize up3 H7 q2 (.lst (cr.map T.int))=H8 at nb2 gq1 gq2;clear nb1 gq gc1 hq2;rw[e_] at c63;rw[Ag,gq1,gq2,lR];refine⟨by rw[b_,q_];omega,fun q3 hq3=>?_⟩;have nb3:=nb2.new (o:=.lst ([T.int (c0 / 2)]++cr.map T.int)) hq3;have gq3:up3 H8 q3 (.lst ([T.int (c0 / 2)]++cr.map T.int)) q3=some (.lst ([T.int (c0 / 2)]++cr.map T.int)):=aA;have n3f:q3≠pf:=Ne.symm (aX nb2.f hq3);rw[show [T.int (c0 / 2)]++cr.map T.int=((c0 / 2)::cr).map T.int from rfl] at *;generalize up3 H8 q3 (.lst (((c0 / 2)::cr).map T.int))=H9 at nb3 gq3;clear nb2 gq1 gq2 hq3;have xl:((c0 / 2)::cr).length<=63:=by rw[e_];exact c63
  generalize (c0 / 2)::cr=xs at *;walk_at "";refine aQ T.int xs (fun A Z H=>∃(fs:List Int) (v3 v4:Option T),Z=[some (.ref a),some (.ref pc),some (.ref pf),v3,v4,none]/\Nb H3 H pc pf (c0::cr) fs/\H q3=some (.lst (xs.map T.int))/\fs.length=8*A.length) ⟨[],_,_,rfl,nb3,gq3,rfl⟩ ?_ ?_
  ·rintro Z H ⟨fs,v3,v4,rfl,nb,g3,hf⟩;refine⟨.inl g3,?_⟩;have gf:=nb.f;clear nb3 gq3;walk_at "";refine⟨by first | trivial | rfl,fun p hp=>Fin3.of Sub3.refl (k'.out p _ (nb.sb.trans (Sub3.new hp)) (cU nb.sb hp) ⟨fs.reverse,by rw[aA,List.map_reverse],by rw[List.length_reverse];omega⟩)⟩
  rintro A c B Z H N e ⟨fs,v3,v4,rfl,nb,g3,hf⟩ hN;refine⟨.inl g3,?_⟩;have hA:A.length+1<=63:=by have:=T_ List.length e;simp only[a_,e_] at this;omega
  have hN':=Box.mk hN;clear hN e nb3 gq3 k';walk_at "";refine⟨trivial,by decide,by decide,?_⟩;have rl:(dh 0 (Int.toNat 8)).length=8:=by unfold dh;rw[b_,h_];rfl
  generalize dh 0 (Int.toNat 8)=ts0 at rl;refine kW (fun r Z H=>∃(fs:List Int) (c:Int) (v4:Option T),Z=[some (.ref a),some (.ref pc),some (.ref pf),some (.int c),v4,none]/\Nb H3 H pc pf (c0::cr) fs/\H q3=some (.lst (xs.map T.int))/\fs.length+r.length=8*(A.length+1)) ⟨fs,c,_,rfl,nb,g3,by omega⟩ ?_ ?_
  ·rintro Z H ⟨fs,c,v4,rfl,nb,g3,hf⟩;rw[Yv] at hf;exact⟨trivial,hN'.out _ _ ⟨fs,_,_,rfl,nb,g3,by rw[a_,q_];omega⟩⟩
  rintro x r Z H N2 ⟨fs,c,v4,rfl,nb,g3,hf⟩ hN2;refine⟨trivial,?_⟩;rw[e_] at hf;have hM:=Box.mk hN2;have gf:=nb.f;clear hN2 hN';walk_at "";refine⟨⟨trivial,trivial⟩,⟨by decide,by decide,by decide⟩,by decide,by omega,⟨by decide,by decide,by decide⟩,⟨by decide,by decide +kernel⟩,?_⟩;exact hM.out _ _ ⟨_,_,_,rfl,nb.put _,by rw[aC n3f];exact g3,by rw[a_,q_];omega⟩
 rw[B_ hev,if_neg u_];walk_at "n";refine aD fun R3 hR3=>?_;walk_at "";refine⟨⟨by decide,by decide +kernel⟩,by decide,?_⟩;have m0:=XM (c0 / 2) (show (2147483629:Int)≠0 by decide);have m1:=XJ (c0 / 2) (show (0:Int)<2147483629 by decide);generalize c0 / 2%2147483629=nbr at m0 m1;walk_at "n";refine aD fun R4 hR4=>?_;walk_at "";refine⟨by first | trivial | decide,by decide,by decide,?_⟩;rw[show dh 0 (Int.toNat 504)=(List.range 504).map (fun (i:Nat)=>T.int (i:Int)) from dm 504];refine aQ (fun (i:Nat)=>T.int (i:Int)) (List.range 504) (fun A Z H=>∃(fs:List Int) (v3 v4:Option T) (nbr:Int),Z=[some (.ref a),some (.ref pc),some (.ref pf),v3,v4,some (.int nbr)]/\Nb H3 H pc pf (c0::cr) fs/\fs.length=A.length/\0<=nbr/\nbr<2147483629) ⟨[],_,_,nbr,rfl,nb,rfl,m0,m1⟩ ?_ ?_
 ·rintro Z H ⟨fs,v3,v4,nbr,rfl,nb,hf,_,_⟩;refine⟨trivial,?_⟩;rw[h_] at hf;walk_at "n";have gf:=nb.f;walk_at "";refine⟨by first | trivial | rfl,fun p hp=>Fin3.of Sub3.refl (k'.out p _ (nb.sb.trans (Sub3.new hp)) (cU nb.sb hp) ⟨fs.reverse,by rw[aA,List.map_reverse],by rw[List.length_reverse];omega⟩)⟩
 rintro A c B Z H N e ⟨fs,v3,v4,nbr,rfl,nb,hf,m0,m1⟩ hN;refine⟨trivial,?_⟩;have hA:A.length+1<=504:=by have:=T_ List.length e;simp only[a_,e_,h_] at this;omega
 have hN':=Box.mk hN;have gc:=nb.c;obtain⟨z,_,hz⟩:=rB (c0::cr) ((c:Int)%((c0::cr).length:Int)) (XM _ (by rw[e_];omega)) (XJ _ (by rw[e_];omega));have hz':atI ((c0::cr).map T.int) ((c:Int)%((c0::cr).length:Int))=some (T.int z):=by rw[lU,hz];rfl
 generalize c0::cr=cs at *;clear hN e hz hR4 k';refine aD fun R5 hR5=>?_;have cl:(0:Int)<(cs.length:Int):=by omega
 walk_at "";refine⟨by first | trivial | omega,by decide,?_⟩;have z0:=XM z (show (2147483647:Int)≠0 by decide);have z1:=XJ z (show (0:Int)<2147483647 by decide);generalize z%2147483647=z' at z0 z1;walk_at "n";refine aD fun R6 hR6=>?_;walk_at "";refine⟨.inl ⟨by omega,by omega⟩,.inl ⟨by decide,by decide⟩,by decide,?_⟩;have y0:=XM (nbr*nbr+69621*z'+(c:Int)) (show (2147483629:Int)≠0 by decide);have y1:=XJ (nbr*nbr+69621*z'+(c:Int)) (show (0:Int)<2147483629 by decide);generalize (nbr*nbr+69621*z'+(c:Int))%2147483629=y at y0 y1;walk_at "n";have gf:=nb.f;walk_at "";refine⟨⟨trivial,trivial⟩,.inl ⟨by omega,by omega⟩,by decide,⟨by decide,by decide +kernel⟩,by omega,?_⟩;exact hN'.out _ _ ⟨_,_,_,_,rfl,nb.put _,by rw[a_,a_,q_,q_];omega,y0,y1⟩
abbrev DG:List Str:=["_law_deck","_law_things","_law_left","_law_found"]
theorem sc_turn:FnScope DG ["_law_deck","_law_things"] (aB (top 35)):=bh
theorem Ig {f:Addr}{fd:FuncData}(g:G3 K mg "_law_turn" (top 35) ["_law_deck","_law_things"] f fd) (B:Bl mg) (F_draw:Cal P w K mg base 1 "_law_draw" (top 31) ["_law_deck","_law_most"] mq):Cal P w K mg base 2 "_law_turn" (top 35) ["_law_deck","_law_things"] Hq:=by
 refine⟨f,fd,g,?_⟩;refine fn3 g.fn sc_turn (fun ts H Q h=>?_) (fun cdv A outer s H E ts H3 Q hr h=>?_)
 ·obtain⟨d,a,xs,rfl,_⟩:=h;rfl
 have hu30:=Room.u30 hr;obtain⟨d,a,xs,rfl,nad,ha,hp20,hl,hC,k⟩:=h;refine⟨_,(ao (aG (i:=2) sc_turn.nd (bG pO rfl B.list_ jo (aa (v3 1) ak)))
   (ao (aG (i:=3) sc_turn.nd (bK ak))
   (ao (lJ A_ (aW (lN hu30) (v3 2) (bK ak)) (au (bL (bZ t_ M_ N_ bB (v3 3) (aa (bZ t_ PySem.F.slot_list_pop PySem.F.type_list_pop Aa (v3 2) (aa (aL F_draw hr rfl (aa (v3 0) (aa (aM bH rfl B.len_ bI (aa (v3 2) ak)) ak))) ak)) ak)))))
   (au (aO (v3 3)))))),?_⟩
 rw[show aR DG [T.ref d,T.ref a]=[some (T.ref d),some (T.ref a),none,none] from rfl];have hsz:sizeLine=16777216:=rfl;have k':=Box.mk k;clear k;have w0:Wt d H3 H3 []:=⟨hC,Kep.refl,(fun _ h=>nomatch h)⟩;refine aD fun R0 hR0=>?_;walk_at "";intro pl_ hpl_;have l0:=w0.fresh hpl_;have w1:=w0.new (o:=.lst xs) hpl_;generalize up3 H3 pl_ (.lst xs)=H4 at w1;clear w0 hpl_;walk_at "n";refine aD fun R1 hR1=>?_;walk_at "";refine⟨by omega,fun pf hpf=>?_⟩;have f0:=w1.fresh hpf;have nfl:pf≠pl_:=Ne.symm (aX w1.hd hpf);have w2:=w1.new (o:=.lst []) hpf;generalize up3 H4 pf (.lst [])=H5 at w2;clear w1 hpf;walk_at "n";refine aD fun R2 hR2=>?_;show pH _ _ _ _ _;refine yL (fun m Z H=>∃(ls fs:List T),m=ls.length/\Z=[some (.ref d),some (.ref a),some (.ref pl_),some (.ref pf)]/\Wt d H3 H [(pf,.lst fs),(pl_,.lst ls)]/\(fs++ls).Perm xs/\ls.all (pl 20)=true) ⟨_,xs,[],rfl,rfl,w2,List.Perm.refl _,hp20⟩ ?_;intro m Z H hI WI TB NX hWI hTB hNX;obtain⟨ls,fs,rfl,rfl,w,hperm,hls⟩:=hI;have hlen:=hperm.length_eq;rw[a_] at hlen;have gl:=w.tl.hd;have gf:=w.hd;clear w2;walk_at "";refine⟨by omega,fun pe hpe=>?_⟩;have w3:=w.new (o:=.lst []) hpe;have gl3:=w3.tl.tl.hd;have nle:pl_≠pe:=aX gl hpe;walk_at "";refine⟨trivial,trivial,rfl,?_⟩;have npd:pf≠d:=(w.at' _ i_).2;have gf3:=w3.tl.hd;generalize up3 H pe (.lst [])=H6 at w3 gl3 gf3;clear w gl gf hpe nle;cases ls with
 |nil=>rw[if_neg (by simp)];clear hTB hWI;obtain⟨hNX⟩:=hNX;subst hNX;walk_at "n";walk_at "";rw[I_] at hperm;exact fM w3.cl w3.kp gf3 f0 npd fun H1 hD h1=>k'.out fs H1 pf hperm hD h1
 |cons t r =>
 rw[if_pos (by simp)];clear hNX hR2 k';obtain⟨hTB⟩:=hTB;subst hTB;have w3':=w3.tl;clear w3;walk_at "";refine⟨⟨trivial,trivial⟩,⟨trivial,trivial⟩,d,_,rfl,by omega,w3'.cl,fun n H7 n0 n1 hD=>?_⟩;have w4:=w3'.drw hD;have gl4:=w4.tl.hd;have gf4:=w4.hd;clear w3' gl3 gf3 hD;obtain⟨j,rfl⟩:∃j:Nat,n=(j:Int):=⟨n.toNat,by omega⟩;have hj:j<(t::r).length:=by rw[e_];omega
 have ej:=kO hj;have ex:=d_ hj;have pe:=Hr hj;have le:=List.length_eraseIdx_of_lt hj;generalize (t::r)[j]=x at ex pe;have hal:=Qa hls j;have w5:=(w4.swap.set l0 (fun q hq=>by rw[g_.mp hq];exact nfl) (.lst ((t::r).eraseIdx j))).swap.set f0 (fun q hq=>by rw[g_.mp hq];exact Ne.symm nfl) (.lst (fs++[x]));have hfl:fs.length<60:=by rw[e_] at hlen;omega
 have nfl':=Ne.symm nfl;have hpm:(fs++[x]++(t::r).eraseIdx j).Perm xs:=by refine List.Perm.trans ?_ hperm;rw[Xn];exact (List.Perm.refl fs).append pe
 have hlr:=Box.mk (show (t::r).length=r.length+1 from rfl);have le':=Box.mk le;generalize hls':(t::r)=ls at *;clear w4 hls hperm pe hls' le;walk_at "";exact⟨by omega,(ls.eraseIdx j).length,by have:=hlr.out;have:=le'.out;omega,by rw[hWI.out];exact⟨_,fs++[x],rfl,rfl,w5,hpm,hal⟩⟩
abbrev gK:List Str:=["_law_deck","_law_common","_law_names_here","_law_found","_law_name"]
theorem sc_some_kinds:FnScope gK ["_law_deck","_law_common","_law_names_here"] (aB (top 39)):=bh
theorem nG {f:Addr}{fd:FuncData}(g:G3 K mg "_law_some_kinds" (top 39) ["_law_deck","_law_common","_law_names_here"] f fd) (B:Bl mg) (F_turn:Cal P w K mg base 2 "_law_turn" (top 35) ["_law_deck","_law_things"] Hq) (F_draw:Cal P w K mg base 1 "_law_draw" (top 31) ["_law_deck","_law_most"] mq):Cal P w K mg base 3 "_law_some_kinds" (top 39) ["_law_deck","_law_common","_law_names_here"] Ve:=by
 refine⟨f,fd,g,?_⟩;refine fn3 g.fn sc_some_kinds (fun ts H Q h=>?_) (fun cdv A outer s H E ts H3 Q hr h=>?_)
 ·obtain⟨d,a,cm,ws,rfl,_⟩:=h;rfl
 have hu30:=Room.u30 hr;obtain⟨d,a,cm,ws,rfl,nad,ha,hws,w8,hcm,hC,k⟩:=h;refine⟨_,(ao (aG (i:=3) sc_some_kinds.nd (bK (aa (v3 1) ak)))
   (ao (bc A_ rfl (cM (aL F_turn hr rfl (aa (v3 0) (aa (bx rfl (bF (n0:=(aB (top 39)).names) (N:=gK) (N':=["_law_name","_law_common"]) (nt:=1) (cap:=[1]) rfl rfl (by decide +kernel)) (cM (v3 2)) (fun cl pins s H C0 fp=>⟨(aF (i:=0) (show List.Nodup [("_law_name":Str),("_law_common":Str)] by decide +kernel)),(di (aW (lN hu30) (v3 0) (v3 1))),(v3 0)⟩)) ak)))) (aF (i:=4) sc_some_kinds.nd) (au (bQ (PW3.pt (cB (aW wz (aM bH rfl B.len_ bI (aa (v3 3) ak)) aq) (cG (aW (bR hu30) (aL F_draw hr rfl (aa (v3 0) (aa aq ak))) aq)))) (au (bL (bZ t_ PySem.F.slot_list_insert PySem.F.type_list_insert yE (v3 3) (aa (aL F_draw hr rfl (aa (v3 0) (aa (aH aY (aM bH rfl B.len_ bI (aa (v3 3) ak)) aq) ak))) (aa (v3 4) ak))))) aZ)))
   (au (aO (bG cP rfl B.tuple_ cD (aa (v3 3) ak)))))),?_⟩
 rw[show aR gK [T.ref d,T.str cm,T.ref a]=[some (T.ref d),some (T.str cm),some (T.ref a),none,none] from rfl];have hsz:sizeLine=16777216:=rfl;have k':=Box.mk k;clear k;have w0:Wt d H3 H3 [(a,.lst (ws.map T.str))]:=⟨hC,Kep.refl,fun q hq=>by rw[g_.mp hq];exact⟨ha,nad⟩⟩;clear hC;refine aD fun R0 hR0=>?_;walk_at "";refine⟨by decide,fun pf hpf=>?_⟩;have f0:=w0.fresh hpf;have nfa:a≠pf:=aX ha hpf;have w1:=w0.new (o:=.lst [T.str cm]) hpf;generalize up3 H3 pf (.lst [T.str cm])=H4 at w1;clear w0 hpf ha;walk_at "n";refine aD fun R1 hR1=>?_;have gA:=w1.tl.hd;walk_at "";walk_at "c";refine cX T.str T.str (fun x=>!decide (x=cm)) ws [some (.str cm)] (.inl gA) (by omega) (fun x hx Q' hq=>?_) (fun x hx _ Q' hq=>hq) (fun q hq=>?_)
 ·have hq':=Box.mk hq;clear k' hq hR1;walk_at "";first | exact hq'.out | trivial
 have w2:=w1.new (o:=.lst ((ws.filter fun x=>!decide (x=cm)).map T.str)) hq;have gq:=w2.hd;generalize up3 H4 q (.lst ((ws.filter fun x=>!decide (x=cm)).map T.str))=H5 at w2 gq;clear w1 hq gA;refine⟨d,q,(ws.filter fun x=>!decide (x=cm)).map T.str,rfl,(w2.at' _ i_).2,gq,gG _,by rw[b_];have:=Xf (fun x=>!decide (x=cm)) ws;omega,w2.cl,fun ys H6 q2 hperm hD hq2=>?_⟩;obtain⟨fs,hp',rfl⟩:=jA hperm _ rfl;have fnm:Nms fs:=⟨fun x hx=>hws.nm x (R_.mp (hp'.mem_iff.mp hx)).1,hp'.nodup_iff.mpr (hws.nd.filter _)⟩;have fcm:cm∉fs:=fun h=>by have:=(R_.mp (hp'.mem_iff.mp h)).2;simp at this
 have fl:fs.length<=8:=by rw[hp'.length_eq];have:=Xf (fun x=>!decide (x=cm)) ws;omega
 have w3:=(w2.drw hD).tl.new (o:=.lst (fs.map T.str)) hq2;have gq2:=w3.hd;have nfq:pf≠q2:=aX (w2.drw hD).tl.hd hq2;generalize up3 H6 q2 (.lst (fs.map T.str))=H7 at w3 gq2;clear w2 hD hq2 gq hperm hp';try dsimp only
 walk_at "";have w4:Wt d H3 H7 [(pf,.lst ([cm].map T.str)),(q2,.lst (fs.map T.str))]:=⟨w3.cl,w3.kp,fun x hx=>by
  rcases l_.mp hx with rfl | hx
  ·
   exact w3.at' _ (by simp)
  ·
   rw[g_.mp hx];exact w3.at' _ i_⟩
 clear w3 gq2;refine aQ T.str fs (fun A Z H=>∃(ks:List Str) (v4:Option T),Z=[some (.ref d),some (.str cm),some (.ref a),some (.ref pf),v4]/\Nms ks/\ks.length<=4/\(∀x∈ks,x=cm\/x∈A)/\Wt d H3 H [(pf,.lst (ks.map T.str)),(q2,.lst (fs.map T.str))]) ⟨[cm],_,rfl,⟨fun x hx=>by rw[g_.mp hx];exact hcm,by simp⟩,by simp,fun x hx=>.inl (g_.mp hx),w4⟩ ?_ ?_
 ·rintro Z H ⟨ks,v4,rfl,hk,k4,_,w⟩;refine⟨.inl w.tl.hd,?_⟩;have g:=w.hd;walk_at "n";clear w4;try dsimp only
  walk_at "";exact iM w.cl w.kp fun H'' hD=>k'.out ks H'' hk k4 hD
 rintro A x B Z H N e ⟨ks,v4,rfl,hk,k4,hin,w⟩ hN;refine⟨.inl w.tl.hd,?_⟩;have hx:isNm x:=fnm.nm x (by rw[e];simp);have hnx:x∉ks:=fun h=>by
  rcases hin x h with h | h
  ·exact fcm (by rw[<- h,e];simp)
  have nd:=fnm.nd;rw[e,List.nodup_append] at nd;exact nd.2.2 x h x i_ rfl
 have hN':=Box.mk hN;have hin':=Box.mk hin;clear hN hin e k' hR1 w4;have g:=w.hd;walk_at "";have stay:∀H6,Wt d H3 H6 [(pf,.lst (ks.map T.str)),(q2,.lst (fs.map T.str))]->N [some (.ref d),some (.str cm),some (.ref a),some (.ref pf),some (.str x)] H6:=fun H6 w'=>hN'.out _ _ ⟨ks,_,rfl,hk,k4,fun y hy=>(hin'.out y hy).imp id fun h=>Xx _ h,w'⟩;have stay':=Box.mk stay;clear stay;split
 ·rename_i h4;have h4':ks.length<4:=by have:=Xv h4;omega
  refine⟨d,2,rfl,by decide,w.cl,fun n1 H8 p0 p1 hD1=>?_⟩;have w5:=w.drw hD1;have g5:=w5.hd;clear w g hD1;walk_at "";split
  ·refine⟨⟨trivial,trivial⟩,d,_,rfl,by omega,w5.cl,fun n2 H9 r0 r1 hD2=>?_⟩;have w6:=w5.drw hD2;have g6:=w6.hd;clear w5 g5 hD2;walk_at "";have em:(ks.map T.str).take n2.toNat++T.str x::(ks.map T.str).drop n2.toNat=(ks.take n2.toNat++x::ks.drop n2.toNat).map T.str:=by rw[z_,D_,List.map_take,List.map_drop]
   rw[em];refine⟨⟨by first | trivial | omega,by first | trivial | omega,by first | trivial | omega⟩,hN'.out _ _ ⟨ks.take n2.toNat++x::ks.drop n2.toNat,_,rfl,hk.ins hx hnx,?_,fun y hy=>?_,w6.set f0 (fun q hq=>by rw[g_.mp hq];exact Ne.symm nfq) _⟩⟩
   ·rw[a_,e_,X_,Yz];omega
   rcases CZ hy with rfl | h
   ·exact .inr (V_ _ (g_.mpr rfl))
   exact (hin'.out y h).imp id fun h=>Xx _ h
  exact stay'.out _ w5
 exact stay'.out _ w
abbrev qy:List Str:=["_law_deck","_law_row","_law_names_here","_law_table","_law_many","_law_commons","_law_found","_law_i","_law_first"]
theorem sc_kinds:FnScope qy ["_law_deck","_law_row","_law_names_here","_law_table"] (aB (top 40)):=bh
theorem DK {f:Addr}{fd:FuncData}(g:G3 K mg "_law_kinds" (top 40) ["_law_deck","_law_row","_law_names_here","_law_table"] f fd) (B:Bl mg) (F_draw:Cal P w K mg base 1 "_law_draw" (top 31) ["_law_deck","_law_most"] mq) (F_some_kinds:Cal P w K mg base 3 "_law_some_kinds" (top 39) ["_law_deck","_law_common","_law_names_here"] Ve):Cal P w K mg base 4 "_law_kinds" (top 40) ["_law_deck","_law_row","_law_names_here","_law_table"] Vf:=by
 refine⟨f,fd,g,?_⟩;refine fn3 g.fn sc_kinds (fun ts H Q h=>?_) (fun cdv A outer s H E ts H3 Q hr h=>?_)
 ·obtain⟨d,r,a,t,row,ws,m,H0,as,rfl,_⟩:=h;rfl
 have hu30:=Room.u30 hr;obtain⟨d,r,a,t,row,ws,m,H0,as,rfl,nrd,nad,hr',r1,r8,hrow,ha,hws,w8,tq,m8,hC,k⟩:=h;refine⟨_,(ao (aG (i:=4) sc_kinds.nd (aM bH rfl B.len_ bI (aa (v3 3) ak)))
   (ao (aG (i:=5) sc_kinds.nd (bK ak))
   (ao (aG (i:=6) sc_kinds.nd (bK ak))
   (ao (bc A_ rfl (aN rfl B.range_ (aa (v3 4) ak)) (aF (i:=7) sc_kinds.nd) (ao (aG (i:=8) sc_kinds.nd (aK ix3 (bx rfl (bF (n0:=(aB (top 40)).names) (N:=qy) (N':=["_law_j","_law_i","_law_table"]) (nt:=1) (cap:=[7,3]) rfl rfl (by decide +kernel)) (aN rfl B.range_ (aa (v3 4) ak)) (fun cl pins s H C0 fp=>⟨(aF (i:=0) (show List.Nodup [("_law_j":Str),("_law_i":Str),("_law_table":Str)] by decide +kernel)),(di (PW3.pt (jl (aW (bR hu30) (v3 0) (v3 1)) (gh (PW3.pt (cB (bY (aK ix3 (aK ix3 (v3 2) (v3 1)) (v3 0))) (cG (bY (aK ix3 (aK ix3 (v3 2) (v3 0)) (v3 1)))))))))),(v3 0)⟩)) aq))
    (ao (bQ (aW (bR hu30) (v3 8) (v3 7)) (au (bL (bZ t_ M_ N_ bB (v3 5) (aa (aK ix3 (v3 1) (aL F_draw hr rfl (aa (v3 0) (aa (aM bH rfl B.len_ bI (aa (v3 1) ak)) ak)))) ak)))) (au (bL (bZ t_ M_ N_ bB (v3 5) (aa (aK ix3 (v3 5) (v3 8)) ak)))))
    (au (bQ (aW (bR hu30) (aL F_draw hr rfl (aa (v3 0) (aa aq ak))) aq) (au (bL (bZ t_ M_ N_ bB (v3 6) (aa (aL F_some_kinds hr rfl (aa (v3 0) (aa (aK ix3 (v3 5) (v3 7)) (aa (v3 2) ak)))) ak)))) (au (bL (bZ t_ M_ N_ bB (v3 6) (aa (bD ak) ak)))))))))
   (au (aO (v3 6))))))),?_⟩
 rw[show aR qy [T.ref d,T.ref r,T.ref a,T.ref t]=[some (T.ref d),some (T.ref r),some (T.ref a),some (T.ref t),none,none,none,none,none] from rfl];have hsz:sizeLine=16777216:=rfl;have k':=Box.mk k;clear k;have gt:=tq.t;have tl:as.length=m:=tq.l;have w0:Wt d H3 H3 [(r,.lst (row.map T.str)),(a,.lst (ws.map T.str))]:=⟨hC,Kep.refl,fun q hq=>by
  rcases l_.mp hq with rfl | hq
  ·
   exact⟨hr',nrd⟩
  ·
   rw[g_.mp hq];exact⟨ha,nad⟩⟩
 clear hC;have rg:dh 0 m=(List.range m).map fun (i:Nat)=>T.int (i:Int):=dm _;refine aD fun R0 hR0=>?_;walk_at "";walk_at "n";refine aD fun R1 hR1=>?_;walk_at "";refine⟨by omega,fun pc hpc=>?_⟩;have c0:=w0.fresh hpc;have nrc:r≠pc:=aX hr' hpc;have nac:a≠pc:=aX ha hpc;have ntc:t≠pc:=aX gt hpc;have nsc:∀x∈as,x≠pc:=fun x hx=>by obtain⟨bs,_,h2⟩:=tq.r x hx;exact aX h2 hpc
 have w1:=w0.new (o:=.lst []) hpc;have tq1:=tq.new (o:=.lst []) hpc;generalize up3 H3 pc (.lst [])=H4 at w1 tq1;clear hpc gt;walk_at "n";refine aD fun R2 hR2=>?_;walk_at "";refine⟨by omega,fun pf hpf=>?_⟩;have ki:KI d H3 H0 (up3 H4 pf (.lst [])) pf pc r a t row ws m as [] [] :=
  ⟨w1.new hpf,tq1.new hpf,Ne.symm (aX w1.hd hpf),⟨nrc,aX w1.tl.hd hpf⟩,⟨nac,aX w1.tl.tl.hd hpf⟩,⟨ntc,aX tq1.t hpf⟩,fun x hx=>⟨nsc x hx,by obtain⟨bs,_,h2⟩:=tq1.r x hx;exact aX h2 hpf⟩,c0,w1.fresh hpf⟩
 generalize up3 H4 pf (.lst [])=H5 at ki;clear w1 tq1 hpf nrc nac ntc nsc c0 tq;walk_at "n";refine aD fun R3 hR3=>?_;walk_at "";refine⟨by first | trivial | omega,by omega,by omega,?_⟩;try rw[rg]
 refine aQ (fun (i:Nat)=>T.int (i:Int)) (List.range m) (fun A Z H=>∃(cs:List Str) (ks:List (List Str)) (v7 v8:Option T),Z=[some (.ref d),some (.ref r),some (.ref a),some (.ref t),some (.int (m:Int)),some (.ref pc),some (.ref pf),v7,v8]/\KI d H3 H0 H pf pc r a t row ws m as cs ks/\cs.length=A.length/\ks.length=A.length/\(∀c∈cs,isNm c)/\(∀k∈ks,Nms k/\k.length<=4)) ⟨[],[],_,_,rfl,ki,rfl,rfl,(fun _ h=>nomatch h),(fun _ h=>nomatch h)⟩ ?_ ?_
 ·rintro Z H ⟨cs,ks,v7,v8,rfl,ki,hcl,hkl,hc,hk⟩;refine⟨trivial,?_⟩;rw[h_] at hkl;walk_at "n";walk_at "";exact fM ki.w.cl ki.w.kp ki.w.hd ki.f0 (ki.w.at' _ i_).2 fun H1 hD h1=>k'.out ks H1 pf hkl hk hD h1
 rintro A i B Z H N e ⟨cs,ks,v7,v8,rfl,ki,hcl,hkl,hc,hk⟩ hN;refine⟨trivial,?_⟩;have hi:i<m:=C_.mp (by rw[e];simp);have hiA:=Box.mk (sE e);have hN':=Box.mk hN;have hcl':=Box.mk hcl;have hkl':=Box.mk hkl;clear hN e k' hR3 hcl hkl;refine aD fun R4 hR4=>?_;walk_at "";refine⟨by first | trivial | omega,by omega,by omega,?_⟩;try rw[rg]
 walk_at "c";refine c7 (fun (j:Nat)=>T.int (j:Int)) (List.range m) (fun A2 ys Z H'=>∃(js:List Nat) (v:Option T),Z=[v,some (.int (i:Int)),some (.ref t)]/\ys=js.map (fun (j:Nat)=>T.int (j:Int))/\js.length<=A2.length/\H=H'/\((js=[]/\i∉A2)\/∃f rest,js=f::rest/\f<=i)) ⟨[],_,rfl,rfl,o_ _,rfl,.inl ⟨rfl,by simp⟩⟩ ?_ ?_;rotate_left
 ·rintro A2 j B2 ys Z H' N2 e2 ⟨js,v,rfl,rfl,hjl,rfl,hjs⟩ hN2;refine⟨trivial,?_⟩;have hj:j<m:=C_.mp (by rw[e2];simp);have hjA:=sE e2;have hpr:=oO e2;have hA2:A2.length<8:=by omega
  have app:N2 (js.map (fun (j:Nat)=>T.int (j:Int))++[T.int (j:Int)]) [some (T.int (j:Int)),some (.int (i:Int)),some (.ref t)] H:=hN2 _ _ _ ⟨js++[j],_,rfl,by rw[z_];rfl,by rw[a_,a_];simp only[q_];omega,rfl,.inr (by
   rcases hjs with ⟨rfl,hni⟩ | ⟨f,rest,rfl,hf⟩
   ·
    refine⟨j,[],rfl,?_⟩
    rw[hpr,C_,<- hjA] at hni
    omega
   ·
    exact⟨f,rest++[j],rfl,hf⟩)⟩
  have skip:j≠i->N2 (js.map (fun (j:Nat)=>T.int (j:Int))) [some (T.int (j:Int)),some (.int (i:Int)),some (.ref t)] H:=fun hne=>hN2 _ _ _ ⟨js,_,rfl,rfl,by rw[a_];simp only[q_];omega,rfl,by
   rcases hjs with ⟨rfl,hni⟩ | h
   ·
    exact .inl ⟨rfl,fun h=>by
     rcases E_.mp h with h | h
     ·
      exact hni h
     ·
      exact hne (g_.mp h).symm⟩
   ·
    exact .inr h⟩
  have app':=Box.mk app;have skip':=Box.mk skip;have gt:=ki.tq.t;obtain⟨ri,bi,gi,hri,li,gri⟩:=ki.tq.at' hi;obtain⟨rj,bj,gj,hrj,lj,grj⟩:=ki.tq.at' hj;obtain⟨x1,gx1⟩:=xn (show j<bi.length by omega);obtain⟨x2,gx2⟩:=xn (show i<bj.length by omega);have hjl':js.length<8:=by omega
  clear li lj app skip hN2 hN' hjs hjA hpr e2 hR4 hjl rg;walk_at "";by_cases hji:(j:Int)=(i:Int)
  ·rw[P_ hji,if_pos rfl];exact⟨by omega,app'.out⟩
  rw[B_ hji,if_neg u_];have sk:=skip'.out (fun h=>hji (by rw[h]));split
  ·split
   ·exact⟨by omega,app'.out⟩
   exact sk
  exact sk
 rintro ys Z H' ⟨js,v,rfl,rfl,hjl,rfl,hjs⟩;rw[h_] at hjl;refine⟨trivial,by rw[b_];omega,fun q hq=>?_⟩;obtain⟨f,rest,rfl,hf⟩:∃f rest,js=f::rest/\f<=i:=hjs.resolve_left fun h=>h.2 (C_.mpr hi);have ki2:=ki.new (o:=.lst ((f::rest).map fun (j:Nat)=>T.int (j:Int))) hq;generalize up3 H q (.lst ((f::rest).map fun (j:Nat)=>T.int (j:Int)))=H6 at ki2;clear ki hq hjs hjl;rw[D_,at0,ig];walk_at "n";refine aD fun R5 hR5=>?_;have il:cs.length=i:=hcl'.out.trans hiA.out.symm;have key:∀(c:Str) (H7:Hp3),isNm c->KI d H3 H0 H7 pf pc r a t row ws m as (cs++[c]) ks->R5 { nx:=N,rt:=Fin3 Q,bk:=R3 { nx:=fun x H'=>Fin3 Q T.non H',rt:=Fin3 Q},ct:=N} [some (T.ref d),some (T.ref r),some (T.ref a),some (T.ref t),some (T.int (m:Int)),some (T.ref pc),some (T.ref pf),some (T.int (i:Int)),some (T.int (f:Int))] H7:=fun c H7 hcn ki7=>by
  walk_at "n";clear ki2;have hcs:∀x∈cs++[c],isNm x:=fun x hx=>by
   rcases E_.mp hx with h | h
   ·exact hc x h
   rw[g_.mp h];exact hcn
  have gci:atI ((cs++[c]).map T.str) (i:Int)=some (.str c):=bu (by rw[<- il];simp);have il':=Box.mk il;clear il;walk_at "";refine⟨d,3,rfl,by decide,ki7.w.cl,fun n H8 p0 p1 hD=>?_⟩;have ki8:=ki7.drw hD;have gf:=ki8.w.hd;have gc:=ki8.w.tl.hd;have gA:=ki8.w.tl.tl.tl.hd;have kl:ks.length<8:=by rw[hkl'.out,<- hiA.out];omega
  clear ki7 hD;walk_at "";split
  ·refine⟨⟨trivial,trivial⟩,d,a,c,ws,rfl,nad,gA,hws,w8,hcn,ki8.w.cl,fun k1 H9 hk1 hk4 hD9=>?_⟩;have ki9:=ki8.drw hD9;have gf9:=ki9.w.hd;clear ki8 hD9 gf gc gA;try dsimp only
   walk_at "";have em:ks.map sT++[T.tup (k1.map T.str)]=(ks++[k1]).map sT:=by rw[z_];rfl
   rw[em];refine⟨by omega,hN'.out _ _ ⟨cs++[c],ks++[k1],_,_,rfl,ki9.putf _,by rw[a_,a_,hcl'.out];rfl,by rw[a_,a_,hkl'.out];rfl,hcs,fun k hk'=>?_⟩⟩;rcases E_.mp hk' with h | h
   ·exact hk k h
   rw[g_.mp h];exact⟨hk1,hk4⟩
  have em:ks.map sT++[T.tup []]=(ks++[[]]).map sT:=by rw[z_];rfl
  rw[em];refine⟨⟨trivial,trivial⟩,by first | trivial | omega,by omega,hN'.out _ _ ⟨cs++[c],ks++[[]],_,_,rfl,ki8.putf _,by rw[a_,a_,hcl'.out];rfl,by rw[a_,a_,hkl'.out];rfl,hcs,fun k hk'=>?_⟩⟩;rcases E_.mp hk' with h | h
  ·exact hk k h
  rw[g_.mp h];exact⟨Nms.nil,by decide⟩
 have key':=Box.mk key;have gc:=ki2.w.tl.hd;have gr:=ki2.w.tl.tl.hd;have cl8:cs.length<8:=by omega
 clear key hR5;walk_at "";by_cases hfi:(f:Int)=(i:Int)
 ·rw[P_ hfi,if_pos rfl];refine⟨⟨trivial,trivial⟩,d,_,rfl,by omega,ki2.w.cl,fun n H7 p0 p1 hD=>?_⟩;have ki3:=ki2.drw hD;have gr3:=ki3.w.tl.tl.hd;have gc3:=ki3.w.tl.hd;clear ki2 hD gc gr;obtain⟨z,hz,ez⟩:=rB row n p0 (by omega);have ez':atI (row.map T.str) n=some (T.str z):=by rw[lU,ez];rfl
  clear ez;have em:cs.map T.str++[T.str z]=(cs++[z]).map T.str:=by rw[z_];rfl
  walk_at "";have fin:=key'.out z _ (hrow z hz) (ki3.putc _);rw[hfi] at fin;exact⟨by omega,fin⟩
 rw[B_ hfi,if_neg u_];have hfl:f<cs.length:=by omega
 have gz:atI (cs.map T.str) (f:Int)=some (T.str cs[f]):=bu (by rw[y_,d_ hfl];rfl);have hz:=hc _ (Xp hfl);generalize cs[f]=z at gz hz;have em:cs.map T.str++[T.str z]=(cs++[z]).map T.str:=by rw[z_];rfl
 rw[gz,ig,em];exact⟨⟨trivial,trivial⟩,by omega,key'.out z _ hz (ki2.putc _)⟩
abbrev qz:List Str:=["_law_deck","_law_names_here","_law_orders","_law_lots","_law_many","_law_pairs_here","_law_edges","_law_i","_law_j","_law_table"]
theorem sc_pairs:FnScope qz ["_law_deck","_law_names_here","_law_orders","_law_lots"] (aB (top 38)):=bh
theorem DN {f:Addr}{fd:FuncData}(g:G3 K mg "_law_pairs" (top 38) ["_law_deck","_law_names_here","_law_orders","_law_lots"] f fd) (B:Bl mg) (F_turn:Cal P w K mg base 2 "_law_turn" (top 35) ["_law_deck","_law_things"] Hq) (F_draw:Cal P w K mg base 1 "_law_draw" (top 31) ["_law_deck","_law_most"] mq) (F_chained:Cal P w K mg base 1 "_law_chained" (top 37) ["_law_many","_law_edges"] Vb):Cal P w K mg base 3 "_law_pairs" (top 38) ["_law_deck","_law_names_here","_law_orders","_law_lots"] Vc:=by
 refine⟨f,fd,g,?_⟩;refine fn3 g.fn sc_pairs (fun ts H Q h=>?_) (fun cdv A outer s H E ts H3 Q hr h=>?_)
 ·obtain⟨d,a,o,ws,es,lots,rfl,_⟩:=h;rfl
 have hu30:=Room.u30 hr;obtain⟨d,a,o,ws,es,lots,rfl,l1,l100,nad,nod,ha,hws,w8,ho,hes,e28,hC,k⟩:=h;refine⟨_,(ao (aG (i:=4) sc_pairs.nd (aM bH rfl B.len_ bI (aa (v3 1) ak)))
   (ao (aG (i:=5) sc_pairs.nd (bK ak))
   (ao (aG (i:=6) sc_pairs.nd (bG pO rfl B.list_ jo (aa (v3 2) ak)))
   (ao (bc A_ rfl (aN rfl B.range_ (aa (v3 4) ak)) (aF (i:=7) sc_pairs.nd) (au (bc A_ rfl (aN rfl B.range_ (aa (v3 4) ak)) (aF (i:=8) sc_pairs.nd) (au (bQ (PW3.pt (cB (aW (lN hu30) (v3 7) (v3 8)) (cB (aW (bR hu30) (aL F_draw hr rfl (aa (v3 0) (aa (aH gW aq (v3 3)) ak))) aq) (cG (aW wz (aM bH rfl B.len_ bI (aa (v3 5) ak)) aq))))) (ao (bL (bZ t_ M_ N_ bB (v3 5) (aa (bD (aa d9 (aa (v3 7) (aa (v3 8) ak)))) ak)))
      (au (aG (i:=6) sc_pairs.nd (aH aY (v3 6) (bK (aa (bD (aa (v3 7) (aa (v3 8) ak))) (aa (bD (aa (v3 8) (aa (v3 7) ak))) ak))))))) aZ)))))
   (ao (aG (i:=9) sc_pairs.nd (aL F_chained hr rfl (aa (v3 4) (aa (v3 6) ak))))
   (ao (bc A_ rfl (aN rfl B.range_ (aa (v3 4) ak)) (aF (i:=7) sc_pairs.nd) (au (bc A_ rfl (aN rfl B.range_ (aa (v3 4) ak)) (aF (i:=8) sc_pairs.nd) (au (bQ (PW3.pt (cB (aW (lN hu30) (v3 7) (v3 8)) (cB (aW (bR hu30) (aL F_draw hr rfl (aa (v3 0) (aa (v3 3) ak))) aq) (cB (gU (PW3.pt (cB (bY (aK ix3 (aK ix3 (v3 9) (v3 7)) (v3 8))) (cG (bY (aK ix3 (aK ix3 (v3 9) (v3 8)) (v3 7))))))) (cG (aW wz (aM bH rfl B.len_ bI (aa (v3 5) ak)) aq)))))) (au (bL (bZ t_ M_ N_ bB (v3 5) (aa (bD (aa d9 (aa (v3 7) (aa (v3 8) ak)))) ak)))) aZ)))))
   (ao (aG (i:=5) sc_pairs.nd (aL F_turn hr rfl (aa (v3 0) (aa (v3 5) ak))))
   (au (aO (bD (aa (bG cP rfl B.tuple_ cD (aa (bx rfl (bF (n0:=(aB (top 38)).names) (N:=qz) (N':=["_law_word","_law_i","_law_j","_law_names_here"]) (nt:=3) (cap:=[1]) rfl rfl (by decide +kernel)) (cM (v3 5)) (fun cl pins s H C0 fp=>⟨(cH (n:=3) rfl (aJ (aF (i:=0) (show List.Nodup [("_law_word":Str),("_law_i":Str),("_law_j":Str),("_law_names_here":Str)] by decide +kernel)) (aJ (aF (i:=1) (show List.Nodup [("_law_word":Str),("_law_i":Str),("_law_j":Str),("_law_names_here":Str)] by decide +kernel)) (aJ (aF (i:=2) (show List.Nodup [("_law_word":Str),("_law_i":Str),("_law_j":Str),("_law_names_here":Str)] by decide +kernel)) bN)))),bW,(bD (aa (v3 0) (aa (aK ix3 (v3 3) (v3 1)) (aa (aK ix3 (v3 3) (v3 2)) ak))))⟩)) ak)) (aa (v3 9) ak)))))))))))),?_⟩
 rw[show aR qz [T.ref d,T.ref a,T.ref o,T.int lots]=[some (T.ref d),some (T.ref a),some (T.ref o),some (T.int lots),none,none,none,none,none,none] from rfl];have hsz:sizeLine=16777216:=rfl;have k':=Box.mk k;clear k;have w0:Wt d H3 H3 []:=⟨hC,Kep.refl,(fun _ h=>nomatch h)⟩;have w0:Wt d H3 H3 [(a,.lst (ws.map T.str))]:=⟨hC,Kep.refl,fun q hq=>by rw[g_.mp hq];exact⟨ha,nad⟩⟩;clear hC;have rg:dh 0 ws.length=(List.range ws.length).map fun (i:Nat)=>T.int (i:Int):=dm _;refine aD fun R0 hR0=>?_;walk_at "";walk_at "n";refine aD fun R1 hR1=>?_;walk_at "";refine⟨by omega,fun pp hpp=>?_⟩;have pp0:=w0.fresh hpp;have npa:a≠pp:=aX ha hpp;have npo:o≠pp:=aX ho hpp;have w1:=w0.new (o:=.lst []) hpp;have ho1:up3 H3 pp (.lst []) o=some (.lst es):=by rw[aC npo];exact ho
 generalize up3 H3 pp (.lst [])=H4 at w1 ho1;clear w0 hpp ha;walk_at "n";refine aD fun R2 hR2=>?_;walk_at "";intro pe hpe;have w2:=w1.new (o:=.lst es) hpe;have pe0:=w1.fresh hpe;have npe:pp≠pe:=aX w1.hd hpe;have nae:a≠pe:=aX w1.tl.hd hpe;generalize up3 H4 pe (.lst es)=H5 at w2;clear w1 hpe ho1;walk_at "n";have pi0:PI d H3 H5 pp pe a ws [] es:=⟨⟨w2.cl,w2.kp,fun q hq=>w2.at' q (by simp only[l_,Xk,Yo] at hq ⊢;rcases hq with h | h | h;exact .inr (.inl h);exact .inl h;exact .inr (.inr h))⟩,Ne.symm npe,npa,by decide,hes,by simp;omega,(fun _ h=>nomatch h)⟩;clear w2 pe0 npe nae;refine aD fun R3 hR3=>?_;walk_at "";refine⟨trivial,by omega,by omega,?_⟩;try rw[rg]
 refine aQ (fun (i:Nat)=>T.int (i:Int)) (List.range ws.length) (fun A Z H=>∃(ps:List (Bool × Nat × Nat)) (es:List T) (pe:Addr) (v7 v8:Option T),Z=[some (.ref d),some (.ref a),some (.ref o),some (.int lots),some (.int (ws.length:Int)),some (.ref pp),some (.ref pe),v7,v8,none]/\PI d H3 H pp pe a ws ps es/\ps.Sublist (enm true ws.length A)) ⟨[],es,pe,_,_,rfl,pi0,List.Sublist.refl _⟩ ?_ ?_;rotate_left
 ·rintro A i B Z H N e ⟨ps,es,pe,v7,v8,rfl,pi,hsub⟩ hN;refine⟨trivial,?_⟩;have hi:i<ws.length:=C_.mp (by rw[e];simp);have hM:=Box.mk hN;clear hN e pi0 k' hR3;walk_at "";refine⟨trivial,by omega,by omega,?_⟩;try rw[rg]
  refine aQ (fun (i:Nat)=>T.int (i:Int)) (List.range ws.length) (fun A2 Z H=>∃(ps:List (Bool × Nat × Nat)) (es:List T) (pe:Addr) (v8:Option T),Z=[some (.ref d),some (.ref a),some (.ref o),some (.int lots),some (.int (ws.length:Int)),some (.ref pp),some (.ref pe),some (.int (i:Int)),v8,none]/\PI d H3 H pp pe a ws ps es/\ps.Sublist (enm true ws.length A++A2.map fun j=>(true,i,j))) ⟨ps,es,pe,_,rfl,pi,by rw[Xy,I_];exact hsub⟩ ?_ ?_
  ·rintro Z H ⟨ps,es,pe,v8,rfl,pi,hsub⟩;exact⟨trivial,hM.out _ _ ⟨ps,es,pe,_,_,rfl,pi,by rw[sy];exact hsub⟩⟩
  rintro A2 j B2 Z H N2 e2 ⟨ps,es,pe,v8,rfl,pi,hsub⟩ hN2;refine⟨trivial,?_⟩;have hj:j<ws.length:=C_.mp (by rw[e2];simp);have hN':=Box.mk hN2;have hs1:=uY (y:=(true,i,j)) hsub;have hs2:=uZ (y:=(true,i,j)) hsub;rw[Xn,show [(true,i,j)]=[j].map fun j=>(true,i,j) from rfl,<- z_] at hs1 hs2;clear hN2 e2 hM rg hsub;walk_at "";by_cases hij:(i:Int)=(j:Int)
  ·rw[P_ hij];simp only[XN,H_,Xh];exact hN'.out _ _ ⟨ps,es,pe,_,rfl,pi,hs2⟩
  rw[B_ hij];simp only[Yr,if_true];refine⟨.inl ⟨by decide,by decide⟩,d,_,rfl,by omega,pi.w.cl,fun n H6 n0 n1 hD=>?_⟩;have pi2:=pi.drw hD;clear pi hD;have g1:=pi2.w.hd;have g2:=pi2.w.tl.hd;walk_at "";have stay:=Box.mk (hN'.out [some (.ref d),some (.ref a),some (.ref o),some (.int lots),some (.int (ws.length:Int)),some (.ref pp),some (.ref pe),some (.int (i:Int)),some (.int (j:Int)),none] H6 ⟨ps,es,pe,_,rfl,pi2,hs2⟩);split
  ·split
   ·rename_i h12;have h12':ps.length<12:=by have:=Xv h12;omega
    have el:=pi2.el;have e1:ps.map pT3++[T.tup [T.str (Str.ofString "with"),T.int (i:Int),T.int (j:Int)]]=(ps++[(true,i,j)]).map pT3:=by rw[z_];rfl
    rw[e1];refine⟨⟨trivial,trivial⟩,by decide,by omega,by decide,by decide,by decide,fun q0 hq0=>?_⟩;have gpe:up3 H6 pp (.lst ((ps++[(true,i,j)]).map pT3)) pe=some (.lst es):=by rw[aC pi2.ne];exact g2
    rw[aC (aX gpe hq0),gpe,lR];refine⟨by rw[e_,e_,Yv];omega,fun q hq=>?_⟩;exact hN'.out _ _ ⟨ps++[(true,i,j)],es++[T.tup [T.int (i:Int),T.int (j:Int)],T.tup [T.int (j:Int),T.int (i:Int)]],q,_,rfl,pi2.add pp0 h12' ⟨fun h=>hij (by have:i=j:=h;rw[this]),hi,hj⟩ hq0 hq rfl rfl,hs1⟩
   first | exact stay.out | trivial
  first | exact stay.out | trivial
 rintro Z H ⟨ps,es,pe,v7,v8,rfl,pi,hsub⟩;refine⟨trivial,?_⟩;clear pi0;walk_at "n";refine aD fun R4 hR4=>?_;have gpe:=pi.w.tl.hd;walk_at "";refine⟨ws.length,pe,es,rfl,w8,gpe,pi.ea,fun pt as H7 tb=>?_⟩;have tq:Tq d H3 H7 pt ws.length as:=tb.tq pi.w.cl pi.w.kp;have npt:pt≠pp:=Ne.symm (aX pi.w.hd tb.f0);have nas:∀x∈as,x≠pp:=fun x hx=>Ne.symm (aX pi.w.hd (tb.fa x hx));have pi1:=pi.sub tb.sb;clear pi tb gpe;walk_at "n";refine aD fun R5 hR5=>?_;walk_at "";refine⟨trivial,by omega,by omega,?_⟩;try rw[rg]
 refine aQ (fun (i:Nat)=>T.int (i:Int)) (List.range ws.length) (fun A Z H=>∃(ps:List (Bool × Nat × Nat)) (v7 v8:Option T),Z=[some (.ref d),some (.ref a),some (.ref o),some (.int lots),some (.int (ws.length:Int)),some (.ref pp),some (.ref pe),v7,v8,some (.ref pt)]/\PI d H3 H pp pe a ws ps es/\Tq d H3 H pt ws.length as/\ps.Sublist (enm true ws.length (List.range ws.length)++enm false ws.length A)) ⟨ps,_,_,rfl,pi1,tq,by rw[show enm false ws.length []=[] from rfl,I_];exact hsub⟩ ?_ ?_;rotate_left
 ·rintro A i B Z H N e ⟨ps,v7,v8,rfl,pi,tq,hsub⟩ hN;refine⟨trivial,?_⟩;have hi:i<ws.length:=C_.mp (by rw[e];simp);have hM:=Box.mk hN;clear hN e pi1 k' hR5;walk_at "";refine⟨trivial,by omega,by omega,?_⟩;try rw[rg]
  refine aQ (fun (i:Nat)=>T.int (i:Int)) (List.range ws.length) (fun A2 Z H=>∃(ps:List (Bool × Nat × Nat)) (v8:Option T),Z=[some (.ref d),some (.ref a),some (.ref o),some (.int lots),some (.int (ws.length:Int)),some (.ref pp),some (.ref pe),some (.int (i:Int)),v8,some (.ref pt)]/\PI d H3 H pp pe a ws ps es/\Tq d H3 H pt ws.length as/\ps.Sublist (enm true ws.length (List.range ws.length)++enm false ws.length A++A2.map fun j=>(false,i,j))) ⟨ps,_,rfl,pi,tq,by rw[Xy,I_];exact hsub⟩ ?_ ?_
  ·rintro Z H ⟨ps,v8,rfl,pi,tq,hsub⟩;exact⟨trivial,hM.out _ _ ⟨ps,_,_,rfl,pi,tq,by rw[sy,<- Xn];exact hsub⟩⟩
  rintro A2 j B2 Z H N2 e2 ⟨ps,v8,rfl,pi,tq,hsub⟩ hN2;refine⟨trivial,?_⟩;have hj:j<ws.length:=C_.mp (by rw[e2];simp);have hN':=Box.mk hN2;have hs1:=uY (y:=(false,i,j)) hsub;have hs2:=uZ (y:=(false,i,j)) hsub;rw[Xn (_++_),show [(false,i,j)]=[j].map fun j=>(false,i,j) from rfl,<- z_] at hs1 hs2;clear hN2 e2 hM rg hsub;walk_at "";by_cases hij:(i:Int)=(j:Int)
  ·rw[P_ hij];simp only[XN,H_,Xh];exact hN'.out _ _ ⟨ps,_,rfl,pi,tq,hs2⟩
  rw[B_ hij];simp only[Yr,if_true];refine⟨d,_,rfl,by omega,pi.w.cl,fun n H6 n0 n1 hD=>?_⟩;have pi2:=pi.drw hD;have tq2:=tq.drw hD;clear pi hD tq;have g1:=pi2.w.hd;have gt:=tq2.t;obtain⟨ri,bi,gi,hri,li,gri⟩:=tq2.at' hi;obtain⟨rj,bj,gj,hrj,lj,grj⟩:=tq2.at' hj;obtain⟨x1,gx1⟩:=xn (show j<bi.length by omega);obtain⟨x2,gx2⟩:=xn (show i<bj.length by omega);clear li lj;have stay:=Box.mk (hN'.out [some (.ref d),some (.ref a),some (.ref o),some (.int lots),some (.int (ws.length:Int)),some (.ref pp),some (.ref pe),some (.int (i:Int)),some (.int (j:Int)),some (.ref pt)] H6 ⟨ps,_,rfl,pi2,tq2,hs2⟩);have e1:ps.map pT3++[T.tup [T.str (Str.ofString "apart"),T.int (i:Int),T.int (j:Int)]]=(ps++[(false,i,j)]).map pT3:=by rw[z_];rfl
  have go:decide ((ps.length:Int)<12)=true->N2 [some (.ref d),some (.ref a),some (.ref o),some (.int lots),some (.int (ws.length:Int)),some (.ref pp),some (.ref pe),some (.int (i:Int)),some (.int (j:Int)),some (.ref pt)] (up3 H6 pp (O3.lst (List.map pT3 ps++[T.tup [T.str (Str.ofString "apart"),T.int (i:Int),T.int (j:Int)]]))):=fun h12=>by rw[e1];exact hN'.out _ _ ⟨ps++[(false,i,j)],_,rfl,pi2.add1 pp0 (by have:=Xv h12;omega) ⟨fun h=>hij (by have:i=j:=h;rw[this]),hi,hj⟩,tq2.set npt nas,hs1⟩
  have go':=Box.mk go;have l12:=pi2.l12;clear go e1;walk_at ""
  repeat' split
  all_goals first | exact stay.out | exact⟨⟨trivial,trivial⟩,by decide,by omega,go'.out (by assumption)⟩ | trivial
 rintro Z H ⟨ps,v7,v8,rfl,pi,tq,hsub⟩;refine⟨trivial,?_⟩;clear pi1;walk_at "n";refine aD fun R6 hR6=>?_;have g1:=pi.w.hd;have l12:=pi.l12;walk_at "";refine⟨d,pp,ps.map pT3,rfl,(pi.w.at' _ i_).2,g1,Vd ps,by rw[b_];omega,pi.w.cl,fun ys H8 q hperm hD hq=>?_⟩;obtain⟨ps',hp',rfl⟩:=jA hperm ps rfl;have nd':ps'.Nodup:=(hp'.nodup_iff).mpr ((Hv ⟨ws.length,by omega⟩).sublist hsub);have ok':∀x∈ps',x.2.1≠x.2.2/\x.2.1<ws.length/\x.2.2<ws.length:=fun x hx=>pi.ok x (hp'.mem_iff.mp hx);have l12':ps'.length<=12:=by rw[hp'.length_eq];exact l12
 have w9:=(pi.w.drw hD).tl.tl.new (o:=.lst (ps'.map pT3)) hq;have tq9:=(tq.drw hD).new (o:=.lst (ps'.map pT3)) hq;generalize up3 H8 q (.lst (ps'.map pT3))=H9 at w9 tq9;clear hD hq pi tq hperm hp' hsub g1 l12 rg;walk_at "n";have gq:=w9.hd;have gA:=w9.tl.hd;try dsimp only
 walk_at "";walk_at "c";refine ir (fun x:Bool × Nat × Nat=>.str (bw x.1)) (fun x=>.int (x.2.1:Int)) (fun x=>.int (x.2.2:Int)) (fun x=>prT (nmP ws x)) (fun _=>true) ps' [some (.ref a)] (.inl gq) (by omega) (fun x hx Q' hq=>hq) (fun x hx _ Q' hq=>?_) (fun p hp=>?_)
 ·have o:=ok' x hx;have a1:=getD_at o.2.1;have a2:=getD_at o.2.2;have hq':=Box.mk hq;clear k' hq;walk_at "";exact⟨by decide,hq'.out⟩
 rw[show ps'.filter (fun _=>true)=ps' from YX.mpr fun _ _=>rfl] at *;rw[show ps'.map (fun x=>prT (nmP ws x))=(ps'.map (nmP ws)).map prT by rw[Xi];rfl];have w10:=w9.new (o:=.lst ((ps'.map (nmP ws)).map prT)) hp;have tq10:=tq9.new (o:=.lst ((ps'.map (nmP ws)).map prT)) hp;generalize up3 H9 p (.lst ((ps'.map (nmP ws)).map prT))=H10 at w10 tq10;walk_at "";exact⟨by decide,Fin3.of Sub3.refl (k'.out (ps'.map (nmP ws)) pt as H10 (by rw[b_];exact l12') (Qe hws.nd nd' ok') (fun x hx=>by obtain⟨y,hy,rfl⟩:=x_.mp hx;exact Qf hws.nd (ok' y hy)) w10.cl w10.kp tq10)⟩
abbrev j6:List Str:=["_law_size","_law_number","_law_names_here","_law_letters","_law_found","_law_turn_here","_law_left","_law_name","_law_k"]
theorem sc_free_name:FnScope j6 ["_law_size","_law_number","_law_names_here"] (aB (top 33)):=bh
theorem qC {f:Addr}{fd:FuncData}(g:G3 K mg "_law_free_name" (top 33) ["_law_size","_law_number","_law_names_here"] f fd) (B:Bl mg):Cal P w K mg base 1 "_law_free_name" (top 33) ["_law_size","_law_number","_law_names_here"] U9:=by
 refine⟨f,fd,g,?_⟩;refine fn3 g.fn sc_free_name (fun ts H Q h=>?_) (fun cdv A outer s H E ts H3 Q hr h=>?_)
 ·obtain⟨sz,num,a,ws,rfl,_⟩:=h;rfl
 have hu30:=Room.u30 hr;have hu31:=Room.u31 hr;obtain⟨sz,num,a,ws,rfl,s1,s8,ha,hl,k⟩:=h;refine⟨_,(ao (aG (i:=3) sc_free_name.nd d9)
   (ao (aG (i:=4) sc_free_name.nd d9)
   (ao (bc A_ rfl (aN rfl B.range_ (aa (aH aY (aM bH rfl B.len_ bI (aa (v3 2) ak)) aq) ak)) (aF (i:=5) sc_free_name.nd) (ao (aG (i:=6) sc_free_name.nd (aH aY (v3 1) (v3 5)))
    (ao (aG (i:=7) sc_free_name.nd d9)
    (ao (bc A_ rfl (aN rfl B.range_ (aa (v3 0) ak)) (aF (i:=8) sc_free_name.nd) (ao (aG (i:=7) sc_free_name.nd (aH aY (v3 7) (aK ix3 (v3 3) (aH dW (v3 6) aq))))
     (au (aG (i:=6) sc_free_name.nd (aH gm (v3 6) aq)))))
    (au (bQ (PW3.pt (cB (aW (bR hu30) (v3 4) d9) (cG (aW (q8 hu31) (v3 7) (v3 2) rfl)))) (au (aG (i:=4) sc_free_name.nd (v3 7))) aZ))))))
   (au (aO (v3 4)))))),?_⟩
 rw[show aR j6 [T.int (sz:Int),T.int num,T.ref a]=[some (T.int (sz:Int)),some (T.int num),some (T.ref a),none,none,none,none,none,none] from rfl];have hsz:sizeLine=16777216:=rfl;have al:(mkS j9).length<=sizeLine:=by rw[dM];decide
 have k':=Box.mk k;clear k;have e0:("":Str)=mkS []:=by decide +kernel
 refine aD fun R0 hR0=>?_;walk_at "";simp only[Cp];walk_at "n";refine aD fun R1 hR1=>?_;walk_at "";walk_at "n";refine aD fun R2 hR2=>?_;walk_at "";refine⟨by first | trivial | omega,by omega,by omega,?_⟩;rw[show dh 0 ((ws.length:Int)+1).toNat=(List.range (ws.length+1)).map (fun (i:Nat)=>T.int (i:Int)) by rw[show ((ws.length:Int)+1).toNat=ws.length+1 by omega];exact dm _];refine aQ (fun (i:Nat)=>T.int (i:Int)) (List.range (ws.length+1)) (fun A Z H=>∃(fo:Str) (v5 v6 v7 v8:Option T),Z=[some (.int (sz:Int)),some (.int num),some (.ref a),some (.str (mkS j9)),some (.str fo),v5,v6,v7,v8]/\H3=H/\((fo=""/\∀i∈A,mkS (dg sz (num+i))∈ws)\/(isNm fo/\fo∉ws))) ⟨"",_,_,_,_,rfl,rfl,.inl ⟨rfl,(fun _ h=>nomatch h)⟩⟩ ?_ ?_
 ·rintro Z H ⟨fo,v5,v6,v7,v8,rfl,rfl,hfo⟩;refine⟨trivial,?_⟩;walk_at "n";walk_at "";rcases hfo with ⟨_,hall⟩ | ⟨h1,h2⟩
  ·exfalso;obtain⟨n,rfl⟩:∃n,sz=n+1:=⟨sz - 1,by omega⟩;exact pig ws (fun i=>mkS (dg (n+1) (num+i))) (fun i j hi hj h=>Qc (by omega) (by omega) h) fun i hi=>hall i (C_.mpr (by omega))
  exact Fin3.of Sub3.refl (k'.out fo h1 h2)
 rintro A i B Z H N e ⟨fo,v5,v6,v7,v8,rfl,rfl,hfo⟩ hN;refine⟨trivial,?_⟩;have hN':=Box.mk hN;have hfo':=Box.mk hfo;clear hN hfo e k' hR2;refine aD fun R3 hR3=>?_;walk_at "";walk_at "n";refine aD fun R4 hR4=>?_;walk_at "";walk_at "n";refine aD fun R5 hR5=>?_;walk_at "";refine⟨by first | trivial | omega,by omega,by omega,?_⟩;have hrl:(dh 0 sz).length=sz:=by unfold dh;rw[b_,h_]
 generalize dh 0 sz=ts0 at hrl;try rw[e0]
 refine kW (fun r Z H=>∃(pre:List Nat) (lf:Int) (v8:Option T),Z=[some (.int (sz:Int)),some (.int num),some (.ref a),some (.str (mkS j9)),some (.str fo),some (.int (i:Int)),some (.int lf),some (.str (mkS pre)),v8]/\pre++dg r.length lf=dg sz (num+i)/\pre.length+r.length=sz/\H3=H) ⟨[],num+i,_,rfl,by rw[hrl];rfl,by rw[hrl];exact Nat.zero_add _,rfl⟩ ?_ ?_
 ·rintro Z H ⟨pre,lf,v8,rfl,hpre,hpl,rfl⟩;refine⟨trivial,?_⟩;rw[Yv,dg,I_] at hpre;subst hpre;walk_at "n";walk_at "";have nmx:isNm (mkS (dg sz (num+(i:Int)))):=JR (by rw[uX];omega) (by rw[uX];omega) (J0 _ _);by_cases q:fo=mkS []
  ·rw[P_ q,if_pos rfl];refine⟨rfl,gG ws,?_⟩;split
   ·rename_i hm;exact hN'.out _ _ ⟨_,_,_,_,_,rfl,rfl,.inr ⟨nmx,(UW ju (x:=mkS (dg sz (num+(i:Int))))).mp hm⟩⟩
   rename_i hm;have hin:mkS (dg sz (num+(i:Int)))∈ws:=Classical.byContradiction fun h=>hm ((UW ju).mpr h);rcases hfo'.out with ⟨_,hall⟩ | h
   ·exact hN'.out _ _ ⟨fo,_,_,_,_,rfl,rfl,.inl ⟨q.trans e0.symm,fun j hj=>by
     rcases E_.mp hj with hj | hj
     ·
      exact hall j hj
     ·
      rw[g_.mp hj];exact hin⟩⟩
   exact hN'.out _ _ ⟨fo,_,_,_,_,rfl,rfl,.inr h⟩
  rw[B_ q,if_neg u_];rcases hfo'.out with ⟨h,_⟩ | h
  ·exact absurd (h.trans e0) q
  exact hN'.out _ _ ⟨fo,_,_,_,_,rfl,rfl,.inr h⟩
 rintro x r Z H N2 ⟨pre,lf,v8,rfl,hpre,hpl,rfl⟩ hN2;refine⟨trivial,?_⟩;rw[e_] at hpre hpl;rw[dg] at hpre;have hM:=Box.mk hN2;have hpre':=Box.mk hpre;have hpl':pre.length<8:=by omega
 have hpl2:=Box.mk hpl;have hch:=Cq (lf%26) (XM _ (by decide)) (XJ _ (by decide));clear hN2 hN' hfo' hR5 hpre hpl;walk_at "";simp only[dj,hch,ig];walk_at "";rw[show (⟨#[97+(lf%26).toNat]⟩:Str)=mkS [97+(lf%26).toNat] from rfl];refine⟨by decide,al,by rw[dM,dM];simp only[q_];omega,⟨by decide,by decide +kernel⟩,?_⟩;rw[qg];exact hM.out _ _ ⟨_,_,_,rfl,by rw[Xn];exact hpre'.out,by rw[a_,q_];have:=hpl2.out;omega,rfl⟩
abbrev qD:List Str:=["_law_deck","_law_many","_law_letters","_law_found","_law_k","_law_base","_law_at","_law_spot"]
theorem sc_names:FnScope qD ["_law_deck","_law_many"] (aB (top 34)):=bh
theorem DP {f:Addr}{fd:FuncData}(g:G3 K mg "_law_names" (top 34) ["_law_deck","_law_many"] f fd) (B:Bl mg) (F_draw:Cal P w K mg base 1 "_law_draw" (top 31) ["_law_deck","_law_most"] mq) (F_free_name:Cal P w K mg base 1 "_law_free_name" (top 33) ["_law_size","_law_number","_law_names_here"] U9):Cal P w K mg base 2 "_law_names" (top 34) ["_law_deck","_law_many"] Va:=by
 refine⟨f,fd,g,?_⟩;refine fn3 g.fn sc_names (fun ts H Q h=>?_) (fun cdv A outer s H E ts H3 Q hr h=>?_)
 ·obtain⟨d,m,rfl,_⟩:=h;rfl
 obtain⟨d,m,rfl,m1,m8,hC,k⟩:=h;refine⟨_,(ao (aG (i:=2) sc_names.nd d9)
   (ao (aG (i:=3) sc_names.nd (bK ak))
   (ao (bQ (aW RB (aL F_draw hr rfl (aa (v3 0) (aa aq ak))) aq) (ao (bc A_ rfl (aN rfl B.range_ (aa (v3 1) ak)) (aF (i:=4) sc_names.nd) (au (bL (bZ t_ M_ N_ bB (v3 3) (aa (aL F_free_name hr rfl (aa (aH aY aq (aL F_draw hr rfl (aa (v3 0) (aa aq ak)))) (aa (aL F_draw hr rfl (aa (v3 0) (aa (aH gC aq aq) ak))) (aa (v3 3) ak)))) ak)))))
    (au (aO (v3 3)))) aZ)
   (ao (aG (i:=5) sc_names.nd (aL F_free_name hr rfl (aa (aH aY aq (aL F_draw hr rfl (aa (v3 0) (aa aq ak)))) (aa (aL F_draw hr rfl (aa (v3 0) (aa (aH gC aq aq) ak))) (aa (bK ak) ak)))))
   (ao (aG (i:=6) sc_names.nd (aL F_draw hr rfl (aa (v3 0) (aa (aM bH rfl B.len_ bI (aa (v3 5) ak)) ak))))
   (ao (aG (i:=7) sc_names.nd (bZ PySem.F.plainAttrs_str PySem.F.slot_str_index PySem.F.type_str_index Ac (v3 2) (aa (aK ix3 (v3 5) (v3 6)) ak)))
   (au (aO (bx rfl (bF (n0:=(aB (top 34)).names) (N:=qD) (N':=["_law_k","_law_base","_law_letters","_law_at","_law_spot"]) (nt:=1) (cap:=[5,2,6,7]) rfl rfl (by decide +kernel)) (aN rfl B.range_ (aa (v3 1) ak)) (fun cl pins s H C0 fp=>⟨(aF (i:=0) (show List.Nodup [("_law_k":Str),("_law_base":Str),("_law_letters":Str),("_law_at":Str),("_law_spot":Str)] by decide +kernel)),bW,(aH aY (aH aY (jn (v3 1) jm (fJ (v3 3))) (aK ix3 (v3 2) (aH dW (aH aY (v3 4) (v3 0)) aq))) (jn (v3 1) (fJ (aH aY (v3 3) aq)) jm))⟩)))))))))),?_⟩
 rw[show aR qD [T.ref d,T.int (m:Int)]=[some (T.ref d),some (T.int (m:Int)),none,none,none,none,none,none] from rfl];have hsz:sizeLine=16777216:=rfl;have al:(mkS j9).length<=sizeLine:=by rw[dM];decide
 have k':=Box.mk k;clear k;have w0:Wt d H3 H3 []:=⟨hC,Kep.refl,(fun _ h=>nomatch h)⟩;clear hC;refine aD fun R0 hR0=>?_;walk_at "";simp only[Cp];walk_at "n";refine aD fun R1 hR1=>?_;walk_at "";refine⟨by omega,fun pf hpf=>?_⟩;have f0:=w0.fresh hpf;have npd:=w0.cl.ne hpf;have w1:=w0.new (o:=.lst []) hpf;generalize up3 H3 pf (.lst [])=H4 at w1;clear w0 hpf;walk_at "n";refine aD fun R2 hR2=>?_;walk_at "";refine⟨d,3,rfl,by decide,w1.cl,fun way H5 y0 y1 hD=>?_⟩;have w2:=w1.drw hD;clear w1 hD;walk_at "";have rg:dh 0 m=(List.range m).map fun (i:Nat)=>T.int (i:Int):=dm m;by_cases hw:0<way
 ·rw[P_ hw,if_pos rfl];clear hR2;refine⟨by first | trivial | omega,by omega,by omega,?_⟩;try rw[rg]
  refine aQ (fun (i:Nat)=>T.int (i:Int)) (List.range m) (fun A Z H=>∃(ws:List Str) (v4:Option T),Z=[some (.ref d),some (.int (m:Int)),some (.str (mkS j9)),some (.ref pf),v4,none,none,none]/\Nms ws/\ws.length=A.length/\Wt d H3 H [(pf,.lst (ws.map T.str))]) ⟨[],_,rfl,Nms.nil,rfl,w2⟩ ?_ ?_
  ·rintro Z H ⟨ws,v4,rfl,hn,hl,w⟩;refine⟨trivial,?_⟩;rw[h_] at hl;clear w2;walk_at "";exact fM w.cl w.kp w.hd f0 npd fun H1 hD h1=>k'.out ws H1 pf hl hn hD h1
  rintro A i B Z H N e ⟨ws,v4,rfl,hn,hl,w⟩ hN;refine⟨trivial,?_⟩;have hA:A.length<8:=by have:=T_ List.length e;simp only[a_,e_,h_] at this;omega
  have hN':=Box.mk hN;have g:=w.hd;clear hN e k' w2;walk_at "";refine⟨⟨trivial,trivial⟩,d,8,rfl,by decide,w.cl,fun n1 H6 p0 p1 hD1=>?_⟩;have w3:=w.drw hD1;clear w g hD1;walk_at "";refine⟨⟨by decide,by decide,by decide⟩,d,_,rfl,by decide,w3.cl,fun n2 H7 q0 q1 hD2=>?_⟩;have w4:=w3.drw hD2;have g4:=w4.hd;clear w3 hD2;try dsimp only
  refine⟨(1+n1).toNat,n2,pf,ws,by rw[YW (by omega)],by omega,by omega,g4,by omega,fun x hx hnx=>?_⟩;walk_at "";refine⟨by omega,hN'.out _ _ ⟨ws++[x],_,rfl,hn.snoc hx hnx,by rw[a_,a_,hl];rfl,?_⟩⟩;have w5:=w4.set f0 (fun _ h=>nomatch h) (.lst (ws.map T.str++[T.str x]));rw[z_];exact w5
 rw[B_ hw,if_neg u_];walk_at "n";refine aD fun R3 hR3=>?_;walk_at "";refine⟨d,8,rfl,by decide,w2.cl,fun n1 H6 p0 p1 hD1=>?_⟩;have w3:=w2.drw hD1;clear w2 hD1;walk_at "";refine⟨⟨by decide,by decide,by decide⟩,d,_,rfl,by decide,w3.cl,fun n2 H7 q0 q1 hD2=>?_⟩;have w4:=w3.drw hD2;clear w3 hD2;refine⟨by omega,fun pe hpe=>?_⟩;have w5:=w4.new (o:=.lst []) hpe;have ge:=w5.hd;generalize up3 H7 pe (.lst [])=H8 at w5 ge;clear w4 hpe;refine⟨(1+n1).toNat,n2,pe,[],by rw[YW (by omega)],by omega,by omega,ge,by decide,fun x hx _=>?_⟩;have w6:=w5.tl;clear w5 ge;obtain⟨l,rfl⟩:=uU x;have e1:=hx.lo;have e2:=hx.hi;have e3:=hx.az;rw[dM] at e1 e2;rw[dj] at e3;have ml:=dM l;walk_at "n";refine aD fun R4 hR4=>?_;walk_at "";refine⟨by first | trivial | omega,d,_,rfl,by omega,w6.cl,fun n3 H9 r0 r1 hD3=>?_⟩;have w7:=w6.drw hD3;clear w6 hD3;obtain⟨at',rfl⟩:∃at':Nat,n3=(at':Int):=⟨n3.toNat,by omega⟩;have hat:at'<l.length:=by omega
 walk_at "n";refine aD fun R5 hR5=>?_;have ga:atI l (at':Int)=some l[at']:=bu (d_ hat);have gz:=e3 _ (Xp hat);generalize l[at']=ch at ga gz;have hix:=Pj ch gz.1 gz.2;walk_at "";refine⟨trivial,by omega,?_⟩;rw[dj,ga,ig,show (⟨#[ch]⟩:Str)=mkS [ch] from rfl,hix];clear ga hix;walk_at "";walk_at "n";walk_at "";refine⟨by first | trivial | omega,by omega,by omega,?_⟩;try rw[rg]
 walk_at "c";refine dH (fun (i:Nat)=>T.int (i:Int)) (fun i=>.str (nmK l at' (ch - 97) i)) (List.range m) [some (.str (mkS l)),some (.str (mkS j9)),some (.int (at':Int)),some (.int ((ch - 97:Nat):Int))] trivial (by rw[h_];omega) (fun i hi Q' hq=>?_) (fun p hp=>?_)
 ·have hch:=Cq ((((ch - 97:Nat):Int)+(i:Int))%26) (XM _ (by decide)) (XJ _ (by decide));have st:=U3 l at' (by omega);have sf:=Ha l (at'+1) (by omega);rw[show ((at'+1:Nat):Int)=(at':Int)+1 by omega] at sf;have hq':=Box.mk hq;clear k' hq rg;walk_at "";refine⟨by omega,by decide,by rw[dM];decide,?_⟩;rw[dj,hch,ig,show (⟨#[97+((((ch - 97:Nat):Int)+(i:Int))%26).toNat]⟩:Str)=mkS [97+((((ch - 97:Nat):Int)+(i:Int))%26).toNat] from rfl];rw[qg,qg];simp only[dM,a_,X_,Yz,q_];exact⟨by omega,by omega,by omega,hq'.out⟩
 have el:(List.range m).map (fun i=>T.str (nmK l at' (ch - 97) i))=((List.range m).map (nmK l at' (ch - 97))).map T.str:=by rw[Xi];rfl
 rw[el];have w8:=w7.new (o:=.lst (((List.range m).map (nmK l at' (ch - 97))).map T.str)) hp;exact fM w8.cl w8.kp w8.hd (w7.fresh hp) (w7.cl.ne hp) fun H1 hD h1=>k'.out _ H1 p (by rw[b_,h_]) (Hu e2 hat e3 m8) hD h1
abbrev iR:List Str:=["_law_deck","_law_many","_law_way","_law_base"]
theorem sc_lengths:FnScope iR ["_law_deck","_law_many"] (aB (top 36)):=bh
theorem vG {f:Addr}{fd:FuncData}(g:G3 K mg "_law_lengths" (top 36) ["_law_deck","_law_many"] f fd) (B:Bl mg) (F_draw:Cal P w K mg base 1 "_law_draw" (top 31) ["_law_deck","_law_most"] mq) (F_great:Cal P w K mg base 2 "_law_great" (top 32) ["_law_deck","_law_most"] P0):Cal P w K mg base 3 "_law_lengths" (top 36) ["_law_deck","_law_many"] U7:=by
 refine⟨f,fd,g,?_⟩;refine fn3 g.fn sc_lengths (fun ts H Q h=>?_) (fun cdv A outer s H E ts H3 Q hr h=>?_)
 ·obtain⟨d,m,rfl,_⟩:=h;rfl
 have hu30:=Room.u30 hr;obtain⟨d,m,rfl,hm,hC,k⟩:=h;refine⟨_,(ao (aG (i:=2) sc_lengths.nd (aL F_draw hr rfl (aa (v3 0) (aa aq ak))))
   (ao (bQ (aW (bR hu30) (v3 2) aq) (au (aO (bx rfl (bF (n0:=(aB (top 36)).names) (N:=iR) (N':=["_law_k","_law_deck"]) (nt:=1) (cap:=[0]) rfl rfl (by decide +kernel)) (aN rfl B.range_ (aa (v3 1) ak)) (fun cl pins s H C0 fp=>⟨(aF (i:=0) (show List.Nodup [("_law_k":Str),("_law_deck":Str)] by decide +kernel)),bW,(aH aY aq (aL F_great hr rfl (aa (v3 1) (aa (aH pL (aH gC aq aq) aq) ak))))⟩)))) aZ)
   (ao (aG (i:=3) sc_lengths.nd (aH aY aq (aL F_great hr rfl (aa (v3 0) (aa (aK ix3 (bK (aa aq (aa aq (aa (aH gC aq aq) ak)))) (aH pL (v3 2) aq)) ak)))))
   (au (aO (bx rfl (bF (n0:=(aB (top 36)).names) (N:=iR) (N':=["_law_k","_law_base","_law_deck"]) (nt:=1) (cap:=[3,0]) rfl rfl (by decide +kernel)) (aN rfl B.range_ (aa (v3 1) ak)) (fun cl pins s H C0 fp=>⟨(aF (i:=0) (show List.Nodup [("_law_k":Str),("_law_base":Str),("_law_deck":Str)] by decide +kernel)),bW,(aH aY (aH gW (v3 1) (aH aY aq (aL F_draw hr rfl (aa (v3 2) (aa aq ak))))) (aH gm (aL F_draw hr rfl (aa (v3 2) (aa aq ak))) aq))⟩))))))),?_⟩
 rw[show aR iR [T.ref d,T.int (m:Int)]=[some (T.ref d),some (T.int (m:Int)),none,none] from rfl];have hsz:sizeLine=16777216:=rfl;have k':=Box.mk k;clear k;have w0:Wt d H3 H3 []:=⟨hC,Kep.refl,(fun _ h=>nomatch h)⟩;clear hC;refine aD fun R0 hR0=>?_;walk_at "";refine⟨d,4,rfl,by decide,w0.cl,fun way H4 y0 y1 hD=>?_⟩;have w1:=w0.drw hD;clear w0 hD;walk_at "n";refine aD fun R1 hR1=>?_;walk_at "";have rg:dh 0 m=(List.range m).map fun (i:Nat)=>T.int (i:Int):=dm m;by_cases hw:way=0
 ·rw[P_ hw,if_pos rfl];clear hR1;refine⟨trivial,by omega,by omega,?_⟩;try rw[rg]
  walk_at "c";refine c7 (fun (i:Nat)=>T.int (i:Int)) (List.range m) (fun A ys Z H=>∃(ls:List Int) (v:Option T),Z=[v,some (.ref d)]/\ys=ls.map T.int/\ls.length=A.length/\(∀l∈ls,1<=l/\l<10^60)/\Wt d H3 H []) ⟨[],_,rfl,rfl,rfl,(fun _ h=>nomatch h),w1⟩ ?_ ?_
  ·rintro ys Z H ⟨ls,v,rfl,rfl,hl,hr,w⟩;rw[h_] at hl;refine⟨trivial,by rw[b_];omega,fun p hp=>?_⟩;have w2:=w.new (o:=.lst (ls.map T.int)) hp;exact fM w2.cl w2.kp w2.hd (w.fresh hp) (w.cl.ne hp) fun H1 hD h1=>k'.out ls H1 p hl hr hD h1
  rintro A i B ys Z H N e ⟨ls,v,rfl,rfl,hl,hr,w⟩ hN;refine⟨trivial,?_⟩;have hA:A.length<8:=by have:=T_ List.length e;simp only[a_,e_,h_] at this;omega
  have hN':=Box.mk hN;clear hN e k' w1;walk_at "";refine⟨⟨by decide,by decide,by decide⟩,d,_,rfl,by rw[t60];decide,w.cl,fun n H5 n0 n1 hD=>?_⟩;rw[t60] at n1;walk_at "";refine⟨by omega,hN'.out _ _ _ ⟨ls++[1+n],_,rfl,by rw[z_];rfl,by rw[a_,a_,hl];rfl,fun l hl'=>?_,w.drw hD⟩⟩;rcases E_.mp hl' with h | h
  ·exact hr l h
  rw[g_.mp h,U8];omega
 rw[B_ hw,if_neg u_];walk_at "n";refine aD fun R2 hR2=>?_;walk_at "";refine⟨⟨by decide,by decide,by decide⟩,by decide,fun p hp=>?_⟩;obtain⟨b,hbm,hb'⟩:=rB ([1,9,10^Int.toNat 58]:List Int) (way - 1) (by omega) (by show way - 1<3;omega);have hb2:atI [T.int 1,T.int 9,T.int (10^Int.toNat 58)] (way - 1)=some (T.int b):=by have:=lU T.int ([1,9,10^Int.toNat 58]:List Int) (way - 1);rw[hb'] at this;exact this
 have hb0:1<=b/\b<=10000000000000000000000000000000000000000000000000000000000:=by rw[t58] at hbm;simp only[l_,Xk,Yo] at hbm;rcases hbm with h | h | h <;> omega
 rw[hb2,ig];have w2:=(w1.new (o:=.lst [T.int 1,T.int 9,T.int (10^Int.toNat 58)]) hp).tl;generalize up3 H4 p (.lst [T.int 1,T.int 9,T.int (10^Int.toNat 58)])=H5 at w2;clear w1 hp hb2 hb' hbm;refine⟨d,b,rfl,by omega,w2.cl,fun n H6 n0 n1 hD=>?_⟩;have w3:=w2.drw hD;clear w2 hD;have u0:1<=1+n:=by omega
 have u1:1+n<=10000000000000000000000000000000000000000000000000000000000:=by omega
 try dsimp only
 walk_at "";generalize 1+n=bs at u0 u1;walk_at "n";walk_at "";refine⟨by first | trivial | omega,by omega,by omega,?_⟩;try rw[rg]
 walk_at "c";refine c7 (fun (i:Nat)=>T.int (i:Int)) (List.range m) (fun A ys Z H=>∃(ls:List Int) (v:Option T),Z=[v,some (.int bs),some (.ref d)]/\ys=ls.map T.int/\ls.length=A.length/\(∀l∈ls,1<=l/\l<10^60)/\Wt d H3 H []) ⟨[],_,rfl,rfl,rfl,(fun _ h=>nomatch h),w3⟩ ?_ ?_
 ·rintro ys Z H ⟨ls,v,rfl,rfl,hl,hr,w⟩;rw[h_] at hl;refine⟨trivial,by rw[b_];omega,fun p hp=>?_⟩;have w2:=w.new (o:=.lst (ls.map T.int)) hp;exact fM w2.cl w2.kp w2.hd (w.fresh hp) (w.cl.ne hp) fun H1 hD h1=>k'.out ls H1 p hl hr hD h1
 rintro A i B ys Z H N e ⟨ls,v,rfl,rfl,hl,hr,w⟩ hN;refine⟨trivial,?_⟩;have hA:A.length<8:=by have:=T_ List.length e;simp only[a_,e_,h_] at this;omega
 have hN':=Box.mk hN;clear hN e k' w3;walk_at "";refine⟨d,9,rfl,by decide,w.cl,fun n1 H7 p0 p1 hD1=>?_⟩;have w2:=w.drw hD1;walk_at "";refine⟨.inr ⟨by omega,by omega⟩,d,5,rfl,by decide,w2.cl,fun n2 H8 q0 q1 hD2=>?_⟩;have w4:=w2.drw hD2;walk_at "";refine⟨⟨by decide,by decide +kernel⟩,by omega,hN'.out _ _ _ ⟨ls++[bs*(1+n1)+n2 / 3],_,rfl,by rw[z_];rfl,by rw[a_,a_,hl];rfl,fun l hl'=>?_,w4⟩⟩;rcases E_.mp hl' with h | h
 ·exact hr l h
 rw[g_.mp h,U8];have m1:bs*(1+n1)<=bs*9:=Int.mul_le_mul_of_nonneg_left (by omega) (by omega);have m2:bs*1<=bs*(1+n1):=Int.mul_le_mul_of_nonneg_left (by omega) (by omega);omega
abbrev jG:List Str:=["_law_deck","_law_most","_law_stands","_law_names_here","_law_many","_law_turn_here","_law_orders","_law_lots","_law_i","_law_j","_law_pairs_here","_law_table","_law_kinds_here","_law_row","_law_some","_law_lengths_here","_law_tasks"]
theorem sc_works:FnScope jG ["_law_deck","_law_most","_law_stands"] (aB (top 41)):=bh
theorem DQ {f:Addr}{fd:FuncData}(g:G3 K mg "_law_works" (top 41) ["_law_deck","_law_most","_law_stands"] f fd) (B:Bl mg) (F_names:Cal P w K mg base 2 "_law_names" (top 34) ["_law_deck","_law_many"] Va) (F_draw:Cal P w K mg base 1 "_law_draw" (top 31) ["_law_deck","_law_most"] mq) (F_turn:Cal P w K mg base 2 "_law_turn" (top 35) ["_law_deck","_law_things"] Hq) (F_pairs:Cal P w K mg base 3 "_law_pairs" (top 38) ["_law_deck","_law_names_here","_law_orders","_law_lots"] Vc) (F_kinds:Cal P w K mg base 4 "_law_kinds" (top 40) ["_law_deck","_law_row","_law_names_here","_law_table"] Vf) (F_lengths:Cal P w K mg base 3 "_law_lengths" (top 36) ["_law_deck","_law_many"] U7):Cal P w K mg base 5 "_law_works" (top 41) ["_law_deck","_law_most","_law_stands"] Vi:=by
 refine⟨f,fd,g,?_⟩;refine fn3 g.fn sc_works (fun ts H Q h=>?_) (fun cdv A outer s H E ts H3 Q hr h=>?_)
 ·obtain⟨d,most,st,rfl,_⟩:=h;rfl
 have hu30:=Room.u30 hr;obtain⟨d,most,st,rfl,m1,m8,s1,s8,hC,k⟩:=h;refine⟨_,(ao (aG (i:=3) sc_works.nd (aL F_names hr rfl (aa (v3 0) (aa (aH aY aq (aL F_draw hr rfl (aa (v3 0) (aa (v3 1) ak)))) ak))))
   (ao (aG (i:=4) sc_works.nd (aM bH rfl B.len_ bI (aa (v3 3) ak)))
   (ao (aG (i:=5) sc_works.nd (aL F_turn hr rfl (aa (v3 0) (aa (Br rfl rfl B.list_ rfl B.range_ (v3 4)) ak))))
   (ao (aG (i:=6) sc_works.nd (bK ak))
   (ao (aG (i:=7) sc_works.nd (aH aY aq (aL F_draw hr rfl (aa (v3 0) (aa aq ak)))))
   (ao (bc A_ rfl (aN rfl B.range_ (aa (v3 4) ak)) (aF (i:=8) sc_works.nd) (au (bc A_ rfl (yr rfl B.range_ (aa (aH aY (v3 8) aq) (aa (v3 4) ak))) (aF (i:=9) sc_works.nd) (au (bQ (aW (bR hu30) (aL F_draw hr rfl (aa (v3 0) (aa (v3 7) ak))) aq) (au (bL (bZ t_ M_ N_ bB (v3 6) (aa (bD (aa (aK ix3 (v3 5) (v3 8)) (aa (aK ix3 (v3 5) (v3 9)) ak))) ak)))) aZ)))))
   (ao (aG (i:=6) sc_works.nd (aL F_turn hr rfl (aa (v3 0) (aa (v3 6) ak))))
   (ao (ul (aL F_pairs hr rfl (aa (v3 0) (aa (v3 3) (aa (v3 6) (aa (aH aY aq (aL F_draw hr rfl (aa (v3 0) (aa aq ak)))) ak))))) (cH (n:=2) rfl (aJ (aF (i:=10) sc_works.nd) (aJ (aF (i:=11) sc_works.nd) bN))))
   (ao (aG (i:=12) sc_works.nd (aL F_names hr rfl (aa (v3 0) (aa (aH aY aq (aL F_draw hr rfl (aa (v3 0) (aa aq ak)))) ak))))
   (ao (kJ (i:=13) rfl sc_works.nd (bF (n0:=(aB (top 41)).names) (N:=jG) (N':=["_law_k","_law_kinds_here","_law_deck"]) (nt:=1) (cap:=[12,0]) rfl rfl (by decide +kernel)) (aN rfl B.range_ (aa (aH aY aq (aL F_draw hr rfl (aa (v3 0) (aa (v3 2) ak)))) ak)) (fun cl pins s H C0 fp=>⟨(aF (i:=0) (show List.Nodup [("_law_k":Str),("_law_kinds_here":Str),("_law_deck":Str)] by decide +kernel)),bW,(aK ix3 (v3 1) (aL F_draw hr rfl (aa (v3 2) (aa (aM bH rfl B.len_ bI (aa (v3 1) ak)) ak))))⟩))
   (ao (aG (i:=14) sc_works.nd (aL F_kinds hr rfl (aa (v3 0) (aa (v3 13) (aa (v3 12) (aa (v3 11) ak))))))
   (ao (aG (i:=15) sc_works.nd (aL F_lengths hr rfl (aa (v3 0) (aa (v3 4) ak))))
   (ao (aG (i:=16) sc_works.nd (bG cP rfl B.tuple_ cD (aa (bx rfl (bF (n0:=(aB (top 41)).names) (N:=jG) (N':=["_law_k","_law_names_here","_law_lengths_here","_law_some"]) (nt:=1) (cap:=[3,15,14]) rfl rfl (by decide +kernel)) (aN rfl B.range_ (aa (v3 4) ak)) (fun cl pins s H C0 fp=>⟨(aF (i:=0) (show List.Nodup [("_law_k":Str),("_law_names_here":Str),("_law_lengths_here":Str),("_law_some":Str)] by decide +kernel)),bW,(bD (aa (aK ix3 (v3 1) (v3 0)) (aa (aK ix3 (v3 2) (v3 0)) (aa (aK ix3 (v3 3) (v3 0)) ak))))⟩)) ak)))
   (au (aO (bD (aa (v3 16) (aa (bG cP rfl B.tuple_ cD (aa (bx rfl (bF (n0:=(aB (top 41)).names) (N:=jG) (N':=["_law_i","_law_j","_law_names_here"]) (nt:=2) (cap:=[3]) rfl rfl (by decide +kernel)) (cM (v3 6)) (fun cl pins s H C0 fp=>⟨(cH (n:=2) rfl (aJ (aF (i:=0) (show List.Nodup [("_law_i":Str),("_law_j":Str),("_law_names_here":Str)] by decide +kernel)) (aJ (aF (i:=1) (show List.Nodup [("_law_i":Str),("_law_j":Str),("_law_names_here":Str)] by decide +kernel)) bN))),bW,(bD (aa (aK ix3 (v3 2) (v3 0)) (aa (aK ix3 (v3 2) (v3 1)) ak)))⟩)) ak)) (aa (v3 10) (aa (bG cP rfl B.tuple_ cD (aa (v3 13) ak)) ak)))))))))))))))))))),?_⟩
 rw[show aR jG [T.ref d,T.int most,T.int st]=[some (T.ref d),some (T.int most),some (T.int st),none,none,none,none,none,none,none,none,none,none,none,none,none,none] from rfl];have hsz:sizeLine=16777216:=rfl;have k':=Box.mk k;clear k;have w0:Wt d H3 H3 []:=⟨hC,Kep.refl,(fun _ h=>nomatch h)⟩;clear hC;refine aD fun R0 hR0=>?_;walk_at "";refine⟨d,most,rfl,by omega,w0.cl,fun n0 H4 a0 a1 hD0=>?_⟩;have w1:=w0.drw hD0;clear w0 hD0;walk_at "";refine⟨d,(1+n0).toNat,by rw[YW (by omega)],by omega,by omega,w1.cl,fun ws H5 pn hwl hws hD1 hpn=>?_⟩;have w2:=(w1.drw hD1).new (o:=.lst (ws.map T.str)) hpn;generalize up3 H5 pn (.lst (ws.map T.str))=H6 at w2;clear w1 hD1 hpn;have ws1:1<=ws.length:=by omega
 have ws8:ws.length<=8:=by omega
 have wsm:(ws.length:Int)<=most:=by omega
 clear hwl a0 a1;walk_at "n";refine aD fun R1 hR1=>?_;have gn:=w2.hd;walk_at "";walk_at "n";refine aD fun R2 hR2=>?_;walk_at "";refine⟨⟨by omega,by omega⟩,fun q1 hq1=>?_⟩;have w3:=w2.new (o:=.lst ((List.range ws.length).map fun (k:Nat)=>T.int (k:Int))) hq1;have gq1:=w3.hd;generalize up3 H6 q1 (.lst ((List.range ws.length).map fun (k:Nat)=>T.int (k:Int)))=H7 at w3 gq1;clear w2 hq1 gn;try dsimp only
 refine⟨d,q1,_,rfl,(w3.at' _ i_).2,gq1,Vk _,by rw[b_,h_];omega,w3.cl,fun ys H8 pt hperm hD2 hpt=>?_⟩;obtain⟨tv,htv,rfl⟩:=jA hperm _ rfl;have tvl:tv.length=ws.length:=by rw[htv.length_eq,h_]
 have tvn:tv.Nodup:=htv.nodup_iff.mpr List.nodup_range;have tvm:∀x∈tv,x<ws.length:=fun x hx=>C_.mp (htv.mem_iff.mp hx);have w4:=(w3.drw hD2).tl.new (o:=.lst (tv.map fun (k:Nat)=>T.int (k:Int))) hpt;generalize up3 H8 pt (.lst (tv.map fun (k:Nat)=>T.int (k:Int)))=H9 at w4;clear w3 hD2 hpt gq1 hperm htv;walk_at "n";refine aD fun R3 hR3=>?_;walk_at "";refine⟨by omega,fun po hpo=>?_⟩;have po0:=w4.fresh hpo;have nto:pt≠po:=aX w4.hd hpo;have nno:pn≠po:=aX w4.tl.hd hpo;have w5:=w4.new (o:=.lst []) hpo;generalize up3 H9 po (.lst [])=H10 at w5;clear w4 hpo;walk_at "n";refine aD fun R4 hR4=>?_;walk_at "";refine⟨d,6,rfl,by decide,w5.cl,fun n1 H11 b0 b1 hD3=>?_⟩;have w6:=w5.drw hD3;clear w5 hD3;have lo0:3<=3+n1:=by omega
 have lo1:3+n1<=8:=by omega
 walk_at "";generalize 3+n1=lots at lo0 lo1;walk_at "n";refine aD fun R5 hR5=>?_;walk_at "";refine⟨by first | trivial | omega,by omega,by omega,?_⟩;rw[dm];refine aQ (fun (i:Nat)=>T.int (i:Int)) (List.range ws.length) (fun A Z H=>∃(os:List (Nat × Nat)) (v8 v9:Option T),Z=[some (.ref d),some (.int most),some (.int st),some (.ref pn),some (.int (ws.length:Int)),some (.ref pt),some (.ref po),some (.int lots),v8,v9,none,none,none,none,none,none,none]/\Wt d H3 H [(po,.lst (os.map (oT tv))),(pt,.lst (tv.map fun (k:Nat)=>T.int (k:Int))),(pn,.lst (ws.map T.str))]/\os.Sublist (tri ws.length A)) ⟨[],_,_,rfl,w6,List.Sublist.refl _⟩ ?_ ?_;rotate_left
 ·rintro A i B Z H N e ⟨os,v8,v9,rfl,w,hsub⟩ hN;refine⟨trivial,?_⟩;have hi:i<ws.length:=C_.mp (by rw[e];simp);have hM:=Box.mk hN;have hAl:(tri ws.length A).length<=64:=by
   have h1:=oO e;have h2:A.length<=8:=by have:=T_ List.length e;simp only[a_,e_,h_] at this;omega
   have h3:∀(A:List Nat),(tri ws.length A).length<=8*A.length:=fun A=>by
    induction A with
    |nil=>exact o_ _
    |cons x r ih =>
     have e3:tri ws.length (x::r)=(List.range' (x+1) (ws.length - (x+1))).map (fun j=>(x,j))++tri ws.length r:=rfl
     rw[e3,a_,b_,List.length_range',e_]
     omega
   have:=h3 A;omega
  clear hN e w6 k' hR5;walk_at "";refine⟨by first | trivial | omega,⟨by omega,by omega,by omega,by omega⟩,?_⟩;rw[Vj];refine aQ (fun (j:Nat)=>T.int (j:Int)) (List.range' (i+1) (ws.length - (i+1))) (fun A2 Z H=>∃(os:List (Nat × Nat)) (v9:Option T),Z=[some (.ref d),some (.int most),some (.int st),some (.ref pn),some (.int (ws.length:Int)),some (.ref pt),some (.ref po),some (.int lots),some (.int (i:Int)),v9,none,none,none,none,none,none,none]/\Wt d H3 H [(po,.lst (os.map (oT tv))),(pt,.lst (tv.map fun (k:Nat)=>T.int (k:Int))),(pn,.lst (ws.map T.str))]/\os.Sublist (tri ws.length A++A2.map fun j=>(i,j))) ⟨os,_,rfl,w,by rw[Xy,I_];exact hsub⟩ ?_ ?_
  ·rintro Z H ⟨os,v9,rfl,w,hsub⟩;exact⟨trivial,hM.out _ _ ⟨os,_,_,rfl,w,by rw[Dc];exact hsub⟩⟩
  rintro A2 j B2 Z H N2 e2 ⟨os,v9,rfl,w,hsub⟩ hN2;refine⟨trivial,?_⟩;have hj:=List.mem_range'_1.mp (show j∈List.range' (i+1) (ws.length - (i+1)) by rw[e2];simp);have hN':=Box.mk hN2;have hs1:=uY (y:=(i,j)) hsub;have hs2:=uZ (y:=(i,j)) hsub;rw[Xn,show [(i,j)]=[j].map fun j=>(i,j) from rfl,<- z_] at hs1 hs2;have hA2:A2.length<8:=by have:=T_ List.length e2;simp only[a_,e_,List.length_range'] at this;omega
  have hol:os.length<=100:=by have h1:=hsub.length_le;have h2:=(xq ⟨ws.length,by omega⟩);have h3:(tri ws.length A).length<=64:=hAl;rw[a_,b_] at h1;omega
  clear hN2 e2 hM hsub;walk_at "";refine⟨d,lots,rfl,by omega,w.cl,fun n H12 c0 c1 hD=>?_⟩;have w7:=w.drw hD;have go':=w7.hd;have gt':=w7.tl.hd;have x1:=J2 (show i<tv.length by omega);have x2:=J2 (show j<tv.length by omega);clear w hD;have tvl':=Box.mk tvl;clear tvl;walk_at "";split
  ·have em:os.map (oT tv)++[T.tup [T.int ((tv.getD i 0:Nat):Int),T.int ((tv.getD j 0:Nat):Int)]]=(os++[(i,j)]).map (oT tv):=by rw[z_];rfl
   rw[em];refine⟨⟨trivial,trivial⟩,by decide,by omega,hN'.out _ _ ⟨os++[(i,j)],_,rfl,w7.set po0 (fun q hq=>?_) _,hs1⟩⟩;rcases l_.mp hq with rfl | hq
   ·exact nto
   rw[g_.mp hq];exact nno
  exact hN'.out _ _ ⟨os,_,rfl,w7,hs2⟩
 rintro Z H ⟨os,v8,v9,rfl,w,hsub⟩;refine⟨trivial,?_⟩;clear w6;walk_at "n";refine aD fun R6 hR6=>?_;have ol28:os.length<=28:=J_ hsub.length_le (xq ⟨ws.length,by omega⟩);have ond:os.Nodup:=(Qg ⟨ws.length,by omega⟩).sublist hsub;have oin:∀x∈os,x.1<x.2/\x.2<ws.length:=fun x hx=>Hx (fun i hi=>C_.mp hi) (hsub.subset hx);have go':=w.hd;walk_at "";refine⟨d,po,_,rfl,(w.at' _ i_).2,go',J3 tv os,by rw[b_];omega,w.cl,fun ys H12 q2 hperm hD4 hq2=>?_⟩;obtain⟨os',hos,rfl⟩:=jA hperm _ rfl;have ol':os'.length<=28:=by rw[hos.length_eq];exact ol28
 have ond':os'.Nodup:=hos.nodup_iff.mpr ond;have oin':∀x∈os',x.1<x.2/\x.2<ws.length:=fun x hx=>oin x (hos.mem_iff.mp hx);have w7:=(w.drw hD4).tl.tl.new (o:=.lst (os'.map (oT tv))) hq2;generalize up3 H12 q2 (.lst (os'.map (oT tv)))=H13 at w7;clear w hD4 hq2 go' hperm hos hsub ol28 ond oin;walk_at "n";refine aD fun R7 hR7=>?_;walk_at "";refine⟨d,24,rfl,by decide,w7.cl,fun n2 H14 c0 c1 hD5=>?_⟩;have w8:=w7.drw hD5;clear w7 hD5;try dsimp only
 walk_at "";refine⟨d,pn,q2,ws,_,8+n2,rfl,by omega,by omega,(w8.at' (pn,.lst (ws.map T.str)) (by simp)).2,(w8.at' _ i_).2,w8.tl.hd,hws,ws8,w8.hd,J3 tv os',by rw[b_];exact ol',w8.cl,fun prs pb as H15 p12 pnd pok hcl hkp tq=>?_⟩;have w9:=w8.kep hcl hkp;clear w8 hkp hcl;try dsimp only
 walk_at "";refine⟨trivial,?_⟩;walk_at "n";refine aD fun R8 hR8=>?_;walk_at "";refine⟨d,5,rfl,by decide,w9.cl,fun n3 H16 d0 d1 hD6=>?_⟩;have w10:=w9.drw hD6;have tq1:=tq.drw hD6;clear w9 tq hD6;walk_at "";refine⟨d,(1+n3).toNat,by rw[YW (by omega)],by omega,by omega,w10.cl,fun ks0 H17 pk hkl hks hD7 hpk=>?_⟩;have w11:=(w10.drw hD7).new (o:=.lst (ks0.map T.str)) hpk;have tq2:=(tq1.drw hD7).new (o:=.lst (ks0.map T.str)) hpk;generalize up3 H17 pk (.lst (ks0.map T.str))=H18 at w11 tq2;have ks1:1<=ks0.length:=by omega
 have ks8:ks0.length<=8:=by omega
 clear w10 tq1 hD7 hpk hkl;walk_at "n";refine aD fun R9 hR9=>?_;walk_at "";refine⟨d,st,rfl,by omega,w11.cl,fun n4 H19 e0 e1 hD8=>?_⟩;have w12:=w11.drw hD8;have tq3:=tq2.drw hD8;clear w11 tq2 hD8;walk_at "";refine⟨by first | trivial | omega,by omega,by omega,?_⟩;have hrl:(dh 0 (1+n4).toNat).length=(1+n4).toNat:=by unfold dh;rw[b_,h_]
 generalize dh 0 (1+n4).toNat=ts0 at hrl;walk_at "c";refine ik (fun r ys Z H=>∃(rw_:List Str) (v:Option T),Z=[v,some (.ref pk),some (.ref d)]/\ys=rw_.map T.str/\rw_.length+r.length=(1+n4).toNat/\(∀x∈rw_,x∈ks0)/\Wt d H3 H [(pk,.lst (ks0.map T.str)),(q2,.lst (os'.map (oT tv))),(pn,.lst (ws.map T.str))]/\Tq d H14 H pb ws.length as) ⟨[],_,rfl,rfl,by rw[hrl];exact Nat.zero_add _,(fun _ h=>nomatch h),w12,tq3⟩ ?_ ?_;rotate_left
 ·rintro x r ys Z H N ⟨rw_,v,rfl,rfl,hrw,hin,w,tq⟩ hN;refine⟨trivial,?_⟩;rw[e_] at hrw;have hN':=Box.mk hN;have hin':=Box.mk hin;have g:=w.hd;have ks1':(0:Int)<(ks0.length:Int):=by omega
  clear hN hin w12 tq3 k' hR9;walk_at "";refine⟨d,_,rfl,ks1',w.cl,fun n5 H20 f0 f1 hD9=>?_⟩;have w13:=w.drw hD9;have tq4:=tq.drw hD9;have g13:=w13.hd;clear w tq g hD9;obtain⟨z,hz,ez⟩:=rB ks0 n5 f0 f1;have ez':atI (ks0.map T.str) n5=some (T.str z):=by rw[lU,ez];rfl
  clear ez;walk_at "";refine⟨by first | omega | (rw[b_];omega),hN'.out _ _ _ ⟨rw_++[z],_,rfl,by rw[z_];rfl,by rw[a_,q_];omega,fun y hy=>?_,w13,tq4⟩⟩;rcases E_.mp hy with h | h
  ·exact hin'.out y h
  rw[g_.mp h];exact hz
 rintro ys Z H ⟨rw_,v,rfl,rfl,hrw,hin,w,tq⟩;rw[Yv,Nat.add_zero] at hrw;refine⟨trivial,by rw[b_];omega,fun pr hpr=>?_⟩;have w13:=w.new (o:=.lst (rw_.map T.str)) hpr;have tq4:=tq.new (o:=.lst (rw_.map T.str)) hpr;generalize up3 H pr (.lst (rw_.map T.str))=H20 at w13 tq4;clear w tq hpr w12 tq3 hrl;have rw1:1<=rw_.length:=by omega
 have rw8:rw_.length<=8:=by omega
 have rws:(rw_.length:Int)<=st:=by omega
 clear hrw;walk_at "n";refine aD fun R10 hR10=>?_;walk_at "";refine⟨d,pr,pk,pb,rw_,ks0,ws.length,H14,as,rfl,(w13.at' _ i_).2,(w13.at' (pk,.lst (ks0.map T.str)) (by simp)).2,w13.hd,rw1,rw8,fun x hx=>hks.nm x (hin x hx),w13.tl.hd,hks,ks8,tq4,ws8,w13.cl,fun kk H21 pso hkk hkb hD10 hpso=>?_⟩;have w14:=(w13.drw hD10).new (o:=.lst (kk.map sT)) hpso;generalize up3 H21 pso (.lst (kk.map sT))=H22 at w14;clear w13 tq4 hD10 hpso;walk_at "n";refine aD fun R11 hR11=>?_;walk_at "";refine⟨d,ws.length,rfl,ws8,w14.cl,fun ls H23 pl_ hll hlb hD11 hpl_=>?_⟩;have w15:=(w14.drw hD11).new (o:=.lst (ls.map T.int)) hpl_;generalize up3 H23 pl_ (.lst (ls.map T.int))=H24 at w15;clear w14 hD11 hpl_;walk_at "n";refine aD fun R12 hR12=>?_;walk_at "";refine⟨by first | trivial | omega,by omega,by omega,?_⟩;rw[dm];walk_at "c";refine dH (fun (k:Nat)=>T.int (k:Int)) (fun k=>tkT (tkD ws ls kk k)) (List.range ws.length) [some (.ref pn),some (.ref pl_),some (.ref pso)] trivial (by rw[h_];omega) (fun i hi Q' hq=>?_) (fun p hp=>?_)
 ·have hi':=C_.mp hi;have g1:=(w15.at' (pn,.lst (ws.map T.str)) (by simp)).1;have g2:=w15.hd;have g3:=w15.tl.hd;have x1:=getD_at hi';have x2:=J1 (show i<ls.length by omega);have x3:=Vh (show i<kk.length by omega);have hq':=Box.mk hq;clear k' hq hR12;try dsimp only at g1
  walk_at "";exact⟨by decide,hq'.out⟩
 rw[show (List.range ws.length).map (fun k=>tkT (tkD ws ls kk k))=((List.range ws.length).map (tkD ws ls kk)).map tkT by rw[Xi];rfl];have w16:=(w15.new (o:=.lst (((List.range ws.length).map (tkD ws ls kk)).map tkT)) hp).tl;generalize up3 H24 p (.lst (((List.range ws.length).map (tkD ws ls kk)).map tkT))=H25 at w16;clear w15 hp;walk_at "n";have gq:H25 q2=some (.lst (os'.map (oT tv))):=(w16.at' (q2,.lst (os'.map (oT tv))) (by simp)).1;have gn:H25 pn=some (.lst (ws.map T.str)):=(w16.at' (pn,.lst (ws.map T.str)) (by simp)).1;have gr:H25 pr=some (.lst (rw_.map T.str)):=w16.tl.tl.hd;walk_at "";walk_at "c";refine jY (fun x:Nat × Nat=>.int ((tv.getD x.1 0:Nat):Int)) (fun x=>.int ((tv.getD x.2 0:Nat):Int)) (fun x=>orT (oD ws tv x)) os' [some (.ref pn)] (.inl gq) (by omega) (fun x hx Q' hq=>?_) (fun p hp=>?_)
 ·have ox:=oin' x hx;have y1:=getD_at (tvm _ (getD_mem (d:=0) (show x.1<tv.length by omega)));have y2:=getD_at (tvm _ (getD_mem (d:=0) (show x.2<tv.length by omega)));have hq':=Box.mk hq;clear k' hq gr gq;walk_at "";exact⟨by decide,hq'.out⟩
 rw[show os'.map (fun x=>orT (oD ws tv x))=(os'.map (oD ws tv)).map orT by rw[Xi];rfl];have w17:=w16.new (o:=.lst ((os'.map (oD ws tv)).map orT)) hp;have gr2:up3 H25 p (.lst ((os'.map (oD ws tv)).map orT)) pr=_ := upa gr hp;generalize up3 H25 p (.lst ((os'.map (oD ws tv)).map orT))=H26 at w17 gr2;clear w16 hp gq gn gr;walk_at "";refine⟨by decide,iM w17.cl w17.kp fun H'' hD=>?_⟩;exact k'.out ⟨(List.range ws.length).map (tkD ws ls kk),os'.map (oD ws tv),prs,rw_⟩ H'' (Vg hws ws1 ws8 hll hlb hkk hkb tvl tvn tvm ol' ond' oin' p12 pnd pok rw1 rw8 fun x hx=>hks.nm x (hin x hx)) (by show (((List.range ws.length).map (tkD ws ls kk)).length:Int)<=most;rw[b_,h_];exact wsm) rws hD
variable {d:Nat}
abbrev jg:List Str:=["_law_one","_law_other"]
theorem Ih:FnScope jg jg (aB (top 46)):=bh
theorem lz {f:Addr}{fd:FuncData}(g:G3 K mg "_law_same" (top 46) jg f fd) (B:Bl mg) (F_same:Cal P w K mg base d "_law_same" (top 46) jg (pW d)):Cal P w K mg base (d+1) "_law_same" (top 46) jg (pW (d+1)):=by
 refine⟨f,fd,g,?_⟩;refine fn3 g.fn Ih (fun ts H Q h=>?_) (fun cdv A outer s H E ts H3 Q hr h=>?_)
 ·obtain⟨t,_,rfl,_⟩:=h;rfl
 have hu30:=Room.u30 hr;obtain⟨t,_,rfl,hs,k⟩:=h;replace hs:shn d t=true:=hs;refine⟨_,(ao (bQ (bY (aM jM rfl B.isinstance_ cJ (aa (v3 0) (aa (ou rfl B.tuple_ cD) ak)))) (ao (bQ (PW3.pt (jl (gU (bY (aM jM rfl B.isinstance_ cJ (aa (v3 1) (aa (ou rfl B.tuple_ cD) ak))))) (gh (aW (lN hu30) (aM bH rfl B.len_ bI (aa (v3 0) ak)) (aM bH rfl B.len_ bI (aa (v3 1) ak)))))) (au (aO eQ)) aZ)
    (au (aO (dU (bR hu30) (bx rfl (bF (n0:=(aB (top 46)).names) (N:=jg) (N':=["_law_k","_law_one","_law_other"]) (nt:=1) (cap:=[0,1]) rfl rfl (by decide +kernel)) (aN rfl B.range_ (aa (aM bH rfl B.len_ bI (aa (v3 0) ak)) ak)) (fun cl pins s H C0 fp=>⟨(aF (i:=0) (show List.Nodup [("_law_k":Str),("_law_one":Str),("_law_other":Str)] by decide +kernel)),(di (gU (bY (Be F_same (hr.mono (o_ _)) rfl (aa (aK ix3 (v3 1) (v3 0)) (aa (aK ix3 (v3 2) (v3 0)) ak)))))),(v3 0)⟩)) (bK ak))))) aZ)
   (ao (bQ (PW3.pt (jl (aW wN (v3 0) pC) (gh (aW wN (v3 1) pC)))) (au (aO (pF (dU wN (v3 0) pC) (lH (dU wN (v3 1) pC))))) aZ)
   (au (aO (pF (dU (bR hu30) (aM jM rfl B.isinstance_ cJ (aa (v3 0) (aa (ou rfl B.str_ Ad) ak))) (aM jM rfl B.isinstance_ cJ (aa (v3 1) (aa (ou rfl B.str_ Ad) ak)))) (pF (LR (aM jM rfl B.isinstance_ cJ (aa (v3 1) (aa (ou rfl B.bool_ FW) ak)))) (lH (dU (bR hu30) (v3 0) (v3 1))))))))),?_⟩
 rw[show aR jg [t,t]=[some (t),some (t)] from rfl];have hsz:sizeLine=16777216:=rfl;cases t with
 |str x=>walk_at "";exact Fin3.of Sub3.refl k
 |int i=>walk_at "";exact Fin3.of Sub3.refl k
 |non=>walk_at "";exact Fin3.of Sub3.refl k
 |tup us =>
  cases d with
  |zero=>cases hs
  |succ d =>
   have hs':(decide (us.length<=sizeLine)&&us.all (shn d))=true:=hs
   rw[L_,p_,S_] at hs'
   obtain⟨hl,hs'⟩:=hs'
   have hs2:=Box.mk hs'
   have k':=Box.mk k
   clear hs hs' k
   walk_at ""
   refine⟨by first | trivial | omega,by omega,by omega,?_⟩
   rw[dm]
   rw[show pI 1 [0,1] [some (T.tup us),some (T.tup us)]=[none,some (T.tup us),some (T.tup us)] from rfl]
   refine cX (fun (i:Nat)=>T.int (i:Int)) (fun (i:Nat)=>T.int (i:Int)) (fun _=>false) (List.range us.length) [some (T.tup us),some (T.tup us)] trivial (by rw[h_];omega) (fun i hi Q' hq=>?_) (fun i hi hpt Q' hq=>nomatch hpt) (fun p hp=>?_)
   ·
    have hi':=C_.mp hi
    have x1:atI us (i:Int)=some us[i]:=Qh hi'
    clear k'
    walk_at ""
    exact⟨us[i],by simp,rfl,hs2.out _ (Xp hi'),hq⟩
   ·
    rw[Y8.mpr (fun _ _ h=>(by cases h)),Xy]
    refine⟨by omega,fun p2 hp2=>?_⟩
    have n2:p≠p2:=aX aA hp2
    have hk:=k'.out
    have h2:H3 p2=none:=by rw[aC (Ne.symm n2)] at hp2;exact hp2
    clear k' hs2
    walk_at ""
    have hb:up3 H3 p (.lst []) p2=none:=by rw[aC (Ne.symm n2)];exact h2
    exact⟨trivial,rfl,rfl,Fin3.of (Sub3.trans (Sub3.new hp) (Sub3.new hb)) hk⟩
 |bl b=>cases d <;> cases hs
 |ref a=>cases d <;> cases hs
 |ty n=>cases d <;> cases hs
theorem Xc {X:Cx}{k v:Expr}{tk tv:TE3}{p5 p6:Pos}(hk:PE3 X k tk) (hv:PE3 X v tv):PE3 X (.List [.Dict [some k] [v] p5] p6) (vX (pG (jr tk tv) vW)):=bK (aa (oJ hk hv) ak)
theorem Xd {X:Cx}(i:Nat) {x:Str}{pos pos' p5 p6:Pos}{k v:Expr}{tk tv:TE3}(hN:X.N.Nodup) (hk:PE3 X k tk) (hv:PE3 X v tv) (hi:X.N[i]?=some x) (hx:Loc X.env.scope x) (hf:X.fn x=true\/X.env.scope.names.lookup x=some .local):PS3 X (.Assign [.Name x pos'] (.List [.Dict [some k] [v] p5] p6) pos) (qU (vX (pG (jr tk tv) vW)) (dC i)):=aG hN (Xc hk hv) hi hx rfl hf
abbrev eZ:List Str:=["walk","many","steps","stand"]
theorem sc_evens_by_stands:FnScope eZ ["walk","many"] (aB (top 27)):=bh
theorem jh {f:Addr}{fd:FuncData}(g:G3 K mg "evens_by_stands" (top 27) ["walk","many"] f fd) (B:Bl mg) (F_evens_behind:Cal P w K mg base 4 "evens_behind" (top 26) ["walk","stand","evens"] (Vt C_Walk)):Cal P w K mg base 5 "evens_by_stands" (top 27) ["walk","many"] (Vu C_Walk):=by
 refine⟨f,fd,g,?_⟩;refine fn3 g.fn sc_evens_by_stands (fun ts H Q h=>?_) (fun cdv A outer s H E ts H3 Q hr h=>?_)
 ·obtain⟨a,W,beat,m,rfl,_⟩:=h;rfl
 obtain⟨a,W,beat,m,rfl,hW,hw,hm,kk⟩:=h;refine⟨_,(@ao _ _ _ _ _ (@Xd _ 2 _ _ _ _ _ _ _ _ _ sc_evens_by_stands.nd aq (bD (aa aq (aa (bD ak) ak))) rfl (by first | exact Or.inl rfl | exact Or.inr rfl) (by first | exact .inl rfl | exact .inr rfl | assumption))
   (ao (bc A_ rfl (aN rfl B.range_ (aa (v3 1) ak)) (aF (i:=3) sc_evens_by_stands.nd) (au (bL (bZ t_ M_ N_ bB (v3 2) (aa (aL F_evens_behind hr rfl (aa (v3 0) (aa (v3 3) (aa (aK ix3 (v3 2) (v3 3)) ak)))) ak)))))
   (au (aO (v3 2))))),?_⟩
 rw[show aR eZ [T.ref a,T.int (m:Int)]=[some (T.ref a),some (T.int (m:Int)),none,none] from rfl];have hsz:sizeLine=16777216:=rfl;have k':=Box.mk kk;clear kk;have r8:W.row.length<=8:=hW.r8;refine aD fun R0 hR0=>?_;walk_at "";intro q0 hq0;refine⟨by decide,by decide,trivial,by decide,fun p hp=>?_⟩;have e0:([(0,T.tup [T.int 0,T.tup []])]:List (Int × T))=dI evT (evs W beat 0):=rfl;rw[e0] at hp ⊢;have n0:q0≠p:=aX aA hp;have hp3:H3 p=none:=by rw[aC (Ne.symm n0)] at hp;exact hp
 have sb0:Sub3 H3 (up3 (up3 H3 q0 (.dci (dI evT (evs W beat 0)))) p (.lst [T.ref q0])):=(Sub3.new hq0).trans (Sub3.new hp);have gp0:up3 (up3 H3 q0 (.dci (dI evT (evs W beat 0)))) p (.lst [T.ref q0]) p=some (.lst (([]:List Addr).map T.ref++[T.ref q0])):=aA;have gq0:up3 (up3 H3 q0 (.dci (dI evT (evs W beat 0)))) p (.lst [T.ref q0]) q0=some (.dci (dI evT (evs W beat 0))):=by rw[aC n0];exact aA
 generalize up3 (up3 H3 q0 (.dci (dI evT (evs W beat 0)))) p (.lst [T.ref q0])=H4 at sb0 gp0 gq0 ⊢;clear e0 hp n0;walk_at "n";refine aD fun R1 hR1=>?_;walk_at "";refine⟨trivial,by omega,by omega,?_⟩;rw[dm];refine aQ (fun (j:Nat)=>T.int (j:Int)) (List.range m) (fun A Z H=>∃(as:List Addr) (q:Addr) (v3:Option T),Z=[some (.ref a),some (.int (m:Int)),some (.ref p),v3]/\Sub3 H3 H/\H3 q=none/\as.length=A.length/\H p=some (.lst (as.map T.ref++[T.ref q]))/\Ql W beat H as/\H q=some (.dci (dI evT (evs W beat A.length)))) ⟨[],q0,_,rfl,sb0,hq0,rfl,gp0,(fun j a e=>by simp at e),gq0⟩ ?_ ?_
 ·rintro Z H ⟨as,q,v3,rfl,sb,hq,hl,gp,hs,gq⟩;refine⟨trivial,?_⟩;rw[h_] at hl gq;walk_at "n";walk_at "";exact Fin3.of Sub3.refl (k'.out H p as q sb hl gp hs gq)
 rintro A j B Z H N e ⟨as,q,v3,rfl,sb,hq,hl,gp,hs,gq⟩ hN;refine⟨trivial,?_⟩;have hA:A.length<m:=by have:=T_ List.length e;simp only[a_,e_,h_] at this;omega
 have hj:j=A.length:=by
  have h1:(List.range m)[A.length]?=some j:=by rw[e,F_ (o_ _)];simp
  rw[Xo hA] at h1;exact (G_ h1).symm
 subst hj;have x1:atI (as.map T.ref++[T.ref q]) (A.length:Int)=some (T.ref q):=bu (by rw[F_ (by rw[b_];omega),b_,hl];simp);have hN':=Box.mk hN;clear hN e k' hR1 sb0 gp0 gq0;walk_at "";refine⟨⟨trivial,trivial⟩,a,q,W,beat,A.length,A.length,evs W beat A.length,rfl,hW,hw.sub sb,by omega,by omega,(mF (by omega)).eok hW,gq,fun o p2 hp2=>?_⟩;have npq:p≠q:=ne3 gp gq (by simp);have np2:p≠p2:=aX gp hp2;have nq2:q≠p2:=aX gq hp2;have g1:up3 (up3 H q (.dif o (dI evT (evs W beat A.length)))) p2 (.dci (dI evT (ebh W beat A.length (evs W beat A.length)))) p=some (.lst (as.map T.ref++[T.ref q])):=by rw[aC np2,aC npq];exact gp
 try dsimp only
 rw[g1,Jk];refine⟨by rw[a_,b_];simp;omega,hN'.out _ _ ⟨as++[q],p2,_,rfl,fun b u hb=>?_,cU sb hp2,by rw[a_,a_,hl];rfl,?_,fun i b hb=>?_,?_⟩⟩
 ·rw[aC (aX hb hp3),aC (aX (sb b u hb) hp2),aC (aX hb hq)];exact sb b u hb
 ·rw[aA,z_];rfl
 ·by_cases hi:i<as.length
  ·rw[Xj hi] at hb;obtain⟨ob,gb⟩:=hs i b hb;refine⟨ob,?_⟩;rw[aC (ne3 gb gp (by simp)),aC (aX gb hp2),aC (ne3 gb gq (by simp))];exact gb
  rw[F_ (by omega)] at hb;have h0:i - as.length=0:=by
   cases hz:i - as.length with
   |zero=>rfl
   |succ n=>rw[hz] at hb;simp at hb
  rw[h0] at hb;simp only[Xq,ZG] at hb;subst hb;refine⟨o,?_⟩;rw[aC (Ne.symm npq),aC nq2,aA,show i=A.length by omega]
 rw[aC (Ne.symm np2),aA,a_];rfl
abbrev iG:List Str:=["walk","stand","evens","behind","done","even","filling","least","onward"]
theorem sc_evens_behind:FnScope iG ["walk","stand","evens"] (aB (top 26)):=bh
theorem kj {f:Addr}{fd:FuncData}(g:G3 K mg "evens_behind" (top 26) ["walk","stand","evens"] f fd) (B:Bl mg) {C_Walk:Addr}(I_Walk:InsC K C_Walk ["works","beat","rules","whole"]) (M_fillings_at:MtC P w K mg base C_Walk 3 "fillings_at" ["self","stand","done"] (Vr C_Walk)) (M_load_at:MtC P w K mg base C_Walk 2 "load_at" ["self","number"] (J6 C_Walk)):Cal P w K mg base 4 "evens_behind" (top 26) ["walk","stand","evens"] (Vt C_Walk):=by
 refine⟨f,fd,g,?_⟩;refine fn3 g.fn sc_evens_behind (fun ts H Q h=>?_) (fun cdv A outer s H E ts H3 Q hr h=>?_)
 ·obtain⟨a,q,W,beat,k,n,E,rfl,_⟩:=h;rfl
 have hu1:=Room.u1 hr;obtain⟨a,q,W,beat,k,n,E,rfl,hW,hw,hk,hn,hE,hq,kk⟩:=h;refine⟨_,(ao (aG (i:=3) sc_evens_behind.nd rO)
   (ao (bc A_ rfl (By (v3 2)) (cH (n:=2) rfl (aJ (aF (i:=4) sc_evens_behind.nd) (aJ (aF (i:=5) sc_evens_behind.nd) bN))) (au (bc A_ rfl (cM (wU M_fillings_at (hr.mono (by decide)) (v3 0) (aa (v3 1) (aa (v3 4) ak)))) (aF (i:=6) sc_evens_behind.nd) (ao (aG (i:=7) sc_evens_behind.nd (aH aY (aK ix3 (v3 5) aq) (aH GQ (wU M_load_at (hr.mono (by decide)) (v3 0) (aa (v3 6) ak)) aq)))
     (ao (aG (i:=8) sc_evens_behind.nd (aH aY (v3 4) (v3 6)))
     (au (bQ (PW3.pt (jl (uN hu1 (v3 8) (v3 3)) (gh (aW wz (v3 7) (aK ix3 (jt hu1 (v3 3) (v3 8)) aq))))) (au (rP hu1 (v3 3) (v3 8) (bD (aa (v3 7) (aa (aH aY (aK ix3 (v3 5) aq) (bD (aa (v3 6) ak))) ak))))) aZ)))))))
   (au (aO (v3 3))))),?_⟩
 rw[show aR iG [T.ref a,T.int (k:Int),T.ref q]=[some (T.ref a),some (T.int (k:Int)),some (T.ref q),none,none,none,none,none,none] from rfl];have hsz:sizeLine=16777216:=rfl;have k':=Box.mk kk;clear kk;have t2:=qp hW;have hE':=Box.mk hE;clear hE;refine aD fun R0 hR0=>?_;walk_at "";intro pb hpb;have nqb:q≠pb:=aX hq hpb;walk_at "n";refine aD fun R1 hR1=>?_;have gq:up3 H3 pb (.dci []) q=some (.dci (dI evT E)):=by rw[aC nqb];exact hq
 walk_at "";intro o;rw[Vs];have hw0:Wlk C_Walk W beat (up3 H3 q (.dif o (dI evT E))) a:=hw.frz hq;have g0:up3 H3 q (.dif o (dI evT E)) q=some (.dif o (dI evT E)):=aA;have n0:up3 H3 q (.dif o (dI evT E)) pb=none:=by rw[aC (Ne.symm nqb)];exact hpb
 have kb0:Kb1 pb (up3 H3 q (.dif o (dI evT E))) (up3 (up3 H3 pb (.dci [])) q (.dif o (dI evT E))):=fun b u hb h=>by
  by_cases e:b=q
  ·subst e;rw[aA] at h ⊢;exact h
  rw[aC e] at h ⊢;rw[aC hb];exact h
 have gb0:up3 (up3 H3 pb (.dci [])) q (.dif o (dI evT E)) pb=some (.dci (dI evT [])):=by rw[aC (Ne.symm nqb),aA];rfl
 have k2:=Box.mk (k'.out o pb hpb);generalize up3 (up3 H3 pb (.dci [])) q (.dif o (dI evT E))=H4 at kb0 gb0 ⊢;generalize up3 H3 q (.dif o (dI evT E))=H0 at *;clear k' gq hq hw;refine aQ evE E (fun A Z H=>∃(v4 v5 v6 v7 v8:Option T),Z=[some (.ref a),some (.int (k:Int)),some (.ref q),some (.ref pb),v4,v5,v6,v7,v8]/\Kb1 pb H0 H/\H pb=some (.dci (dI evT (A.foldl (ebF W beat k) [])))/\EOk W (n+1) (A.foldl (ebF W beat k) [])) ⟨_,_,_,_,_,rfl,kb0,gb0,⟨Y5,fun _ z=>(nomatch z)⟩⟩ ?_ ?_
 ·rintro Z H ⟨v4,v5,v6,v7,v8,rfl,kb,gb,_⟩;refine⟨kb q _ nqb g0,?_⟩;walk_at "n";walk_at "";refine Fin3.of (fun b u hb=>?_) k2.out;by_cases e:b=pb
  ·subst e;rw[aA] at hb;rw[gb,<- hb];rfl
  rw[aC e] at hb;exact kb b u e hb
 rintro A e B Z H N eE ⟨v4,v5,v6,v7,v8,rfl,kb,gb,hB⟩ hN;refine⟨kb q _ nqb g0,?_⟩;obtain⟨ed,el,et⟩:=hE'.out.lt e (by rw[eE];simp);have hfold:(A++[e]).foldl (ebF W beat k) []=ebF W beat k (A.foldl (ebF W beat k) []) e:=by rw[X6];rfl
 have hN':=Box.mk hN;clear hN eE hR1 k2 kb0 gb0;rw[hfold] at hN';generalize A.foldl (ebF W beat k) []=B0 at *;clear hfold;simp only[evE];walk_at "";have hwH:=kb.wlk n0 hw0;obtain⟨pw,gw,_⟩:=hwH.ex;have lm:=J4 (W:=W) (beat:=beat) (p:=pw) (m:="fillings_at") (by decide +kernel);refine⟨trivial,?_⟩;try rw[gw,JK]
 refine⟨lm,a,W,beat,k,e.1,rfl,hW,hwH,hk,ed,fun pf hpf=>?_⟩;have npf:pb≠pf:=aX gb hpf;have flen:(fls W beat k e.1).length<=256:=J_ (Xf _ _) (by rw[h_];exact t2);have kb1:Kb1 pb H0 (up3 H pf (.lst ((fls W beat k e.1).map cI))):=kb.new hpf;have gb1:up3 H pf (.lst ((fls W beat k e.1).map cI)) pb=some (.dci (dI evT B0)):=by rw[aC npf];exact gb
 have gf1:up3 H pf (.lst ((fls W beat k e.1).map cI)) pf=some (.lst ((fls W beat k e.1).map cI)):=aA;generalize up3 H pf (.lst ((fls W beat k e.1).map cI))=H5 at kb1 gb1 gf1 ⊢;clear kb gb hwH gw lm hpf;try walk_at ""
 refine aQ cI (fls W beat k e.1) (fun A2 Z H=>∃(v6 v7 v8:Option T),Z=[some (.ref a),some (.int (k:Int)),some (.ref q),some (.ref pb),some (.int (e.1:Int)),some (evT e.2),v6,v7,v8]/\Kb1 pb H0 H/\H pf=some (.lst ((fls W beat k e.1).map cI))/\H pb=some (.dci (dI evT (A2.foldl (stp W e.1 e.2) B0)))/\EOk W (n+1) (A2.foldl (stp W e.1 e.2) B0)) ⟨_,_,_,rfl,kb1,gf1,gb1,hB⟩ ?_ ?_
 ·rintro Z H ⟨v6,v7,v8,rfl,kb,gf,gb,hB2⟩;refine⟨.inl gf,?_⟩;exact hN'.out _ _ ⟨_,_,_,_,_,rfl,kb,gb,hB2⟩
 rintro A2 f B2 Z H N eF ⟨v6,v7,v8,rfl,kb,gf,gb,hB2⟩ hN2;refine⟨.inl gf,?_⟩;have hf:f∈fls W beat k e.1:=by rw[eF];simp
 have hft:=(fls_mem.mp hf).1;have hon:=xF hW ed hf;have hfold:(A2++[f]).foldl (stp W e.1 e.2) B0=stp W e.1 e.2 (A2.foldl (stp W e.1 e.2) B0) f:=by rw[X6];rfl
 have hB3:=hB2.stp hW ed el et hf;have hlen:=hB2.len;have hN2':=Box.mk hN2;clear hN2 eF hN' kb1 gf1 gb1 hB;rw[hfold] at hN2';generalize A2.foldl (stp W e.1 e.2) B0=B3 at *;clear hfold;have hwH:=kb.wlk n0 hw0;obtain⟨pw,gw,_⟩:=hwH.ex;have lm:=J4 (W:=W) (beat:=beat) (p:=pw) (m:="load_at") (by decide +kernel);have ldl:=xG hW (pk W f);have cp:JL (dz W.tasks (pk W f)) 2:=⟨rfl,sO ldl.1 ldl.2⟩;have hN3:Box (∀(v6 v7 v8:Option T) (H':Hp3),Kb1 pb H0 H'->H' pf=some (.lst ((fls W beat k e.1).map cI))->H' pb=some (.dci (dI evT (stp W e.1 e.2 B3 f)))->N [some (.ref a),some (.int (k:Int)),some (.ref q),some (.ref pb),some (.int (e.1:Int)),some (evT e.2),v6,v7,v8] H'):=⟨fun v6 v7 v8 H' h1 h2 h3=>hN2'.out _ _ ⟨v6,v7,v8,rfl,h1,h2,h3,hB3⟩⟩;clear hN2' hB3;simp only[evT,cI];refine aD fun R2 hR2=>?_;walk_at "";refine⟨by first | trivial | exact lm,a,W,beat,f,rfl,hW,hwH,hft,?_⟩;refine⟨cp,?_⟩;show oh (T.int e.2.1) (T.int (ldN W f^2)) H _;rw[Af];clear hwH gw lm cp ldl;walk_at "n";refine aD fun R3 hR3=>?_;walk_at "";rw[show (e.1:Int)+(f:Int)=((e.1+f:Nat):Int) by push_cast;rfl];walk_at "n";have lk:=iQ evT (e.1+f) B3;have pt:=Dk evT (e.1+f) (e.2.1+ldN W f^2,e.2.2++[f]) B3;have dl:=u9 evT B3;have hst:stp W e.1 e.2 B3 f=match bz (e.1+f) B3 with
   |none=>putN (e.1+f) (e.2.1+ldN W f^2,e.2.2++[f]) B3
   |some u=>if e.2.1+ldN W f^2<u.1 then putN (e.1+f) (e.2.1+ldN W f^2,e.2.2++[f]) B3 else B3:=rfl
 have et2:evT (e.2.1+ldN W f^2,e.2.2++[f])=.tup [.int (e.2.1+ldN W f^2),.tup (e.2.2.map cI++[.int (f:Int)])]:=by unfold evT;rw[z_];rfl
 rw[et2] at pt;have yes:Box (stp W e.1 e.2 B3 f=putN (e.1+f) (e.2.1+ldN W f^2,e.2.2++[f]) B3->∀v8,N [some (.ref a),some (.int (k:Int)),some (.ref q),some (.ref pb),some (.int (e.1:Int)),some (evT e.2),some (.int (f:Int)),some (.int (e.2.1+ldN W f^2)),v8] (up3 H pb (.dci (nj ((e.1+f:Nat):Int) (.tup [.int (e.2.1+ldN W f^2),.tup (e.2.2.map cI++[.int (f:Int)])]) (dI evT B3))))):=⟨fun z v8=>hN3.out _ _ _ _ kb.put (by rw[aC (Ne.symm npf)];exact gf) (by rw[aA,z,<- pt])⟩;have no:Box (stp W e.1 e.2 B3 f=B3->∀v8,N [some (.ref a),some (.int (k:Int)),some (.ref q),some (.ref pb),some (.int (e.1:Int)),some (evT e.2),some (.int (f:Int)),some (.int (e.2.1+ldN W f^2)),v8] H):=⟨fun z v8=>hN3.out _ _ _ _ kb gf (by rw[z];exact gb)⟩;clear hN3 pt et2;generalize e.2.1+ldN W f^2=least at *;have hst':=Box.mk hst;clear hst;simp only[evT] at yes no;cases el2:bz (e.1+f) B3 with
 |none=>rw[el2] at lk hst';rw[Option.map_none] at lk;walk_at "";exact⟨by omega,by omega,by omega,by omega,yes.out hst'.out _⟩
 |some u =>
 rw[el2] at lk hst';rw[Option.map_some] at lk;simp only[evT] at lk;walk_at "";by_cases c:least<u.1
 ·have hz:=hst'.out;simp only[c,if_true] at hz;simp only[c,Xz,if_true];exact⟨by omega,by omega,by omega,by omega,yes.out hz _⟩
 have hz:=hst'.out;simp only[c,Xh] at hz;simp only[c,XC,H_,Xh];exact no.out hz _
abbrev mW:List Str:=["self","works","beat"]
theorem Ii:FnScope mW mW (aB (topm 24 0)):=bh
theorem Ij {f:Addr}{fd:FuncData}{C_Walk:Addr}(g:GI K mg C_Walk "Walk" "Walk.__init__" (topm 24 0) mW f fd) (B:Bl mg) (I_Walk:InsC K C_Walk ["works","beat","rules","whole"]) (F_rules_of:Cal P w K mg base 4 "rules_of" (top 17) ["works"] Kd) (F_number_of:Cal P w K mg base 1 "number_of" (top 2) ["works","tasks"] Dv) (F_names_of:Cal P w K mg base 1 "names_of" (top 21) ["tasks"] Vn):MkC P w K mg base C_Walk 5 "Walk" mW (Vq C_Walk):=by
 refine⟨g.at_,f,fd,g.mk_,g.b,?_⟩;refine fn3 g.fn Ii (fun ts H Q h=>?_) (fun cdv A outer s H E ts H3 Q hr h=>?_)
 ·obtain⟨a,W,beat,rfl,_⟩:=h;rfl
 obtain⟨a,W,beat,rfl,hW,ha,k⟩:=h;refine⟨_,(ao (qe I_Walk (v3 0) (v3 1))
   (ao (qe I_Walk (v3 0) (v3 2))
   (ao (qe I_Walk (v3 0) (aL F_rules_of hr rfl (aa (v3 1) ak)))
   (au (qe I_Walk (v3 0) (aL F_number_of hr rfl (aa (v3 1) (aa (aL F_names_of hr rfl (aa (aK ix3 (v3 1) aq) ak)) ak)))))))),?_⟩
 rw[show aR mW [T.ref a,W.enc,T.int beat]=[some (T.ref a),some (W.enc),some (T.int beat)] from rfl];have hsz:sizeLine=16777216:=rfl;have k':=Box.mk k;clear k;refine aD fun R0 hR0=>?_;walk_at "";have g1:up3 H3 a (.ins C_Walk (dw "works" W.enc [])) a=some (.ins C_Walk [("works",W.enc)]):=aA;refine⟨by decide,?_⟩;have kp1:∀b o,b≠a->H3 b=some o->up3 H3 a (.ins C_Walk (dw "works" W.enc [])) b=some o:=fun b o hb e=>by rw[aC hb];exact e
 generalize up3 H3 a (.ins C_Walk (dw "works" W.enc []))=H4 at g1 kp1 ⊢;walk_at "n";refine aD fun R1 hR1=>?_;walk_at "";refine⟨by decide,?_⟩;have e1:dw "beat" (T.int beat) [("works",W.enc)]=[(("works":Str),W.enc),(("beat":Str),.int beat)]:=by unfold dw;rw[if_neg (by decide +kernel)];rfl
 rw[e1];have g2:up3 H4 a (.ins C_Walk [("works",W.enc),("beat",.int beat)]) a=some (.ins C_Walk [("works",W.enc),("beat",.int beat)]):=aA;have kp2:∀b o,b≠a->H3 b=some o->up3 H4 a (.ins C_Walk [("works",W.enc),("beat",.int beat)]) b=some o:=fun b o hb e=>by rw[aC hb];exact kp1 b o hb e
 generalize up3 H4 a (.ins C_Walk [("works",W.enc),("beat",.int beat)])=H5 at g2 kp2 ⊢;clear g1 kp1 e1;walk_at "n";refine aD fun R2 hR2=>?_;walk_at "";refine⟨W,rfl,hW,fun p hp=>?_⟩;have nap:a≠p:=aX g2 hp;have g3:up3 H5 p (.lst (W.tasks.map (ruT W (W.tasks.map (·.1))))) p=some (.lst (W.tasks.map (ruT W (W.tasks.map (·.1))))):=aA;have g4:up3 H5 p (.lst (W.tasks.map (ruT W (W.tasks.map (·.1))))) a=some (.ins C_Walk [("works",W.enc),("beat",.int beat)]):=by rw[aC nap];exact g2
 have kp3:∀b o,b≠a->H3 b=some o->up3 H5 p (.lst (W.tasks.map (ruT W (W.tasks.map (·.1))))) b=some o:=fun b o hb e=>by rw[aC (aX (kp2 b o hb e) hp)];exact kp2 b o hb e
 generalize up3 H5 p (.lst (W.tasks.map (ruT W (W.tasks.map (·.1)))))=H6 at g3 g4 kp3 ⊢;clear g2 kp2 hp;walk_at "";refine⟨by decide,?_⟩;have e1:dw "rules" (T.ref p) [("works",W.enc),("beat",.int beat)]=[(("works":Str),W.enc),(("beat":Str),.int beat),(("rules":Str),.ref p)]:=by unfold dw;rw[if_neg (by decide +kernel)];unfold dw;rw[if_neg (by decide +kernel)];rfl
 rw[e1];have g5:up3 H6 a (.ins C_Walk [("works",W.enc),("beat",.int beat),("rules",.ref p)]) a=some (.ins C_Walk [("works",W.enc),("beat",.int beat),("rules",.ref p)]):=aA;have g6:up3 H6 a (.ins C_Walk [("works",W.enc),("beat",.int beat),("rules",.ref p)]) p=some (.lst (W.tasks.map (ruT W (W.tasks.map (·.1))))):=by rw[aC (Ne.symm nap)];exact g3
 have kp4:∀b o,b≠a->H3 b=some o->up3 H6 a (.ins C_Walk [("works",W.enc),("beat",.int beat),("rules",.ref p)]) b=some o:=fun b o hb e=>by rw[aC hb];exact kp3 b o hb e
 generalize up3 H6 a (.ins C_Walk [("works",W.enc),("beat",.int beat),("rules",.ref p)])=H7 at g5 g6 kp4 ⊢;clear g3 g4 kp3 e1;walk_at "n";walk_at "";refine⟨W.tasks,rfl,hW.t8,fun q hq=>?_⟩;have naq:a≠q:=aX g5 hq;have npq:p≠q:=aX g6 hq;try dsimp only
 refine⟨W,_,W.tasks.map (·.1),rfl,hW,.inr ⟨q,rfl,aA⟩,?_⟩;have ew:numOf (W.tasks.map (·.1)) (W.tasks.map (·.1))=(top2 W:Int) - 1:=by have h1:=yQ (W:=W) (A:=nm W) fun x hx=>hx;have h2:=jB W;rw[cg];show ((b8 (nm W) (nm W):Nat):Int)=_;rw[h1];omega
 rw[ew];have g7:up3 H7 q (.lst ((W.tasks.map (·.1)).map T.str)) a=some (.ins C_Walk [("works",W.enc),("beat",.int beat),("rules",.ref p)]):=by rw[aC naq];exact g5
 have g8:up3 H7 q (.lst ((W.tasks.map (·.1)).map T.str)) p=some (.lst (W.tasks.map (ruT W (W.tasks.map (·.1))))):=by rw[aC npq];exact g6
 have kp5:∀b o,b≠a->H3 b=some o->up3 H7 q (.lst ((W.tasks.map (·.1)).map T.str)) b=some o:=fun b o hb e=>by rw[aC (aX (kp4 b o hb e) hq)];exact kp4 b o hb e
 generalize up3 H7 q (.lst ((W.tasks.map (·.1)).map T.str))=H8 at g7 g8 kp5 ⊢;clear g5 g6 kp4 hq;walk_at "";refine⟨by decide,?_⟩;have e1:dw "whole" (T.int ((top2 W:Int) - 1)) [("works",W.enc),("beat",.int beat),("rules",.ref p)]=wkF W beat p:=by unfold dw;rw[if_neg (by decide +kernel)];unfold dw;rw[if_neg (by decide +kernel)];unfold dw;rw[if_neg (by decide +kernel)];rfl
 rw[e1];exact Fin3.of Sub3.refl (k'.out _ (fun b o hb e=>by rw[aC hb];exact kp5 b o hb e) ⟨p,aA,by rw[aC (Ne.symm nap)];exact g8⟩)
abbrev fB:List Str:=["self","stand","done","kind","left"]
theorem sc_fillings_at:FnScope fB ["self","stand","done"] (aB (topm 24 1)):=bh
theorem mX {f:Addr}{fd:FuncData}{C_Walk:Addr}(g:GM K C_Walk "fillings_at" "Walk.fillings_at" (topm 24 1) ["self","stand","done"] f fd) (B:Bl mg) (I_Walk:InsC K C_Walk ["works","beat","rules","whole"]) (F_parts_of:Cal P w K mg base 2 "parts_of" (top 23) ["number"] J5) (F_is_filling_number:Cal P w K mg base 2 "is_filling_number" (top 19) ["rules","beat","kind","done","number"] Ke):MtC P w K mg base C_Walk 3 "fillings_at" ["self","stand","done"] (Vr C_Walk):=by
 refine⟨g.cls,f,fd,g.mt,g.b,?_⟩;refine fn3 g.fn sc_fillings_at (fun ts H Q h=>?_) (fun cdv A outer s H E ts H3 Q hr h=>?_)
 ·obtain⟨a,W,beat,k,d,rfl,_⟩:=h;rfl
 obtain⟨a,W,beat,k,d,rfl,hW,hw,hk,hd,kk⟩:=h;refine⟨_,(ao (bQ (aW RC (v3 1) (aM bH rfl B.len_ bI (aa (aK ix3 (jO I_Walk (v3 0)) aq) ak))) (au (aO (bK ak))) aZ)
   (ao (aG (i:=3) sc_fillings_at.nd (aK ix3 (aK ix3 (jO I_Walk (v3 0)) aq) (v3 1)))
   (ao (aG (i:=4) sc_fillings_at.nd (aL F_parts_of hr rfl (aa (aH pL (jO I_Walk (v3 0)) (v3 2)) ak)))
   (au (aO (bx rfl (bF (n0:=(aB (topm 24 1)).names) (N:=fB) (N':=["number","kind","done","self"]) (nt:=1) (cap:=[3,2,0]) rfl rfl (by decide +kernel)) (cM (v3 4)) (fun cl pins s H C0 fp=>⟨(aF (i:=0) (show List.Nodup [("number":Str),("kind":Str),("done":Str),("self":Str)] by decide +kernel)),(di (bY (aL F_is_filling_number hr rfl (aa (jO I_Walk (v3 3)) (aa (jO I_Walk (v3 3)) (aa (v3 1) (aa (v3 2) (aa (v3 0) ak)))))))),(v3 0)⟩))))))),?_⟩
 rw[show aR fB [T.ref a,T.int (k:Int),T.int (d:Int)]=[some (T.ref a),some (T.int (k:Int)),some (T.int (d:Int)),none,none] from rfl];have hsz:sizeLine=16777216:=rfl;have k':=Box.mk kk;clear kk;have t2:=qp hW;have t1:=jB W;obtain⟨p,g1,g2⟩:=hw.ex;have f1:=Dh (W:=W) (beat:=beat) (p:=p);have f2:=HD (W:=W) (beat:=beat) (p:=p);have f3:=sJ (W:=W) (beat:=beat) (p:=p);have f4:=Di (W:=W) (beat:=beat) (p:=p);have x1:=Qk hk;have g1':=Box.mk g1;have g2':=Box.mk g2;generalize wkF W beat p=fs at *;refine aD fun R0 hR0=>?_;walk_at "";rw[B_ (by omega),if_neg u_];walk_at "n";refine aD fun R1 hR1=>?_;walk_at "";walk_at "n";refine aD fun R2 hR2=>?_;walk_at "";refine⟨top2 W - 1 - d,by rw[show ((top2 W - 1 - d:Nat):Int)=(top2 W:Int) - 1 - (d:Int) by omega],by omega,fun pl hpl=>?_⟩;have n1:a≠pl:=aX g1 hpl;have n2:p≠pl:=aX g2 hpl;have efl:=yP (W:=W) (beat:=beat) (k:=k) hW hd;have hlen:(sH (top2 W - 1 - d)).length<=256:=by unfold sH;exact J_ (Xf _ _) (by rw[h_];omega)
 have hlt:∀i∈sH (top2 W - 1 - d),i<top2 W:=fun i hi=>by have:=C_.mp (R_.mp hi).1;omega
 generalize sH (top2 W - 1 - d)=ps at *;have hs1:Sub3 H3 (up3 H3 pl (.lst (ps.map cI))):=Sub3.new hpl;have h1:=hs1 _ _ g1'.out;have h2:=hs1 _ _ g2'.out;have h3:up3 H3 pl (.lst (ps.map cI)) pl=some (.lst (ps.map cI)):=aA;generalize up3 H3 pl (.lst (ps.map cI))=H4 at hs1 h1 h2 h3 ⊢;clear g1 g2 x1 f1 f4 n1 n2 hpl;walk_at "n";have hlt':=Box.mk hlt;have efl':=Box.mk efl;clear hlt efl;walk_at "";walk_at "c";refine cX (still:=cC pl (ps.map cI)) (H:=H4) cI cI (fil W beat k d) ps [some (.str (W.row.getD k "")),some (.int (d:Int)),some (.ref a)] (.inl h3) (by omega) ?c1 ?c2 ?c3
 case c2=>exact fun i hi _ Q' hq=>hq
 case c1 =>
  intro i hi Q' hq
  have hi':=hlt'.out i hi
  have hq':=Box.mk hq
  clear k' hq
  simp only[cI]
  walk_at ""
  refine⟨W,p,beat,W.row.getD k "",pk W d,pk W i,?_,hW,h2,?_⟩
  ·
   rw[Dj hW hd,Dj hW hi']
  ·
   exact hq'.out
 case c3 =>
  intro q hq
  rw[efl'.out]
  refine Fin3.of ?_ (k'.out q (cU hs1 hq))
  intro b o hb
  by_cases e:b=q
  ·
   subst e;rw[aA] at hb ⊢;exact hb
  ·
   rw[aC e] at hb ⊢;exact hs1 b o hb
abbrev d8:List Str:=["self","number"]
theorem vH:FnScope d8 d8 (aB (topm 24 3)):=bh
theorem vI {f:Addr}{fd:FuncData}{C_Walk:Addr}(g:GM K C_Walk "load_at" "Walk.load_at" (topm 24 3) d8 f fd) (B:Bl mg) (I_Walk:InsC K C_Walk ["works","beat","rules","whole"]) (F_has_all:Cal P w K mg base 1 "has_all" (top 18) ["number","part"] xN):MtC P w K mg base C_Walk 2 "load_at" d8 (J6 C_Walk):=by
 refine⟨g.cls,f,fd,g.mt,g.b,?_⟩;refine fn3 g.fn vH (fun ts H Q h=>?_) (fun cdv A outer s H E ts H3 Q hr h=>?_)
 ·obtain⟨a,W,beat,i,rfl,_⟩:=h;rfl
 obtain⟨a,W,beat,i,rfl,hW,hw,hi,kk⟩:=h;refine⟨_,(au (aO (aM (pQ rfl) rfl B.sum_ pR (aa (bx rfl (bF (n0:=(aB (topm 24 3)).names) (N:=d8) (N':=["rule","number"]) (nt:=1) (cap:=[1]) rfl rfl (by decide +kernel)) (cM (jO I_Walk (v3 0))) (fun cl pins s H C0 fp=>⟨(aF (i:=0) (show List.Nodup [("rule":Str),("number":Str)] by decide +kernel)),(di (bY (aL F_has_all hr rfl (aa (v3 1) (aa (aK ix3 (v3 0) aq) ak))))),(aK ix3 (v3 0) aq)⟩)) ak)))),?_⟩;rw[show aR d8 [T.ref a,T.int (i:Int)]=[some (T.ref a),some (T.int (i:Int))] from rfl];have hsz:sizeLine=16777216:=rfl;have k':=Box.mk kk;clear kk;have t8:W.tasks.length<=8:=hW.t8;obtain⟨p,g1,g2⟩:=hw.ex;have f3:=sJ (W:=W) (beat:=beat) (p:=p);generalize wkF W beat p=fs at *;walk_at "";walk_at "c";refine cX (still:=cC p (W.tasks.map (ruT W (W.tasks.map (·.1))))) (H:=H3) (ruT W (W.tasks.map (·.1))) (fun t=>T.int t.2.1) (fun t=>decide (t.1∈pk W i)) W.tasks [some (.int (i:Int))] (.inl g2) (by omega) ?c1 ?c2 ?c3
 case c1 =>
  intro t ht Q' hq
  have hn:t.1∈W.tasks.map (·.1):=x_.mpr ⟨t,ht,rfl⟩
  have b1:decide (Builtin.bitAnd (i:Int) (numOf (W.tasks.map (·.1)) [t.1])=numOf (W.tasks.map (·.1)) [t.1])=decide (t.1∈pk W i):=by
   rw[<- Dj hW hi,Xg,p_,p_]
   exact ql hn
  have hq':=Box.mk hq
  clear k' hq
  simp only[ruT]
  walk_at ""
  refine⟨_,_,rfl,?_⟩
  rw[b1]
  exact hq'.out
 case c2 =>
  intro t ht _ Q' hq
  clear k'
  simp only[ruT]
  walk_at ""
  try exact hq
 case c3 =>
  intro q hq
  have e:ints3 ((W.tasks.filter fun t=>decide (t.1∈pk W i)).map fun t=>T.int t.2.1)=some ((W.tasks.filter fun t=>decide (t.1∈pk W i)).map (·.2.1)):=by
   rw[<- fK,Xi];rfl
  rw[e,ig]
  exact Fin3.of (Sub3.new hq) k'.out
abbrev ji:List Str:=["number","parts","worth"]
theorem sc_parts_of:FnScope ji ["number"] (aB (top 23)):=bh
theorem tH {f:Addr}{fd:FuncData}(g:G3 K mg "parts_of" (top 23) ["number"] f fd) (B:Bl mg) (F_has_all:Cal P w K mg base 1 "has_all" (top 18) ["number","part"] xN):Cal P w K mg base 2 "parts_of" (top 23) ["number"] J5:=by
 refine⟨f,fd,g,?_⟩;refine fn3 g.fn sc_parts_of (fun ts H Q h=>?_) (fun cdv A outer s H E ts H3 Q hr h=>?_)
 ·obtain⟨N,rfl,_⟩:=h;rfl
 obtain⟨N,rfl,hN,k⟩:=h;refine⟨_,(ao (aG (i:=1) sc_parts_of.nd (bK (aa aq ak)))
   (ao (aG (i:=2) sc_parts_of.nd aq)
   (ao (lJ A_ (aW zW (v3 2) (v3 0)) (ao (bQ (bY (aL F_has_all hr rfl (aa (v3 0) (aa (v3 2) ak)))) (au (aG (i:=1) sc_parts_of.nd (aH aY (v3 1) (bx rfl (bF (n0:=(aB (top 23)).names) (N:=ji) (N':=["part","worth"]) (nt:=1) (cap:=[2]) rfl rfl (by decide +kernel)) (cM (v3 1)) (fun cl pins s H C0 fp=>⟨(aF (i:=0) (show List.Nodup [("part":Str),("worth":Str)] by decide +kernel)),bW,(aH aY (v3 0) (v3 1))⟩))))) aZ)
    (au (aG (i:=2) sc_parts_of.nd (aH gW (v3 2) aq)))))
   (au (aO (v3 1)))))),?_⟩
 rw[show aR ji [T.int (N:Int)]=[some (T.int (N:Int)),none,none] from rfl];have hsz:sizeLine=16777216:=rfl;have k':=Box.mk k;clear k;refine aD fun R0 hR0=>?_;walk_at "";refine⟨by decide,fun p0 hp0=>?_⟩;have hS1:Sub3 H3 (up3 H3 p0 (.lst [T.int 0])):=Sub3.new hp0;have g1:up3 H3 p0 (.lst [T.int 0]) p0=some (.lst (((List.range (2^0)).filter (dq N)).map cI)):=by
  have h0:dq N 0=true:=by rw[iw];exact Nat.and_zero N
  rw[aA,show (List.range (2^0))=[0] from rfl,Xu,h0];rfl
 generalize up3 H3 p0 (.lst [T.int 0])=H4 at hS1 g1 ⊢;walk_at "n";refine aD fun R1 hR1=>?_;walk_at "";walk_at "n";refine aD fun R2 hR2=>?_;refine⟨fun m Z H=>∃(j:Nat) (q:Addr),Z=[some (.int (N:Int)),some (.ref q),some (.int ((2^j:Nat):Int))]/\Sub3 H3 H/\H3 q=none/\H q=some (.lst (((List.range (2^j)).filter (dq N)).map cI))/\m=512 - 2^j/\(∀i,i+1=j->2^i<=N),⟨_,0,p0,rfl,hS1,hp0,g1,rfl,(fun i h=>by omega)⟩,?_⟩;rintro m Z H ⟨j,q,rfl,hS,hq0,hq,rfl,hj⟩;have hj9:2^j<=256:=by
  cases j with
  |zero=>decide
  |succ i =>
   have h1:=hj i rfl
   have h2:i<8:=by
    rcases Nat.lt_or_ge i 8 with z | z
    ·
     exact z
    ·
     have:=Yq (n:=2) (by decide) z
     omega
   exact J_ (Yq (by decide) (show i+1<=8 by omega)) (by decide)
 have hp:=Nat.pow_pos (n:=j) (show 0<2 by decide);walk_at "";by_cases hle:2^j<=N
 ·have hle':decide (((2^j:Nat):Int)<=(N:Int))=true:=P_ (Int.ofNat_le.mpr hle);rw[hle',if_pos rfl];have hlen:(((List.range (2^j)).filter (dq N))).length<=256:=J_ (Xf _ _) (by rw[h_];exact hj9);have est:=Dg (N:=N) (k:=j);have e2:((2^j:Nat):Int)*2=((2^(j+1):Nat):Int):=by rw[Nat.pow_succ];push_cast;rfl
  have cm:CMul ((2^j:Nat):Int) 2:=.inl ⟨by omega,by omega⟩;have hpow:2^(j+1)=2^j*2:=by rw[Nat.pow_succ]
  have fin:Box (∀(q2:Addr) (H':Hp3),Sub3 H3 H'->H3 q2=none->H' q2=some (.lst (((List.range (2^(j+1))).filter (dq N)).map cI))->∃m',m'<512 - 2^j/\∃(j2:Nat) (q:Addr),([some (.int (N:Int)),some (.ref q2),some (.int (((2^j:Nat):Int)*2))]:St3)=[some (.int (N:Int)),some (.ref q),some (.int ((2^j2:Nat):Int))]/\Sub3 H3 H'/\H3 q=none/\H' q=some (.lst (((List.range (2^j2)).filter (dq N)).map cI))/\m'=512 - 2^j2/\(∀i,i+1=j2->2^i<=N)):=⟨fun q2 H' s1 s2 s3=>⟨_,by omega,j+1,q2,by rw[e2],s1,s2,s3,rfl,fun i hi=>by rw[show i=j by omega];exact hle⟩⟩;clear hj hR2 k' g1 hS1 e2 hle' hpow;generalize (List.range (2^(j+1))).filter (dq N)=nx at *;generalize hcur:(List.range (2^j)).filter (dq N)=cur at *;refine⟨(N:Int),((2^j:Nat):Int),rfl,?_⟩;rw[show decide (Builtin.bitAnd (N:Int) ((2^j:Nat):Int)=((2^j:Nat):Int))=dq N (2^j) from rfl];generalize 2^j=w2 at *;cases hb:dq N w2 with
  |false=>rw[hb] at est;simp only[H_,Xh,I_] at est;simp only[ie,H_,Xh];rw[<- est] at hq;exact⟨by first | trivial | exact cm,fin.out q _ hS hq0 hq⟩
  |true =>
  rw[hb] at est;simp only[if_true] at est;try simp only[ie,if_true]
  walk_at "c";rw[hq,wF];refine dH cI (fun i=>cI (i+w2)) cur [some (.int (w2:Int))] (.inl hq) (by omega) (fun i hi Q' hq'=>?_) (fun pc hpc=>?_)
  ·simp only[cI] at hq' ⊢;rw[show ((i+w2:Nat):Int)=(i:Int)+(w2:Int) by push_cast;rfl] at hq';have hq2:=Box.mk hq';clear hq' fin;walk_at "";exact hq2.out
  have nqc:q≠pc:=aX hq hpc;rw[aC nqc,hq,lR];refine⟨by rw[b_,b_];omega,fun pq hpq=>?_⟩;have hS2:Sub3 H3 (up3 (up3 H pc (.lst (cur.map fun i=>cI (i+w2)))) pq (.lst (cur.map cI++cur.map fun i=>cI (i+w2)))):=(hS.trans (Sub3.new hpc)).trans (Sub3.new hpq);have h30:H3 pq=none:=cU (hS.trans (Sub3.new hpc)) hpq;have gq:up3 (up3 H pc (.lst (cur.map fun i=>cI (i+w2)))) pq (.lst (cur.map cI++cur.map fun i=>cI (i+w2))) pq=some (.lst (nx.map cI)):=by rw[aA,est,z_,Xi];rfl
  generalize up3 (up3 H pc (.lst (cur.map fun i=>cI (i+w2)))) pq (.lst (cur.map cI++cur.map fun i=>cI (i+w2)))=H5 at hS2 gq ⊢;exact⟨by first | trivial | exact cm,fin.out pq _ hS2 h30 gq⟩
 have hle':decide (((2^j:Nat):Int)<=(N:Int))=false:=B_ (fun z=>hle (Int.ofNat_le.mp z));rw[hle',if_neg u_];rw[xx (by omega)] at hq;walk_at "n";walk_at "";refine Fin3.of ?_ (k'.out q hq0);intro b o hb;by_cases e:b=q
 ·subst e;rw[aA] at hb;rw[hq,hb]
 rw[aC e] at hb;exact hS b o hb
theorem tK:FnScope ["tasks"] ["tasks"] (aB (top 21)):=bh
theorem tL {f:Addr}{fd:FuncData}(g:G3 K mg "names_of" (top 21) ["tasks"] f fd) (B:Bl mg):Cal P w K mg base 1 "names_of" (top 21) ["tasks"] Vn:=by
 refine⟨f,fd,g,?_⟩;refine fn3 g.fn tK (fun ts H Q h=>?_) (fun cdv A outer s H E ts H3 Q hr h=>?_)
 ·obtain⟨tk,rfl,_⟩:=h;rfl
 obtain⟨tk,rfl,t8,k⟩:=h;refine⟨_,(au (aO (bx rfl (bF (n0:=(aB (top 21)).names) (N:=["tasks"]) (N':=["task"]) (nt:=1) (cap:=[]) rfl rfl (by decide +kernel)) (cT (v3 0)) (fun cl pins s H C0 fp=>⟨(aF (i:=0) (show List.Nodup [("task":Str)] by decide +kernel)),bW,(aK ix3 (v3 0) aq)⟩)))),?_⟩;rw[show aR ["tasks"] [T.tup (tk.map tkT)]=[some (T.tup (tk.map tkT))] from rfl];have hsz:sizeLine=16777216:=rfl;have k':=Box.mk k;clear k;walk_at "";walk_at "c";refine dH tkT (fun t=>T.str t.1) tk [] trivial (by omega) (fun t ht Q' hq=>?_) (fun pc hpc=>?_)
 ·clear k';simp only[tkT];walk_at "";try exact hq
 have:=k'.out pc hpc;rw[Xi] at this;exact Fin3.of Sub3.refl this
abbrev mY:List Str:=["works","rules","name","length","kinds","own","group","ahead","apart"]
theorem sc_rules_of:FnScope mY ["works"] (aB (top 17)):=bh
theorem tM {f:Addr}{fd:FuncData}(g:G3 K mg "rules_of" (top 17) ["works"] f fd) (B:Bl mg) (F_number_of:Cal P w K mg base 1 "number_of" (top 2) ["works","tasks"] Dv) (F_apart_from:Cal P w K mg base 1 "apart_from" (top 16) ["works","task"] Kc) (F_ahead_of:Cal P w K mg base 3 "ahead_of" (top 12) ["works","task"] V0) (F_group_of:Cal P w K mg base 3 "group_of" (top 11) ["works","task"] VR):Cal P w K mg base 4 "rules_of" (top 17) ["works"] Kd:=by
 refine⟨f,fd,g,?_⟩;refine fn3 g.fn sc_rules_of (fun ts H Q h=>?_) (fun cdv A outer s H E ts H3 Q hr h=>?_)
 ·obtain⟨W,rfl,_⟩:=h;rfl
 obtain⟨⟨tk,ors,prs,row⟩,rfl,hW,k⟩:=h;refine⟨_,(ao (aG (i:=1) sc_rules_of.nd (bK ak))
   (ao (bc A_ rfl (cT (aK ix3 (v3 0) aq)) (cH (n:=3) rfl (aJ (aF (i:=2) sc_rules_of.nd) (aJ (aF (i:=3) sc_rules_of.nd) (aJ (aF (i:=4) sc_rules_of.nd) bN)))) (ao (aG (i:=5) sc_rules_of.nd (aL F_number_of hr rfl (aa (v3 0) (aa (bD (aa (v3 2) ak)) ak))))
    (ao (aG (i:=6) sc_rules_of.nd (aL F_number_of hr rfl (aa (v3 0) (aa (aL F_group_of hr rfl (aa (v3 0) (aa (v3 2) ak))) ak))))
    (ao (aG (i:=7) sc_rules_of.nd (aL F_number_of hr rfl (aa (v3 0) (aa (aL F_ahead_of hr rfl (aa (v3 0) (aa (v3 2) ak))) ak))))
    (ao (aG (i:=8) sc_rules_of.nd (aL F_number_of hr rfl (aa (v3 0) (aa (aL F_apart_from hr rfl (aa (v3 0) (aa (v3 2) ak))) ak))))
    (au (bL (bZ t_ M_ N_ bB (v3 1) (aa (bD (aa (v3 5) (aa (v3 3) (aa (v3 4) (aa (v3 6) (aa (v3 7) (aa (v3 8) ak))))))) ak)))))))))
   (au (aO (v3 1))))),?_⟩
 rw[show aR mY [Wk.enc ⟨tk,ors,prs,row⟩]=[some (T.tup [T.tup (tk.map tkT),T.tup (ors.map orT),T.tup (prs.map prT),T.tup (row.map T.str)]),none,none,none,none,none,none,none,none] from rfl];have hsz:sizeLine=16777216:=rfl;have t8:tk.length<=8:=hW.t8;walk_at "";refine⟨by omega,fun p hp=>?_⟩;refine aQ tkT tk (fun A Z H=>∃(v2 v3 v4 v5 v6 v7 v8:Option T) (H0:Hp3),Z=[some (T.tup [T.tup (tk.map tkT),T.tup (ors.map orT),T.tup (prs.map prT),T.tup (row.map T.str)]),some (.ref p),v2,v3,v4,v5,v6,v7,v8]/\H=up3 H0 p (.lst (A.map (ruT ⟨tk,ors,prs,row⟩ (tk.map (·.1)))))/\Sub3 H3 H0/\H3 p=none) ⟨none,none,none,none,none,none,none,H3,rfl,rfl,Sub3.refl,hp⟩ ?_ ?_
 ·rintro Z H ⟨v2,v3,v4,v5,v6,v7,v8,H0,rfl,rfl,hS,_⟩;refine⟨trivial,?_⟩;walk_at "";refine Fin3.of (fun a o e=>?_) (k p hp);by_cases h:a=p
  ·subst h;rw[aA] at e ⊢;exact e
  rw[aC h] at e ⊢;exact hS _ _ e
 rintro A ⟨nm,len,ks⟩ B Z H N e ⟨v2,v3,v4,v5,v6,v7,v8,H0,rfl,rfl,hS,_⟩ hN;have hA:A.length<=8:=by have:=T_ List.length e;simp only[a_,e_] at this;omega
 refine⟨trivial,?_⟩;have fin:Box (∀q,up3 H0 p (.lst (A.map (ruT ⟨tk,ors,prs,row⟩ (tk.map (·.1))))) q=none->N [some (T.tup [T.tup (tk.map tkT),T.tup (ors.map orT),T.tup (prs.map prT),T.tup (row.map T.str)]),some (.ref p),some (.str nm),some (.int len),some (sT ks),some (.int (numOf (tk.map (·.1)) [nm])),some (.int (numOf (tk.map (·.1)) (gM ⟨tk,ors,prs,row⟩ nm))),some (.int (numOf (tk.map (·.1)) (gO ⟨tk,ors,prs,row⟩ nm))),some (.int (numOf (tk.map (·.1)) (iu ⟨tk,ors,prs,row⟩ nm)))] (up3 (up3 (up3 H0 p (.lst (A.map (ruT ⟨tk,ors,prs,row⟩ (tk.map (·.1)))))) q (.lst ((iu ⟨tk,ors,prs,row⟩ nm).map T.str))) p (.lst (A.map (ruT ⟨tk,ors,prs,row⟩ (tk.map (·.1)))++[ruT ⟨tk,ors,prs,row⟩ (tk.map (·.1)) (nm,len,ks)])))):=⟨fun q hq=>by
  obtain⟨n1,hq0⟩:=b7 hq
  refine hN _ _ ⟨_,_,_,_,_,_,_,up3 H0 q (.lst ((iu ⟨tk,ors,prs,row⟩ nm).map T.str)),rfl,?_,hS.trans (Sub3.new hq0),hp⟩
  rw[z_,Aj (Ne.symm n1),vV]
  rfl⟩
 have hlA:(A.map (ruT ⟨tk,ors,prs,row⟩ (tk.map (·.1)))).length<=8:=by rw[b_];exact hA
 generalize A.map (ruT ⟨tk,ors,prs,row⟩ (tk.map (·.1)))=cur at fin hlA;clear hN e k hA;simp only[tkT];walk_at "";refine⟨trivial,by omega,⟨tk,ors,prs,row⟩,_,[nm],rfl,hW,.inl rfl,?_⟩;walk_at "";refine⟨⟨tk,ors,prs,row⟩,nm,rfl,hW,?_⟩;try dsimp only
 refine⟨⟨tk,ors,prs,row⟩,_,gM ⟨tk,ors,prs,row⟩ nm,rfl,hW,.inl rfl,?_⟩;walk_at "";refine⟨⟨tk,ors,prs,row⟩,nm,rfl,hW,?_⟩;try dsimp only
 refine⟨⟨tk,ors,prs,row⟩,_,gO ⟨tk,ors,prs,row⟩ nm,rfl,hW,.inl rfl,?_⟩;walk_at "";refine⟨⟨tk,ors,prs,row⟩,nm,rfl,hW,fun q hq=>?_⟩;obtain⟨n1,hq0⟩:=b7 hq;have n1':=Ne.symm n1;try dsimp only
 refine⟨⟨tk,ors,prs,row⟩,_,iu ⟨tk,ors,prs,row⟩ nm,rfl,hW,.inr ⟨q,rfl,aA⟩,?_⟩;walk_at "";exact⟨⟨trivial,trivial⟩,by omega,by omega,fin.out q hq⟩
abbrev dY:List Str:=["rules","beat","kind","done","number","load","own","length","kinds","group","ahead","apart"]
theorem sc_is_filling_number:FnScope dY ["rules","beat","kind","done","number"] (aB (top 19)):=bh
theorem iH {f:Addr}{fd:FuncData}(g:G3 K mg "is_filling_number" (top 19) ["rules","beat","kind","done","number"] f fd) (B:Bl mg) (F_has_all:Cal P w K mg base 1 "has_all" (top 18) ["number","part"] xN) (F_may_be_done:Cal P w K mg base 1 "may_be_done" (top 14) ["kinds","kind"] Ka):Cal P w K mg base 2 "is_filling_number" (top 19) ["rules","beat","kind","done","number"] Ke:=by
 refine⟨f,fd,g,?_⟩;refine fn3 g.fn sc_is_filling_number (fun ts H Q h=>?_) (fun cdv A outer s H E ts H3 Q hr h=>?_)
 ·obtain⟨W,a,beat,kind,D,S,rfl,_⟩:=h;rfl
 have hu30:=Room.u30 hr;obtain⟨W,a,beat,kind,D,S,rfl,hW,ha,k⟩:=h;refine⟨_,(ao (aG (i:=5) sc_is_filling_number.nd aq)
   (ao (bc A_ rfl (cM (v3 0)) (cH (n:=6) rfl (aJ (aF (i:=6) sc_is_filling_number.nd) (aJ (aF (i:=7) sc_is_filling_number.nd) (aJ (aF (i:=8) sc_is_filling_number.nd) (aJ (aF (i:=9) sc_is_filling_number.nd) (aJ (aF (i:=10) sc_is_filling_number.nd) (aJ (aF (i:=11) sc_is_filling_number.nd) bN))))))) (au (bQ (bY (aL F_has_all hr rfl (aa (v3 4) (aa (v3 6) ak)))) (ao (bQ (PW3.pt (jl (bY (aL F_has_all hr rfl (aa (v3 3) (aa (v3 6) ak)))) (gh (gU (bY (aL F_may_be_done hr rfl (aa (v3 8) (aa (v3 2) ak)))))))) (au (aO eQ)) aZ)
     (ao (bQ (PW3.pt (jl (gU (bY (aL F_has_all hr rfl (aa (v3 4) (aa (v3 9) ak))))) (gh (gU (bY (aL F_has_all hr rfl (aa (aH wK (v3 4) (v3 3)) (aa (v3 10) ak)))))))) (au (aO eQ)) aZ)
     (ao (bQ (aW (lN hu30) (aH dX (v3 4) (v3 11)) aq) (au (aO eQ)) aZ)
     (au (aG (i:=5) sc_is_filling_number.nd (aH aY (v3 5) (v3 7))))))) aZ)))
   (au (aO (dU zW (v3 5) (v3 1)))))),?_⟩
 rw[show aR dY [T.ref a,T.int beat,T.str kind,T.int (numOf (W.tasks.map (·.1)) D),T.int (numOf (W.tasks.map (·.1)) S)]=[some (T.ref a),some (T.int beat),some (T.str kind),some (T.int (numOf (W.tasks.map (·.1)) D)),some (T.int (numOf (W.tasks.map (·.1)) S)),none,none,none,none,none,none,none] from rfl];have hsz:sizeLine=16777216:=rfl;walk_at "";refine aQ (ruT W (W.tasks.map (·.1))) W.tasks (fun A Z H=>∃(v6 v7 v8 v9 v10 v11:Option T),Z=[some (.ref a),some (.int beat),some (.str kind),some (.int (numOf (W.tasks.map (·.1)) D)),some (.int (numOf (W.tasks.map (·.1)) S)),some (.int (dz A S)),v6,v7,v8,v9,v10,v11]/\H=H3/\(A.all fun t=>!decide (t.1∈S)||okT W kind D S t)=true) ⟨none,none,none,none,none,none,rfl,rfl,rfl⟩ ?_ ?_
 ·rintro Z H ⟨v6,v7,v8,v9,v10,v11,rfl,rfl,hall⟩;refine⟨.inl ha,?_⟩;walk_at "";refine Fin3.of Sub3.refl ?_;unfold qj at k;rw[hall,Yc] at k;exact k
 rintro A t B Z H N e ⟨v6,v7,v8,v9,v10,v11,rfl,rfl,hall⟩ hN;refine⟨.inl ha,?_⟩;have htm:t∈W.tasks:=by rw[e];simp
 have htn:t.1∈W.tasks.map (·.1):=x_.mpr ⟨t,htm,rfl⟩;have gsub:∀x∈gM W t.1,x∈W.tasks.map (·.1):=fun x hx=>(R_.mp hx).1;have asub:∀x∈gO W t.1,x∈W.tasks.map (·.1):=fun x hx=>(R_.mp hx).1;have psub:∀x∈iu W t.1,x∈W.tasks.map (·.1):=fun x hx=>by obtain⟨p,hp,rfl⟩:=x_.mp hx;exact (hW.pp p (R_.mp hp).1).2.2.2
 have b1:decide (Builtin.bitAnd (numOf (W.tasks.map (·.1)) S) (numOf (W.tasks.map (·.1)) [t.1])=numOf (W.tasks.map (·.1)) [t.1])=decide (t.1∈S):=by rw[Xg,p_,p_];exact ql htn
 have b2:decide (Builtin.bitAnd (numOf (W.tasks.map (·.1)) D) (numOf (W.tasks.map (·.1)) [t.1])=numOf (W.tasks.map (·.1)) [t.1])=decide (t.1∈D):=by rw[Xg,p_,p_];exact ql htn
 have b3:decide (Builtin.bitAnd (numOf (W.tasks.map (·.1)) S) (numOf (W.tasks.map (·.1)) (gM W t.1))=numOf (W.tasks.map (·.1)) (gM W t.1))=@decide (∀x∈gM W t.1,x∈S) (Classical.propDecidable _):=by rw[Xg,p_,@p_ _ (Classical.propDecidable _),eY];exact⟨fun h x hx=>h x (gsub x hx) hx,fun h x _ hx=>h x hx⟩
 have b4:decide (Builtin.bitAnd (Builtin.bitOr (numOf (W.tasks.map (·.1)) S) (numOf (W.tasks.map (·.1)) D)) (numOf (W.tasks.map (·.1)) (gO W t.1))=numOf (W.tasks.map (·.1)) (gO W t.1))=@decide (∀x∈gO W t.1,x∈S++D) (Classical.propDecidable _):=by rw[Xg,p_,@p_ _ (Classical.propDecidable _),Ci,eY];exact⟨fun h x hx=>h x (asub x hx) hx,fun h x _ hx=>h x hx⟩
 have b5:decide (Builtin.bitAnd (numOf (W.tasks.map (·.1)) S) (numOf (W.tasks.map (·.1)) (iu W t.1))=0)=@decide (∀x∈iu W t.1,x∉S) (Classical.propDecidable _):=by rw[Xg,p_,@p_ _ (Classical.propDecidable _),jz];exact⟨fun h x hx hs=>h x (psub x hx) ⟨hs,hx⟩,fun h x _ z=>h x z.2 z.1⟩
 have fF:Box (t.1∈S->okT W kind D S t=false->Fin3 Q (.bl false) H):=⟨fun h1 h2=>by
  refine Fin3.of Sub3.refl ?_
  have e0:qj W beat kind D S=false:=by
   unfold qj
   rw[Bool.and_eq_false_iff]
   refine .inl ?_
   rw[ZJ]
   exact⟨t,htm,by simp [h1,h2]⟩
  rw[e0] at k
  exact k⟩
 have fN:Box (∀(v6 v7 v8 v9 v10 v11:Option T),(t.1∈S->okT W kind D S t=true)->N [some (.ref a),some (.int beat),some (.str kind),some (.int (numOf (W.tasks.map (·.1)) D)),some (.int (numOf (W.tasks.map (·.1)) S)),some (.int (dz A S+if t.1∈S then t.2.1 else 0)),v6,v7,v8,v9,v10,v11] H):=⟨fun v6 v7 v8 v9 v10 v11 h=>hN _ _ ⟨v6,v7,v8,v9,v10,v11,by rw[uW],rfl,by
  rw[Y_,hall]
  by_cases z:t.1∈S
  ·
   simp [h z]
  ·
   simp [z]⟩⟩
 clear hN hall k e gsub asub psub htn htm;obtain⟨nm,len,ks⟩:=t;dsimp only at *;generalize numOf (W.tasks.map (·.1)) D=nD at *;generalize numOf (W.tasks.map (·.1)) S=nS at *;simp only[ruT];generalize numOf (W.tasks.map (·.1)) [nm]=n1 at *;generalize numOf (W.tasks.map (·.1)) (gM W nm)=n2 at *;generalize numOf (W.tasks.map (·.1)) (gO W nm)=n3 at *;generalize numOf (W.tasks.map (·.1)) (iu W nm)=n4 at *;unfold okT at fF fN;dsimp only at fF fN;generalize hc1:decide (nm∈D)=c1 at *;generalize hc3:@decide (∀x∈gM W nm,x∈S) (Classical.propDecidable _)=c3 at *;generalize hc4:@decide (∀x∈gO W nm,x∈S++D) (Classical.propDecidable _)=c4 at *;generalize hc5:@decide (∀x∈iu W nm,x∉S) (Classical.propDecidable _)=c5 at *;clear hc1 hc3 hc4 hc5;walk_at "";refine⟨trivial,nS,n1,rfl,?_⟩;rw[b1];by_cases hS:nm∈S
 ·simp only[hS,Xz,if_true,ie,true_implies] at fF fN ⊢;refine⟨nD,n1,rfl,?_⟩;rw[b2];cases c1 with
  |true =>
   try simp only[ie,if_true]
   exact fF.out (by simp)
  |false =>
  simp only[ie,H_,Xh];refine⟨ks,kind,rfl,?_⟩;generalize mj ks kind=c2 at *;cases c2 with
  |false=>simp only[ie,Yr,if_true];exact fF.out (by simp)
  |true =>
  simp only[ie,XN,H_,Xh];refine⟨nS,n2,rfl,?_⟩;rw[b3];cases c3 with
  |false=>simp only[ie,Yr,if_true];exact fF.out (by simp)
  |true =>
  simp only[ie,XN,H_,Xh];refine⟨Builtin.bitOr nS nD,n3,rfl,?_⟩;rw[b4];cases c4 with
  |false=>simp only[ie,Yr,if_true];exact fF.out (by simp)
  |true =>
  simp only[ie,XN,H_,Xh];try rw[b5]
  cases c5 with
  |false=>simp only[Yr,if_true];exact fF.out (by simp)
  |true =>
  simp only[XN,H_,Xh];exact fN.out _ _ _ _ _ _ (by simp)
 simp only[hS,XC,H_,Xh,ie,Int.add_zero,false_implies] at fF fN ⊢;exact fN.out _ _ _ _ _ _ (by first | trivial | simp)
end
def DR (K:Frag):Bool:=K.all fun p=>!(p.2.cls==.type "list")
theorem DW {K:Frag}{a:Addr}{o:Obj}(e:K.lookup a=some o):(a,o)∈K:=by
 induction K with
 |nil=>cases e
 |cons p r ih =>
 obtain⟨b,u⟩:=p;rw[X4] at e;split at e
 ·rename_i h;rw[eq_of_beq h,G_ e];exact i_
 exact n_ _ (ih e)
theorem yV {K:Frag}(h:DR K=true) {a:Addr}{o:Obj}(e:K.lookup a=some o):o.cls≠.type "list":=fun z=>by
 have hm:(a,o)∈K:=DW e;have q:=S_.mp h (a,o) hm;rw[z] at q;simp at q
theorem uc {n:Nat}{us:List Value}(h:us.length=n+1):∃(a:Value) (r:List Value),us=a::r/\r.length=n:=by
 cases us with
 |nil=>exact nomatch h
 |cons a r=>exact⟨a,r,rfl,Nat.succ.inj h⟩
theorem uz {us:List Value}(h:us.length=0):us=[]:=X5 h
theorem ub1 {fd:FuncData}{x0:Str}(h:∀a0:Value,bindArgs fd ⟨[a0],[]⟩=pure ([x0].zip [a0])) (us:List Value) (e:us.length=1):bindArgs fd ⟨us,[]⟩=pure ([x0].zip us):=by
 obtain⟨a0,r0,q0,e0⟩:=uc e;rw[q0,uz e0];exact h a0
theorem ub2 {fd:FuncData}{x0 x1:Str}(h:∀a0 a1:Value,bindArgs fd ⟨[a0,a1],[]⟩=pure ([x0,x1].zip [a0,a1])) (us:List Value) (e:us.length=2):bindArgs fd ⟨us,[]⟩=pure ([x0,x1].zip us):=by
 obtain⟨a0,r0,q0,e0⟩:=uc e;obtain⟨a1,r1,q1,e1⟩:=uc e0;rw[q0,q1,uz e1];exact h a0 a1
theorem ub3 {fd:FuncData}{x0 x1 x2:Str}(h:∀a0 a1 a2:Value,bindArgs fd ⟨[a0,a1,a2],[]⟩=pure ([x0,x1,x2].zip [a0,a1,a2])) (us:List Value) (e:us.length=3):bindArgs fd ⟨us,[]⟩=pure ([x0,x1,x2].zip us):=by
 obtain⟨a0,r0,q0,e0⟩:=uc e;obtain⟨a1,r1,q1,e1⟩:=uc e0;obtain⟨a2,r2,q2,e2⟩:=uc e1;rw[q0,q1,q2,uz e2];exact h a0 a1 a2
theorem ub4 {fd:FuncData}{x0 x1 x2 x3:Str}(h:∀a0 a1 a2 a3:Value,bindArgs fd ⟨[a0,a1,a2,a3],[]⟩=pure ([x0,x1,x2,x3].zip [a0,a1,a2,a3])) (us:List Value) (e:us.length=4):bindArgs fd ⟨us,[]⟩=pure ([x0,x1,x2,x3].zip us):=by
 obtain⟨a0,r0,q0,e0⟩:=uc e;obtain⟨a1,r1,q1,e1⟩:=uc e0;obtain⟨a2,r2,q2,e2⟩:=uc e1;obtain⟨a3,r3,q3,e3⟩:=uc e2;rw[q0,q1,q2,q3,uz e3];exact h a0 a1 a2 a3
theorem ub5 {fd:FuncData}{x0 x1 x2 x3 x4:Str}(h:∀a0 a1 a2 a3 a4:Value,bindArgs fd ⟨[a0,a1,a2,a3,a4],[]⟩=pure ([x0,x1,x2,x3,x4].zip [a0,a1,a2,a3,a4])) (us:List Value) (e:us.length=5):bindArgs fd ⟨us,[]⟩=pure ([x0,x1,x2,x3,x4].zip us):=by
 obtain⟨a0,r0,q0,e0⟩:=uc e;obtain⟨a1,r1,q1,e1⟩:=uc e0;obtain⟨a2,r2,q2,e2⟩:=uc e1;obtain⟨a3,r3,q3,e3⟩:=uc e2;obtain⟨a4,r4,q4,e4⟩:=uc e3;rw[q0,q1,q2,q3,q4,uz e4];exact h a0 a1 a2 a3 a4
theorem ub6 {fd:FuncData}{x0 x1 x2 x3 x4 x5:Str}(h:∀a0 a1 a2 a3 a4 a5:Value,bindArgs fd ⟨[a0,a1,a2,a3,a4,a5],[]⟩=pure ([x0,x1,x2,x3,x4,x5].zip [a0,a1,a2,a3,a4,a5])) (us:List Value) (e:us.length=6):bindArgs fd ⟨us,[]⟩=pure ([x0,x1,x2,x3,x4,x5].zip us):=by
 obtain⟨a0,r0,q0,e0⟩:=uc e;obtain⟨a1,r1,q1,e1⟩:=uc e0;obtain⟨a2,r2,q2,e2⟩:=uc e1;obtain⟨a3,r3,q3,e3⟩:=uc e2;obtain⟨a4,r4,q4,e4⟩:=uc e3;obtain⟨a5,r5,q5,e5⟩:=uc e4;rw[q0,q1,q2,q3,q4,q5,uz e5];exact h a0 a1 a2 a3 a4 a5
theorem Xe {K:Frag}{h:Heap}{mg:Str->Option Value}{x:Str}{st:Stmt}{ps:List Str}{f:Addr}{oc:Value}{od an:Option Addr}{osl:Array (Option Value)}{kV doc pm cdv ct:Value}(X:K.In h) (G:h.Ns mainGlobals mg)
  (a:nsIn K mainGlobals x=some (some (.ref f))) (l:K.lookup f=some ⟨oc,od,.func (fnOf x x (cA st) (bV st) (aB st) .none kV doc pm an cdv ct),osl⟩) (c:codeIn K cdv x=true) (k:keepIn K (.ref f)=true)
  (hb:∀(kV doc pm:Value) (an:Option Addr) (cdv ct:Value) (us:List Value),us.length=ps.length->bindArgs (fnOf x x (cA st) (bV st) (aB st) .none kV doc pm an cdv ct) ⟨us,[]⟩=pure (ps.zip us)) :
  G3 K mg x st ps f (fnOf x x (cA st) (bV st) (aB st) .none kV doc pm an cdv ct) :=
 have F:=ph (st:=st) l c k
 ⟨F,F.binds hb,mg_of X G a⟩
theorem cF (i:Nat) (ps:List Str) (x:Str) (f:Addr) (m:Str) (t c:Nat) {K:Frag}{h:Heap}{mg:Str->Option Value}(X:K.In h) (G:h.Ns mainGlobals mg)
  (hb:∀(kV doc pm:Value) (an:Option Addr) (cdv ct:Value) (us:List Value),us.length=ps.length->bindArgs (fnOf x x (cA (top i)) (bV (top i)) (aB (top i)) .none kV doc pm an cdv ct) ⟨us,[]⟩=pure (ps.zip us))
  (a:nsIn K mainGlobals x=some (some (.ref f)):=by kernel_rfl) (l:K.lookup f=some (fO i x m t c):=by kernel_rfl) (e:codeIn K (.ref c) x=true:=by kernel_rfl) (k:keepIn K (.ref f)=true:=by kernel_rfl) :
  G3 K mg x (top i) ps f (fnOf x x (cA (top i)) (bV (top i)) (aB (top i)) .none .none .none (.str m t) none (.ref c) .none) :=
 Xe X G a l e k hb
def V3:Stmt->Pos->Pos
 |.FunctionDef _ _ _ _ _ _ _ _ _ p,_=>p
 |_,p=>p
def dv:DefRec:=⟨"law",cA (top 49),bV (top 49),aB (top 49),V3 (top 49) default⟩
theorem all_ok {l:PySem.W.OpenLaw}{w:World}{h:Heap}{mg:Str->Option Value}{fa:Addr}(X:(KK w.params).In h) (G:h.Ns mainGlobals mg) (hfa:mg "law"=some (.ref fa)) :
  ∃fd:FuncData,(∀(s:Shared) (v:Value),BindsTo s fd ⟨[v],[]⟩ [("_law_script",v)])/\∀base:Heap,(KK w.params).In base->base.Ns mainGlobals mg->FnOk3 l.prog w (KK w.params) mg base 8 fa fd ["_law_script"] xP:=by
 have at_:∀{n:Str} {v:Value},nsIn (KK w.params) mainGlobals n=some (some v)->mg n=some v:=fun e=>mg_of X G e;have no_:∀{n:Str},nsIn (KK w.params) mainGlobals n=some none->mg n=none:=fun e=>PySem.W.mg_none_of X G e;have e:=hfa.symm.trans (at_ (v:=.ref 306) (by kernel_rfl));cases e;have B:Bl mg:=⟨no_ (by kernel_rfl),no_ (by kernel_rfl),no_ (by kernel_rfl),no_ (by kernel_rfl),no_ (by kernel_rfl),no_ (by kernel_rfl),no_ (by kernel_rfl),no_ (by kernel_rfl),no_ (by kernel_rfl),no_ (by kernel_rfl),no_ (by kernel_rfl),no_ (by kernel_rfl),no_ (by kernel_rfl),no_ (by kernel_rfl),no_ (by kernel_rfl),no_ (by kernel_rfl),no_ (by kernel_rfl),no_ (by kernel_rfl),no_ (by kernel_rfl),no_ (by kernel_rfl)⟩;have g__wall:=cF 0 ["k"] "_wall" 21 "__main__" 164 20 X G fun _ _ _ _ _ _=>ub1 fun _=>rfl;have g_number_of:=cF 2 ["works","tasks"] "number_of" 28 "stationrow.sets" 194 27 X G fun _ _ _ _ _ _=>ub2 fun _ _=>rfl;have g_tasks_of:=cF 3 ["works","number"] "tasks_of" 35 "stationrow.sets" 194 34 X G fun _ _ _ _ _ _=>ub2 fun _ _=>rfl;have g_links_of:=cF 5 ["works"] "links_of" 42 "stationrow.chains" 218 41 X G fun _ _ _ _ _ _=>ub1 fun _=>rfl;have g_reached:=cF 6 ["links","start"] "reached" 49 "stationrow.chains" 218 48 X G fun _ _ _ _ _ _=>ub2 fun _ _=>rfl;have g_led_to:=cF 7 ["works","task"] "led_to" 56 "stationrow.chains" 218 55 X G fun _ _ _ _ _ _=>ub2 fun _ _=>rfl;have g_led_from:=cF 8 ["works","task"] "led_from" 61 "stationrow.chains" 218 60 X G fun _ _ _ _ _ _=>ub2 fun _ _=>rfl;have g_in_both:=cF 9 ["works","found","other"] "in_both" 66 "stationrow.chains" 218 65 X G fun _ _ _ _ _ _=>ub3 fun _ _ _=>rfl;have g_in_first_alone:=cF 10 ["works","found","other"] "in_first_alone" 71 "stationrow.chains" 218 70 X G fun _ _ _ _ _ _=>ub3 fun _ _ _=>rfl;have g_group_of:=cF 11 ["works","task"] "group_of" 78 "stationrow.chains" 218 77 X G fun _ _ _ _ _ _=>ub2 fun _ _=>rfl;have g_ahead_of:=cF 12 ["works","task"] "ahead_of" 85 "stationrow.chains" 218 84 X G fun _ _ _ _ _ _=>ub2 fun _ _=>rfl;have g_may_be_done:=cF 14 ["kinds","kind"] "may_be_done" 92 "stationrow.checks" 285 91 X G fun _ _ _ _ _ _=>ub2 fun _ _=>rfl;have g_apart_from:=cF 16 ["works","task"] "apart_from" 97 "stationrow.fillings" 295 96 X G fun _ _ _ _ _ _=>ub2 fun _ _=>rfl;have g_rules_of:=cF 17 ["works"] "rules_of" 104 "stationrow.fillings" 295 103 X G fun _ _ _ _ _ _=>ub1 fun _=>rfl;have g_has_all:=cF 18 ["number","part"] "has_all" 111 "stationrow.fillings" 295 110 X G fun _ _ _ _ _ _=>ub2 fun _ _=>rfl;have g_is_filling_number:=cF 19 ["rules","beat","kind","done","number"] "is_filling_number" 118 "stationrow.fillings" 295 117 X G fun _ _ _ _ _ _=>ub5 fun _ _ _ _ _=>rfl;have g_names_of:=cF 21 ["tasks"] "names_of" 123 "stationrow.texts" 344 122 X G fun _ _ _ _ _ _=>ub1 fun _=>rfl;have g_parts_of:=cF 23 ["number"] "parts_of" 128 "stationrow.walks" 352 127 X G fun _ _ _ _ _ _=>ub1 fun _=>rfl;have g_evens_behind:=cF 26 ["walk","stand","evens"] "evens_behind" 180 "stationrow.even" 422 179 X G fun _ _ _ _ _ _=>ub3 fun _ _ _=>rfl;have g_evens_by_stands:=cF 27 ["walk","many"] "evens_by_stands" 187 "stationrow.even" 422 186 X G fun _ _ _ _ _ _=>ub2 fun _ _=>rfl;have g_even_table:=cF 28 ["works","beat","many"] "even_table" 192 "stationrow.even" 422 191 X G fun _ _ _ _ _ _=>ub3 fun _ _ _=>rfl;have g_numbers:=cF 30 ["_law_script"] "_law_numbers" 199 mlw 455 198 X G fun _ _ _ _ _ _=>ub1 fun _=>rfl;have g_draw:=cF 31 ["_law_deck","_law_most"] "_law_draw" 206 mlw 455 205 X G fun _ _ _ _ _ _=>ub2 fun _ _=>rfl;have g_great:=cF 32 ["_law_deck","_law_most"] "_law_great" 213 mlw 455 212 X G fun _ _ _ _ _ _=>ub2 fun _ _=>rfl;have g_free_name:=cF 33 ["_law_size","_law_number","_law_names_here"] "_law_free_name" 220 mlw 455 219 X G fun _ _ _ _ _ _=>ub3 fun _ _ _=>rfl;have g_names:=cF 34 ["_law_deck","_law_many"] "_law_names" 225 mlw 455 224 X G fun _ _ _ _ _ _=>ub2 fun _ _=>rfl;have g_turn:=cF 35 ["_law_deck","_law_things"] "_law_turn" 232 mlw 455 231 X G fun _ _ _ _ _ _=>ub2 fun _ _=>rfl;have g_lengths:=cF 36 ["_law_deck","_law_many"] "_law_lengths" 237 mlw 455 236 X G fun _ _ _ _ _ _=>ub2 fun _ _=>rfl;have g_chained:=cF 37 ["_law_many","_law_edges"] "_law_chained" 242 mlw 455 241 X G fun _ _ _ _ _ _=>ub2 fun _ _=>rfl;have g_pairs:=cF 38 ["_law_deck","_law_names_here","_law_orders","_law_lots"] "_law_pairs" 247 mlw 455 246 X G fun _ _ _ _ _ _=>ub4 fun _ _ _ _=>rfl;have g_some_kinds:=cF 39 ["_law_deck","_law_common","_law_names_here"] "_law_some_kinds" 252 mlw 455 251 X G fun _ _ _ _ _ _=>ub3 fun _ _ _=>rfl;have g_kinds:=cF 40 ["_law_deck","_law_row","_law_names_here","_law_table"] "_law_kinds" 257 mlw 455 256 X G fun _ _ _ _ _ _=>ub4 fun _ _ _ _=>rfl;have g_works:=cF 41 ["_law_deck","_law_most","_law_stands"] "_law_works" 262 mlw 455 261 X G fun _ _ _ _ _ _=>ub3 fun _ _ _=>rfl;have g_beat:=cF 42 ["_law_deck","_law_works_here"] "_law_beat" 267 mlw 455 266 X G fun _ _ _ _ _ _=>ub2 fun _ _=>rfl;have g_chain_table:=cF 43 ["_law_works_here"] "_law_chain_table" 272 mlw 455 271 X G fun _ _ _ _ _ _=>ub1 fun _=>rfl;have g_l_is_filling:=cF 44 ["_law_works_here","_law_table","_law_beat_here","_law_kind","_law_done","_law_bits"] "_law_is_filling" 277 mlw 455 276 X G fun _ _ _ _ _ _=>ub6 fun _ _ _ _ _ _=>rfl;have g_load:=cF 45 ["_law_works_here","_law_bits"] "_law_load" 282 mlw 455 281 X G fun _ _ _ _ _ _=>ub2 fun _ _=>rfl;have g_same:=cF 46 ["_law_one","_law_other"] "_law_same" 287 mlw 455 286 X G fun _ _ _ _ _ _=>ub2 fun _ _=>rfl;have g_next:=cF 47 ["_law_works_here","_law_table","_law_beat_here","_law_kind","_law_level"] "_law_next" 294 mlw 455 293 X G fun _ _ _ _ _ _=>ub5 fun _ _ _ _ _=>rfl;have g_due:=cF 48 ["_law_works_here","_law_beat_here","_law_many"] "_law_due" 299 mlw 455 298 X G fun _ _ _ _ _ _=>ub3 fun _ _ _=>rfl;have g_law:=cF 49 ["_law_script"] "law" 306 mlw 455 305 X G fun _ _ _ _ _ _=>ub1 fun _=>rfl;refine⟨fnOf "law" "law" (cA (top 49)) (bV (top 49)) (aB (top 49)) .none .none .none (.str mlw 455) none (.ref 305) .none,fun s v=>.of_eq rfl,fun base _ _=>?_⟩;have Cls_Walk:Cls (KK w.params) 169:=⟨by kernel_rfl,by kernel_rfl,by kernel_rfl,by kernel_rfl⟩;have NF_Walk:∀n∈(["works","beat","rules","whole"]:List Str),findIn (KK w.params) (.ref 169) n=some none:=fun n hn=>by
  rcases l_.mp hn with rfl | hn
  ·kernel_rfl
  rcases l_.mp hn with rfl | hn
  ·kernel_rfl
  rcases l_.mp hn with rfl | hn
  ·kernel_rfl
  rw[g_.mp hn];kernel_rfl
 have I_Walk:InsC (KK w.params) 169 ["works","beat","rules","whole"]:=⟨Cls_Walk,NF_Walk⟩;have fw___init__:Fun (KK w.params) "__init__" "Walk.__init__" (topm 24 0) 142 (fnOf "__init__" "Walk.__init__" (cA (topm 24 0)) (bV (topm 24 0)) (aB (topm 24 0)) .none .none .none (.str "stationrow.walks" 352) none (.ref 141) .none):=ph (oc:=.type "function") (od:=none) (osl:=#[]) (by kernel_rfl) (by kernel_rfl) (by kernel_rfl);have g_Walk:GI (KK w.params) mg 169 "Walk" "Walk.__init__" (topm 24 0) ["self","works","beat"] 142 _:=⟨⟨by kernel_rfl,by kernel_rfl,by kernel_rfl,by kernel_rfl⟩,fw___init__,fw___init__.binds fun _ _ _ _ _ _=>ub3 fun _ _ _=>rfl,at_ (v:=.ref 169) (by kernel_rfl)⟩;have fw_fillings_at:Fun (KK w.params) "fillings_at" "Walk.fillings_at" (topm 24 1) 147 (fnOf "fillings_at" "Walk.fillings_at" (cA (topm 24 1)) (bV (topm 24 1)) (aB (topm 24 1)) .none .none .none (.str "stationrow.walks" 352) none (.ref 146) .none):=ph (oc:=.type "function") (od:=none) (osl:=#[]) (by kernel_rfl) (by kernel_rfl) (by kernel_rfl);have g_fillings_at:GM (KK w.params) 169 "fillings_at" "Walk.fillings_at" (topm 24 1) ["self","stand","done"] 147 _:=⟨Cls_Walk,fw_fillings_at,fw_fillings_at.binds fun _ _ _ _ _ _=>ub3 fun _ _ _=>rfl,⟨by kernel_rfl,by kernel_rfl,by kernel_rfl⟩⟩;have fw_load_at:Fun (KK w.params) "load_at" "Walk.load_at" (topm 24 3) 159 (fnOf "load_at" "Walk.load_at" (cA (topm 24 3)) (bV (topm 24 3)) (aB (topm 24 3)) .none .none .none (.str "stationrow.walks" 352) none (.ref 158) .none):=ph (oc:=.type "function") (od:=none) (osl:=#[]) (by kernel_rfl) (by kernel_rfl) (by kernel_rfl);have g_load_at:GM (KK w.params) 169 "load_at" "Walk.load_at" (topm 24 3) ["self","number"] 159 _:=⟨Cls_Walk,fw_load_at,fw_load_at.binds fun _ _ _ _ _ _=>ub2 fun _ _=>rfl,⟨by kernel_rfl,by kernel_rfl,by kernel_rfl⟩⟩;have F_numbers:=vD (P:=l.prog) (w:=w) (base:=base) g_numbers B;have F_draw:=HX (P:=l.prog) (w:=w) (base:=base) g_draw B;have F_free_name:=qC (P:=l.prog) (w:=w) (base:=base) g_free_name B;have F_names:=DP g_names B F_draw F_free_name;have F_turn:=Ig g_turn B F_draw;have F_chained:=vC (P:=l.prog) (w:=w) (base:=base) g_chained B;have F_pairs:=DN g_pairs B F_turn F_draw (vm F_chained);have F_some_kinds:=nG g_some_kinds B F_turn F_draw;have F_kinds:=DK g_kinds B F_draw F_some_kinds;have F_great:=Dw g_great B F_draw;have F_lengths:=vG g_lengths B F_draw F_great
 have F_works:=DQ g_works B F_names F_draw F_turn F_pairs F_kinds F_lengths;have F_beat:=HY g_beat B F_draw F_great
 have F_chain_table:=mL g_chain_table B F_chained;have F_l_is_filling:=kh (P:=l.prog) (w:=w) (base:=base) g_l_is_filling B;have F_load:=Ie (P:=l.prog) (w:=w) (base:=base) g_load B;have F_next:=Ia g_next B F_l_is_filling F_load;have F_due:=Qq g_due B F_chain_table F_next;have F_number_of:=qw (P:=l.prog) (w:=w) (base:=base) g_number_of B;have F_apart_from:=nu (P:=l.prog) (w:=w) (base:=base) g_apart_from B;have F_in_first_alone:=jF (P:=l.prog) (w:=w) (base:=base) g_in_first_alone B;have F_reached:=vo (P:=l.prog) (w:=w) (base:=base) g_reached B;have F_links_of:=sW (P:=l.prog) (w:=w) (base:=base) g_links_of B;have F_led_from:=sY g_led_from B F_reached F_links_of;have F_led_to:=yU g_led_to B F_reached F_links_of;have F_ahead_of:=tE g_ahead_of B F_in_first_alone F_led_from F_led_to;have F_in_both:=vz (P:=l.prog) (w:=w) (base:=base) g_in_both B;have F_group_of:=tu g_group_of B F_in_both F_led_to F_led_from
 have F_rules_of:=tM g_rules_of B F_number_of F_apart_from F_ahead_of F_group_of;have F_names_of:=tL (P:=l.prog) (w:=w) (base:=base) g_names_of B;have M_Walk:=Ij g_Walk B I_Walk F_rules_of F_number_of F_names_of;have F_has_all:=vB (P:=l.prog) (w:=w) (base:=base) g_has_all B;have F_parts_of:=tH g_parts_of B F_has_all;have F_may_be_done:=mR (P:=l.prog) (w:=w) (base:=base) g_may_be_done B;have F_is_filling_number:=iH g_is_filling_number B F_has_all F_may_be_done;have M_fillings_at:=mX g_fillings_at B I_Walk F_parts_of F_is_filling_number;have M_load_at:=vI g_load_at B I_Walk F_has_all;have F_evens_behind:=kj g_evens_behind B I_Walk M_fillings_at M_load_at
 have F_evens_by_stands:=jh g_evens_by_stands B F_evens_behind;have F_tasks_of:=tG (P:=l.prog) (w:=w) (base:=base) g_tasks_of B;have F_even_table:=nA g_even_table B I_Walk M_Walk F_evens_by_stands F_tasks_of;have S1:=lz (P:=l.prog) (w:=w) (base:=base) (d:=0) g_same B ⟨_,_,g_same,rC fun ts H Q ⟨t,h,_⟩=>h rfl⟩;have S2:=lz g_same B S1;have S3:=lz g_same B S2;have F_same:=lz g_same B S3;exact Qy g_law B F_numbers F_works F_draw F_beat F_due F_even_table F_same
theorem walk {l:PySem.W.OpenLaw}{q:Program}{loose:List Str}{XP:(Str->Option Value)->Heap->Prop}{YP:World->Heap->Prop}{d:DefRec}{K:Params->Frag}(hn:l.most=some 63) (hdf:d.params.defaults=[])
  (hY:∀(w:World) (h:Heap),YP w h->(K w.params).In h) (hNL:∀w:World,DR (K w.params)=true)
  (F:∀(w:World) (mg:Str->Option Value) (fa:Addr) (h:Heap),(K w.params).In h->h.Ns mainGlobals mg->mg d.name=some (.ref fa) ->
   ∃fd:FuncData,(∀(s:Shared) (u:Value),BindsTo s fd ⟨[u],[]⟩ [("_law_script",u)])/\∀base:Heap,(K w.params).In base->base.Ns mainGlobals mg->FnOk3 l.prog w (K w.params) mg base 8 fa fd ["_law_script"] xP) :
  PySem.W.WalkO q loose XP YP l.row.toRowW d [] (fun f vs=>PySem.call f vs):=by
 refine L2.walk_of (n:=63) (k:=8) (x:="_law_script") (CX:=fun _=>CX0) (sp:=fun w=>qY (K w.params) xP) hn (by decide) hdf ⟨rfl,by decide,by decide,rfl⟩ hY F (fun w H a ns hl hO hS=>?_) fun _ _ _ _ _ z=>z;refine⟨[.ref a],fun b=>if b=a then some (.rol (ns.map T.int)) else none,fun t _=>t=.bl true,.cons .ofRef .nil,fun b o e=>?_,⟨a,ns,rfl,if_pos rfl,hl,fun _=>rfl⟩,fun v H' t H3' _ _ r q=>?_⟩
 ·dsimp only at e;by_cases hb:b=a
  ·rw[if_pos hb] at e;cases e;subst hb;rcases hS with hS | ⟨o,its,n,hk,hc,_⟩
   ·refine⟨_,hS,?_⟩;have:∀ms:List Int,Reps (K w.params) H (ms.map T.int) (ms.map V.int):=fun ms=>by
     induction ms with
     |nil=>exact .nil
     |cons m r ih=>exact .cons .ofInt ih
    exact this ns
   exact absurd hc (yV (hNL w) hk)
  rw[if_neg hb] at e;cases e
 subst q;exact r.bl
end M
open PySem PySem.W PyProof.Rows
set_option maxRecDepth 100000 in
set_option maxHeartbeats 0 in
theorem PySem.Challenge.cw_stationrow_k71_table_of_what_is_done_holds : PySem.Challenge.rw_stationrow_k71_table_of_what_is_done.Holds := by
 refine holds_law (by kernel_rfl) fun said=>?_;refine holds_open (d:=M.dv) (kwd:=[]) (q:=M.qv) (loose:=[]) (Xt:=fun s=>xlAt M.qv [] s&&recOk (RowW.records (OpenLaw.row PySem.Challenge.rw_stationrow_k71_table_of_what_is_done).toRowW) s) (XP:=XL M.qv []) (Yf:=Hook.obs M.HK) (Ya:=Hook.val M.HK) (YP:=Hook.says M.HK) (N:=3396) M.left (Hook.of M.HK) (Hook.keeps M.HK) (fun s e=>xl_of s (Bool.and_eq_true_iff.mp e).1) XL.keeps (by kernel_rfl) (by kernel_rfl) (by kernel_rfl) (fun s e=>recFacts_of (Bool.and_eq_true_iff.mp e).2) (by kernel_rfl) (by first | assumption | kernel_rfl) (by kernel_rfl) ⟨rfl,rfl,rfl,rfl,rfl,by decide +kernel⟩ ?hw ?hc
 case hw=>w_witness2
 case hc=>exact M.walk (l:=PySem.Challenge.rw_stationrow_k71_table_of_what_is_done) rfl rfl (fun w h Y=>kIn_of Y) (fun w=>by kernel_rfl) fun w mg fa h KX G hmg=>M.all_ok KX G hmg
#print axioms PySem.Challenge.cw_stationrow_k71_table_of_what_is_done_holds
