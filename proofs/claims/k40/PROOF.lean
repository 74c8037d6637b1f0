import PyProof.Rows.All
import PyProof.EqAt
import PyProof.EqKinds
import PyProof.TupleCall
import PyProof.NeKinds
import PyProof.StrWalks
import PyProof.Rows.SetFrom
import PyProof.WalksMore
import KE.KIntText
import PyProof.EnumMake
import PyProof.WalkInts
import PyProof.ReprRoads
import PyProof.ReprLen
import KE.KRevIter
import KE.KRevSl
import PyProof.StrCalls
import PyProof.Rows.StrFit
import KE.KDictOf
import PyProof.AttrMissHeap
import PyProof.DictItems
import KE.KDictLaws
import KE.KSortTup
import KE.KDictList
import PyProof.StrLawsTight
import PyProof.StrLawsNeg
import Wide.Line
import OpenK.KOwn
import KE.KFromBytes
import KE.KItem
import KE.KIsAll
import PySem.Challenge.RW_stationrow_k40_dealt_to_so_many
abbrev a_:=@List.getElem?_eq_getElem
abbrev b_:=@PySem.wpAny_bind
abbrev d_:=@List.getD_eq_getElem?_getD
abbrev e_:=@PySem.Heap.get?_push_of_some
abbrev g_:=@List.length_append
abbrev h_:=@List.length_map
abbrev i_:=@List.size_toArray
abbrev j_:=@Nat.le_refl
abbrev k_:=@List.mem_cons_self
abbrev l_:=@List.length_cons
abbrev m_:=@PySem.wpAny_pure
abbrev n_:=@List.mem_cons
abbrev o_:=@List.getElem?_map
abbrev p_:=@Bool.false_ne_true
abbrev q_:=@List.mem_singleton
abbrev t_:=@List.mem_cons_of_mem
abbrev u_:=@PySem.Heap.get?_push_size
abbrev v_:=@decide_eq_true_iff
abbrev x_:=@Bool.false_eq_true
abbrev y_:=@PySem.Heap.lt_size
abbrev z_:=@List.mem_map
abbrev A_:=@List.length_range
abbrev B_:=@List.map_append
abbrev C_:=@Nat.ne_of_lt
abbrev D_:=@List.length_singleton
abbrev E_:=@decide_eq_false
abbrev F_:=@List.mem_filter
abbrev G_:=@List.mem_append
abbrev H_:=@PySem.PassesOwn.never
abbrev I_:=@List.map_cons
abbrev J_:=@List.getElem?_eq_none
abbrev K_:=@Option.some.inj
abbrev L_:=@decide_eq_true
abbrev M_:=@Int.emod_lt_of_pos
abbrev N_:=@List.getElem?_append_right
abbrev O_:=@PySem.AutoSeq1.wpAny_loadPart'
abbrev P_:=@List.not_mem_nil
abbrev Q_:=@List.mem_of_getElem?
abbrev R_:=@Int.emod_nonneg
abbrev S_:=@Nat.lt_of_lt_of_le
abbrev T_:=@PySem.F.plainAttrs_list
abbrev U_:=@Nat.le_trans
abbrev V_:=@PySem.F.slot_list_append
abbrev Wr:=@PySem.F.type_list_append
abbrev Ws:=@List.mem_append_right
abbrev Wt:=@if_false
abbrev Wu:=@List.mem_range
abbrev Wv:=@List.getElem?_range
abbrev Ww:=@PyProof.Rows.slot_tuple_getitem
abbrev Wx:=@Nat.ne_of_gt
abbrev Wz:=@Bool.eq_iff_iff
abbrev WD:=@List.append_nil
abbrev WF:=@Nat.lt_trans
abbrev WK:=@congrArg
abbrev WL:=@Bool.and_eq_true
abbrev WM:=@List.getElem?_append_left
abbrev WN:=@List.map_map
abbrev WP:=@PyProof.Rows.callWith_type1
abbrev WQ:=@Nat.lt_irrefl
abbrev WR:=@Nat.zero_le
abbrev WT:=@List.mem_append_left
abbrev WW:=@List.append_assoc
abbrev WX:=@List.length_replicate
abbrev WY:=@List.length_filter_le
abbrev W0:=@beq_eq_false_iff_ne
abbrev W3:=@List.length_nil
abbrev W4:=@List.getElem_mem
abbrev W5:=@List.getElem?_of_mem
abbrev W6:=@List.take_succ_eq_append_getElem
abbrev W7:=@List.replicate_succ
abbrev W8:=@List.nodup_cons
abbrev W9:=@PySem.wpAny_newObj_type
abbrev W_:=@PySem.wpAny_field
abbrev Xa:=@List.getElem?_eq_some_iff
abbrev Xb:=@List.drop_eq_getElem_cons
abbrev Xc:=@Nat.lt_succ_self
abbrev Xd:=@List.length_take
abbrev Xe:=@List.all_eq_true
abbrev Xf:=@List.mem_flatten
abbrev Xg:=@List.length_reverse
abbrev Xh:=@PySem.wpAny_mono
abbrev Xi:=@Int.toNat_natCast
abbrev Xj:=@List.flatten_cons
abbrev Xk:=@or_false
abbrev Xl:=@PySem.wpAny_callSpecial?_slot
abbrev Xm:=@List.getElem?_cons_succ
abbrev Xn:=@List.getElem?_cons_zero
abbrev Xo:=@List.filter_append
abbrev Xp:=@PySem.wpAny_call_entry
abbrev Xq:=@List.filter_cons
abbrev Xr:=@List.lookup_cons
abbrev Xu:=@List.drop_of_length_le
abbrev Xv:=@List.map_congr_left
abbrev Xw:=@Nat.lt_succ_of_lt
abbrev Xx:=@Nat.le_of_lt
abbrev Xy:=@List.map_nil
abbrev Xz:=@PySem.wpAny_Call_Name_kw
abbrev XC:=@List.any_eq_true
abbrev XD:=@decide_eq_decide
abbrev XF:=@Array.getD_eq_getD_getElem?
abbrev XH:=@List.sum_cons
abbrev XJ:=@Bool.not_true
abbrev XM:=@PySem.Heap.size_push
abbrev XN:=@of_decide_eq_true
abbrev XQ:=@decide_false
abbrev XR:=@Array.getElem?_eq_some_iff
abbrev XS:=@Bool.not_false
abbrev XX:=@PySem.Heap.get?_update_ne
abbrev X3:=@List.flatten_append
abbrev X4:=@List.pairwise_iff_getElem
abbrev X5:=@PySem.Calls.spliced_cons
abbrev X6:=@Option.isSome_some
abbrev X7:=@List.getElem_map
abbrev X8:=@PySem.wpAny_holding
abbrev X_:=@List.eq_nil_of_length_eq_zero
abbrev Yb:=@PySem.wpAny_seqItems
abbrev Yc:=@List.getElem?_replicate
abbrev Yd:=@List.ext_getElem?
abbrev Ye:=@decide_eq_false_iff_not
abbrev Yg:=@List.foldl_append
abbrev Yh:=@List.filter_congr
abbrev Yi:=@List.nodup_append
abbrev Yj:=@List.nil_append
abbrev Yk:=@PyProof.Rows.KeyOrd.kle_refl
abbrev Yl:=@List.dropLast_concat_getLast
abbrev Ym:=@Array.length_toList
abbrev Yn:=@List.getElem?_set_self
abbrev Yo:=@decide_true
abbrev Yp:=@beq_iff_eq
abbrev Yq:=@PySem.F.slot_tuple_iterator_next
abbrev Yr:=@PySem.wpAny_setField_rec
abbrev Ys:=@Nat.lt_of_le_of_lt
abbrev Yt:=@Option.isSome_none
abbrev Yu:=@Array.getElem?_eq_getElem
abbrev Yv:=@PySem.wpAny_passesOwn
abbrev Yw:=@Option.map_some
abbrev Yx:=@List.getElem?_set_ne
abbrev Yy:=@PySem.wpAny_truthy_bool
abbrev Yz:=@PySem.Calls.spliced_nil
abbrev YB:=@Nat.lt_or_ge
abbrev YC:=@PySem.Paired.length
abbrev YD:=@Option.isSome_iff_exists
abbrev YF:=@Prod.mk.injEq
abbrev YG:=@List.cons_append
abbrev YH:=@PySem.wpAny_getItem_str_slice
abbrev YJ:=@PySem.MeetsSeq3.plain_eq_loop
abbrev YK:=@List.nodup_nil
abbrev YL:=@List.length_eq_zero_iff
abbrev YM:=@List.take_append_of_le_length
abbrev YQ:=@PySem.wpAny_pyIter_tuple
abbrev YS:=@PySem.Heap.get?_update_other
abbrev YT:=@PySem.Calls.callWith_builtin
abbrev YW:=@List.take_of_length_le
abbrev YX:=@Int.natCast_nonneg
abbrev YZ:=@List.of_mem_zip
abbrev Y0:=@List.find?_cons
abbrev Y4:=@PyProof.Rows.get?_update_seq
abbrev Y5:=@PySem.codeAny_builtin
abbrev Y6:=@PyProof.Rows.KeyOrd.kle_of_klt
abbrev Y7:=@Bool.not_eq_true'
abbrev Y8:=@List.drop_zero
abbrev Y9:=@List.getElem_toArray
abbrev Y_:=@List.length_drop
abbrev Za:=@List.map_reverse
abbrev Zb:=@Nat.log2_le_self
abbrev Zc:=@List.map_eq_nil_iff
abbrev Zd:=@PySem.F.args_tuple_add_2
abbrev Ze:=@List.any_cons
abbrev Zf:=@List.foldl_cons
abbrev Zg:=@PySem.tupleKind_room_in1
abbrev Zh:=@Nat.not_lt
abbrev Zi:=@PySem.SeqAt.EqAt.int_int
abbrev Zj:=@List.getElem?_take
abbrev Zk:=@PySem.sizeLine_eq
abbrev Zm:=@Nat.le_succ
abbrev Zn:=@Nat.le_of_eq
abbrev Zo:=@PySem.Heap.get?_push_ne
abbrev Zq:=@decide_eq_true_eq
abbrev Zr:=@Int.pow_succ
abbrev Zt:=@Option.some.injEq
abbrev Zu:=@List.getElem?_inj
abbrev Zv:=@PySem.wpAny_newList
abbrev Zw:=@Bool.true_and
open PySem.W (Frag InstAt LeftO callWith_K cellsFrom_some codeIn emptyDict findIn fnOf handedIn hasDictIn instObj isFn kHook keepIn kia_one kitOne kitx_dict kitx_list kitx_tuple lookIn makesIn methodObj mg_of mroIn nsIn plainGet plainGet_of plainOver recOk takerIn typeIn xlAt)
noncomputable section
open PySem PySem.Spec PyProof.Rows
set_option Elab.async false
set_option linter.all false
set_option maxRecDepth 100000
namespace L2
def bR (s:Stmt):Arguments:=match s with
 |.FunctionDef _ a _ _ _ _ _ _ _ _=>a
 |_=>{ posonlyargs:=[],args:=[],vararg:=none,kwonlyargs:=[],kw_defaults:=[],kwarg:=none,defaults:=[]}
def bD (s:Stmt):List Stmt:=match s with
 |.FunctionDef _ _ b _ _ _ _ _ _ _=>b
 |_=>[]
def aB (s:Stmt):Scope:=match s with
 |.FunctionDef _ _ _ _ _ _ sc _ _ _=>sc
 |_=>{ kind:=.function,names:=[],isGenerator:=false,isCoroutine:=false}
end L2
namespace M
open L2
def dealt (ns:List Str) (f:Str->Nat) (m:Nat):List (List Str):=(List.range m).map fun k=>ns.filter fun n=>decide (f n=k)
def top (i:Nat):Stmt:=PySem.Challenge.pw_stationrow_k40_dealt_to_so_many.main.body.getD i (.Pass ⟨0,0,0,0⟩)
def IV:Stmt->List Stmt
 |.ClassDef _ _ _ body _ _ _ _ _ _ _=>body
 |_=>[]
def topm (i j:Nat):Stmt:=(IV (top i)).getD j (.Pass ⟨0,0,0,0⟩)
def qv:Program:={ PySem.Challenge.pw_stationrow_k40_dealt_to_so_many with main:={ PySem.Challenge.pw_stationrow_k40_dealt_to_so_many.main with body:=([0,2,3,4,5,6,7,8,9,11,13,15,16,18,19,20,21,22,24,25,27,28,30,31,32,33,34,35,36,37,38,39,40,41,42,43,44,45,46]:List Nat).map top}}
def en (P:Params) (n:Str) (t:Nat) (v:Value):DictEntry:=⟨PyData.keyHash P n,.str n t,v⟩
def cO (n:Str) (c:Nat) (b:Bool) (a j l k:Nat):Obj:=⟨.type "code",none,.fields #[.str n a,.str n (a+1),.str "/claim/cut.py" (a+2),.int l 0,.int k 0,.int 0 0,.int 0 0,.int 3 0,.ref (c - (bif b then 5 else 3)),.bool true,.int 181 0,.ref (c - (bif b then 4 else 2)),.none,bif b then .ref (c - 3) else .none,bif b then .ref (c - 2) else .none,.ref (c - 1),.int j 0,.int l 0,.str "/claim/cut.py" (j+1)],#[]⟩
def fO (i:Nat) (n m:Str) (t c:Nat):Obj:=⟨.type "function",none,.func (fnOf n n (bR (top i)) (bD (top i)) (aB (top i)) .none .none .none (.str m t) none (.ref c) .none),#[]⟩
abbrev mlw:Str := "law_stationrow_k40_dealt_to_so_many"
def fx (i:Nat) (n m:Str) (t c:Nat) (b:Bool) (a j l k:Nat):(Params->DictEntry) × Frag:=(fun P=>en P n (j+2) (.ref (c+1)),[(c,cO n c b a j l k),(c+1,fO i n m t c)])
def TB:List ((Params->DictEntry) × Frag):=[fx 0 "_wall" "__main__" 164 20 true 187 191 1 1,
 fx 2 "links_of" "stationrow.chains" 194 27 true 196 204 5 1,
 fx 3 "reached" "stationrow.chains" 194 34 true 207 216 12 2,
 fx 4 "led_to" "stationrow.chains" 194 41 true 219 224 22 2,
 fx 5 "led_from" "stationrow.chains" 194 46 false 227 230 24 2,
 fx 6 "in_both" "stationrow.chains" 194 51 false 233 236 26 3,
 fx 7 "in_first_alone" "stationrow.chains" 194 56 false 239 242 28 3,
 fx 8 "group_of" "stationrow.chains" 194 63 true 245 250 30 2,
 fx 9 "ahead_of" "stationrow.chains" 194 70 true 253 258 32 2,
 fx 11 "may_be_done" "stationrow.checks" 261 77 true 263 268 35 2,
 fx 13 "names_of" "stationrow.texts" 271 82 false 273 276 38 1,
 fx 15 "number_of" "stationrow.sets" 279 89 true 281 289 41 2,
 fx 16 "tasks_of" "stationrow.sets" 279 96 true 292 300 49 2,
 fx 18 "apart_from" "stationrow.fillings" 303 101 false 305 308 58 2,
 fx 19 "rules_of" "stationrow.fillings" 303 108 true 311 323 60 1,
 fx 20 "has_all" "stationrow.fillings" 303 115 true 326 331 69 2,
 fx 21 "is_filling_number" "stationrow.fillings" 303 122 true 334 349 71 5,
 fx 22 "greatest_numbers" "stationrow.fillings" 303 127 false 352 355 83 1,
 fx 24 "parts_of" "stationrow.walks" 358 132 false 360 363 90 1,
 (fun P=>en P "Walk" 427 (.ref 174),[]),
 fx 27 "ways_behind" "stationrow.dealt" 428 184 true 430 440 122 3,
 fx 28 "dealing_to" "stationrow.dealt" 428 191 true 443 452 128 3,
 fx 30 "_law_cell" mlw 455 198 true 457 467 137 2,
 fx 31 "_law_word" mlw 455 205 true 470 478 149 1,
 fx 32 "_law_unlike" mlw 455 212 true 481 488 157 1,
 fx 33 "_law_pool" mlw 455 219 true 491 497 165 1,
 fx 34 "_law_task" mlw 455 226 true 500 516 171 4,
 fx 35 "_law_links" mlw 455 231 false 519 522 190 3,
 fx 36 "_law_works" mlw 455 236 false 525 528 215 3,
 fx 37 "_law_loads" mlw 455 243 true 531 539 232 2,
 fx 38 "_law_beat" mlw 455 248 false 542 545 237 3,
 fx 39 "_law_drawn" mlw 455 255 true 548 556 244 3,
 fx 40 "_law_moved" mlw 455 262 true 559 566 247 2,
 fx 41 "_law_right" mlw 455 267 false 569 572 255 3,
 fx 42 "_law_is_dealing" mlw 455 272 false 575 578 276 4,
 fx 43 "_law_may" mlw 455 279 true 581 601 286 4,
 fx 44 "_law_some" mlw 455 286 true 604 612 307 4,
 fx 45 "_law_told_right" mlw 455 293 true 615 622 314 3,
 fx 46 "law" mlw 455 300 true 625 636 321 1]
def wcO (C N t u:Nat):Obj:=⟨.type "type",none,.cls { name:="Walk",bases:=[.type "object"],mro:=[.ref C,.type "object"],ns:=N,qualname:="Walk"},#[none,none,some (.str "Walk" t),some (.str "Walk" u),some (.builtin "object.__new__"),some (.bool true)]⟩
def nsO (P:Params) (es:List (Str × Nat × Value)) (k:Nat):Obj:=⟨.type "dict",none,.dict (es.map fun e=>en P e.1 e.2.1 e.2.2).toArray k,#[]⟩
def cQ (n q:Str) (c:Nat) (b:Bool) (a j l k:Nat):Obj:=⟨.type "code",none,.fields #[.str n a,.str q (a+1),.str "/claim/cut.py" (a+2),.int l 0,.int k 0,.int 0 0,.int 0 0,.int 3 0,.ref (c - (bif b then 5 else 3)),.bool true,.int 181 0,.ref (c - (bif b then 4 else 2)),.none,bif b then .ref (c - 3) else .none,bif b then .ref (c - 2) else .none,.ref (c - 1),.int j 0,.int l 0,.str "/claim/cut.py" (j+1)],#[]⟩
def fQ (st:Stmt) (n q m:Str) (t c:Nat):Obj:=⟨.type "function",none,.func (fnOf n q (bR st) (bD st) (aB st) .none .none .none (.str m t) none (.ref c) .none),#[]⟩
def KC (P:Params):Frag:=[(146,cQ "__init__" "Walk.__init__" 146 true 378 384 100 3),
 (147,fQ (topm 25 0) "__init__" "Walk.__init__" "stationrow.walks" 358 146),
 (151,cQ "fillings_at" "Walk.fillings_at" 151 false 387 390 106 3),
 (152,fQ (topm 25 1) "fillings_at" "Walk.fillings_at" "stationrow.walks" 358 151),
 (158,cQ "greatest_at" "Walk.greatest_at" 158 true 393 399 113 3),
 (159,fQ (topm 25 2) "greatest_at" "Walk.greatest_at" "stationrow.walks" 358 158),
 (170,cQ "dealing_of" "Walk.dealing_of" 170 false 410 413 119 2),
 (171,fQ (topm 25 4) "dealing_of" "Walk.dealing_of" "stationrow.walks" 358 170),
 (173,nsO P [("__module__",373,.str "stationrow.walks" 358),("__firstlineno__",377,.int 98 376),("__init__",386,.ref 147),("fillings_at",392,.ref 152),("greatest_at",401,.ref 159),("load_at",409,.ref 166),("dealing_of",415,.ref 171),("__static_attributes__",420,.ref 172),("__dict__",422,.ref 175),("__weakref__",424,.ref 176),("__doc__",425,.none)] 4),
 (174,wcO 174 173 366 374)]
def KK (P:Params):Frag:=(3,⟨.type "dict",none,.dict ([en P "__name__" 165 (.str mlw 455),
 en P "__doc__" 166 .none,
 en P "__package__" 167 .none,
 en P "__loader__" 168 (.builtin "__main__.__loader__#opaque"),
 en P "__spec__" 169 .none,
 en P "__annotations__" 170 (.ref 6),
 en P "__builtins__" 171 (.ref 4),
 en P "__file__" 173 (.str "/claim/cut.py" 172),
 en P "__cached__" 174 .none]++TB.map fun r=>r.1 P).toArray 48,#[]⟩)::(TB.map fun r=>r.2).flatten++KC P
def HK:PySem.W.Hook:=kHook KK [3,20,21,27,28,34,35,41,42,46,47,51,52,56,57,63,64,70,71,77,78,82,83,89,90,96,97,101,102,108,109,115,116,122,123,127,128,132,133,184,185,191,192,198,199,205,206,212,213,219,220,226,227,231,232,236,237,243,244,248,249,255,256,262,263,267,268,272,273,279,280,286,287,293,294,300,301,146,147,151,152,158,159,170,171,173,174] (fun _=>by kernel_rfl)
theorem left:LeftO (PySem.W.OpenLaw.row PySem.Challenge.rw_stationrow_k40_dealt_to_so_many).prog qv [] (fun s=>xlAt qv [] s&&recOk (PySem.W.RowW.records (PySem.W.OpenLaw.row PySem.Challenge.rw_stationrow_k40_dealt_to_so_many).toRowW) s) (PySem.W.Hook.obs HK) (PySem.W.Hook.val HK) 3336:=by
 intro w;kernel_rfl
end M
namespace L2
abbrev Key:=Sum Int Str
def mY:Key->Value->Bool
 |.inl k,v=>Value.isInt k v
 |.inr x,v=>Value.isStrOf x v
def Vo (w:World):Key->Int
 |.inl k=>hashInt k
 |.inr x=>hashStr w x
theorem bB:∀{k:Key}{v:Value},mY k v=true->(∃i t,k=Sum.inl i/\v=Value.int i t)\/(∃x t,k=Sum.inr x/\v=Value.str x t)
 |.inl i,v,h=>by
  obtain⟨t,e⟩:=Value.isInt_shape (k:=i) (v:=v) h
  exact .inl ⟨i,t,rfl,e⟩
 |.inr x,v,h=>by
  obtain⟨t,e⟩:=Value.isStrOf_shape (x:=x) (v:=v) h
  exact .inr ⟨x,t,rfl,e⟩
theorem xF (i:Int) (t:Tok):mY (.inl i) (.int i t)=true:=by simp [mY,Value.isInt]
theorem xG (x:Str) (t:Tok):mY (.inr x) (.str x t)=true:=by simp [mY,Value.isStrOf]
theorem Kf (a b:Int):decide ((Sum.inl a:Key)=Sum.inl b)=(a==b):=by
 by_cases e:a=b
 ·subst e;simp
 have h:¬(Sum.inl a:Key)=Sum.inl b:=fun q=>e (Sum.inl.inj q);rw[E_ h];exact (W0.mpr e).symm
theorem Kg (a b:Str):decide ((Sum.inr a:Key)=Sum.inr b)=decide (a=b):=by
 by_cases e:a=b
 ·subst e;simp
 have h:¬(Sum.inr a:Key)=Sum.inr b:=fun q=>e (Sum.inr.inj q);rw[E_ h,E_ e]
theorem Kh (a:Int) (b:Str):decide ((Sum.inl a:Key)=Sum.inr b)=false:=E_ (fun q=>nomatch q)
theorem Kl (a:Str) (b:Int):decide ((Sum.inr a:Key)=Sum.inl b)=false:=E_ (fun q=>nomatch q)
def bx (prog:Program) (w:World):PySem.KeyKind prog w Key where
 is:=mY
 hash:=Vo w
 inj:=fun v a b ha hb=>by
  rcases bB ha with ⟨i,t,rfl,rfl⟩ | ⟨x,t,rfl,rfl⟩
  ·
   rcases bB hb with ⟨j,u,rfl,e⟩ | ⟨y,u,rfl,e⟩
   ·
    injection e with e1 _;rw[e1]
   ·
    exact nomatch e
  ·
   rcases bB hb with ⟨j,u,rfl,e⟩ | ⟨y,u,rfl,e⟩
   ·
    exact nomatch e
   ·
    injection e with e1 _;rw[e1]
 byValue:=fun k v h=>by
  rcases bB h with ⟨i,t,rfl,rfl⟩ | ⟨x,t,rfl,rfl⟩ <;> rfl
 pyHash:=fun hv h=>by
  rcases bB hv with ⟨i,t,rfl,rfl⟩ | ⟨x,t,rfl,rfl⟩
  ·
   exact wpAny_pyHash_int h
  ·
   exact wpAny_pyHash_str h
 eqBool:=fun hu hv h=>by
  rcases bB hu with ⟨i,t,rfl,rfl⟩ | ⟨x,t,rfl,rfl⟩
  ·
   rcases bB hv with ⟨j,u,rfl,rfl⟩ | ⟨y,u,rfl,rfl⟩
   ·
    rw[Kf] at h;exact wpAny_eqBool_int h
   ·
    rw[Kh] at h;exact SeqAt.EqAt.int_str i t y u _ _ _ _ h
  ·
   rcases bB hv with ⟨j,u,rfl,rfl⟩ | ⟨y,u,rfl,rfl⟩
   ·
    rw[Kl] at h;exact SeqAt.EqAt.str_int x t j u _ _ _ _ h
   ·
    rw[Kg] at h;exact wpAny_eqBool_str h
 «strs»:=fun k x t v h=>by
  rcases bB h with ⟨i,u,rfl,e⟩ | ⟨y,u,rfl,e⟩
  ·
   exact nomatch e
  ·
   injection e with e1 _
   subst e1
   cases v <;> rfl
theorem ql (prog:Program) (w:World) (i:Int) (t:Tok):(bx prog w).is (.inl i) (.int i t)=true:=xF i t
theorem qm (prog:Program) (w:World) (x:Str) (t:Tok):(bx prog w).is (.inr x) (.str x t)=true:=xG x t
inductive V where
 |non | bl (b:Bool) | int (i:Int) | str (x:Str) | byt (b:Array UInt8) | flt (b:UInt64) | ref (a:Addr) | ty (n:String)
 deriving DecidableEq
def RelV:V->Value->Prop
 |.non,u=>u=Value.none
 |.bl b,u=>u=Value.bool b
 |.int i,u=>∃t,u=Value.int i t
 |.str x,u=>∃t,u=Value.str x t
 |.byt b,u=>∃t,u=Value.bytes b t
 |.flt b,u=>∃t,u=Value.float b t
 |.ref a,u=>u=Value.ref a
 |.ty n,u=>u=Value.type n
abbrev Vals:List V->List Value->Prop:=Paired RelV
theorem Vals.length {xs:List V}{us:List Value}(r:Vals xs us):xs.length=us.length:=YC r
theorem Vals.get:∀{xs:List V}{us:List Value}{i:Nat}{x:V},Vals xs us->xs[i]?=some x->∃u,us[i]?=some u/\RelV x u
 |_,_,_,_,.nil,e=>by simp at e
 |_,_,0,_,.cons r _,e=>by simp at e;subst e;exact⟨_,rfl,r⟩
 |_,_,i+1,x,.cons _ t,e=>by
  obtain⟨u,h1,h2⟩:=Vals.get (i:=i) (x:=x) t (by simpa using e)
  exact⟨u,by simpa using h1,h2⟩
theorem Vals.set {x:V}{u:Value}(r:RelV x u):∀{xs:List V}{us:List Value}(i:Nat),Vals xs us->Vals (xs.set i x) (us.set i u)
 |_,_,_,.nil=>.nil
 |_,_,0,.cons _ t=>.cons r t
 |_,_,i+1,.cons q t=>.cons q (Vals.set r i t)
theorem Vals.append:∀{xs ys:List V}{us ws:List Value},Vals xs us->Vals ys ws->Vals (xs++ys) (us++ws)
 |_,_,_,_,.nil,s=>s
 |_,_,_,_,.cons r t,s=>.cons r (Vals.append t s)
theorem Vals.take:∀{xs:List V}{us:List Value}(n:Nat),Vals xs us->Vals (xs.take n) (us.take n)
 |_,_,0,_=>.nil
 |_,_,_+1,.nil=>.nil
 |_,_,n+1,.cons r t=>.cons r (Vals.take n t)
theorem Vals.drop:∀{xs:List V}{us:List Value}(n:Nat),Vals xs us->Vals (xs.drop n) (us.drop n)
 |_,_,0,r=>r
 |_,_,_+1,.nil=>.nil
 |_,_,n+1,.cons _ t=>Vals.drop n t
theorem Vals.none_of:∀{xs:List V}{us:List Value}{i:Nat},Vals xs us->xs[i]?=none->us[i]?=none:=fun {xs us i} r e=>by
 have h1:=r.length;have h2:xs.length<=i:=List.getElem?_eq_none_iff.mp e;exact List.getElem?_eq_none_iff.mpr (by omega)
def RelO:Option V->Option Value->Prop
 |some v,some u=>RelV v u
 |none,none=>True
 |_,_=>False
def KV {κ:Type}:List (κ × V)->List (κ × Value)->Prop:=Paired fun (p:κ × V) (q:κ × Value)=>p.1=q.1/\RelV p.2 q.2
def kV:Key->V
 |.inl i=>.int i
 |.inr x=>.str x
inductive HO where
 |lst (xs:List V)
 |tup (xs:List V)
 |dK (kvs:List (Key × V)) | dT (kvs:List (List Key × V))
 |set (S:Int->Bool) (n:Nat)
 |ins (C dx:Addr) (fs:List (Str × V))
 |own (x:Addr)
 |xd (fs:List (Str × V))
 |met (f x:Addr)
 |rng (lo hi:Int)
 |frz (o:Obj) (u:HO)
 |tbl (ps:Array Value)
 |ext (φ:Heap->Prop)
abbrev Hp:=Addr->Option HO
def upd (H:Hp) (a:Addr) (o:HO):Hp:=fun b=>if b=a then some o else H b
theorem bM {H:Hp}{a:Addr}{o:HO}:upd H a o a=some o:=by unfold upd;rw[if_pos rfl]
theorem aO {H:Hp}{a b:Addr}{o:HO}(h:b≠a):upd H a o b=H b:=by unfold upd;rw[if_neg h]
theorem Qs {H:Hp}{a b:Addr}{o u:HO}(h:H a=some o) (h':H b=some u) (d:o≠u):a≠b:=by
 intro e;subst e;rw[h] at h';exact d (K_ h')
theorem bV {H:Hp}{a b:Addr}{o:HO}(h:H a=some o) (h':H b=none):a≠b:=by
 intro e;subst e;rw[h] at h';cases h'
def Tup0 (h:Heap) (a:Addr) (items:Array Value):Prop:=∃o,h.get? a=some o/\o.cls=.type "tuple"/\∃n,o.data=.seq items n/\o.dict=none
theorem Tup0.is {h:Heap}{a:Addr}{items:Array Value}(x:Tup0 h a items):IsTup h a items:=by
 obtain⟨o,ho,hc,n,hd,_⟩:=x;exact⟨o,ho,hc,n,hd⟩
theorem Tup0.new (h:Heap) (items:Array Value):Tup0 (h.push { cls:=.type "tuple",data:=.seq items}) h.objs.size items:=⟨_,u_ _ rfl,rfl,_,rfl,rfl⟩
section
variable (P:Program) (w:World)
def ObjOk (H:Hp) (h:Heap) (a:Addr):HO->Prop
 |.lst xs=>xs.length<=sizeLine/\∃(its:List Value) (n:Nat),Vals xs its/\h.get? a=some { cls:=.type "list",data:=.seq its.toArray n}
 |.tup xs=>xs.length<=sizeLine/\∃its:List Value,Vals xs its/\Tup0 h a its.toArray
 |.dK kvs=>kvs.length<=sizeLine/\(a==sysModules)=false/\∃vs,KV kvs vs/\h.DictOf (bx P w) a vs
 |.dT kvs=>kvs.length<=sizeLine/\(a==sysModules)=false/\∃xs:List (List Key × Addr × Value),
   Paired (fun (p:List Key × V) (q:List Key × Addr × Value)=>p.1=q.1/\H q.2.1=some (.tup (p.1.map kV))/\RelV p.2 q.2.2) kvs xs /\
   ∃o es ep,h.get? a=some o/\o.ExactDict/\o.data=.dict es ep/\es.toList=xs.map (entryOfKey (tupleKind (bx P w)))/\(xs.map (·.1)).Nodup
 |.set S n=>h.SetOf (intKind P w) a S n
 |.ins C dx fs=>H dx=some (.own a)/\fs.length<=1000/\dx≠a/\h.get? a=some (instObj C dx) /\
   ∃mA,h.Ns1 dx mA/\(∀f,RelO (fs.lookup f) (mA f))/\PySem.Within mA (fs.map (·.1))
 |.own _=>∃o,h.get? a=some o
 |.xd fs=>∃mA,h.Ns1 a mA/\∀f,RelO (fs.lookup f) (mA f)
 |.rng lo hi=>∃t u v,h.get? a=some { cls:=.type "range",data:=.fields #[.int lo t,.int hi u,.int 1 v]}
 |.frz o u=>h.get? a=some o/\ObjOk H h a u
 |.tbl ps=>h.get? a=some { cls:=.none,data:=.fields ps}
 |.met f x=>h.get? a=some (methodObj (.ref f) (.ref x))
 |.ext φ=>φ h/\(∃o,h.get? a=some o)/\∀h1 h2:Heap,φ h1->(∀o,h1.get? a=some o->h2.get? a=some o)->φ h2
def HOk (H:Hp) (h:Heap):Prop:=∀a o,H a=some o->ObjOk P w H h a o
end
section
variable {P:Program}{w:World}{H H':Hp}{h h':Heap}{a:Addr}{o:HO}
theorem ObjOk.lt (x:ObjOk P w H h a o):a<h.objs.size:=by
 cases o with
 |lst xs=>obtain⟨_,_,_,_,e⟩:=x;exact y_ e
 |tup xs=>obtain⟨_,_,_,p⟩:=x;exact p.is.lt
 |dK kvs=>obtain⟨_,_,_,_,o,_,_,e,_⟩:=x;exact y_ e
 |dT kvs=>obtain⟨_,_,_,_,o,_,_,e,_⟩:=x;exact y_ e
 |set S n=>obtain⟨o,_,_,_,e,_⟩:=x;exact y_ e
 |ins C dx fs=>obtain⟨_,_,_,e,_⟩:=x;exact y_ e
 |own y=>obtain⟨_,e⟩:=x;exact y_ e
 |xd fs=>obtain⟨_,⟨_,_,_,e,_⟩,_⟩:=x;exact y_ e
 |rng lo hi=>obtain⟨_,_,_,e⟩:=x;exact y_ e
 |frz ob u=>obtain⟨e,_⟩:=x;exact y_ e
 |tbl ps=>exact y_ (show h.get? a=some _ from x)
 |met f y=>exact y_ (show h.get? a=some _ from x)
 |ext φ=>obtain⟨_,⟨_,e⟩,_⟩:=x;exact y_ e
theorem Paired.mapP {α β:Type}{F G:α->β->Prop}:∀{l₁:List α}{l₂:List β},Paired F l₁ l₂->(∀a b,F a b->G a b)->Paired G l₁ l₂
 |_,_,.nil,_=>.nil
 |_,_,.cons r t,f=>.cons (f _ _ r) (Paired.mapP t f)
theorem ObjOk.stay (x:ObjOk P w H h a o) (k:∀b u,(b=a\/H b=some (.own a))->h.get? b=some u->h'.get? b=some u)
  (ho:∀b,H b=some (.own a)->H' b=some (.own a)) (ht:∀b xs,H b=some (.tup xs)->H' b=some (.tup xs)):ObjOk P w H' h' a o:=by
 induction o with
 |lst xs=>obtain⟨z,its,n,r,e⟩:=x;exact⟨z,its,n,r,k _ _ (.inl rfl) e⟩
 |tup xs=>obtain⟨z,its,r,ob,e,c⟩:=x;exact⟨z,its,r,ob,k _ _ (.inl rfl) e,c⟩
 |dK kvs=>obtain⟨z,y,vs,r,ob,es,ep,e,c⟩:=x;exact⟨z,y,vs,r,ob,es,ep,k _ _ (.inl rfl) e,c⟩
 |dT kvs=>obtain⟨z,y,xs,r,ob,es,ep,e,c⟩:=x;exact⟨z,y,xs,Paired.mapP r fun p q z=>⟨z.1,ht _ _ z.2.1,z.2.2⟩,ob,es,ep,k _ _ (.inl rfl) e,c⟩
 |set S n=>obtain⟨ob,es,ep,t,e,c⟩:=x;exact⟨ob,es,ep,t,k _ _ (.inl rfl) e,c⟩
 |ins C dx fs=>obtain⟨d,z,ne,e,mA,⟨od,es,ep,e2,c⟩,r⟩:=x;exact⟨ho _ d,z,ne,k _ _ (.inl rfl) e,mA,⟨od,es,ep,k _ _ (.inr d) e2,c⟩,r⟩
 |own y=>obtain⟨ob,e⟩:=x;exact⟨ob,k _ _ (.inl rfl) e⟩
 |xd fs=>obtain⟨mA,⟨od,es,ep,e,c⟩,r⟩:=x;exact⟨mA,⟨od,es,ep,k _ _ (.inl rfl) e,c⟩,r⟩
 |rng lo hi=>obtain⟨t,u,v,e⟩:=x;exact⟨t,u,v,k _ _ (.inl rfl) e⟩
 |frz ob u ih=>obtain⟨e,q⟩:=x;exact⟨k _ _ (.inl rfl) e,ih q⟩
 |tbl ps =>
  have e:h.get? a=some { cls:=.none,data:=.fields ps}:=x
  show h'.get? a=some { cls:=.none,data:=.fields ps}
  exact k a _ (.inl rfl) e
 |met f y =>
  have e:h.get? a=some (methodObj (.ref f) (.ref y)):=x
  show h'.get? a=some (methodObj (.ref f) (.ref y))
  exact k a _ (.inl rfl) e
 |ext φ=>obtain⟨p,⟨o,e⟩,st⟩:=x;exact⟨st _ _ p fun o q=>k _ _ (.inl rfl) q,⟨o,k _ _ (.inl rfl) e⟩,st⟩
theorem HOk.lt (x:HOk P w H h) (e:H a=some o):a<h.objs.size:=(x a o e).lt
theorem HOk.fresh (x:HOk P w H h) (e:h.objs.size<=a):H a=none:=by
 cases q:H a with
 |none=>rfl
 |some u=>exact absurd (S_ (x.lt q) e) (WQ _)
theorem HOk.kept (x:HOk P w H h) (k:∀b u,h.get? b=some u->h'.get? b=some u):HOk P w H h':=fun a o e =>
 (x a o e).stay (fun b u _ q=>k b u q) (fun _ q=>q) fun _ _ q=>q
theorem HOk.laid (x:HOk P w H h) (k:∀b u,h.get? b=some u->h'.get? b=some u) (hp:h.objs.size<=a) (new:ObjOk P w (upd H a o) h' a o):HOk P w (upd H a o) h':=fun b u e=>by
 have hn:=x.fresh hp;by_cases hb:b=a
 ·subst hb;rw[bM] at e;cases e;exact new
 rw[aO hb] at e;exact (x b u e).stay (fun c v _ q=>k c v q) (fun c q=>by rw[aO (bV q hn)];exact q) fun c xs q=>by rw[aO (bV q hn)];exact q
end
def Rd (H:Hp) (a:Addr) (u:HO):Prop:=H a=some u\/∃o,H a=some (.frz o u)
theorem Rd.of {H:Hp}{a:Addr}{u:HO}(h:H a=some u):Rd H a u:=.inl h
theorem Rd.ok {P:Program}{w:World}{H:Hp}{h:Heap}{a:Addr}{u:HO}(r:Rd H a u) (x:HOk P w H h):ObjOk P w H h a u:=by
 rcases r with r | ⟨o,r⟩
 ·exact x a u r
 obtain⟨_,q⟩:=x a _ r;exact q
def Mut:Option HO->Prop
 |some (.lst _)=>True
 |some (.dK _)=>True
 |some (.dT _)=>True
 |some (.set _ _)=>True
 |some (.ins _ _ _)=>True
 |some (.ext _)=>True
 |_=>False
section
variable {P:Program}{w:World}{H:Hp}{h h':Heap}{x e:Addr}{o':HO}
theorem HOk.write (ok:HOk P w H h) (mu:Mut (H x)) (he:e=x\/H e=some (.own x)) (k:∀b u,b≠e->h.get? b=some u->h'.get? b=some u) (heo:∃u,h'.get? e=some u)
  (new:ObjOk P w (upd H x o') h' x o'):HOk P w (upd H x o') h':=fun b u q=>by
 have nown:∀c y,H c=some (.own y)->c≠x:=fun c y r z=>by subst z;rw[r] at mu;exact mu
 have ntup:∀c xs,H c=some (.tup xs)->c≠x:=fun c xs r z=>by subst z;rw[r] at mu;exact mu
 by_cases hb:b=x
 ·subst hb;rw[bM] at q;cases q;exact new
 rw[aO hb] at q;by_cases hbe:b=e
 ·have q':H b=some (.own x):=by
   rcases he with z | z
   ·exact absurd (hbe.trans z) hb
   rw[hbe];exact z
  rw[q] at q';cases q';obtain⟨v,hv⟩:=heo;exact⟨v,by rw[hbe];exact hv⟩
 refine (ok b u q).stay (fun c v hc r=>k c v ?_ r) (fun c r=>by rw[aO (nown c b r)];exact r) fun c xs r=>by rw[aO (ntup c xs r)];exact r
 rcases hc with rfl | hc
 ·exact hbe
 rintro rfl;rcases he with z | z
 ·exact nown c b hc z
 rw[hc] at z;cases z;exact hb rfl
end
structure Un (fs ex:List Addr) (H H':Hp) (h h':Heap):Prop where
 keep:∀b o,h.get? b=some o->H b=none->b∉fs->b∉ex->h'.get? b=some o
 slot:∀b o,h.get? b=some o->H b=none->b∈fs->b∉ex->∃sl,h'.get? b=some { o with slots:=sl}
 free:∀b o,h.get? b=some o->H b=none->b∉ex->H' b=none
 there:∀b o,h.get? b=some o->b∉ex->∃o',h'.get? b=some o'
 tups:∀b xs,H b=some (.tup xs)->H' b=some (.tup xs)
 frzs:∀b o u,H b=some (.frz o u)->H' b=some (.frz o u)
 tbls:∀b ps,H b=some (.tbl ps)->∃more,H' b=some (.tbl (ps++more))
section
variable {fs fs' ex ex':List Addr}{H H1 H2:Hp}{h h1 h2 h':Heap}{a x e:Addr}{o:HO}
theorem Un.any (u:Un fs ex H H1 h h1) {b:Addr}{ob:Obj}(q:h.get? b=some ob) (n:H b=none) (hx:b∉ex):∃sl,h1.get? b=some { ob with slots:=sl}:=by
 by_cases hb:b∈fs
 ·exact u.slot b ob q n hb hx
 exact⟨ob.slots,u.keep b ob q n hb hx⟩
theorem Un.trans (a:Un fs ex H H1 h h1) (b:Un fs ex H1 H2 h1 h2):Un fs ex H H2 h h2 where
 keep:=fun c ob q n hc hx=>b.keep c ob (a.keep c ob q n hc hx) (a.free c ob q n hx) hc hx
 slot:=fun c ob q n hc hx=>by
  obtain⟨sl,e1⟩:=a.slot c ob q n hc hx
  obtain⟨sl',e2⟩:=b.slot c _ e1 (a.free c ob q n hx) hc hx
  exact⟨sl',e2⟩
 free:=fun c ob q n hx=>by
  obtain⟨o',e1⟩:=a.there c ob q hx
  exact b.free c o' e1 (a.free c ob q n hx) hx
 there:=fun c ob q hx=>by
  obtain⟨o',e1⟩:=a.there c ob q hx
  exact b.there c o' e1 hx
 tups:=fun c xs q=>b.tups c xs (a.tups c xs q)
 frzs:=fun c ob xs q=>b.frzs c ob xs (a.frzs c ob xs q)
 tbls:=fun c ps q=>by
  obtain⟨m1,e1⟩:=a.tbls c ps q
  obtain⟨m2,e2⟩:=b.tbls c _ e1
  exact⟨m1++m2,by rw[e2,Array.append_assoc]⟩
theorem Un.kept (k:∀b u,h.get? b=some u->h'.get? b=some u):Un fs ex H H h h' :=
 ⟨fun b ob q _ _ _=>k b ob q,fun b ob q _ _ _=>⟨ob.slots,k b ob q⟩,fun _ _ _ n _=>n,fun b ob q _=>⟨ob,k b ob q⟩,fun _ _ q=>q,fun _ _ _ q=>q,fun _ ps q=>⟨#[],by rw[q];simp⟩⟩
theorem Un.refl:Un fs ex H H h h:=Un.kept fun _ _ q=>q
theorem Un.laid (k:∀b u,h.get? b=some u->h'.get? b=some u) (hp:h.objs.size<=a) (hn:H a=none):Un fs ex H (upd H a o) h h' where
 keep:=fun b u q _ _ _=>k b u q
 slot:=fun b u q _ _ _=>⟨u.slots,k b u q⟩
 free:=fun b u q n _=>by rw[aO (C_ (S_ (y_ q) hp))];exact n
 there:=fun b u q _=>⟨u,k b u q⟩
 tups:=fun b xs q=>by rw[aO (bV q hn)];exact q
 frzs:=fun b u xs q=>by rw[aO (bV q hn)];exact q
 tbls:=fun b ps q=>⟨#[],by rw[aO (bV q hn),q];simp⟩
theorem Un.write (mu:Mut (H x)) (he:e=x\/H e=some (.own x)) (k:∀b u,b≠e->h.get? b=some u->h'.get? b=some u) (heo:∃u,h'.get? e=some u):Un fs ex H (upd H x o) h h':=by
 have hx:∀b,H b=none->b≠x:=fun b n z=>by subst z;rw[n] at mu;exact mu
 have hb:∀b,H b=none->b≠e:=fun b n z=>by
  subst z;rcases he with r | r
  ·exact hx b n r
  rw[n] at r;cases r
 have hm:∀b u,H b=some u->¬Mut (some u)->b≠x:=fun b u q nm z=>by subst z;rw[q] at mu;exact nm mu
 refine⟨fun b u q n _ _=>k b u (hb b n) q,fun b u q n _ _=>⟨u.slots,k b u (hb b n) q⟩,fun b u q n _=>by rw[aO (hx b n)];exact n,fun b u q _=>?_,
  fun b xs q=>by rw[aO (hm b _ q fun z=>z)];exact q,fun b u xs q=>by rw[aO (hm b _ q fun z=>z)];exact q,fun b ps q=>⟨#[],by rw[aO (hm b _ q fun z=>z),q];simp⟩⟩
 by_cases hbe:b=e
 ·subst hbe;exact heo
 exact⟨u,k b u hbe q⟩
theorem Un.mono (u:Un fs ex H H1 h h1) (hs:∀b∈fs,b∈fs') (hx:∀b∈ex,b∈ex'):Un fs' ex' H H1 h h1 :=
 ⟨fun b ob q n hb he=>u.keep b ob q n (fun z=>hb (hs b z)) fun z=>he (hx b z),fun _ _ q n _ he=>u.any q n fun z=>he (hx _ z),fun b ob q n he=>u.free b ob q n fun z=>he (hx b z),fun b ob q he=>u.there b ob q fun z=>he (hx b z),u.tups,u.frzs,u.tbls⟩
end
def trk (h:Heap) (H:Hp):List Addr:=(List.range h.objs.size).filter fun a=>(H a).isSome
def oJ (h:Heap) (H:Hp):Heap:=PySem.W.hideAll h (trk h H)
theorem xH (h:Heap) (H:Hp):(oJ h H).objs.size=h.objs.size:=PySem.W.hideAll_size _ _
theorem yO {h:Heap}{H:Hp}{b:Addr}{o:Obj}(e:h.get? b=some o) (n:H b=none):(oJ h H).get? b=some o :=
 PySem.W.hideAll_get _ e fun hm=>by
  have q:(H b).isSome=true:=(F_.mp hm).2;rw[n] at q;simp at q
theorem Ef {h:Heap}{H:Hp}{b:Addr}{o:Obj}(e:(oJ h H).get? b=some o):h.get? b=some o/\H b=none:=by
 have e':h.get? b=some o:=PySem.W.of_hideAll (trk h H) e;refine⟨e',?_⟩;cases q:H b with
 |none=>rfl
 |some x =>
  have hm:b∈trk h H:=F_.mpr ⟨Wu.mpr (y_ e'),by simp [q]⟩
  have z:(oJ h H).get? b=none:=PySem.W.hideAll_none (trk h H) hm
  rw[z] at e;cases e
def Eg (g h : Heap) (L : Addr) : List (Addr × Obj):=(List.range h.objs.size).filterMap fun a => if a = L \/ (g.get? a).isSome = true then none else (h.get? a).map fun o => (a,o)
def rest (g h:Heap) (L d:Addr):List (Addr × Obj):=(Eg g h L).filter fun p=>decide (p.1≠d)
structure Mod (K:Frag) (mg:Str->Option Value) (base:Heap):Prop where
 kin:K.In base
 glob:base.Ns mainGlobals mg
 blt:∃mb,base.Ns builtinsNs mb/\∀x:Str,x≠"__name__"->mb x=bootBuiltins x
 nolimit:base.NoLimit
structure Cx where
 prog:Program
 w:World
 K:Frag
 mg:Str->Option Value
 base:Heap
 A:Around
 N:List Str
 s₀:Shared
 H₀:Hp
 env:Env
 outer:List Env
 stack:List Env
 ex:List Addr
 fn:Str->Bool
 calm:Bool
 pn:List (Addr × Obj)
 xe:Value->Shared->Prop
def frs (l : List Env) : List Addr:=l.filterMap (·.frame)
abbrev Cx.fs (X:Cx):List Addr:=frs X.outer
def Vis (sc:Scope) (x:Str):Prop:=sc.names.lookup x=some .local\/sc.names.lookup x=some .cell\/sc.names.lookup x=some .free
def Loc (sc:Scope) (x:Str):Prop:=sc.names.lookup x=some .local\/sc.names.lookup x=some .cell
def Look (env:Env) (h:Heap) (m:Str->Option Value) (x:Str) (u:Value):Prop :=
 (env.kindOf x=some .local/\m x=some u)\/((env.kindOf x=some .cell\/env.kindOf x=some .free)/\∃c,env.cells.lookup x=some c/\h.IsCell c (some u))
structure Cx.Ok (X:Cx):Prop where
 mod:Mod X.K X.mg X.base
 kind:X.env.scope.kind=.function
 glob:X.env.globals=mainGlobals
 blt:X.env.builtins=builtinsNs
 above:X.s₀.heap.objs.size<=X.env.locals
 inj:∀x y c,X.env.cells.lookup x=some c->X.env.cells.lookup y=some c->x=y
 has:∀x,(X.env.kindOf x=some .cell\/X.env.kindOf x=some .free)->∃c,X.env.cells.lookup x=some c
 cab:∀x c,X.fn x=true->X.env.cells.lookup x=some c->X.s₀.heap.objs.size<=c
 hd:X.calm=true->X.A.handled=none
 frames:X.A.frames=some X.stack
 stk:X.stack=X.outer\/(X.stack=X.env::X.outer/\X.env.frame=some X.env.locals)
 exf:∀b∈X.ex,b≠X.env.locals/\∀x c,X.env.cells.lookup x=some c->c≠b
 bs:∀b o,X.base.get? b=some o->X.s₀.heap.get? b=some o/\X.H₀ b=none
 bsz:X.base.objs.size<=X.s₀.heap.objs.size
 noex:∀b o,X.base.get? b=some o->b∉X.ex
 exfs:∀b∈X.ex,b∉X.fs
 funs:X.s₀.heap.FunFrames X.base X.outer
 frf:∀b∈X.fs,X.H₀ b=none
structure Inv (X:Cx) (pins:List (Addr × Obj)) (Z:List (Option V)) (H:Hp) (s:Shared):Prop where
 ok:X.Ok
 os:s.os=X.s₀.os
 bare:AllBare s.gens
 base:Un X.fs X.ex X.H₀ H X.s₀.heap s.heap
 loc:∃m,s.heap.Ns X.env.locals m/\∀(i:Nat) (x:Str) (v:V),X.N[i]?=some x->Z[i]?=some (some v)->Vis X.env.scope x->∃u,RelV v u/\Look X.env s.heap m x u
 cell:∀x c,X.env.cells.lookup x=some c->∃v,s.heap.IsCell c v
 free:H X.env.locals=none
 freeC:∀x c,X.env.cells.lookup x=some c->H c=none
 pin:∀p∈X.pn++pins,s.heap.get? p.1=some p.2/\H p.1=none/\p.1≠X.env.locals/\p.1∉X.fs/\∀v,p.2.data≠.cell v
 hok:HOk X.prog X.w H s.heap
 len:Z.length=X.N.length
section
variable {X:Cx}{pins:List (Addr × Obj)}{Z:List (Option V)}{H H':Hp}{s:Shared}{h':Heap}
theorem Cx.Ok.nofr (ok:X.Ok) {b:Addr}{o:Obj}(e:X.base.get? b=some o):b∉X.fs:=fun hb=>by
 have:=(ok.funs.mem hb).1;rw[e] at this;cases this
theorem Inv.bs (I:Inv X pins Z H s):∀b o,X.base.get? b=some o->s.heap.get? b=some o/\H b=none:=fun b o e =>
 ⟨I.base.keep b o (I.ok.bs b o e).1 (I.ok.bs b o e).2 (I.ok.nofr e) (I.ok.noex b o e),I.base.free b o (I.ok.bs b o e).1 (I.ok.bs b o e).2 (I.ok.noex b o e)⟩
theorem Inv.bk (I:Inv X pins Z H s):∀b o,X.base.get? b=some o->s.heap.get? b=some o:=fun b o e=>(I.bs b o e).1
theorem Inv.mod (I:Inv X pins Z H s):Mod X.K X.mg X.base:=I.ok.mod
theorem Inv.kIn (I:Inv X pins Z H s):X.K.In s.heap:=I.ok.mod.kin.keeps I.bk
theorem Inv.nolimit (I:Inv X pins Z H s):s.heap.NoLimit:=I.ok.mod.nolimit.keeps I.bk
theorem Inv.fr (I:Inv X pins Z H s):∃m,Fr X.base X.env.locals s.heap m :=
 let ⟨m,hn,_⟩:=I.loc
 ⟨m,hn,I.bk,U_ I.ok.bsz I.ok.above⟩
theorem Inv.lt (I:Inv X pins Z H s):X.env.locals<s.heap.objs.size:=let ⟨_,hn,_⟩:=I.loc;hn.lt
theorem Inv.sz (I:Inv X pins Z H s):X.s₀.heap.objs.size<=s.heap.objs.size:=U_ I.ok.above (Xx I.lt)
theorem Inv.nofs (I:Inv X pins Z H s) {a:Addr}(h:s.heap.objs.size<=a):a∉X.fs:=fun hb=>by
 obtain⟨_,o,ho,_⟩:=I.ok.funs.mem hb;exact absurd (S_ (y_ ho) (U_ I.sz h)) (WQ _)
theorem Inv.cne (I:Inv X pins Z H s):∀x c,X.env.cells.lookup x=some c->c≠X.env.locals:=fun x c e z=>by
 obtain⟨v,o,ho,hd⟩:=I.cell x c e;obtain⟨m,⟨o',es,ep,ho',hd',_⟩,_⟩:=I.loc;rw[z,ho'] at ho;cases ho;rw[hd'] at hd;cases hd
theorem Inv.funs (I:Inv X pins Z H s):s.heap.FunFrames X.base X.outer:=by
 have all:∀(l:List Env),(∀b∈frs l,b∈X.fs)->X.s₀.heap.FunFrames X.base l->s.heap.FunFrames X.base l:=by
  intro l;induction l with
  |nil=>intro _ _;trivial
  |cons env r ih =>
  intro hs hl;obtain ⟨hk,⟨L,o,hf,hn,ho,hd⟩,hr⟩:=hl;have hL : L ∈ X.fs:=hs L (by unfold frs; rw [List.filterMap_cons,hf]; exact k_);obtain ⟨sl,e⟩:=I.base.slot L o ho (I.ok.frf L hL) hL fun z => I.ok.exfs L z hL;exact ⟨hk,⟨L,_,hf,hn,e,hd⟩,ih (fun b hb => hs b (by unfold frs; rw [List.filterMap_cons,hf]; exact t_ _ hb)) hr⟩
 exact all X.outer (fun _ hb=>hb) I.ok.funs
theorem Inv.stack (I:Inv X pins Z H s):s.heap.FunFrames X.base X.stack:=by
 rcases I.ok.stk with e | ⟨e,hf⟩
 ·rw[e];exact I.funs
 rw[e];obtain⟨m,hn,_⟩:=I.loc;refine .cons (by rw[I.ok.kind];decide) hf hn ?_ I.funs;exact Heap.get?_none_of_le (U_ I.ok.bsz I.ok.above)
theorem Inv.stkSub (I:Inv X pins Z H s):∀b∈frs X.stack,b∈X.env.locals::X.fs:=fun b hb=>by
 rcases I.ok.stk with e | ⟨e,hf⟩
 ·rw[e] at hb;exact t_ _ hb
 rw [e] at hb;unfold frs at hb;rw [List.filterMap_cons,hf] at hb;exact hb
theorem Inv.stkFree (I:Inv X pins Z H s):∀b∈frs X.stack,H b=none:=fun b hb=>by
 rcases n_.mp (I.stkSub b hb) with e | hb
 ·rw[e];exact I.free
 obtain⟨_,o,ho,_⟩:=I.ok.funs.mem hb;exact I.base.free b o ho (I.ok.frf b hb) fun z=>I.ok.exfs b z hb
theorem Inv.step {g':Array GenState}{t':Nat}{d':Drawn}{ch:List Addr}(I:Inv X pins Z H s)
  (hch:∀b∈ch,(b∈X.ex\/X.s₀.heap.objs.size<=b)/\b≠X.env.locals/\(∀x c,X.env.cells.lookup x=some c->c≠b)/\∀p∈X.pn++pins,p.1≠b)
  (keep:∀b o,b≠X.env.locals->b∉X.fs->b∉ch->s.heap.get? b=some o->H b=none->h'.get? b=some o)
  (slot:∀b o,b≠X.env.locals->b∈X.fs->b∉ch->s.heap.get? b=some o->H b=none->∃sl,h'.get? b=some { o with slots:=sl}) (free:∀b o,b∉ch->s.heap.get? b=some o->H b=none->H' b=none)
  (there:∀b o,b∉ch->s.heap.get? b=some o->∃o',h'.get? b=some o')
  (tups:∀b xs,H b=some (.tup xs)->H' b=some (.tup xs)) (frzs:∀b o u,H b=some (.frz o u)->H' b=some (.frz o u)) (tbls:∀b ps,H b=some (.tbl ps)->∃more,H' b=some (.tbl (ps++more)))
  (ns:∀m,s.heap.Ns X.env.locals m->h'.Ns X.env.locals m) (hok:HOk X.prog X.w H' h') (hg:AllBare g') :
  Inv X pins Z H' { s with heap:=h',gens:=g',drawn:=d',toks:=t'}:=by
 have neL:∀b o,X.s₀.heap.get? b=some o->b≠X.env.locals:=fun b o e=>C_ (S_ (y_ e) I.ok.above);have neC:∀b o,X.s₀.heap.get? b=some o->b∉X.ex->b∉ch:=fun b o e hx hb=>by
  rcases (hch b hb).1 with z | z
  ·exact hx z
  exact absurd (S_ (y_ e) z) (WQ _)
 have cellK:∀x c,X.env.cells.lookup x=some c->∀v,s.heap.IsCell c v->h'.IsCell c v:=fun x c e v ⟨o,ho,hd⟩=>by
  have nch:c∉ch:=fun z=>(hch c z).2.2.1 x c e rfl;by_cases hc:c∈X.fs
  ·obtain⟨sl,q⟩:=slot c o (I.cne x c e) hc nch ho (I.freeC x c e);exact⟨_,q,hd⟩
  exact⟨o,keep c o (I.cne x c e) hc nch ho (I.freeC x c e),hd⟩
 refine⟨I.ok,I.os,hg,⟨fun b o e n hb hx=>?_,fun b o e n hb hx=>?_,fun b o e n hx=>?_,fun b o e hx=>?_,fun b xs e=>tups b xs (I.base.tups b xs e),fun b o xs e=>frzs b o xs (I.base.frzs b o xs e),fun b ps e=>?_⟩,?_,fun x c e=>?_,?_,fun x c e=>?_,fun p hp=>?_,hok,I.len⟩
 ·exact keep b o (neL b o e) hb (neC b o e hx) (I.base.keep b o e n hb hx) (I.base.free b o e n hx)
 ·obtain⟨sl,e1⟩:=I.base.slot b o e n hb hx;obtain⟨sl',e2⟩:=slot b _ (neL b o e) hb (neC b o e hx) e1 (I.base.free b o e n hx);exact⟨sl',e2⟩
 ·obtain⟨o',e1⟩:=I.base.there b o e hx;exact free b o' (neC b o e hx) e1 (I.base.free b o e n hx)
 ·obtain⟨o',e1⟩:=I.base.there b o e hx;exact there b o' (neC b o e hx) e1
 ·obtain⟨m1,e1⟩:=I.base.tbls b ps e;obtain⟨m2,e2⟩:=tbls b _ e1;exact⟨m1++m2,by rw[e2,Array.append_assoc]⟩
 ·obtain⟨m,hn,hl⟩:=I.loc;refine⟨m,ns m hn,fun i x v e1 e2 e3=>?_⟩;obtain⟨u,r,l⟩:=hl i x v e1 e2 e3;refine⟨u,r,?_⟩;rcases l with l | ⟨k,c,e,z⟩
  ·exact .inl l
  exact .inr ⟨k,c,e,cellK x c e _ z⟩
 ·obtain⟨v,z⟩:=I.cell x c e;exact⟨v,cellK x c e v z⟩
 ·obtain⟨m,⟨o,_,_,ho,_⟩,_⟩:=I.loc;exact free _ o (fun z=>(hch _ z).2.1 rfl) ho I.free
 ·obtain⟨v,o,ho,hd⟩:=I.cell x c e;exact free c o (fun z=>(hch c z).2.2.1 x c e rfl) ho (I.freeC x c e)
 obtain⟨e,n,ne,nf,d⟩:=I.pin p hp;have nch:p.1∉ch:=fun z=>(hch p.1 z).2.2.2 p hp rfl;exact⟨keep p.1 p.2 ne nf nch e n,free p.1 p.2 nch e n,ne,nf,d⟩
theorem Inv.un {t':Nat}(I:Inv X pins Z H s) (u:Un X.fs [] H H' s.heap h') (hok:HOk X.prog X.w H' h'):Inv X pins Z H' { s with heap:=h',toks:=t'}:=by
 obtain⟨m,⟨o,es,ep,ho,r⟩,_⟩:=id I.loc;obtain⟨sl,hL⟩:=u.any ho I.free (by simp);exact I.step (g':=s.gens) (d':=s.drawn) (ch:=[]) (fun _ z=>nomatch z) (fun b o _ hb _ e n=>u.keep b o e n hb (by simp)) (fun b o _ hb _ e n=>u.slot b o e n hb (by simp)) (fun b o _ e n=>u.free b o e n (by simp)) (fun b o _ e=>u.there b o e (by simp)) u.tups u.frzs u.tbls (fun m' hm=>by
  obtain⟨o',es',ep',ho',r'⟩:=hm
  rw[ho] at ho';cases ho'
  exact⟨_,es',ep',hL,r'⟩) hok I.bare
theorem Inv.call {g':Array GenState}{t':Nat}{d':Drawn}{ch:List Addr}(I:Inv X pins Z H s) (u:Un (frs X.stack) ch H H' s.heap h') (hok:HOk X.prog X.w H' h') (hg:AllBare g')
  (hch:∀b∈ch,(b∈X.ex\/X.s₀.heap.objs.size<=b)/\b≠X.env.locals/\(∀x c,X.env.cells.lookup x=some c->c≠b)/\∀p∈X.pn++pins,p.1≠b) :
  Inv X pins Z H' { s with heap:=h',gens:=g',drawn:=d',toks:=t'}:=by
 obtain⟨m,⟨o,es,ep,ho,r⟩,_⟩:=id I.loc;obtain⟨sl,hL⟩:=u.any ho I.free fun z=>(hch _ z).2.1 rfl;exact I.step (ch:=ch) hch (fun b o hL hb hc e n=>u.keep b o e n (fun z=>(n_.mp (I.stkSub b z)).elim hL hb) hc) (fun b o _ _ hc e n=>u.any e n hc) (fun b o hc e n=>u.free b o e n hc) (fun b o hc e=>u.there b o e hc) u.tups u.frzs u.tbls (fun m' hm=>by
  obtain⟨o',es',ep',ho',r'⟩:=hm
  rw[ho] at ho';cases ho'
  exact⟨_,es',ep',hL,r'⟩) hok hg
theorem Inv.turned {t':Nat}{it:Addr}(I:Inv X pins Z H s) (k:∀b o,b≠it->s.heap.get? b=some o->h'.get? b=some o) (hn:H it=none) (hL:it≠X.env.locals)
  (h1:it∈X.ex\/X.s₀.heap.objs.size<=it) (h2:∀x c,X.env.cells.lookup x=some c->c≠it) (h3:∀p∈X.pn++pins,p.1≠it):Inv X pins Z H { s with heap:=h',toks:=t'}:=by
 have nit:∀b u,H b=some u->b≠it:=fun b u e z=>by rw[z,hn] at e;cases e
 refine I.step (g':=s.gens) (d':=s.drawn) (ch:=[it]) (fun b hb=>?_) (fun b o _ _ hc e _=>k b o (fun z=>hc (by simp [z])) e) (fun b o _ _ hc e _=>⟨o.slots,k b o (fun z=>hc (by simp [z])) e⟩) (fun _ _ _ _ n=>n)
  (fun b o hc e=>⟨o,k b o (fun z=>hc (by simp [z])) e⟩) (fun _ _ e=>e) (fun _ _ _ e=>e) (fun b ps e=>⟨#[],by rw[e];simp⟩) (fun m hm=>?_) (fun b u e=>?_) I.bare
 ·have e:b=it:=by simpa using hb
  subst e;exact⟨h1,hL,h2,h3⟩
 ·obtain⟨o,es,ep,ho,r⟩:=hm;exact⟨o,es,ep,k _ o (Ne.symm hL) ho,r⟩
 refine (I.hok b u e).stay (fun c v hc q=>k c v ?_ q) (fun _ q=>q) fun _ _ q=>q;rcases hc with z | z
 ·rw[z];exact nit b u e
 exact nit c _ z
theorem Inv.tok (I:Inv X pins Z H s) (t:Nat):Inv X pins Z H { s with toks:=t}:=I.un (h':=s.heap) (t':=t) Un.refl I.hok
theorem Inv.kept {t':Nat}(I:Inv X pins Z H s) (k:∀b u,s.heap.get? b=some u->h'.get? b=some u):Inv X pins Z H { s with heap:=h',toks:=t'}:=I.un (Un.kept k) (I.hok.kept k)
theorem Inv.laid {a:Addr}{o:HO}{t':Nat}(I:Inv X pins Z H s) (k:∀b u,s.heap.get? b=some u->h'.get? b=some u) (hp:s.heap.objs.size<=a) (new:ObjOk X.prog X.w (upd H a o) h' a o) :
  Inv X pins Z (upd H a o) { s with heap:=h',toks:=t'}:=I.un (Un.laid k hp (I.hok.fresh hp)) (I.hok.laid k hp new)
theorem Inv.write {x e:Addr}{o:HO}{t':Nat}(I:Inv X pins Z H s) (mu:Mut (H x)) (he:e=x\/H e=some (.own x)) (k:∀b u,b≠e->s.heap.get? b=some u->h'.get? b=some u) (heo:∃u,h'.get? e=some u)
  (new:ObjOk X.prog X.w (upd H x o) h' x o):Inv X pins Z (upd H x o) { s with heap:=h',toks:=t'}:=I.un (Un.write mu he k heo) (I.hok.write mu he k heo new)
theorem Inv.pins_of {pins':List (Addr × Obj)}(I:Inv X pins Z H s) (h:∀p∈pins',s.heap.get? p.1=some p.2/\H p.1=none/\p.1≠X.env.locals/\p.1∉X.fs/\∀v,p.2.data≠.cell v):Inv X pins' Z H s :=
 ⟨I.ok,I.os,I.bare,I.base,I.loc,I.cell,I.free,I.freeC,fun p hp=>(G_.mp hp).elim (fun z=>I.pin p (WT _ z)) (h p),I.hok,I.len⟩
theorem qp {N:List Str}(hN:N.Nodup) {i j:Nat}{x:Str}(a:N[i]?=some x) (b:N[j]?=some x):i=j:=by
 obtain⟨h1,e1⟩:=Xa.mp a;obtain⟨h2,e2⟩:=Xa.mp b;exact (List.getElem_inj hN).mp (e1.trans e2.symm)
theorem mZ {M:Model}{A:Around}{E:Value->Shared->Prop}{i:Nat}{x:Str}{v:V}{u:Value}{Q:Unit->Shared->Prop}(I:Inv X pins Z H s) (hN:X.N.Nodup) (hi:X.N[i]?=some x) (hx:Loc X.env.scope x) (r:RelV v u)
  (h:∀s',Inv X pins (Z.set i (some v)) H s'->(∃a,Heap.SameBut a s.heap s'.heap/\(a=X.env.locals\/X.env.cells.lookup x=some a))->Q () s') (hf:X.fn x=true\/X.env.scope.names.lookup x=some .local:=by first | exact .inl rfl | exact .inr rfl | assumption):wpAny M A (storeName X.env x u) Q E s:=by
 obtain⟨m,hn,hl⟩:=id I.loc;have hcls:(X.env.scope.kind==.class||(X.env.scope.kind==.module&&X.env.locals != X.env.globals))=false:=by rw[I.ok.kind];rfl
 have hiZ:i<Z.length:=by rw[I.len];exact (Xa.mp hi).1
 have cne:=I.cne;have tracked:∀{a:Addr} {h':Heap},(∃o,s.heap.get? a=some o/\H a=none)->Heap.SameBut a s.heap h'->HOk X.prog X.w H h':=fun {a h'} ha hs b ob e=>by
  obtain⟨_,_,hfree⟩:=ha;refine (I.hok b ob e).stay (fun c w' hc q=>(hs.2 c ?_).trans q) (fun _ q=>q) fun _ _ q=>q;rintro rfl;rcases hc with rfl | hc
  ·rw[hfree] at e;cases e
  rw[hfree] at hc;cases hc
 rcases hx with hk | hk
 ·refine wpAny_storeName_local hk hn (fun h' hn' hs=>?_) hcls;obtain⟨oL,_,_,hoL,_⟩:=id hn;refine h _ ⟨I.ok,I.os,I.bare,⟨fun b o e n hb hx=>?_,fun b o e n hb hx=>?_,I.base.free,fun b o e hx=>?_,I.base.tups,I.base.frzs,I.base.tbls⟩,⟨_,hn',fun j y v' e1 e2 e3=>?_⟩,fun y c e=>?_,I.free,I.freeC,fun p hp=>?_,tracked ⟨oL,hoL,I.free⟩ hs,by simpa using I.len⟩ ⟨_,hs,.inl rfl⟩
  ·exact (hs.2 b (C_ (S_ (y_ e) I.ok.above))).trans (I.base.keep b o e n hb hx)
  ·obtain⟨sl,e1⟩:=I.base.slot b o e n hb hx;exact⟨sl,(hs.2 b (C_ (S_ (y_ e) I.ok.above))).trans e1⟩
  ·obtain⟨o',e1⟩:=I.base.there b o e hx;exact⟨o',(hs.2 b (C_ (S_ (y_ e) I.ok.above))).trans e1⟩
  ·by_cases hj:j=i
   ·subst hj;rw[hi] at e1;cases e1;rw[Yn hiZ] at e2;cases e2;exact⟨u,r,.inl ⟨hk,by simp⟩⟩
   rw[Yx (Ne.symm hj)] at e2;obtain⟨u',r',q⟩:=hl j y v' e1 e2 e3;refine⟨u',r',?_⟩;rcases q with ⟨k,e⟩ | ⟨k,c,e,z⟩
   ·refine .inl ⟨k,?_⟩;have:y≠x:=fun e=>hj (qp hN e1 (e▸hi));simp [this,e]
   exact .inr ⟨k,c,e,z.sameBut hs (cne y c e)⟩
  ·obtain⟨w',z⟩:=I.cell y c e;exact⟨w',z.sameBut hs (cne y c e)⟩
  obtain⟨e,n,ne,nf,d⟩:=I.pin p hp;exact⟨(hs.2 p.1 ne).trans e,n,ne,nf,d⟩
 have hfn:X.fn x=true:=by
  rcases hf with z | z
  ·exact z
  rw[z] at hk;cases hk
 obtain⟨c,hc⟩:=I.ok.has x (.inl hk);obtain⟨w',z⟩:=I.cell x c hc;refine wpAny_storeName_cell I.ok.kind hk hc z (fun h' hc' hs=>?_);obtain⟨oc,hoc,hocd⟩:=id z;refine h { s with heap:=h'} ⟨I.ok,I.os,I.bare,⟨fun b o e n hb hx=>?_,fun b o e n hb hx=>?_,I.base.free,fun b o e hx=>?_,I.base.tups,I.base.frzs,I.base.tbls⟩,⟨m,hn.sameBut hs (Ne.symm (cne x c hc)),fun j y v' e1 e2 e3=>?_⟩,fun y c' e=>?_,I.free,I.freeC,fun p hp=>?_,tracked ⟨oc,hoc,I.freeC x c hc⟩ hs,by simpa using I.len⟩ ⟨c,hs,.inr hc⟩
 ·exact (hs.2 b (C_ (S_ (y_ e) (I.ok.cab x c hfn hc)))).trans (I.base.keep b o e n hb hx)
 ·obtain⟨sl,e1⟩:=I.base.slot b o e n hb hx;exact⟨sl,(hs.2 b (C_ (S_ (y_ e) (I.ok.cab x c hfn hc)))).trans e1⟩
 ·obtain⟨o',e1⟩:=I.base.there b o e hx;exact⟨o',(hs.2 b (C_ (S_ (y_ e) (I.ok.cab x c hfn hc)))).trans e1⟩
 ·by_cases hj:j=i
  ·subst hj;rw[hi] at e1;cases e1;rw[Yn hiZ] at e2;cases e2;exact⟨u,r,.inr ⟨.inl hk,c,hc,hc'⟩⟩
  rw[Yx (Ne.symm hj)] at e2;obtain⟨u',r',q⟩:=hl j y v' e1 e2 e3;refine⟨u',r',?_⟩;rcases q with q | ⟨k,c',e,z'⟩
  ·exact .inl q
  refine .inr ⟨k,c',e,z'.sameBut hs ?_⟩;rintro rfl;exact hj (qp hN e1 (I.ok.inj _ _ _ e hc▸hi))
 ·by_cases hcc:c'=c
  ·subst hcc;exact⟨_,hc'⟩
  obtain⟨w2,z2⟩:=I.cell y c' e;exact⟨w2,z2.sameBut hs hcc⟩
 obtain⟨e,n,ne,nf,d⟩:=I.pin p hp;refine⟨(hs.2 p.1 ?_).trans e,n,ne,nf,d⟩;intro q;rw[q,hoc] at e;have q':oc=p.2:=K_ e;exact d w' (by rw[<- q'];exact hocd)
theorem qt {M:Model}{A:Around}{E:Value->Shared->Prop}{i:Nat}{x:Str}{v:V}{u:Value}{Q:Unit->Shared->Prop}(I:Inv X pins Z H s) (hN:X.N.Nodup) (hi:X.N[i]?=some x) (hx:Loc X.env.scope x) (r:RelV v u)
  (h:∀s',Inv X pins (Z.set i (some v)) H s'->Q () s') (hf:X.fn x=true\/X.env.scope.names.lookup x=some .local:=by first | exact .inl rfl | exact .inr rfl | assumption):wpAny M A (storeName X.env x u) Q E s :=
 mZ I hN hi hx r (fun s' I' _=>h s' I') hf
theorem Inv.call' {s':Shared}{ch:List Addr}(I:Inv X pins Z H s) (ho:s'.os=s.os) (u:Un (frs X.stack) ch H H' s.heap s'.heap) (hok:HOk X.prog X.w H' s'.heap) (hg:AllBare s'.gens)
  (hch:∀b∈ch,(b∈X.ex\/X.s₀.heap.objs.size<=b)/\b≠X.env.locals/\(∀x c,X.env.cells.lookup x=some c->c≠b)/\∀p∈X.pn++pins,p.1≠b):Inv X pins Z H' s':=by
 obtain⟨h',g',d',t',o'⟩:=s';have e:o'=s.os:=ho;subst e;exact I.call (g':=g') (t':=t') (d':=d') u hok hg hch
end
abbrev XK:=Value->Option Addr->Hp->Prop
abbrev St:=List (Option V)
abbrev VK:=V->Hp->Prop
abbrev TE:=St->Hp->VK->Prop
abbrev TT:=St->Hp->(Bool->Hp->Prop)->Prop
abbrev TA:=St->Hp->(List V->Hp->Prop)->Prop
structure Ends where
 nx:St->Hp->Prop
 rt:VK
 bk:St->Hp->Prop:=fun _ _=>False
 ct:St->Hp->Prop:=fun _ _=>False
abbrev TS:=Ends->St->Hp->Prop
def EP (X:Cx) (pins:List (Addr × Obj)) (Z:St) (Q:VK) (u:Value) (s':Shared):Prop:=∃v H',Inv X pins Z H' s'/\RelV v u/\Q v H'
def TP (X:Cx) (pins:List (Addr × Obj)) (Z:St) (Q:Bool->Hp->Prop) (b:Bool) (s':Shared):Prop:=∃H',Inv X pins Z H' s'/\Q b H'
def AP (X:Cx) (pins:List (Addr × Obj)) (Z:St) (Q:List V->Hp->Prop) (us:List Value) (s':Shared):Prop:=∃vs H',Inv X pins Z H' s'/\Vals vs us/\Q vs H'
def SP (X:Cx) (pins:List (Addr × Obj)) (D:Ends) (f:Flow) (s':Shared):Prop :=
 match f with
 |.next=>∃Z' H',Inv X pins Z' H' s'/\D.nx Z' H'
 |.brk=>∃Z' H',Inv X pins Z' H' s'/\D.bk Z' H'
 |.cont=>∃Z' H',Inv X pins Z' H' s'/\D.ct Z' H'
 |.ret u=>∃v Z' H',Inv X pins Z' H' s'/\RelV v u/\D.rt v H'
def PE (X:Cx) (e:Expr) (t:TE):Prop :=
 ∀(pins:List (Addr × Obj)) (s:Shared) (Z:St) (H:Hp) (Q:VK),Inv X pins Z H s->t Z H Q->wpAny (model X.prog X.w) X.A (eval e X.env) (EP X pins Z Q) X.xe s
def PT (X:Cx) (e:Expr) (t:TT):Prop :=
 ∀(pins:List (Addr × Obj)) (s:Shared) (Z:St) (H:Hp) (Q:Bool->Hp->Prop),Inv X pins Z H s->t Z H Q->wpAny (model X.prog X.w) X.A (isTrue e X.env (eval e X.env)) (TP X pins Z Q) X.xe s
def PW (X:Cx) (e:Expr) (t:TT):Prop :=
 ∀(whole:Sem Value) (pins:List (Addr × Obj)) (s:Shared) (Z:St) (H:Hp) (Q:Bool->Hp->Prop),Inv X pins Z H s->t Z H Q->wpAny (model X.prog X.w) X.A (isTrue e X.env whole) (TP X pins Z Q) X.xe s
theorem PW.pt {X:Cx}{e:Expr}{t:TT}(h:PW X e t):PT X e t:=h _
def PA (X:Cx) (es:List Expr) (t:TA):Prop :=
 ∀(pos:Pos) (pins:List (Addr × Obj)) (s:Shared) (Z:St) (H:Hp) (Q:List V->Hp->Prop),Inv X pins Z H s->t Z H Q->wpAny (model X.prog X.w) X.A (spliced (backTo pos (starEach es X.env))) (AP X pins Z Q) X.xe s
def PS (X:Cx) (st:Stmt) (t:TS):Prop :=
 ∀(pins:List (Addr × Obj)) (s:Shared) (Z:St) (H:Hp) (D:Ends),Inv X pins Z H s->t D Z H->wpAny (model X.prog X.w) X.A (exec st X.env) (SP X pins D) X.xe s
def PSs (X:Cx) (st:List Stmt) (t:TS):Prop :=
 ∀(pins:List (Addr × Obj)) (s:Shared) (Z:St) (H:Hp) (D:Ends),Inv X pins Z H s->t D Z H->wpAny (model X.prog X.w) X.A (execs st X.env) (SP X pins D) X.xe s
theorem thn {α:Type}{t:Sem α}{Q Q':α->Shared->Prop}{M:Model}{A:Around}{E:Value->Shared->Prop}{s:Shared}(h:wpAny M A t Q E s) (hQ:∀a s,Q a s->Q' a s):wpAny M A t Q' E s:=Xh h hQ fun _ _ x=>x
section
variable {X:Cx}
def Qt (i:Nat):TE:=fun Z H Q=>∃v,Z[i]?=some (some v)/\Q v H
def tC (v:V):TE:=fun _ H Q=>Q v H
theorem Km {i:Nat}{x:Str}{pos:Pos}(hN:X.N[i]?=some x) (hv:Vis X.env.scope x) (hd:(x==("__debug__":Str))=false:=by decide) (hcd:(x==("__classdict__":Str))=false:=by decide):PE X (.Name x pos) (Qt i):=by
 intro pins s Z H Q I h;obtain⟨v,e,h⟩:=h;obtain⟨m,hn,hl⟩:=I.loc;obtain⟨u,r,l⟩:=hl i x v hN e hv;have fin:EP X pins Z Q u s:=⟨v,H,I,r,h⟩;rcases l with ⟨hk,hm⟩ | ⟨hk,c,hc,hcell⟩
 ·exact wpAny_Name (wpAny_loadName_local I.ok.kind hk hn hm fin) hd
 rcases hk with hk | hk
 ·exact wpAny_Name (wpAny_loadName_cell I.ok.kind hk hc hcell fin) hd
 exact wpAny_Name (wpAny_loadName_free I.ok.kind hk hc hcell fin hcd) hd
theorem Ko {i j pos}:PE X (.Constant (.int i) j pos) (tC (.int i)):=fun _ _ _ H _ I h=>wpAny_Constant_int ⟨.int i,H,I.tok _,⟨_,rfl⟩,h⟩
theorem Qu {b j pos}:PE X (.Constant (.bool b) j pos) (tC (.bl b)):=fun _ _ _ H _ I h=>Constant_bool ⟨.bl b,H,I,rfl,h⟩
theorem Kp {j pos}:PE X (.Constant .none j pos) (tC .non):=fun _ _ _ H _ I h=>Constant_none ⟨.non,H,I,rfl,h⟩
theorem Kq {x j pos}:PE X (.Constant (.str x) j pos) (tC (.str x)):=fun _ _ _ H _ I h=>Calls.Constant_str ⟨.str x,H,I.tok _,⟨_,rfl⟩,h⟩
def Gl (X:Cx) (x:Str):Prop:=X.env.kindOf x=some .globalImplicit
theorem oK {E:Value->Shared->Prop}{pins:List (Addr × Obj)}{s:Shared}{Z:St}{H:Hp}{x:Str}{u:Value}{pos:Pos}{Q:Value->Shared->Prop}(I:Inv X pins Z H s) (hg:Gl X x) (hm:X.mg x=some u) (h:Q u s)
  (hd:(x==("__debug__":Str))=false:=by decide):wpAny (model X.prog X.w) X.A (eval (.Name x pos) X.env) Q E s :=
 Calls.Name_function_global I.ok.kind hg (Calls.loadGlobal_global (by rw[I.ok.glob];exact I.mod.glob.keeps I.bk) hm h) hd
theorem d9 {E:Value->Shared->Prop}{pins:List (Addr × Obj)}{s:Shared}{Z:St}{H:Hp}{x:Str}{u:Value}{pos:Pos}{Q:Value->Shared->Prop}(I:Inv X pins Z H s) (hg:Gl X x) (hm:X.mg x=none) (hv:bootBuiltins x=some u) (h:Q u s)
  (hn:x≠"__name__":=by decide) (hd:(x==("__debug__":Str))=false:=by decide):wpAny (model X.prog X.w) X.A (eval (.Name x pos) X.env) Q E s:=by
 obtain⟨mb,h1,h2⟩:=I.mod.blt;exact Calls.Name_function_global I.ok.kind hg (Calls.loadGlobal_builtin (by rw[I.ok.glob];exact I.mod.glob.keeps I.bk) hm (by rw[I.ok.blt];exact h1.keeps I.bk) ((h2 x hn).trans hv) h) hd
theorem Eh {x:Str}{v:V}{u:Value}{pos:Pos}(hg:Gl X x) (hm:X.mg x=some u) (r:RelV v u) (hd:(x==("__debug__":Str))=false:=by decide):PE X (.Name x pos) (tC v) :=
 fun _ _ _ H _ I h=>oK I hg hm ⟨v,H,I,r,h⟩ hd
theorem Ei {x:Str}{v:V}{u:Value}{pos:Pos}(hg:Gl X x) (hm:X.mg x=none) (hv:bootBuiltins x=some u) (r:RelV v u) (hn:x≠"__name__":=by decide) (hd:(x==("__debug__":Str))=false:=by decide):PE X (.Name x pos) (tC v) :=
 fun _ _ _ H _ I h=>d9 I hg hm hv ⟨v,H,I,r,h⟩ hn hd
variable {a b:Expr}{ta tb:TE}{pos:Pos}
def PC (X:Cx) (op:CmpOp) (a b:Expr) (t:TE):Prop :=
 ∀(pins:List (Addr × Obj)) (s:Shared) (Z:St) (H:Hp) (Q:VK),Inv X pins Z H s->t Z H Q ->
  wpAny (model X.prog X.w) X.A (eval a X.env) (fun v s₁=>wpAny (model X.prog X.w) X.A (eval b X.env) (fun u s₂=>wpAny (model X.prog X.w) X.A (compareOp op v u) (EP X pins Z Q) X.xe s₂) X.xe s₁) X.xe s
theorem yP (b:Expr) {op:CmpOp}(h:op≠.In) (h2:op≠.NotIn):behindInMarks op b=false:=by
 have e1:(op==CmpOp.In)=false:=by cases op <;> first | rfl | exact absurd rfl h
 have e2:(op==CmpOp.NotIn)=false:=by cases op <;> first | rfl | exact absurd rfl h2
 cases b <;> simp [behindInMarks,e1,e2]
def tB (t:TE):TT:=fun Z H Q=>t Z H fun x H1=>∃c,x=.bl c/\Q c H1
theorem tL {op:CmpOp}{t:TE}(h:PC X op a b t) (h1:behindInMarks op b=false:=by first | exact yP _ (by decide) (by decide) | rfl):PT X (.Compare a [op] [b] pos) (tB t):=by
 intro pins s Z H Q I hw;refine wpAny_isTrue_Compare1 (thn (h pins s Z H _ I hw) fun v s1 h1=>thn h1 fun u s2 h2=>thn h2 fun c s3 ⟨x,H1,I1,r1,q1⟩=>?_) h1;obtain⟨d,rfl,q⟩:=q1;cases r1;exact Yy ⟨H1,I1,q⟩
theorem Kr {e:Expr}{t:TE}(h:PE X e t) (he:∀whole,isTrue e X.env whole=(do let v <- whole;standAt e.pos;holding [v] (truthy v)):=by intro _;rfl):PT X e (tB t):=by
 intro pins s Z H Q I hw;refine isTrue_plain (thn (h pins s Z H _ I hw) fun v s1 ⟨x,H1,I1,r1,q1⟩=>?_) (he _);obtain⟨d,rfl,q⟩:=q1;cases r1;exact Yy ⟨H1,I1,q⟩
variable {tA tB':TT}{rest:List Expr}
def Vp (t u:TT):TT:=fun Z H Q=>t Z H fun c H1=>if c=true then u Z H1 Q else Q false H1
def tOr (t u:TT):TT:=fun Z H Q=>t Z H fun c H1=>if c=true then Q true H1 else u Z H1 Q
def Vq (t:TT):TT:=fun Z H Q=>t Z H fun c H1=>Q (!c) H1
theorem Ej (ha:PT X a tA):PW X (.BoolOp .And [a] pos) tA:=by
 intro wh pins s Z H Q I h;refine isTrue_and (thn (ha pins s Z H Q I h) fun c s1 e=>?_);cases c with
 |true=>exact isTrue_and_nil e
 |false=>exact e
theorem Ks (ha:PT X a tA):PW X (.BoolOp .Or [a] pos) tA:=by
 intro wh pins s Z H Q I h;refine isTrue_or (thn (ha pins s Z H Q I h) fun c s1 e=>?_);cases c with
 |false=>exact isTrue_or_nil e
 |true=>exact e
theorem Ku (ha:PT X a tA) (hb:PW X (.BoolOp .And (b::rest) pos) tB'):PW X (.BoolOp .And (a::b::rest) pos) (Vp tA tB'):=by
 intro wh pins s Z H Q I h;refine isTrue_and (thn (ha pins s Z H _ I h) fun c s1 ⟨H1,I1,q1⟩=>?_);cases c with
 |true=>exact hb wh pins s1 Z H1 Q I1 q1
 |false=>exact⟨H1,I1,q1⟩
theorem Qv (ha:PT X a tA) (hb:PW X (.BoolOp .Or (b::rest) pos) tB'):PW X (.BoolOp .Or (a::b::rest) pos) (tOr tA tB'):=by
 intro wh pins s Z H Q I h;refine isTrue_or (thn (ha pins s Z H _ I h) fun c s1 ⟨H1,I1,q1⟩=>?_);cases c with
 |true=>exact⟨H1,I1,q1⟩
 |false=>exact hb wh pins s1 Z H1 Q I1 q1
theorem Kv (ha:PT X a tA):PT X (.UnaryOp .Not a pos) (Vq tA):=by
 intro pins s Z H Q I h;exact isTrue_not (ha pins s Z H (fun c H1=>Q (!c) H1) I h)
def Vr (ta tb:TE):TE:=fun Z H Q=>ta Z H fun x H1=>∃c,x=.bl c/\if c=true then Q (.bl true) H1 else tb Z H1 Q
theorem Kz {op}{t:TE}(h:PE X a t):PE X (.BoolOp op [a] pos) t:=fun pins s Z H Q I hw=>BoolOp_one (h pins s Z H Q I hw)
theorem Qw (ha:PE X a ta) (hb:PE X (.BoolOp .Or (b::rest) pos) tb):PE X (.BoolOp .Or (a::b::rest) pos) (Vr ta tb):=by
 intro pins s Z H Q I h;refine BoolOp_or (thn (ha pins s Z H _ I h) fun v s1 ⟨x,H1,I1,r1,q1⟩=>?_);obtain⟨c,rfl,q1⟩:=q1;cases r1;refine Yy ?_;cases c with
 |false=>exact hb pins s1 Z H1 Q I1 q1
 |true=>exact⟨.bl true,H1,I1,rfl,q1⟩
end
def SqL (K:Frag) (H:Hp) (a:Addr) (xs:List V):Prop :=
 Rd H a (.lst xs) \/
  ∃(o:Obj) (its:Array Value) (n:Nat),K.lookup a=some o/\o.cls=.type "list"/\o.dict=none/\o.data=.seq its n/\its.size<=sizeLine/\Vals xs its.toList
def SqT (K:Frag) (H:Hp) (a:Addr) (xs:List V):Prop :=
 Rd H a (.tup xs) \/
  ∃(o:Obj) (its:Array Value) (n:Nat),K.lookup a=some o/\o.cls=.type "tuple"/\o.dict=none/\o.data=.seq its n/\its.size<=sizeLine/\Vals xs its.toList
def Vs:Value->Option V
 |.none=>some .non
 |.bool b=>some (.bl b)
 |.int i _=>some (.int i)
 |.str x _=>some (.str x)
 |.bytes b _=>some (.byt b)
 |.float b _=>some (.flt b)
 |.ref a=>some (.ref a)
 |.type n=>some (.ty n)
 |_=>none
theorem RelV.abs {x:V}{u:Value}(r:RelV x u):Vs u=some x:=by
 cases x with
 |non=>cases r;rfl
 |bl _=>cases r;rfl
 |int _=>obtain⟨t,rfl⟩:=r;rfl
 |str _=>obtain⟨t,rfl⟩:=r;rfl
 |byt _=>obtain⟨t,rfl⟩:=r;rfl
 |flt _=>obtain⟨t,rfl⟩:=r;rfl
 |ref _=>cases r;rfl
 |ty _=>cases r;rfl
theorem RelV.inj {x y:V}{u:Value}(r:RelV x u) (q:RelV y u):x=y:=K_ (r.abs.symm.trans q.abs)
theorem Vals.inj {xs ys:List V}{us:List Value}(h:Vals xs us) (h':Vals ys us):xs=ys:=by
 induction h generalizing ys with
 |nil=>cases h';rfl
 |cons r t ih =>
 cases h' with
 |cons r' t'=>rw[r.inj r',ih t']
section
variable {X:Cx}{pins:List (Addr × Obj)}{Z:St}{H:Hp}{s:Shared}{a:Addr}{xs ys:List V}
theorem SqL.of {K:Frag}(h:H a=some (.lst xs)):SqL K H a xs:=.inl (.inl h)
theorem SqT.of {K:Frag}(h:H a=some (.tup xs)):SqT K H a xs:=.inl (.inl h)
theorem Inv.list (I:Inv X pins Z H s) (h:SqL X.K H a xs):∃its:List Value,Vals xs its/\PlainL s.heap a its.toArray/\xs.length<=sizeLine:=by
 rcases h with h | ⟨o,its,n,hk,hc,hd,hs,hz,r⟩
 ·obtain⟨z,its,n,r,e⟩:=h.ok I.hok;exact⟨its,r,⟨_,n,e,rfl,rfl,rfl⟩,z⟩
 refine⟨its.toList,r,⟨o,n,I.kIn a o hk,hc,hd,by simpa using hs⟩,?_⟩;have e:=r.length;simp only[Ym] at e;omega
theorem Inv.tuple (I:Inv X pins Z H s) (h:SqT X.K H a xs):∃its:List Value,Vals xs its/\IsTup s.heap a its.toArray/\xs.length<=sizeLine:=by
 rcases h with h | ⟨o,its,n,hk,hc,_,hs,hz,r⟩
 ·obtain⟨z,its,r,p⟩:=h.ok I.hok;exact⟨its,r,p.is,z⟩
 refine⟨its.toList,r,⟨o,I.kIn a o hk,hc,n,by simpa using hs⟩,?_⟩;have e:=r.length;simp only[Ym] at e;omega
theorem Inv.list_inj (I:Inv X pins Z H s) (h:SqL X.K H a xs) (h':SqL X.K H a ys):xs=ys:=by
 obtain⟨its,r,⟨o,n,e,_,_,d⟩,_⟩:=I.list h;obtain⟨its',r',⟨o',n',e',_,_,d'⟩,_⟩:=I.list h';rw[e] at e';cases e';rw[d] at d';injection d' with d1 _;have:its=its':=by simpa using WK Array.toList d1
 subst this;exact r.inj r'
theorem Inv.tuple_inj (I:Inv X pins Z H s) (h:SqT X.K H a xs) (h':SqT X.K H a ys):xs=ys:=by
 obtain⟨its,r,⟨o,e,_,n,d⟩,_⟩:=I.tuple h;obtain⟨its',r',⟨o',e',_,n',d'⟩,_⟩:=I.tuple h';rw[e] at e';cases e';rw[d] at d';injection d' with d1 _;have:its=its':=by simpa using WK Array.toList d1
 subst this;exact r.inj r'
end
abbrev Cx.wish (X:Cx) (E:Value->Shared->Prop):Cx:={ X with xe:=E}
abbrev Cx.nox (X:Cx):Cx:=X.wish fun _ _=>False
theorem Cx.Ok.wish {X:Cx}(ok:X.Ok) (E:Value->Shared->Prop):(X.wish E).Ok :=
 ⟨ok.mod,ok.kind,ok.glob,ok.blt,ok.above,ok.inj,ok.has,ok.cab,ok.hd,ok.frames,ok.stk,ok.exf,ok.bs,ok.bsz,ok.noex,ok.exfs,ok.funs,ok.frf⟩
theorem Cx.Ok.unwish {X:Cx}{E:Value->Shared->Prop}(ok:(X.wish E).Ok):X.Ok :=
 ⟨ok.mod,ok.kind,ok.glob,ok.blt,ok.above,ok.inj,ok.has,ok.cab,ok.hd,ok.frames,ok.stk,ok.exf,ok.bs,ok.bsz,ok.noex,ok.exfs,ok.funs,ok.frf⟩
section
variable {X:Cx}{pins:List (Addr × Obj)}{Z:St}{H:Hp}{s:Shared}{E:Value->Shared->Prop}
theorem Inv.wish (I:Inv X pins Z H s) (E:Value->Shared->Prop):Inv (X.wish E) pins Z H s:=⟨I.ok.wish E,I.os,I.bare,I.base,I.loc,I.cell,I.free,I.freeC,I.pin,I.hok,I.len⟩
theorem Inv.unwish (I:Inv (X.wish E) pins Z H s):Inv X pins Z H s:=⟨I.ok.unwish,I.os,I.bare,I.base,I.loc,I.cell,I.free,I.freeC,I.pin,I.hok,I.len⟩
theorem SP.unwish {D:Ends}{f:Flow}{s':Shared}(h:SP (X.wish E) pins D f s'):SP X pins D f s':=by
 cases f with
 |next=>obtain⟨Z',H',I,q⟩:=h;exact⟨Z',H',I.unwish,q⟩
 |brk=>obtain⟨Z',H',I,q⟩:=h;exact⟨Z',H',I.unwish,q⟩
 |cont=>obtain⟨Z',H',I,q⟩:=h;exact⟨Z',H',I.unwish,q⟩
 |ret u=>obtain⟨v,Z',H',I,r,q⟩:=h;exact⟨v,Z',H',I.unwish,r,q⟩
theorem PE.nox {e:Expr}{t:TE}(h:PE X.nox e t):PE X e t:=fun pins s Z H Q I hw =>
 Xh (h pins s Z H Q (I.wish _) hw) (fun _ _ ⟨v,H',I',r,q⟩=>⟨v,H',I'.unwish,r,q⟩) fun _ _ z=>False.elim z
theorem PT.nox {e:Expr}{t:TT}(h:PT X.nox e t):PT X e t:=fun pins s Z H Q I hw =>
 Xh (h pins s Z H Q (I.wish _) hw) (fun _ _ ⟨H',I',q⟩=>⟨H',I'.unwish,q⟩) fun _ _ z=>False.elim z
theorem PSs.nox {st:List Stmt}{t:TS}(h:PSs X.nox st t):PSs X st t:=fun pins s Z H D I hw =>
 Xh (h pins s Z H D (I.wish _) hw) (fun _ _ q=>q.unwish) fun _ _ z=>False.elim z
variable {st:Stmt}{rest:List Stmt}{t u:TS}{e:Expr}{te:TE}{pos:Pos}
def Qx:TS:=fun D Z H=>D.nx Z H
def Vt (t u:TS):TS:=fun D Z H=>t { D with nx:=u D} Z H
theorem Ek:PSs X [] Qx:=fun _ _ Z H _ I h=>wpAny_execs_nil ⟨Z,H,I,h⟩
theorem yQ (h1:PS X st t) (h2:PSs X rest u):PSs X (st::rest) (Vt t u):=by
 intro pins s Z H D I h;refine wpAny_execs_cons (thn (h1 pins s Z H { D with nx:=u D} I h) fun f s1 q=>?_);cases f with
 |next=>obtain⟨Z',H',I',q⟩:=q;exact h2 pins s1 Z' H' D I' q
 |ret v=>exact q
 |brk=>exact q
 |cont=>exact q
theorem El (h1:PS X st t):PSs X [st] t:=by
 intro pins s Z H D I h;refine wpAny_execs_cons (thn (h1 pins s Z H D I h) fun f s1 q=>?_);cases f with
 |next=>exact wpAny_execs_nil q
 |ret v=>exact q
 |brk=>exact q
 |cont=>exact q
theorem Inv.quiet {pins:List (Addr × Obj)}{Z:St}{H:Hp}{s:Shared}(I:Inv X pins Z H s):interactive X.env=false:=by simp [interactive,I.ok.kind]
def Qy (te:TE):TS:=fun D Z H=>te Z H fun _ H1=>D.nx Z H1
theorem Em (he:PE X e te) (hs:swapsWith e none pos.line X.env=pure false:=by rfl):PS X (.Expr e pos) (Qy te):=by
 intro pins s Z H D I h;exact wpAny_Expr_any (thn (he pins s Z H _ I h) fun v s1 ⟨x,H1,I1,r1,q1⟩=>⟨Z,H1,I1,q1⟩) I.quiet hs
def Vu (te:TE):TS:=fun D Z H=>te Z H D.rt
theorem KD (he:PE X e te):PS X (.Return (some e) pos) (Vu te):=by
 intro pins s Z H D I h;exact wpAny_Return_some (thn (he pins s Z H _ I h) fun v s1 ⟨x,H1,I1,r1,q1⟩=>⟨x,Z,H1,I1,r1,q1⟩)
def Vv (c:TT) (t u:TS):TS:=fun D Z H=>c Z H fun b H1=>if b=true then t D Z H1 else u D Z H1
theorem Qz {c:Expr}{a b:List Stmt}{tc:TT}(hc:PT X c tc) (ha:PSs X a t) (hb:PSs X b u):PS X (.If c a b pos) (Vv tc t u):=by
 intro pins s Z H D I h;refine wpAny_If (thn (hc pins s Z H _ I h) fun d s1 ⟨H1,I1,q1⟩=>?_);cases d with
 |true=>exact ha pins s1 Z H1 D I1 q1
 |false=>exact hb pins s1 Z H1 D I1 q1
end
abbrev TG:=V->St->Hp->(St->Hp->Prop)->Prop
abbrev TGs:=List V->St->Hp->(St->Hp->Prop)->Prop
def PG (X:Cx) (target:Expr) (t:TG):Prop :=
 ∀(pins:List (Addr × Obj)) (s:Shared) (Z:St) (H:Hp) (v:V) (u:Value) (Q:St->Hp->Prop),Inv X pins Z H s->RelV v u->t v Z H Q ->
  wpAny (model X.prog X.w) X.A (assign target X.env u) (fun _ s'=>∃Z' H',Inv X pins Z' H' s'/\Q Z' H') X.xe s
def PGs (X:Cx) (ts:List Expr) (t:TGs):Prop :=
 ∀(pins:List (Addr × Obj)) (s:Shared) (Z:St) (H:Hp) (vs:List V) (us:List Value) (Q:St->Hp->Prop),Inv X pins Z H s->Vals vs us->t vs Z H Q ->
  wpAny (model X.prog X.w) X.A (assignInOrder ((assignEach ts X.env).map (·.2)) us) (fun _ s'=>∃Z' H',Inv X pins Z' H' s'/\Q Z' H') X.xe s
abbrev yR:=V->V->V->Hp->(Hp->Prop)->Prop
def PSet (X:Cx) (t:yR):Prop :=
 ∀(pins:List (Addr × Obj)) (s:Shared) (Z:St) (H:Hp) (o i v:V) (ov iv u:Value) (Q:Hp->Prop),Inv X pins Z H s->RelV o ov->RelV i iv->RelV v u->t o i v H Q ->
  wpAny (model X.prog X.w) X.A (setItem ov iv u) (fun _ s'=>∃H',Inv X pins Z H' s'/\Q H') X.xe s
section
variable {X:Cx}{pos:Pos}
def Jb (i:Nat):TG:=fun v Z H Q=>Q (Z.set i (some v)) H
theorem En {i:Nat}{x:Str}(hN:X.N.Nodup) (hi:X.N[i]?=some x) (hx:Loc X.env.scope x) (hf:X.fn x=true\/X.env.scope.names.lookup x=some .local:=by first | exact .inl rfl | exact .inr rfl | assumption):PG X (.Name x pos) (Jb i):=by
 intro pins s Z H v u Q I r h;exact wpAny_assign_Name (qt I hN hi hx r (fun s' I'=>⟨_,H,I',h⟩) hf)
def Vw:TGs:=fun vs Z H Q=>vs=[]/\Q Z H
def QB (t:TG) (u:TGs):TGs:=fun vs Z H Q=>∃v r,vs=v::r/\t v Z H fun Z' H'=>u r Z' H' Q
theorem Eo:PGs X [] Vw:=by
 intro pins s Z H vs us Q I r h;obtain⟨e,h⟩:=h;subst e;cases r;exact assignInOrder_nil ⟨Z,H,I,h⟩
theorem yS {e:Expr}{es:List Expr}{t:TG}{u:TGs}(h1:PG X e t) (h2:PGs X es u)
  (hs:(assignEach (e::es) X.env).map (·.2)=assign e X.env::(assignEach es X.env).map (·.2):=by rfl):PGs X (e::es) (QB t u):=by
 intro pins s Z H vs us Q I r h;obtain⟨v,vr,e1,h⟩:=h;subst e1;cases r with
 |cons r rr =>
 rw[hs];refine assignInOrder_cons (thn (h1 pins s Z H _ _ _ I r h) fun _ s1 ⟨Z1,H1,I1,q1⟩=>?_);exact h2 pins s1 Z1 H1 _ _ Q I1 rr q1
def Vx (K:Frag) (n:Nat) (t:TGs):TG:=fun v Z H Q=>∃a xs,v=.ref a/\SqT K H a xs/\xs.length=n/\t xs Z H Q
theorem KH {es:List Expr}{k:Nat}{t:TGs}{n:Nat}(hc:X.calm=true) (h:PGs X es t)
  (hn:(assignEach es X.env).length=n:=by rfl) (hst:(assignEach es X.env).findIdx? (·.1)=none:=by rfl):PG X (.Tuple es k pos) (Vx X.K n t):=by
 intro pins s Z H v u Q I r hw;obtain⟨a,xs,e1,hq,hl,hw⟩:=hw;subst e1;cases r;obtain⟨its,rv,ht,hz⟩:=I.tuple hq;refine assign_Tuple_tuple (I.ok.hd hc) ht (by simp [hn,<- hl,rv.length]) hst fun h' hx=>?_;have I1:Inv X pins Z H { s with heap:=h'}:=I.kept (t':=s.toks) fun b o e=>hx b o (C_ (y_ e)) e;exact h pins _ Z H xs _ Q I1 (by simpa using rv) hw
def Vy (to ti:TE) (t:yR):TG:=fun v Z H Q=>to Z H fun o H1=>ti Z H1 fun i H2=>t o i v H2 fun H3=>Q Z H3
theorem KJ {o i:Expr}{to ti:TE}{t:yR}(ho:PE X o to) (hi:PE X i ti) (hs:PSet X t)
  (ha:∀v,assign (.Subscript o i pos) X.env v=(do
   let ov <- holding [v] (eval o X.env)
   let iv <- holding [v,ov] (eval i X.env)
   standAt pos
   holding [v,ov,iv] (setItem ov iv v)
   release [v,ov,iv] []):=by intro _;rfl):PG X (.Subscript o i pos) (Vy to ti t):=by
 intro pins s Z H v u Q I r h;rw[ha];refine b_ (X8 (thn (ho pins s Z H _ I h) fun ov s1 ⟨x,H1,I1,r1,q1⟩=>?_));refine b_ (X8 (thn (hi pins s1 Z H1 _ I1 q1) fun iv s2 ⟨y,H2,I2,r2,q2⟩=>?_));refine b_ (wpAny_standAt (b_ (X8 (thn (hs pins s2 Z H2 x y v ov iv u _ I2 r1 r2 r q2) fun _ s3 ⟨H3,I3,q3⟩=>?_))));exact wpAny_release ⟨Z,H3,I3,q3⟩
def QC (te:TE) (g:TG):TS:=fun D Z H=>te Z H fun x H1=>g x Z H1 D.nx
theorem KN {tg e:Expr}{te:TE}{g:TG}(he:PE X e te) (hg:PG X tg g) (hs:swapsWithSole [tg] e pos.line X.env=pure false:=by rfl) (hw:swappedStores [tg] e X.env=pure none:=by rfl)
  (h1:(assignEach [tg] X.env).map (·.2)=[assign tg X.env]:=by rfl):PS X (.Assign [tg] e pos) (QC te g):=by
 intro pins s Z H D I h;refine wpAny_Assign_stores (thn (he pins s Z H _ I h) fun v s1 ⟨x,H1,I1,r1,q1⟩=>?_) hs hw;rw[h1];exact thn (hg pins s1 Z H1 x v _ I1 r1 q1) fun _ s2 q=>q
theorem KQ {i:Nat}{x:Str}{e:Expr}{te:TE}{pos':Pos}(hN:X.N.Nodup) (hi:X.N[i]?=some x) (hx:Loc X.env.scope x) (he:PE X e te) (hs:swapsWith e (some (.Name x pos')) pos.line X.env=pure false:=by rfl) (hf:X.fn x=true\/X.env.scope.names.lookup x=some .local:=by first | exact .inl rfl | exact .inr rfl | assumption) :
  PS X (.Assign [.Name x pos'] e pos) (QC te (Jb i)):=by
 intro pins s Z H D I h;refine wpAny_Assign_Name (thn (he pins s Z H _ I h) fun v s1 ⟨y,H1,I1,r1,q1⟩=>?_) hs;exact qt I1 hN hi hx r1 (fun s2 I2=>⟨_,H1,I2,q1⟩) hf
def KR (c:TT) (tb:TS):TS:=fun D Z H=>∃W:Nat->St->Hp->Prop,(∃m,W m Z H)/\∀m Z H,W m Z H ->
 c Z H fun b H1=>if b=true then ∃N:St->Hp->Prop,(∀Z' H',N Z' H'->∃m',m'<m/\W m' Z' H')/\tb { D with nx:=N,ct:=N,bk:=D.nx} Z H1 else D.nx Z H1
theorem yU {c:Expr}{body:List Stmt}{tc:TT}{tb:TS}(hp:PassesOwn (model X.prog X.w) X.A X.env X.xe) (hc:PT X c tc) (hb:PSs X body tb):PS X (.While c body [] pos) (KR tc tb):=by
 intro pins s Z H D I h;obtain⟨W,⟨m0,w0⟩,turn⟩:=h;refine wpAny_While (codeAny_whileLoop (fun n s'=>∃Z' H',Inv X pins Z' H' s'/\W n Z' H') ?_ m0 ⟨Z,H,I,w0⟩);rintro n s1 ⟨Z1,H1,I1,w1⟩;refine Yv hp (thn (hc pins s1 Z1 H1 _ I1 (turn n Z1 H1 w1)) fun b s2 ⟨H2,I2,q2⟩=>?_);cases b with
 |true =>
  obtain⟨N,hN,q2⟩:=q2;rw[if_pos rfl];refine Yv hp (thn (hb pins s2 Z1 H2 _ I2 q2) fun f s3 q3=>?_);cases f with
  |next=>obtain⟨Z3,H3,I3,n3⟩:=q3;obtain⟨m',hm,w3⟩:=hN Z3 H3 n3;exact⟨m',hm,Z3,H3,I3,w3⟩
  |cont=>obtain⟨Z3,H3,I3,n3⟩:=q3;obtain⟨m',hm,w3⟩:=hN Z3 H3 n3;exact⟨m',hm,Z3,H3,I3,w3⟩
  |brk=>exact q3
  |ret v=>exact q3
 |false =>
 rw[if_neg p_];exact wpAny_execs_nil ⟨Z1,H2,I2,q2⟩
end
structure It where
 go:Nat->Hp->Prop
 yld:Nat->Hp->V->Hp->Prop
 stop:Nat->Hp->Prop
def jW (X:Cx) (pins:List (Addr × Obj)) (H:Hp) (b:Addr):Prop :=
 H b=none/\b≠X.env.locals/\b∉X.fs/\(b∈X.ex\/X.s₀.heap.objs.size<=b)/\(∀x c,X.env.cells.lookup x=some c->c≠b)/\∀p∈X.pn++pins,p.1≠b
theorem Inv.fpOk {X:Cx}{pins:List (Addr × Obj)}{Z:St}{H H':Hp}{s:Shared}{b:Addr}(I:Inv X pins Z H s) (hb:s.heap.objs.size<=b) (hn:H' b=none):jW X pins H' b:=by
 refine⟨hn,Wx (S_ I.lt hb),I.nofs hb,.inr (U_ I.sz hb),fun x c e z=>?_,fun p hp z=>?_⟩
 ·obtain⟨v,q⟩:=I.cell x c e;exact absurd (S_ q.lt (by rw[z];exact hb)) (WQ _)
 exact absurd (S_ (y_ (I.pin p hp).1) (by rw[z];exact hb)) (WQ _)
structure Turn (P:Program) (w:World) (K:Frag) (tg:Expr) (J:It) (fp:List Addr) (it:Addr) (tn:Nat->Heap->Prop):Prop where
 mem:it∈fp
 obj:∀i h,tn i h->∀b∈fp,∃o,h.get? b=some o/\∀v,o.data≠.cell v
 keep:∀i h h',tn i h->(∀b∈fp,∀o,h.get? b=some o->h'.get? b=some o)->tn i h'
 item:∀(X:Cx),X.prog=P->X.w=w->X.K=K->X.calm=true->∀(i:Nat) (pins:List (Addr × Obj)) (s:Shared) (Z:St) (H:Hp) (E:Value->Shared->Prop),Inv X pins Z H s->(∀b∈fp,jW X pins H b)->tn i s.heap->J.go i H ->
  wpAny (model P w) X.A (pyNext (.ref it)) (fun r s1=>∃u,r=some u /\
   wpAny (model P w) X.A (letOwnedTupleGo tg (.ref it) u) (fun _ s2=>∃x H',Inv X pins Z H' s2/\RelV x u/\J.yld i H x H'/\tn (i+1) s2.heap/\∀b∈fp,H' b=none) E s1) E s
 done:∀(X:Cx),X.prog=P->X.w=w->X.K=K->X.calm=true->∀(i:Nat) (pins:List (Addr × Obj)) (s:Shared) (Z:St) (H:Hp) (E:Value->Shared->Prop),Inv X pins Z H s->(∀b∈fp,jW X pins H b)->tn i s.heap->J.stop i H ->
  wpAny (model P w) X.A (pyNext (.ref it)) (fun r s1=>r=none/\Inv X pins Z H s1) E s
 self:∀(A:Around) (i:Nat) (s:Shared) (Q:Value->Shared->Prop) (E:Value->Shared->Prop),tn i s.heap->Q (.ref it) s->wpAny (model P w) A (pyIter (.ref it)) Q E s
abbrev TI:=St->Hp->(It->Hp->Prop)->Prop
def PIE (X:Cx) (pins:List (Addr × Obj)) (Z:St) (tg:Expr) (R:It->Hp->Prop) (itv:Value) (s2:Shared):Prop :=
 ∃(it:Addr) (fp:List Addr) (tn:Nat->Heap->Prop) (J:It) (H':Hp),itv=.ref it/\Inv X pins Z H' s2/\Turn X.prog X.w X.K tg J fp it tn/\tn 0 s2.heap/\(∀b∈fp,jW X pins H' b)/\R J H'
def PI (X:Cx) (tg iter:Expr) (wi:TI):Prop :=
 ∀(pins:List (Addr × Obj)) (s:Shared) (Z:St) (H:Hp) (R:It->Hp->Prop),Inv X pins Z H s->wi Z H R ->
  wpAny (model X.prog X.w) X.A (eval iter X.env) (fun v s1=>wpAny (model X.prog X.w) X.A (pyIter v) (PIE X pins Z tg R) X.xe s1) X.xe s
theorem vB {M:Model}{A:Around}{E:Value->Shared->Prop}{s:Shared}{tg:Expr}{it:Addr}{u:Value}{o:Obj}{n:String}{vs:Array Value}{Q:Unit->Shared->Prop}(ho:s.heap.get? it=some o) (hc:o.cls=.type n) (hd:o.data=.fields vs)
  (hn:["enumerate","zip","dict_itemiterator","dict_reverseitemiterator","odict_iterator","itertools.zip_longest","itertools.pairwise"].contains n=false) (hQ:Q () s):wpAny M A (letOwnedTupleGo tg (.ref it) u) Q E s:=by
 unfold letOwnedTupleGo;cases tg <;> first
  |exact m_ hQ
  | (cases u <;> first
    |exact m_ hQ
    | (refine b_ (wpAny_load ho ?_)
       rw[hc,hd]
       show wpAny M A (if (["enumerate","zip","dict_itemiterator","dict_reverseitemiterator","odict_iterator","itertools.zip_longest","itertools.pairwise"].contains n&&vs[0]?==some (rawInt _))=true then _ else _) Q E s
       rw[if_neg (by intro h;rw[hn,Bool.false_and] at h;cases h)]
       exact m_ hQ))
def Itl (K:Frag) (a:Addr):It :=
 ⟨fun i H=>∃xs x,SqL K H a xs/\xs[i]?=some x,fun i H x H'=>H'=H/\∀xs,SqL K H a xs->xs[i]?=some x,fun i H=>∃xs,SqL K H a xs/\xs.length<=i⟩
def Itt (K:Frag) (a:Addr):It :=
 ⟨fun i H=>∃xs x,SqT K H a xs/\xs[i]?=some x,fun i H x H'=>H'=H/\∀xs,SqT K H a xs->xs[i]?=some x,fun i H=>∃xs,SqT K H a xs/\xs.length<=i⟩
def Itr (lo:Int) (n:Nat):It:=⟨fun i _=>i<n,fun i H x H'=>H'=H/\x=.int (lo+i),fun i _=>n<=i⟩
theorem xJ {P:Program}{w:World}{K:Frag}{tg:Expr}(a it:Addr):Turn P w K tg (Itl K a) [it] it (fun i h=>h.IsListIter it a i) where
 mem:=by simp
 obj:=fun i h st b hb=>by
  have e:b=it:=by simpa using hb
  subst e
  obtain⟨o,e,c,d⟩:=st
  exact⟨o,e,fun v z=>by rw[d] at z;cases z⟩
 keep:=fun i h h' st k=>st.at fun o e=>k it (by simp) o e
 item:=by
  intro X hP hw hK hc i pins s Z H E I hf st hg
  subst hP hw hK
  obtain⟨xs,x,hq,hx⟩:=hg
  obtain⟨its,rv,p,hz⟩:=I.list hq
  obtain⟨u,hu,ru⟩:=rv.get hx
  obtain⟨f0,f1,f2,f3,f4,f5⟩:=hf it (by simp)
  refine wpAny_pyNext_list_item st p.isList (x:=u) (by simpa using hu) fun h' st' sb=>?_
  have I1:Inv X pins Z H { s with heap:=h'}:=I.turned (t':=s.toks) (fun b o hb e=>(sb.2 b hb).trans e) f0 f1 f3 f4 f5
  obtain⟨o,e,c,d⟩:=id st'
  exact⟨u,rfl,vB (s:={ s with heap:=h'}) e c d (by decide) ⟨x,H,I1,ru,⟨rfl,fun ys hy=>by rw[I.list_inj hy hq];exact hx⟩,st',fun b hb=>(hf b hb).1⟩⟩
 done:=by
  intro X hP hw hK hc i pins s Z H E I hf st hg
  subst hP hw hK
  obtain⟨xs,hq,hx⟩:=hg
  obtain⟨its,rv,p,hz⟩:=I.list hq
  obtain⟨f0,f1,f2,f3,f4,f5⟩:=hf it (by simp)
  have hl:=rv.length
  exact wpAny_pyNext_list_end (I.ok.hd hc) st p.isList (by simp;omega) fun h' eb=>⟨rfl,I.turned (t':=s.toks) (fun b o hb e=>eb b o hb e) f0 f1 f3 f4 f5⟩
 self:=fun _ _ _ _ _ st h=>wpAny_pyIter_listiter st h
theorem tM {P:Program}{w:World}{K:Frag}{tg:Expr}(a it:Addr):Turn P w K tg (Itt K a) [it] it (fun i h=>h.IsTupleIter it a i) where
 mem:=by simp
 obj:=fun i h st b hb=>by
  have e:b=it:=by simpa using hb
  subst e
  obtain⟨o,e,c,d⟩:=st
  exact⟨o,e,fun v z=>by rw[d] at z;cases z⟩
 keep:=fun i h h' st k=>st.at fun o e=>k it (by simp) o e
 item:=by
  intro X hP hw hK hc i pins s Z H E I hf st hg
  subst hP hw hK
  obtain⟨xs,x,hq,hx⟩:=hg
  obtain⟨its,rv,p,hz⟩:=I.tuple hq
  obtain⟨u,hu,ru⟩:=rv.get hx
  obtain⟨f0,f1,f2,f3,f4,f5⟩:=hf it (by simp)
  refine wpAny_pyNext_tuple_item st (show s.heap.IsTuple a its.toArray from p) (x:=u) (by simpa using hu) fun h' st' sb=>?_
  have I1:Inv X pins Z H { s with heap:=h'}:=I.turned (t':=s.toks) (fun b o hb e=>(sb.2 b hb).trans e) f0 f1 f3 f4 f5
  obtain⟨o,e,c,d⟩:=id st'
  exact⟨u,rfl,vB (s:={ s with heap:=h'}) e c d (by decide) ⟨x,H,I1,ru,⟨rfl,fun ys hy=>by rw[I.tuple_inj hy hq];exact hx⟩,st',fun b hb=>(hf b hb).1⟩⟩
 done:=by
  intro X hP hw hK hc i pins s Z H E I hf st hg
  subst hP hw hK
  obtain⟨xs,hq,hx⟩:=hg
  obtain⟨its,rv,p,hz⟩:=I.tuple hq
  obtain⟨f0,f1,f2,f3,f4,f5⟩:=hf it (by simp)
  have hl:=rv.length
  exact wpAny_pyNext_tuple_end (I.ok.hd hc) st (show s.heap.IsTuple a its.toArray from p) (by simp;omega) fun h' eb=>⟨rfl,I.turned (t':=s.toks) (fun b o hb e=>eb b o hb e) f0 f1 f3 f4 f5⟩
 self:=fun _ _ _ _ _ st h=>wpAny_pyIter_tupleiter st h
theorem tO {P:Program}{w:World}{K:Frag}{tg:Expr}(it:Addr) (lo:Int) (n:Nat):Turn P w K tg (Itr lo n) [it] it (fun i h=>IsRangeIter h it (lo+(i:Nat)*1) ((n:Int) - (i:Nat)) 1) where
 mem:=by simp
 obj:=fun i h st b hb=>by
  have e:b=it:=by simpa using hb
  subst e
  exact⟨_,st,fun v z=>by
   have z':Data.fields _=Data.cell v:=z
   cases z'⟩
 keep:=fun i h h' st k=>k it (by simp) _ st
 item:=by
  intro X hP hw hK hc i pins s Z H E I hf st hg
  subst hP hw hK
  obtain⟨f0,f1,f2,f3,f4,f5⟩:=hf it (by simp)
  have W:=Walks.range (prog:=X.prog) (w:=X.w) (I.ok.hd hc) it lo 1 n
  refine W.item i s _ _ hg st fun v h' tk hv st' kk=>?_
  obtain⟨t,rfl⟩:=hv
  have I1:Inv X pins Z H { s with heap:=h',toks:=tk}:=I.turned (fun b o hb e=>kk b o (by simpa using hb) e) f0 f1 f3 f4 f5
  refine⟨_,rfl,vB (s:={ s with heap:=h',toks:=tk}) (n:="range_iterator") st' rfl rfl (by decide) ⟨.int (lo+i),H,I1,⟨t,?_⟩,⟨rfl,rfl⟩,st',fun b hb=>(hf b hb).1⟩⟩
  rw[Int.mul_one]
 done:=by
  intro X hP hw hK hc i pins s Z H E I hf st hg
  subst hP hw hK
  obtain⟨f0,f1,f2,f3,f4,f5⟩:=hf it (by simp)
  exact wpAny_pyNext_range_end (I.ok.hd hc) st (by have:n<=i:=hg;omega) fun h' eb=>⟨rfl,I.turned (t':=s.toks) (fun b o hb e=>eb b o hb e) f0 f1 f3 f4 f5⟩
 self:=fun _ _ _ _ _ st h=>wpAny_pyIter_rangeiter st h
section
variable {X:Cx}{tg:Expr}
def QD (K:Frag) (tl:TE):TI:=fun Z H R=>tl Z H fun x H1=>∃a,x=.ref a/\(∃xs,SqL K H1 a xs)/\R (Itl K a) H1
def Vz (K:Frag) (tl:TE):TI:=fun Z H R=>tl Z H fun x H1=>∃a,x=.ref a/\(∃xs,SqT K H1 a xs)/\R (Itt K a) H1
theorem Ep {l:Expr}{tl:TE}(hl:PE X l tl):PI X tg l (QD X.K tl):=by
 intro pins s Z H R I h;refine thn (hl pins s Z H _ I h) fun v s1 ⟨x,H1,I1,r1,q1⟩=>?_;obtain⟨a,e,⟨xs,hq⟩,q⟩:=q1;subst e;cases r1;obtain⟨its,rv,p,hz⟩:=I1.list hq;refine wpAny_pyIter_list p.isList ?_;refine⟨s1.heap.objs.size,[s1.heap.objs.size],_,_,H1,rfl,I1.kept (t':=s1.toks) fun b o e=>e_ _ e,xJ a _,⟨_,u_ _ rfl,rfl,rfl⟩,fun b hb=>?_,q⟩;have e:b=s1.heap.objs.size:=by simpa using hb
 subst e;exact I1.fpOk (j_ _) (I1.hok.fresh (j_ _))
theorem KY {l:Expr}{tl:TE}(hl:PE X l tl):PI X tg l (Vz X.K tl):=by
 intro pins s Z H R I h;refine thn (hl pins s Z H _ I h) fun v s1 ⟨x,H1,I1,r1,q1⟩=>?_;obtain⟨a,e,⟨xs,hq⟩,q⟩:=q1;subst e;cases r1;obtain⟨its,rv,p,hz⟩:=I1.tuple hq;refine YQ (show s1.heap.IsTuple a its.toArray from p) ?_;refine⟨s1.heap.objs.size,[s1.heap.objs.size],_,_,H1,rfl,I1.kept (t':=s1.toks) fun b o e=>e_ _ e,tM a _,⟨_,u_ _ rfl,rfl,rfl⟩,fun b hb=>?_,q⟩;have e:b=s1.heap.objs.size:=by simpa using hb
 subst e;exact I1.fpOk (j_ _) (I1.hok.fresh (j_ _))
theorem qu {pins:List (Addr × Obj)}{Z:St}{H:Hp}{s:Shared}{R:It->Hp->Prop}{E:Value->Shared->Prop}{lo hi:Int}{t u v:Tok}{tk:Nat}(I:Inv X pins Z H s) (h1 : -(2^62)<=lo) (h2:lo<2^62) (h3 : -(2^62)<=hi) (h4:hi<2^62)
  (q:R (Itr lo (hi - lo).toNat) H):wpAny (model X.prog X.w) X.A (pyIter (.ref s.heap.objs.size)) (PIE X pins Z tg R) E { s with heap:=s.heap.push { cls:=.type "range",data:=.fields #[.int lo t,.int hi u,.int 1 v]},toks:=tk}:=by
 refine wpAny_pyIter_range (IsRange.new ..) (small_one h1 h2 h3 h4) ?_;have I1:Inv X pins Z H { s with heap:=s.heap.push { cls:=.type "range",data:=.fields #[.int lo t,.int hi u,.int 1 v]},toks:=tk}:=I.kept fun b o e=>e_ _ e;refine⟨(s.heap.push { cls:=.type "range",data:=.fields #[.int lo t,.int hi u,.int 1 v]}).objs.size,[(s.heap.push { cls:=.type "range",data:=.fields #[.int lo t,.int hi u,.int 1 v]}).objs.size],_,_,H,rfl,
  I1.kept (t':=tk) fun b o e=>e_ _ e,tO _ lo (hi - lo).toNat,?_,fun b hb=>?_,q⟩
 ·have e1:lo+((0:Nat):Int)*1=lo:=by simp
  have e2:(((hi - lo).toNat:Nat):Int) - ((0:Nat):Int)=Builtin.Range.rangeSize lo hi 1:=by rw[rangeSize_one];split <;> omega
  show IsRangeIter _ _ (lo+((0:Nat):Int)*1) ((((hi - lo).toNat:Nat):Int) - ((0:Nat):Int)) 1;rw[e1,e2];exact u_ _ rfl
 have e:b=(s.heap.push { cls:=.type "range",data:=.fields #[.int lo t,.int hi u,.int 1 v]}).objs.size:=by simpa using hb
 subst e;exact I1.fpOk (j_ _) (I1.hok.fresh (j_ _))
def QF (ta:TA):TI:=fun Z H R=>ta Z H fun vs H1=>∃j:Int,vs=[.int j] /\ -(2^62)<=j/\j<2^62/\R (Itr 0 j.toNat) H1
def QG (ta:TA):TI:=fun Z H R=>ta Z H fun vs H1=>∃i j:Int,vs=[.int i,.int j]/\(-(2^62)<=i/\i<2^62 /\ -(2^62)<=j/\j<2^62)/\R (Itr i (j - i).toNat) H1
theorem xK {a:Expr}{ta:TA}{p pos:Pos}(hg:Gl X "range") (hm:X.mg "range"=none) (ha:PA X [a] ta) (hs:starEach [a] X.env=[(false,eval a X.env)]:=by rfl):PI X tg (.Call (.Name "range" p) [a] [] pos) (QF ta):=by
 intro pins s Z H R I h;refine Call_ (d9 I hg hm boot_range (WP (thn (ha pos pins s Z H _ I h) fun us s1 ⟨vs,H1,I1,r1,q1⟩=>?_) hs rfl));obtain⟨j,e,q1,q2,q⟩:=q1;subst e;cases r1 with
 |cons r rr =>
 cases rr;obtain⟨t,rfl⟩:=r;exact call_range_1 (qu I1 (by omega) (by omega) q1 q2 (by simpa using q))
theorem xM {a b:Expr}{ta:TA}{p pos:Pos}(hg:Gl X "range") (hm:X.mg "range"=none) (ha:PA X [a,b] ta) (hs:starEach [a,b] X.env=[(false,eval a X.env),(false,eval b X.env)]:=by rfl) (hs2:starEach [b] X.env=[(false,eval b X.env)]:=by rfl) :
  PI X tg (.Call (.Name "range" p) [a,b] [] pos) (QG ta):=by
 intro pins s Z H R I h;refine Call_ (d9 I hg hm boot_range (WP (thn (ha pos pins s Z H _ I h) fun us s1 ⟨vs,H1,I1,r1,q1⟩=>?_) (by rw[hs,hs2]) (by rw[hs2];rfl)));obtain⟨i,j,e,⟨q1,q2,q3,q4⟩,q⟩:=q1;subst e;cases r1 with
 |cons r rr =>
 cases rr with
 |cons r' rr =>
 cases rr;obtain⟨t,rfl⟩:=r;obtain⟨t',rfl⟩:=r';exact call_range_2 (qu I1 q1 q2 q3 q4 q)
def VB (wi:TI) (g:TG) (tb:TS):TS:=fun D Z H=>wi Z H fun J H1=>∃W:Nat->Nat->St->Hp->Prop,(∃m,W 0 m Z H1)/\∀i m Z H,W i m Z H ->
 (J.stop i H/\D.nx Z H)\/(J.go i H/\∃N:St->Hp->Prop,(∀Z' H',N Z' H'->∃m',m'<m/\W (i+1) m' Z' H')/\∀x H',J.yld i H x H'->g x Z H' fun Z2 H2=>tb { D with nx:=N,ct:=N,bk:=D.nx} Z2 H2)
def kO (fp : List Addr) (h : Heap) : List (Addr × Obj):=fp.filterMap fun b => (h.get? b).map fun o => (b,o)
theorem f9 {fp : List Addr} {h : Heap} {b : Addr} {o : Obj} (hb : b ∈ fp) (e : h.get? b = some o) : (b,o) ∈ kO fp h:=List.mem_filterMap.mpr ⟨b,hb,by rw [e]; rfl⟩
theorem xN {fp:List Addr}{h:Heap}{p:Addr × Obj}(hp:p∈kO fp h):p.1∈fp/\h.get? p.1=some p.2:=by
 obtain ⟨b,hb,e⟩:=List.mem_filterMap.mp hp;cases q : h.get? b with
 |none=>rw[q] at e;cases e
 |some o =>
 rw[q] at e;have e':(b,o)=p:=K_ e;subst e';exact⟨hb,q⟩
theorem Inv.pinned {pins:List (Addr × Obj)}{Z:St}{H:Hp}{s:Shared}{fp:List Addr}(I:Inv X pins Z H s) (hf:∀b∈fp,jW X pins H b) (ho:∀b∈fp,∃o,s.heap.get? b=some o/\∀v,o.data≠.cell v):Inv X (pins++kO fp s.heap) Z H s :=
 I.pins_of fun p hp=>(G_.mp hp).elim (fun z=>I.pin p (Ws _ z)) fun z=>by
  obtain⟨hb,e⟩:=xN z;obtain⟨f0,f1,f2,_⟩:=hf p.1 hb;obtain⟨o,e',d⟩:=ho p.1 hb;rw[e] at e';cases e';exact⟨e,f0,f1,f2,d⟩
theorem Inv.unpinned {pins pl:List (Addr × Obj)}{Z:St}{H:Hp}{s:Shared}(I:Inv X (pins++pl) Z H s):Inv X pins Z H s:=I.pins_of fun p hp=>I.pin p (Ws _ (WT _ hp))
theorem KZ {iter:Expr}{body:List Stmt}{wi:TI}{g:TG}{tb:TS}{pos:Pos}(hp:PassesOwn (model X.prog X.w) X.A X.env X.xe) (hc:X.calm=true) (hi:PI X tg iter wi) (hg:PG X tg g) (hb:PSs X body tb)
  (hs:∀x,foldedSetIterable iter X.env x=pure x:=by intro _;rfl):PS X (.For tg iter body [] pos) (VB wi g tb):=by
 intro pins s Z H D I h;refine wpAny_For (thn (hi pins s Z H _ I h) fun v s1 h1=>thn h1 fun itv s2 h2=>?_) hs;obtain⟨it,fp,tn,J,H2,e,I2,T,st2,f2,W,⟨m0,w0⟩,turn⟩:=h2;subst e
 have stat:∀{H':Hp},(∀b∈fp,H' b=none)->∀b∈fp,jW X pins H' b:=fun hn b hb=>⟨hn b hb,(f2 b hb).2⟩;refine codeAny_forLoop_any (fun n s'=>∃i Z' H',Inv X pins Z' H' s'/\tn i s'.heap/\(∀b∈fp,H' b=none)/\W i n Z' H') ?_ m0 ⟨0,Z,H2,I2,st2,fun b hb=>(f2 b hb).1,w0⟩;rintro n s3 ⟨i,Z3,H3,I3,st3,fr3,w3⟩;rcases turn i n Z3 H3 w3 with ⟨stop,qn⟩ | ⟨go,N,hN,step⟩
 ·refine Yv hp (thn (T.done X rfl rfl rfl hc i pins s3 Z3 H3 X.xe I3 (stat fr3) st3 stop) fun r s4 ⟨hr,I4⟩=>?_);subst hr;exact wpAny_execs_nil ⟨Z3,H3,I4,qn⟩
 refine Yv hp (thn (T.item X rfl rfl rfl hc i pins s3 Z3 H3 X.xe I3 (stat fr3) st3 go) fun r s4 ⟨u,hr,h4⟩=>?_);subst hr;refine Yv hp (thn h4 fun _ s5 ⟨x,H5,I5,r5,y5,st5,fr5⟩=>?_);have I5':=I5.pinned (stat fr5) (T.obj _ _ st5);refine Yv hp (thn (hg _ s5 Z3 H5 x u _ I5' r5 (step x H5 y5)) fun _ s6 ⟨Z6,H6,I6,q6⟩=>?_);refine Yv hp (thn (hb _ s6 Z6 H6 _ I6 q6) fun f s7 q7=>?_);have again:∀{Z7:St} {H7:Hp},Inv X (pins++kO fp s5.heap) Z7 H7 s7->N Z7 H7->∃m,m<n/\∃i Z' H',Inv X pins Z' H' s7/\tn i s7.heap/\(∀b∈fp,H' b=none)/\W i m Z' H':=fun {Z7 H7} I7 n7=>by obtain⟨m',hm,w7⟩:=hN Z7 H7 n7;refine⟨m',hm,i+1,Z7,H7,I7.unpinned,T.keep _ _ _ st5 fun b hb o e=>(I7.pin (b,o) (Ws _ (Ws _ (f9 hb e)))).1,fun b hb=>?_,w7⟩;obtain⟨o,e,d⟩:=T.obj _ _ st5 b hb;exact (I7.pin (b,o) (Ws _ (Ws _ (f9 hb e)))).2.1
 cases f with
 |next=>obtain⟨Z7,H7,I7,n7⟩:=q7;exact again I7 n7
 |cont=>obtain⟨Z7,H7,I7,n7⟩:=q7;exact again I7 n7
 |brk=>obtain⟨Z7,H7,I7,q7⟩:=q7;exact⟨Z7,H7,I7.unpinned,q7⟩
 |ret v=>obtain⟨x7,Z7,H7,I7,r7,q7⟩:=q7;exact⟨x7,Z7,H7,I7.unpinned,r7,q7⟩
end
abbrev R2:=V->V->Hp->VK->Prop
def OpR (X:Cx) (f:Value->Value->Sem Value) (r:R2):Prop :=
 ∀(pins:List (Addr × Obj)) (s:Shared) (Z:St) (H:Hp) (x y:V) (v u:Value) (Q:VK),Inv X pins Z H s->RelV x v->RelV y u->r x y H Q ->
  wpAny (model X.prog X.w) X.A (f v u) (EP X pins Z Q) X.xe s
def UnR (X:Cx) (f:Value->Sem Value) (r:V->Hp->VK->Prop):Prop :=
 ∀(pins:List (Addr × Obj)) (s:Shared) (Z:St) (H:Hp) (x:V) (v:Value) (Q:VK),Inv X pins Z H s->RelV x v->r x H Q ->
  wpAny (model X.prog X.w) X.A (f v) (EP X pins Z Q) X.xe s
def CallR (X:Cx) (f:Value) (r:List V->Hp->VK->Prop):Prop :=
 ∀(pins:List (Addr × Obj)) (s:Shared) (Z:St) (H:Hp) (xs:List V) (us:List Value) (Q:VK),Inv X pins Z H s->Vals xs us->r xs H Q ->
  wpAny (model X.prog X.w) X.A (call f us) (EP X pins Z Q) X.xe s
def tOp (r:R2) (ta tb:TE):TE:=fun Z H Q=>ta Z H fun x H1=>tb Z H1 fun y H2=>r x y H2 Q
def tUn (r:V->Hp->VK->Prop) (ta:TE):TE:=fun Z H Q=>ta Z H fun x H1=>r x H1 Q
def rI (C:Int->Int->Prop) (g:Int->Int->V):R2:=fun x y H Q=>∃i j,x=.int i/\y=.int j/\C i j/\Q (g i j) H
def rI0 (g:Int->Int->V):R2:=fun x y H Q=>∃i j,x=.int i/\y=.int j/\Q (g i j) H
def rU (g:Int->V):V->Hp->VK->Prop:=fun x H Q=>∃i,x=.int i/\Q (g i) H
section
variable {X:Cx}{a b c:Expr}{ta tb tc:TE}{pos:Pos}
theorem K1 (ha:PE X a ta) (hb:PE X b tb) {pins:List (Addr × Obj)}{s:Shared}{Z:St}{H:Hp}{R:V->V->Hp->Prop}(I:Inv X pins Z H s)
  (h:ta Z H fun x H1=>tb Z H1 fun y H2=>R x y H2) {Q:Value->Shared->Prop} {f:Value->Value->Sem Value}
  (hf:∀v u s2 x y H2,Inv X pins Z H2 s2->RelV x v->RelV y u->R x y H2->wpAny (model X.prog X.w) X.A (f v u) Q X.xe s2) :
  wpAny (model X.prog X.w) X.A (eval a X.env) (fun v s₁=>wpAny (model X.prog X.w) X.A (eval b X.env) (fun u s₂=>wpAny (model X.prog X.w) X.A (f v u) Q X.xe s₂) X.xe s₁) X.xe s:=by
 refine thn (ha pins s Z H _ I h) fun v s1 ⟨x,H1,I1,r1,q1⟩=>?_;refine thn (hb pins s1 Z H1 _ I1 q1) fun u s2 ⟨y,H2,I2,r2,q2⟩=>?_;exact hf v u s2 x y H2 I2 r1 r2 q2
theorem QH {op:Operator}{r:R2}(ho:OpR X (binaryOp op) r) (ha:PE X a ta) (hb:PE X b tb):PE X (.BinOp a op b pos) (tOp r ta tb):=by
 intro pins s Z H Q I h;exact wpAny_BinOp (K1 ha hb I h fun v u s2 x y H2 I2 rx ry q=>ho pins s2 Z H2 x y v u Q I2 rx ry q)
theorem QJ {op:UnaryOp}{r:V->Hp->VK->Prop}(ho:UnR X (unaryOp op) r) (ha:PE X a ta):PE X (.UnaryOp op a pos) (tUn r ta):=by
 intro pins s Z H Q I h;exact UnaryOp_ (thn (ha pins s Z H _ I h) fun v s1 ⟨x,H1,I1,r1,q1⟩=>ho pins s1 Z H1 x v Q I1 r1 q1)
theorem opI {f:Value->Value->Sem Value}{C:Int->Int->Prop}{g:Int->Int->Int}
  (rule:∀(i j:Int) (t u:Tok) (s:Shared) (Q:Value->Shared->Prop) (E:Value->Shared->Prop),C i j->Q (.int (g i j) s.toks) { s with toks:=s.toks+1}->wpAny (model X.prog X.w) X.A (f (.int i t) (.int j u)) Q E s) :
  OpR X f (rI C fun i j=>.int (g i j)):=by
 intro pins s Z H x y v u Q I rx ry h;obtain⟨i,j,rfl,rfl,hc,q⟩:=h;obtain⟨t,rfl⟩:=rx;obtain⟨t',rfl⟩:=ry;exact rule i j t t' s _ _ hc ⟨.int (g i j),H,I.tok _,⟨_,rfl⟩,q⟩
theorem Er {f:Value->Value->Sem Value}{g:Int->Int->Int}
  (rule:∀(i j:Int) (t u:Tok) (s:Shared) (Q:Value->Shared->Prop) (E:Value->Shared->Prop),Q (.int (g i j) s.toks) { s with toks:=s.toks+1}->wpAny (model X.prog X.w) X.A (f (.int i t) (.int j u)) Q E s) :
  OpR X f (rI0 fun i j=>.int (g i j)):=by
 intro pins s Z H x y v u Q I rx ry h;obtain⟨i,j,rfl,rfl,q⟩:=h;obtain⟨t,rfl⟩:=rx;obtain⟨t',rfl⟩:=ry;exact rule i j t t' s _ _ ⟨.int (g i j),H,I.tok _,⟨_,rfl⟩,q⟩
theorem K3 {f:Value->Value->Sem Value}{g:Int->Int->Bool}
  (rule:∀(i j:Int) (t u:Tok) (s:Shared) (Q:Value->Shared->Prop) (E:Value->Shared->Prop),Q (.bool (g i j)) s->wpAny (model X.prog X.w) X.A (f (.int i t) (.int j u)) Q E s) :
  OpR X f (rI0 fun i j=>.bl (g i j)):=by
 intro pins s Z H x y v u Q I rx ry h;obtain⟨i,j,rfl,rfl,q⟩:=h;obtain⟨t,rfl⟩:=rx;obtain⟨t',rfl⟩:=ry;exact rule i j t t' s _ _ ⟨.bl (g i j),H,I,rfl,q⟩
def QK (i j:Int):Prop:=0<=j/\j<=1000000/\i.natAbs<2^64
def CMul (i j:Int):Prop:=(-(2^64)<i/\i<2^64)\/(-(2^64)<j/\j<2^64)
theorem CMul.ok {i j:Int}(h:CMul i j):IntMulOk i j:=by
 rcases h with ⟨h1,h2⟩ | ⟨h1,h2⟩
 ·exact .of_left (intBits_le_64 h1 h2)
 exact .of_right (intBits_le_64 h1 h2)
theorem op_add:OpR X (binaryOp .Add) (rI0 fun i j=>.int (i+j)):=Er fun _ _ _ _ _ _ _ q=>add_int q
theorem K4:OpR X (binaryOp .Sub) (rI0 fun i j=>.int (i - j)):=Er fun _ _ _ _ _ _ _ q=>sub_int q
theorem K5:OpR X (binaryOp .Mult) (rI CMul fun i j=>.int (i*j)):=opI fun _ _ _ _ _ _ _ hc q=>mul_int q hc.ok
theorem K6:OpR X (binaryOp .Mod) (rI (fun _ j=>0<j) fun i j=>.int (i%j)):=opI fun i j _ _ _ _ _ hc q=>by
 have h1:(0:Int)<j:=hc;exact mod_int' (by omega) (by rw[Int.fmod_eq_emod_of_nonneg i (by omega)];exact q)
theorem K7:OpR X (binaryOp .Pow) (rI QK fun i j=>.int (i^j.toNat)):=opI fun _ _ _ _ _ _ _ hc q=>pow_int_small hc.1 hc.2.1 hc.2.2 q
theorem K8:OpR X (binaryOp .BitAnd) (rI0 fun i j=>.int (Builtin.bitAnd i j)):=Er fun _ _ _ _ _ _ _ q=>and_int q
theorem QL:OpR X (binaryOp .BitOr) (rI0 fun i j=>.int (Builtin.bitOr i j)):=Er fun _ _ _ _ _ _ _ q=>or_int q
theorem unI {f:Value->Sem Value}{g:Int->Int}
  (rule:∀(i:Int) (t:Tok) (s:Shared) (Q:Value->Shared->Prop) (E:Value->Shared->Prop),Q (.int (g i) s.toks) { s with toks:=s.toks+1}->wpAny (model X.prog X.w) X.A (f (.int i t)) Q E s) :
  UnR X f (rU fun i=>.int (g i)):=by
 intro pins s Z H x v Q I rx h;obtain⟨i,rfl,q⟩:=h;obtain⟨t,rfl⟩:=rx;exact rule i t s _ _ ⟨.int (g i),H,I.tok _,⟨_,rfl⟩,q⟩
theorem K9:UnR X (unaryOp .USub) (rU fun i=>.int (-i)):=unI fun _ _ _ _ _ q=>neg_int q
end
def iI:V->V->Bool
 |.non,.non=>true | .non,.int _=>true | .int _,.non=>true | .non,.bl _=>true | .bl _,.non=>true | .non,.str _=>true | .str _,.non=>true
 |.int _,.int _=>true | .bl _,.bl _=>true | .str _,.str _=>true | .byt _,.byt _=>true
 |.int _,.str _=>true | .str _,.int _=>true | .bl _,.str _=>true | .str _,.bl _=>true
 |_,_=>false
def rEq:R2:=fun x y H Q=>iI x y=true/\Q (.bl (decide (x=y))) H
def rNe:R2:=fun x y H Q=>iI x y=true/\Q (.bl (!decide (x=y))) H
theorem vC {i j:Int}:decide (V.int i=V.int j)=(i==j):=by
 rw[Wz];simp
theorem yV {i j:Bool}:decide (V.bl i=V.bl j)=(i==j):=by
 rw[Wz];simp
theorem vD {i j:Str}:decide (V.str i=V.str j)=(i==j):=by
 rw[Wz];simp
theorem vG {i j:Array UInt8}:decide (V.byt i=V.byt j)=(i.toList==j.toList):=by
 rw[Wz];cases i;cases j;simp
section
variable {X:Cx}{a b c:Expr}{ta tb tc:TE}{pos:Pos}
theorem bc {pins:List (Addr × Obj)}{Z:St}{H:Hp}{s:Shared}{Q:VK}{k k':Bool}(I:Inv X pins Z H s) (q:Q (.bl k) H) (e:k=k'):EP X pins Z Q (.bool k') s:=by
 subst e;exact⟨.bl k,H,I,rfl,q⟩
theorem QM:OpR X (compareOp .Eq) rEq:=by
 intro pins s Z H x y v u Q I rx ry h;obtain⟨hs,q⟩:=h;cases x with
 |non =>
  cases rx;cases y with
  |non=>cases ry;exact PySem.EqNone.eq_none_none (bc I q (by simp))
  |bl j=>cases ry;exact PySem.EqNone.eq_none_bool (bc I q (by simp))
  |int j=>obtain⟨t',rfl⟩:=ry;exact PySem.EqNone.eq_none_int (bc I q (by simp))
  |str j=>obtain⟨t',rfl⟩:=ry;exact PySem.EqNone.eq_none_str (bc I q (by simp))
  |_=>exact absurd (show false=true from hs) p_
 |bl i =>
  cases rx;cases y with
  |non=>cases ry;exact PySem.EqNone.eq_bool_none (bc I q (by simp))
  |bl j=>cases ry;exact eq_bool (bc I q yV)
  |str j=>obtain⟨t',rfl⟩:=ry;exact PySem.EqMixed.eq_bool_str (bc I q (by simp))
  |_=>exact absurd (show false=true from hs) p_
 |int i =>
  obtain⟨t,rfl⟩:=rx;cases y with
  |non=>cases ry;exact PySem.EqNone.eq_int_none (bc I q (by simp))
  |int j=>obtain⟨t',rfl⟩:=ry;exact eq_int (bc I q vC)
  |str j=>obtain⟨t',rfl⟩:=ry;exact PySem.EqMixed.eq_int_str (bc I q (by simp))
  |_=>exact absurd (show false=true from hs) p_
 |str i =>
  obtain⟨t,rfl⟩:=rx;cases y with
  |non=>cases ry;exact PySem.EqNone.eq_str_none (bc I q (by simp))
  |bl j=>cases ry;exact PySem.EqMixed.eq_str_bool (bc I q (by simp))
  |int j=>obtain⟨t',rfl⟩:=ry;exact PySem.EqMixed.eq_str_int (bc I q (by simp))
  |str j=>obtain⟨t',rfl⟩:=ry;exact eq_str (bc I q vD)
  |_=>exact absurd (show false=true from hs) p_
 |byt i =>
  obtain⟨t,rfl⟩:=rx;cases y with
  |byt j=>obtain⟨t',rfl⟩:=ry;exact PySem.W.eq_bytes (bc I q vG)
  |_=>exact absurd (show false=true from hs) p_
 |_=>cases y <;> exact absurd (show false=true from hs) p_
theorem QQ:OpR X (compareOp .NotEq) rNe:=by
 intro pins s Z H x y v u Q I rx ry h;obtain⟨hs,q⟩:=h;cases x with
 |non =>
  cases rx;cases y with
  |non=>cases ry;exact PySem.EqNone.ne_none_none (bc I q (by simp))
  |bl j=>cases ry;exact PySem.EqNone.ne_none_bool (bc I q (by simp))
  |int j=>obtain⟨t',rfl⟩:=ry;exact PySem.EqNone.ne_none_int (bc I q (by simp))
  |str j=>obtain⟨t',rfl⟩:=ry;exact PySem.EqNone.ne_none_str (bc I q (by simp))
  |_=>exact absurd (show false=true from hs) p_
 |bl i =>
  cases rx;cases y with
  |non=>cases ry;exact PySem.EqNone.ne_bool_none (bc I q (by simp))
  |bl j=>cases ry;exact ne_bool (bc I q (WK not yV))
  |str j=>obtain⟨t',rfl⟩:=ry;exact PySem.EqMixed.ne_bool_str (bc I q (by simp))
  |_=>exact absurd (show false=true from hs) p_
 |int i =>
  obtain⟨t,rfl⟩:=rx;cases y with
  |non=>cases ry;exact PySem.EqNone.ne_int_none (bc I q (by simp))
  |int j=>obtain⟨t',rfl⟩:=ry;exact ne_int (bc I q (WK not vC))
  |str j=>obtain⟨t',rfl⟩:=ry;exact PySem.EqMixed.ne_int_str (bc I q (by simp))
  |_=>exact absurd (show false=true from hs) p_
 |str i =>
  obtain⟨t,rfl⟩:=rx;cases y with
  |non=>cases ry;exact PySem.EqNone.ne_str_none (bc I q (by simp))
  |bl j=>cases ry;exact PySem.EqMixed.ne_str_bool (bc I q (by simp))
  |int j=>obtain⟨t',rfl⟩:=ry;exact PySem.EqMixed.ne_str_int (bc I q (by simp))
  |str j=>obtain⟨t',rfl⟩:=ry;exact ne_str (bc I q (WK not vD))
  |_=>exact absurd (show false=true from hs) p_
 |byt i =>
  obtain⟨t,rfl⟩:=rx;cases y with
  |byt j=>obtain⟨t',rfl⟩:=ry;exact PySem.W.ne_bytes (bc I q (WK not vG))
  |_=>exact absurd (show false=true from hs) p_
 |_=>cases y <;> exact absurd (show false=true from hs) p_
theorem QR:OpR X (compareOp .LtE) (rI0 fun i j=>.bl (decide (i<=j))):=K3 fun _ _ _ _ _ _ _ q=>le_int q
theorem QS:OpR X (compareOp .Gt) (rI0 fun i j=>.bl (decide (j<i))):=K3 fun _ _ _ _ _ _ _ q=>gt_int q
theorem QT:OpR X (compareOp .GtE) (rI0 fun i j=>.bl (decide (j<=i))):=K3 fun _ _ _ _ _ _ _ q=>ge_int q
theorem xO:OpR X (compareOp .In) (fun x y H Q=>∃i j,x=.str i/\y=.str j/\Q (.bl (!(Builtin.Str.occurrences j i 0 j.length 1).isEmpty)) H):=by
 intro pins s Z H x y v u Q I rx ry h;obtain⟨i,j,rfl,rfl,q⟩:=h;obtain⟨t,rfl⟩:=rx;obtain⟨t',rfl⟩:=ry;exact in_str (bc I q rfl)
theorem La:OpR X (compareOp .Is) (fun x y H Q=>y=.non/\Q (.bl (decide (x=.non))) H):=by
 intro pins s Z H x y v u Q I rx ry h;obtain⟨rfl,q⟩:=h;cases ry;refine is_none_gen (bc I q ?_);cases x <;> first
  | (cases rx;rfl)
  | (obtain⟨t,rfl⟩:=rx;rfl)
theorem oM:OpR X (compareOp .NotIn) (fun x y H Q=>∃i j,x=.str i/\y=.str j/\Q (.bl (!(!(Builtin.Str.occurrences j i 0 j.length 1).isEmpty))) H):=by
 intro pins s Z H x y v u Q I rx ry h;obtain⟨i,j,rfl,rfl,q⟩:=h;obtain⟨t,rfl⟩:=rx;obtain⟨t',rfl⟩:=ry;exact notIn_str (bc I q rfl)
theorem OpR.or {f:Value->Value->Sem Value}{r r':R2}(h:OpR X f r) (h':OpR X f r'):OpR X f (fun x y H Q=>r x y H Q\/r' x y H Q):=by
 intro pins s Z H x y v u Q I rx ry q;rcases q with q | q
 ·exact h pins s Z H x y v u Q I rx ry q
 exact h' pins s Z H x y v u Q I rx ry q
theorem yW (b:Expr) {op:CmpOp}(h:op≠.In:=by decide) (h2:op≠.NotIn:=by decide):behindInMarks op b=false:=by
 have e1:(op==CmpOp.In)=false:=by cases op <;> first | rfl | exact absurd rfl h
 have e2:(op==CmpOp.NotIn)=false:=by cases op <;> first | rfl | exact absurd rfl h2
 cases b <;> simp [behindInMarks,e1,e2]
theorem Es {op:CmpOp}{r:R2}(ho:OpR X (compareOp op) r) (ha:PE X a ta) (hb:PE X b tb) (hm:behindInMarks op b=false):PE X (.Compare a [op] [b] pos) (tOp r ta tb):=by
 intro pins s Z H Q I h;exact wpAny_Compare1 (K1 ha hb I h fun v u s2 x y H2 I2 rx ry q=>ho pins s2 Z H2 x y v u Q I2 rx ry q) hm
def QV (t:TE):TT:=fun Z H Q=>t Z H fun x H'=>∃k,x=.bl k/\Q k H'
theorem Et {op:CmpOp}{r:R2}(ho:OpR X (compareOp op) r) (ha:PE X a ta) (hb:PE X b tb) (hm:behindInMarks op b=false):PT X (.Compare a [op] [b] pos) (QV (tOp r ta tb)):=by
 intro pins s Z H Q I h;refine wpAny_isTrue_Compare1 (thn (ha pins s Z H _ I h) fun v s1 ⟨x,H1,I1,r1,q1⟩=>thn (hb pins s1 Z H1 _ I1 q1) fun u s2 ⟨y,H2,I2,r2,q2⟩ =>
  thn (ho pins s2 Z H2 x y v u _ I2 r1 r2 q2) fun c s3 ⟨z,H3,I3,r3,k,e,q3⟩=>?_) hm
 subst e;cases r3;exact Yy ⟨H3,I3,q3⟩
theorem ju:(sizeLine:Nat)<2^63:=by rw[Zk];decide
theorem op_add_str:OpR X (binaryOp .Add) (fun x y H Q=>∃i j,x=.str i/\y=.str j/\i.length+j.length<=sizeLine/\Q (.str (i++j)) H):=by
 intro pins s Z H x y v u Q I rx ry h;obtain⟨i,j,rfl,rfl,hz,q⟩:=h;obtain⟨t,rfl⟩:=rx;obtain⟨t',rfl⟩:=ry;exact add_str (fun t' tk=>⟨.str (i++j),H,I.tok _,⟨_,rfl⟩,q⟩) hz
theorem vals1 {x:V}{us:List Value}(r:Vals [x] us):∃u,us=[u]/\RelV x u:=by
 cases r with
 |cons r1 r2=>cases r2;exact⟨_,rfl,r1⟩
theorem vals2 {x y:V}{us:List Value}(r:Vals [x,y] us):∃u w',us=[u,w']/\RelV x u/\RelV y w':=by
 cases r with
 |cons r1 r2 =>
 cases r2 with
 |cons r3 r4=>cases r4;exact⟨_,_,rfl,r1,r3⟩
theorem xP:CallR X (.type "int") (fun xs H Q=>(∃i,xs=[.int i]/\Q (.int i) H)\/∃k,xs=[.bl k]/\Q (.int (if k then 1 else 0)) H):=by
 intro pins s Z H xs us Q I r h;rcases h with ⟨i,rfl,q⟩ | ⟨k,rfl,q⟩
 ·obtain⟨u,rfl,t,rfl⟩:=vals1 r;exact call_int_int ⟨.int i,H,I,⟨_,rfl⟩,q⟩
 obtain⟨u,rfl,r1⟩:=vals1 r;cases r1;exact call_int_bool ⟨.int (if k then 1 else 0),H,I.tok _,⟨_,rfl⟩,q⟩
end
structure ObjM (h:Heap) (x dx C:Addr) (mA:Str->Option Value):Prop where
 obj:h.get? x=some (instObj C dx)
 ns:h.Ns1 dx mA
 ne:dx≠x
theorem xQ {h:Heap}{dx:Addr}{mA:Str->Option Value}(n:h.Ns1 dx mA):∃od,h.get? dx=some od/\∀name,lookIn name od=some (mA name):=by
 obtain⟨o,es,ep,ho,hd,hk,_,hm⟩:=n;refine⟨o,ho,fun name=>?_⟩;have e:=hm name;unfold nsFind findBy at e;rw[<- Array.find?_toList] at e;unfold lookIn;rw[hd];dsimp only;split
 ·rename_i y q;rw[q] at e;exact WK some e
 rename_i q;rw[q] at e;have a:es.toList.any (·.refKey)=false:=by rw[List.any_eq_false];intro y hy;obtain⟨z,t,hkey⟩:=hk y (Array.mem_toList_iff.mp hy);simp [DictEntry.refKey,hkey]
 have a':¬es.toList.any (·.refKey)=true:=by rw[a];exact p_
 rw[if_neg a'];exact WK some e
theorem ObjM.look {h:Heap}{x dx C:Addr}{mA:Str->Option Value}(I:ObjM h x dx C mA):∃od,InstAt h x (instObj C dx) C (some od)/\∀name,lookIn name od=some (mA name) :=
 let ⟨od,ho,hl⟩:=xQ I.ns
 ⟨od,⟨I.obj,rfl,rfl,ho⟩,hl⟩
section
variable {prog:Program}{w:World}{A:Around}{E:Value->Shared->Prop}{s:Shared}{K:Frag}{x dx C f:Addr}{mA:Str->Option Value}{name:Str}{v:Value}
theorem Eu {expr:Bool}{Q:Value->Shared->Prop}(X:K.In s.heap) (I:ObjM s.heap x dx C mA) (hg:plainGet K C name=true) (hh:hasDictIn K C=true)
  (ha:findIn K (.ref C) name=some none) (hv:mA name=some v) (hv':handedIn v=true) (h:Q v { s with toks:=s.toks+1}) :
  wpAny (model prog w) A (getAttr (.ref x) name expr) Q E s:=by
 obtain⟨od,J,hl⟩:=I.look;exact PySem.W.get_value X J (plainGet_of hg).1 (PySem.W.findObj_own hh ha rfl (by rw[hl,hv])) hv' h
theorem yX {pl:Sem Bool}{Q:Value × List Value->Shared->Prop}(X:K.In s.heap) (I:ObjM s.heap x dx C mA) (hg:plainGet K C name=true)
  (hf:findIn K (.ref C) name=some (some (.ref f))) (ht:isFn K (.ref f)=true) (hv:mA name=none) (h:Q (.ref f,[.ref x]) s) :
  wpAny (model prog w) A (getMethod (.ref x) name pl) Q E s:=by
 obtain⟨od,J,hl⟩:=I.look;exact PySem.W.method_fn X J (plainGet_of hg).1 (plainGet_of hg).2 hf (Yp.mp ht) (by show (lookIn name od).map (·.isSome)=some false;rw[hl,hv];rfl) h
theorem Ew {ns:List Str}{Q:Unit->Shared->Prop}(X:K.In s.heap) (I:ObjM s.heap x dx C mA)
  (hs:findIn K (.ref C) "__setattr__"=some (some (.builtin "object.__setattr__"))) (hp:plainOver K C=true) (ht:takerIn K C name=some none) (hh:hasDictIn K C=true)
  (hw:PySem.Within mA ns) (hsz:ns.length<=sizeLine)
  (h:∀h',ObjM h' x dx C (fun y=>if y=name then some v else mA y)->Heap.SameBut dx s.heap h'->Q () { s with heap:=h',toks:=s.toks+2}) :
  wpAny (model prog w) A (setAttr (.ref x) name v) Q E s:=by
 obtain⟨od,J,hl⟩:=I.look;refine PySem.W.set_plain X J hs (PySem.W.osa_open (s:={ s with toks:=s.toks+1}) (r:=none) X J hp ht fun b=>?_);obtain⟨cd,hc,hd'⟩:=PySem.W.any_some hh;have hx:s.heap.get? x=some ⟨.ref C,some dx,.plain,#[]⟩:=I.obj;refine b_ (m_ (b_ (b_ (wpAny_loadPart hx (b_ (PySem.W.Looks.here (s:={ s with toks:=s.toks+1}) (PySem.W.looks_clsIn X hc) ?_))))));rw[hd'];refine m_ (a:=some dx) (b_ (m_ (b_ ?_)));refine wpAny_nsSet1 (s:={ s with toks:=s.toks+1}) I.ns fun h' hn2 hs2=>?_;obtain⟨oD,esD,epD,hoD,hdD,hcD⟩:=hn2.count (PySem.Within.cons name v hw);refine b_ (wpAny_lookBehind hoD (by rw[hdD];exact pastItsLine_dict (U_ hcD (by rw[l_];omega))) ?_);exact m_ (h _ ⟨(hs2.2 _ (Ne.symm I.ne)).trans I.obj,hn2,I.ne⟩ hs2)
theorem yZ {R:Result->Shared->Prop}{vs:List Value}{kw:List (Str × Value)}(X:K.In s.heap) (hm:makesIn K C=true)
  (hi:findIn K (.ref C) "__init__"=some (some (.ref f))) (hf:typeIn K (.ref f)=some (.type "function"))
  (h:codeAny (model prog w) (A.under (.builtin "type.__call__" ⟨.ref C::vs,kw⟩)) (.call (.ref f) ⟨.ref (s.heap.objs.size+1)::vs,kw⟩) (PySem.W.InitBack (s.heap.objs.size+1) R)
   { s with heap:=(s.heap.push emptyDict).push (instObj C s.heap.objs.size)}) :
  codeAny (model prog w) A (.call (.ref C) ⟨vs,kw⟩) R s:=by
 obtain⟨hh,g,d,t,os⟩:=s;exact PySem.W.make_core (PySem.W.makes_of X hm) (PySem.W.looks_findIn X hi) (fun self=>PySem.W.bind_fn X self hf) (.inl rfl) h
end
def gh (f:Str) (v:V):List (Str × V)->List (Str × V)
 |[]=>[(f,v)]
 | (g,x)::r=>if g=f then (g,v)::r else (g,x)::gh f v r
theorem jJ (f g:Str) (v:V):∀fs:List (Str × V),(gh f v fs).lookup g=if g=f then some v else fs.lookup g
 |[]=>by
  show List.lookup g [(f,v)]=_
  by_cases h:g=f
  ·
   have hb:(g==f)=true:=Yp.mpr h
   simp only[List.lookup,hb,if_pos h]
  ·
   have hb:(g==f)=false:=W0.mpr h
   simp only[List.lookup,hb,if_neg h]
 | (k,x)::r=>by
  have ih:=jJ f g v r
  rw[show gh f v ((k,x)::r)=(if k=f then (k,v)::r else (k,x)::gh f v r) from rfl]
  by_cases hk:k=f
  ·
   rw[if_pos hk]
   by_cases h:g=k
   ·
    have hb:(g==k)=true:=Yp.mpr h
    simp only[List.lookup,hb,if_pos (h.trans hk)]
   ·
    have hb:(g==k)=false:=W0.mpr h
    simp only[List.lookup,hb,if_neg (fun e:g=f=>h (e.trans hk.symm))]
  ·
   rw[if_neg hk]
   by_cases h:g=k
   ·
    have hb:(g==k)=true:=Yp.mpr h
    simp only[List.lookup,hb,if_neg (fun e:g=f=>hk (h.symm.trans e))]
   ·
    have hb:(g==k)=false:=W0.mpr h
    simp only[List.lookup,hb]
    exact ih
theorem jw (f:Str) (v:V):∀fs:List (Str × V),f∈(gh f v fs).map (·.1)/\∀g,g∈fs.map (·.1)->g∈(gh f v fs).map (·.1)
 |[]=>⟨by simp [gh],fun g h=>by simp at h⟩
 | (k,x)::r=>by
  obtain⟨i1,i2⟩:=jw f v r
  rw[show gh f v ((k,x)::r)=(if k=f then (k,v)::r else (k,x)::gh f v r) from rfl]
  by_cases hk:k=f
  ·
   rw[if_pos hk]
   subst hk
   exact⟨by simp,fun g h=>by simpa using h⟩
  ·
   rw[if_neg hk]
   refine⟨?_,fun g h=>?_⟩
   ·
    rw[I_]
    exact t_ _ i1
   ·
    rw[I_] at h ⊢
    rcases n_.mp h with e | e
    ·
     exact n_.mpr (.inl e)
    ·
     exact t_ _ (i2 g e)
theorem jK (f:Str) (v:V):∀fs:List (Str × V),(gh f v fs).length<=fs.length+1
 |[]=>by simp [gh]
 | (k,x)::r=>by
  have ih:=jK f v r
  rw[show gh f v ((k,x)::r)=(if k=f then (k,v)::r else (k,x)::gh f v r) from rfl]
  by_cases hk:k=f
  ·
   rw[if_pos hk,l_,l_];omega
  ·
   rw[if_neg hk,l_,l_];omega
theorem RelO.some_of {v:V}{o:Option Value}(r:RelO (some v) o):∃u,o=some u/\RelV v u:=by
 cases o with
 |none=>exact (show False from r).elim
 |some u=>exact⟨u,rfl,r⟩
theorem RelO.none_of {o:Option Value}(r:RelO none o):o=none:=by
 cases o with
 |none=>rfl
 |some u=>exact (show False from r).elim
theorem xR {v:V}{u:Value}(r:RelV v u):handedIn u=true:=by
 cases v with
 |non=>cases (show u=Value.none from r);rfl
 |bl b=>cases (show u=Value.bool b from r);rfl
 |int i=>obtain⟨t,e⟩:=(show ∃t,u=Value.int i t from r);cases e;rfl
 |str x=>obtain⟨t,e⟩:=(show ∃t,u=Value.str x t from r);cases e;rfl
 |byt b=>obtain⟨t,e⟩:=(show ∃t,u=Value.bytes b t from r);cases e;rfl
 |flt b=>obtain⟨t,e⟩:=(show ∃t,u=Value.float b t from r);cases e;rfl
 |ref a=>cases (show u=Value.ref a from r);rfl
 |ty n=>cases (show u=Value.type n from r);rfl
section
variable {P:Program}{w:World}{H H':Hp}{h h':Heap}{a C dx:Addr}{fs fs':List (Str × V)}
theorem j0 (hok:HOk P w H h) (e:H a=some (.ins C dx fs)):∃mA,ObjM h a dx C mA/\(∀f,RelO (fs.lookup f) (mA f))/\PySem.Within mA (fs.map (·.1))/\fs.length<=1000/\H dx=some (.own a):=by
 obtain⟨d,z,ne,ob,mA,n,r,q⟩:=(show ObjOk P w H h a (.ins C dx fs) from hok a _ e);exact⟨mA,⟨ob,n,ne⟩,r,q,z,d⟩
end
structure Cls (K:Frag) (C:Addr):Prop where
 pg:plainGet K C Str.empty=true
 hd:hasDictIn K C=true
 po:plainOver K C=true
 sa:findIn K (.ref C) "__setattr__"=some (some (.builtin "object.__setattr__"))
theorem Cls.get {K:Frag}{C:Addr}(c:Cls K C) (f:Str):plainGet K C f=true:=c.pg
def NoAttr (K:Frag) (C:Addr) (f:Str):Prop:=findIn K (.ref C) f=some none
theorem NoAttr.taker {K:Frag}{C:Addr}{f:Str}(n:NoAttr K C f):takerIn K C f=some none:=by
 unfold takerIn;rw[show findIn K (.ref C) f=some none from n];rfl
structure Meth (K:Frag) (C:Addr) (m:Str) (f:Addr):Prop where
 at_:findIn K (.ref C) m=some (some (.ref f))
 fn:isFn K (.ref f)=true
 kp:keepIn K (.ref f)=true
section
variable {X:Cx}{pins:List (Addr × Obj)}{Z:St}{H:Hp}{s:Shared}{a C dx:Addr}{fs:List (Str × V)}{f:Str}{v:V}{A:Around}{E:Value->Shared->Prop}
theorem tQ {b:Bool}{Q:Value->Shared->Prop}(I:Inv X pins Z H s) (e:H a=some (.ins C dx fs)) (c:Cls X.K C) (n:NoAttr X.K C f) (l:fs.lookup f=some v)
  (h:∀u s',Inv X pins Z H s'->RelV v u->Q u s'):wpAny (model X.prog X.w) A (getAttr (.ref a) f b) Q E s:=by
 obtain⟨mA,O,r,_,_,_⟩:=j0 I.hok e;obtain⟨u,hu,ru⟩:=RelO.some_of (v:=v) (o:=mA f) (by rw[<- l];exact r f);exact Eu I.kIn O (c.get f) c.hd n hu (xR ru) (h u _ (I.tok _) ru)
theorem tR {m:Str}{g:Addr}{pl:Sem Bool}{Q:Value × List Value->Shared->Prop}(I:Inv X pins Z H s) (e:H a=some (.ins C dx fs)) (c:Cls X.K C) (k:Meth X.K C m g) (l:fs.lookup m=none)
  (h:Q (.ref g,[.ref a]) s):wpAny (model X.prog X.w) A (getMethod (.ref a) m pl) Q E s:=by
 obtain⟨mA,O,r,_,_,_⟩:=j0 I.hok e;have hn:mA m=none:=RelO.none_of (by rw[<- l];exact r m);exact yX I.kIn O (c.get m) k.at_ k.fn hn h
theorem tU {y:V}{u:Value}{Q:Unit->Shared->Prop}(I:Inv X pins Z H s) (e:H a=some (.ins C dx fs)) (c:Cls X.K C) (n:NoAttr X.K C f) (hl:fs.length<1000) (ry:RelV y u)
  (h:∀s',Inv X pins Z (upd H a (.ins C dx (gh f y fs))) s'->Q () s'):wpAny (model X.prog X.w) A (setAttr (.ref a) f u) Q E s:=by
 obtain⟨mA,O,r,wi,_,ho⟩:=j0 I.hok e;have hz:(fs.map (·.1)).length<=sizeLine:=by rw[h_,Zk];omega
 refine Ew I.kIn O c.sa c.po n.taker c.hd wi hz fun h' O' sb=>h _ ?_;have hd:∃o,h'.get? dx=some o:=let ⟨o,_,_,e',_⟩:=O'.ns;⟨o,e'⟩;refine I.write (x:=a) (e:=dx) (by rw[e];exact True.intro) (.inr ho) (fun b q hb z=>(sb.2 b hb).trans z) hd ?_;refine⟨by rw[aO O.ne];exact ho,?_,O.ne,O'.obj,_,O'.ns,fun g=>?_,fun g hg=>?_⟩
 ·have:=jK f y fs;omega
 ·show RelO ((gh f y fs).lookup g) (if g=f then some u else mA g);rw[jJ];by_cases q:g=f
  ·rw[if_pos q,if_pos q];exact ry
  rw[if_neg q,if_neg q];exact r g
 by_cases q:g=f
 ·rw[q];exact (jw f y fs).1
 refine (jw f y fs).2 g (wi g fun z=>hg ?_);show (if g=f then some u else mA g)=none;rw[if_neg q];exact z
theorem Inv.made (I:Inv X pins Z H s):Inv X pins Z (upd (upd H s.heap.objs.size (.own (s.heap.objs.size+1))) (s.heap.objs.size+1) (.ins C s.heap.objs.size []))
  { s with heap:=(s.heap.push emptyDict).push (instObj C s.heap.objs.size)}:=by
 have e1:(s.heap.push emptyDict).get? s.heap.objs.size=some emptyDict:=u_ s.heap rfl;have e2:((s.heap.push emptyDict).push (instObj C s.heap.objs.size)).get? (s.heap.objs.size+1)=some (instObj C s.heap.objs.size):=by
  have:=u_ (s.heap.push emptyDict) (o:=instObj C s.heap.objs.size) rfl
  rwa [XM] at this
 have e3:(s.heap.push emptyDict).Ns s.heap.objs.size (fun _=>none):=⟨emptyDict,#[],_,e1,rfl,(fun e he=>absurd he (by simp)),fun _=>rfl⟩;have I1:=I.laid (a:=s.heap.objs.size) (o:=.own (s.heap.objs.size+1)) (h':=s.heap.push emptyDict) (t':=s.toks) (fun b u q=>e_ _ q) (j_ _) ⟨_,e1⟩;refine I1.laid (a:=s.heap.objs.size+1) (o:=.ins C s.heap.objs.size []) (t':=s.toks) (fun b u q=>e_ _ q) (Zn (XM _ _)) ?_;have ne:s.heap.objs.size≠s.heap.objs.size+1:=C_ (Xc _);refine⟨by rw[aO ne,bM],WR _,ne,e2,fun _=>none,(Heap.Ns1.of_empty e3).at fun o q=>e_ _ q,fun _=>True.intro,fun y hy=>absurd rfl hy⟩
theorem Ex {prog:Program}{w:World}{env:Env}{e:Expr}{f:Str}{pos:Pos}{s:Shared}{Q:Value->Shared->Prop}(hb:attributeBase e f env (eval e env)=eval e env)
  (h:wpAny (model prog w) A (eval e env) (fun o s₁=>wpAny (model prog w) A (getAttr o f true) Q E s₁) E s):wpAny (model prog w) A (eval (.Attribute e f pos) env) Q E s :=
 Attribute_any_ h (by rw[arm_eval_Attribute,hb])
end
def VD (K:Frag) (ta:TE) (f:Str):TE:=fun Z H Q=>ta Z H fun x H1=>∃a C dx fs v,x=.ref a/\H1 a=some (.ins C dx fs)/\Cls K C/\NoAttr K C f/\fs.lookup f=some v/\Q v H1
def VF (K:Frag) (ta tv:TE) (f:Str):TS:=fun D Z H=>tv Z H fun y H1=>ta Z H1 fun x H2=>∃a C dx fs,x=.ref a/\H2 a=some (.ins C dx fs)/\Cls K C/\NoAttr K C f/\fs.length<1000 /\
 D.nx Z (upd H2 a (.ins C dx (gh f y fs)))
section
variable {X:Cx}{o e value:Expr}{f:Str}{pos pos' tpos:Pos}{ta tv:TE}
theorem Lb (he:PE X e ta) (hb:attributeBase e f X.env (eval e X.env)=eval e X.env):PE X (.Attribute e f pos) (VD X.K ta f):=by
 intro pins s Z H Q I h;refine Ex hb (thn (he pins s Z H _ I h) fun u s1 ⟨x,H1,I1,rx,a,C,dx,fs,v,ex,ea,c,n,l,q⟩=>?_);subst ex;obtain rfl:u=Value.ref a:=rx;exact tQ I1 ea c n l fun u' s2 I2 ru=>⟨v,H1,I2,ru,q⟩
theorem Ld (ha:PE X o ta) (hv:PE X value tv) (hs:swapsWith value (some (.Attribute o f pos')) pos.line X.env=pure false):PS X (.Assign [.Attribute o f pos'] value pos) (VF X.K ta tv f):=by
 intro pins s Z H D I h;refine plainObj_wpAny_Assign_Attribute (thn (hv pins s Z H _ I h) fun u s1 ⟨y,H1,I1,ry,q⟩=>thn (ha pins s1 Z H1 _ I1 q) fun ov s2 ⟨x,H2,I2,rx,a,C,dx,fs,ex,ea,c,n,l,q2⟩=>?_) hs;subst ex;obtain rfl:ov=Value.ref a:=rx;exact tU I2 ea c n l ry fun s3 I3=>⟨Z,_,I3,q2⟩
variable {pins:List (Addr × Obj)}{Z:St}{H:Hp}{s:Shared}{A:Around}{E Q:Value->Shared->Prop}{c:Value}{b:Bool}
inductive TyOf (K:Frag) (H:Hp):V->Value->Prop where
 |non:TyOf K H .non (.type "NoneType")
 |bl (x:Bool):TyOf K H (.bl x) (.type "bool")
 |int (i:Int):TyOf K H (.int i) (.type "int")
 |str (x:Str):TyOf K H (.str x) (.type "str")
 |flt (x:UInt64):TyOf K H (.flt x) (.type "float")
 |lst {a:Addr} {xs:List V} (e:H a=some (.lst xs)):TyOf K H (.ref a) (.type "list")
 |frz {a:Addr} {o:Obj} {xs:List V} (e:H a=some (.frz o (.lst xs))):TyOf K H (.ref a) (.type "list")
 |tup {a:Addr} {xs:List V} (e:H a=some (.tup xs)):TyOf K H (.ref a) (.type "tuple")
 |dK {a:Addr} {kvs:List (Key × V)} (e:H a=some (.dK kvs)):TyOf K H (.ref a) (.type "dict")
 |dT {a:Addr} {kvs:List (List Key × V)} (e:H a=some (.dT kvs)):TyOf K H (.ref a) (.type "dict")
 |ins {a C dx:Addr} {fs:List (Str × V)} (e:H a=some (.ins C dx fs)) (cl:Cls K C) (ha:findIn K (.ref C) "__class__"=some (some (.builtin "object.__class__")))
   (hn:PySem.W.specialIn K (.builtin "object.__class__") "__get__"=some (some (.builtin "getset_descriptor.__get__"))) (htk:PySem.W.takesIn K (.builtin "object.__class__")=some true)
   (hm:mroIn K C (.type "object")=some true):TyOf K H (.ref a) (.ref C)
theorem d7 {x:V}{u t:Value}(I:Inv X pins Z H s) (rx:RelV x u) (ty:TyOf X.K H x t) (e:kitOne X.K t c=some b) (h:∀tk,Q (.bool b) { s with toks:=tk}) :
  wpAny (model X.prog X.w) A (call (.builtin "isinstance") [u,c]) Q E s:=by
 cases ty with
 |non=>cases (show u=Value.none from rx);exact kia_one PySem.W.kitx_none I.kIn True.intro e (fun z=>nomatch z) h
 |bl y=>cases (show u=Value.bool y from rx);exact kia_one PySem.W.kitx_bool I.kIn True.intro e (fun z=>nomatch z) h
 |int i=>obtain⟨t,q⟩:=(show ∃t,u=Value.int i t from rx);cases q;exact kia_one PySem.W.kitx_int I.kIn True.intro e (fun z=>nomatch z) h
 |str y=>obtain⟨t,q⟩:=(show ∃t,u=Value.str y t from rx);cases q;exact kia_one PySem.W.kitx_str I.kIn True.intro e (fun z=>nomatch z) h
 |flt y=>obtain⟨t,q⟩:=(show ∃t,u=Value.float y t from rx);cases q;exact kia_one PySem.W.kitx_float I.kIn True.intro e (fun z=>nomatch z) h
 |@lst a xs ea=>cases (show u=Value.ref a from rx);obtain⟨_,_,n,_,h1⟩:=(show ObjOk X.prog X.w H s.heap a (.lst xs) from I.hok a _ ea);exact kia_one kitx_list I.kIn ⟨_,h1,rfl⟩ e (fun z=>nomatch z) h
 |@frz a ob xs ea=>cases (show u=Value.ref a from rx);obtain⟨_,_,_,n,_,h1⟩:=(show ObjOk X.prog X.w H s.heap a (.frz ob (.lst xs)) from I.hok a _ ea);exact kia_one kitx_list I.kIn ⟨_,h1,rfl⟩ e (fun z=>nomatch z) h
 |@tup a xs ea=>cases (show u=Value.ref a from rx);obtain⟨_,_,_,p⟩:=(show ObjOk X.prog X.w H s.heap a (.tup xs) from I.hok a _ ea);obtain⟨o,h1,h2,_⟩:=p;exact kia_one kitx_tuple I.kIn ⟨o,h1,h2⟩ e (fun z=>nomatch z) h
 |@dK a kvs ea=>cases (show u=Value.ref a from rx);obtain⟨_,_,vs,_,p⟩:=(show ObjOk X.prog X.w H s.heap a (.dK kvs) from I.hok a _ ea);obtain⟨o,es,ep,h1,h2,_⟩:=p;exact kia_one kitx_dict I.kIn ⟨o,h1,h2.1⟩ e (fun z=>nomatch z) h
 |@dT a kvs ea=>cases (show u=Value.ref a from rx);obtain⟨_,_,xs,_,o,es,ep,h1,h2,_⟩:=(show ObjOk X.prog X.w H s.heap a (.dT kvs) from I.hok a _ ea);exact kia_one kitx_dict I.kIn ⟨o,h1,h2.1⟩ e (fun z=>nomatch z) h
 |@ins a C dx fs ea cl ha hn htk hm =>
 cases (show u=Value.ref a from rx);obtain⟨mA,O,_⟩:=j0 I.hok ea;obtain⟨od,J,_⟩:=O.look;exact kia_one (PySem.W.kitx_own (cl.get _) cl.hd ha hn htk hm) I.kIn J e (fun z=>nomatch z) h
end
structure Room (k:Nat) (A:Around):Prop where
 hd:A.handled=none
 dp:A.depth+3*k+5<recursionLimit
 un:A.units+16*k+200<cLine
 gd:A.guards=some []
theorem Room.mono {j k:Nat}{A:Around}(r:Room k A) (h:j<=k):Room j A:=⟨r.hd,by have:=r.dp;omega,by have:=r.un;omega,r.gd⟩
theorem Room.deeper {k:Nat}{A:Around}(r:Room (k+1) A) (env:Env):Room k (A.deeper env) :=
 ⟨r.hd,by have:=r.dp;show A.depth+1+3*k+5<_;omega,by have:=r.un;show A.units+3+16*k+200<_;omega,r.gd⟩
theorem Room.in1 {k:Nat}{A:Around}(r:Room (k+1) A):Room k A.in1 :=
 ⟨r.hd,by have:=r.dp;show A.depth+3*k+5<_;omega,by have:=r.un;show A.units+1+16*k+200<_;omega,r.gd⟩
theorem tV {A:Around}{C:Addr}{us:List Value}{kw:List (Str × Value)}:(A.under (.builtin "type.__call__" ⟨.ref C::us,kw⟩)).depth=A.depth+1:=by
 first | rfl | simp [Around.under,Code.weight,Code.isCreation,Code.isGuard,Code.isCaller,Code.frames,Code.isFrame,guardIds]
theorem tW {A:Around}{C:Addr}{us:List Value}{kw:List (Str × Value)}:(A.under (.builtin "type.__call__" ⟨.ref C::us,kw⟩)).units=A.units+1:=by
 first | rfl | simp [Around.under,Code.cUnits,Code.frames,Code.isFrame]
theorem Room.make {k:Nat}{A:Around}(r:Room (k+1) A) (C:Addr) (us:List Value) (kw:List (Str × Value)):Room k (A.under (.builtin "type.__call__" ⟨.ref C::us,kw⟩)) :=
 ⟨r.hd,by have:=r.dp;rw[tV];omega,by have:=r.un;rw[tW];omega,by first | exact r.gd | (simp [Around.under,Code.guards,Code.isGuard,guardIds,pushGuards,r.gd])⟩
theorem Room.depth {k:Nat}{A:Around}(r:Room k A):A.depth<recursionLimit:=by have:=r.dp;omega
theorem Room.units {k:Nat}{A:Around}(r:Room k A):A.units+64<cLine:=by have:=r.un;omega
def VG:TA:=fun _ H Q=>Q [] H
def QW (ta:TE) (tr:TA):TA:=fun Z H Q=>ta Z H fun x H1=>tr Z H1 fun xs H2=>Q (x::xs) H2
section
variable {X:Cx}{e:Expr}{es:List Expr}{te:TE}{t:TA}{pos:Pos}
theorem Le:PA X [] VG:=fun _ _ _ _ H Q I h=>Yz ⟨[],H,I,.nil,h⟩
theorem Ey (ha:PE X e te) (hr:PA X es t) (hs:starEach (e::es) X.env=(false,eval e X.env)::starEach es X.env:=by rfl):PA X (e::es) (QW te t):=by
 intro pos pins s Z H Q I h;rw[hs];show wpAny _ _ (spliced ((false,eval e X.env)::backTo pos (starEach es X.env))) _ _ s;refine X5 (thn (ha pins s Z H _ I h) fun u s1 ⟨x,H1,I1,r1,q1⟩=>?_);exact thn (hr pos pins s1 Z H1 _ I1 q1) fun us s2 ⟨xs,H2,I2,r2,q2⟩=>⟨x::xs,H2,I2,.cons r1 r2,q2⟩
def VH (t:TA):TE:=fun Z H Q=>t Z H fun xs H1=>xs.length<=sizeLine/\∀p,H1 p=none->Q (.ref p) (upd H1 p (.tup xs))
def VJ (t:TA):TE:=fun Z H Q=>t Z H fun xs H1=>xs.length<=sizeLine/\∀p,H1 p=none->Q (.ref p) (upd H1 p (.lst xs))
theorem Lf {x1}(h:PA X es t):PE X (.Tuple es x1 pos) (VH t):=by
 intro pins s Z H Q I hq;refine wpAny_Tuple_spliced (thn (h pos pins s Z H _ I hq) fun us s1 ⟨xs,H1,I1,r,z,q⟩=>⟨by rw[<- r.length];exact z,?_⟩);have hf:H1 s1.heap.objs.size=none:=I1.hok.fresh (j_ _);refine⟨.ref s1.heap.objs.size,upd H1 s1.heap.objs.size (.tup xs),I1.laid (t':=s1.toks) (fun b u e=>e_ _ e) (j_ _) ?_,rfl,q _ hf⟩;exact⟨z,us,r,⟨_,u_ _ rfl,rfl,_,rfl,rfl⟩⟩
theorem Lg (h:PA X es t):PE X (.List es pos) (VJ t):=by
 intro pins s Z H Q I hq;refine wpAny_List_spliced (thn (h pos pins s Z H _ I hq) fun us s1 ⟨xs,H1,I1,r,z,q⟩=>⟨by rw[<- r.length];exact z,?_⟩);have hf:H1 s1.heap.objs.size=none:=I1.hok.fresh (j_ _);refine⟨.ref s1.heap.objs.size,upd H1 s1.heap.objs.size (.lst xs),I1.laid (t':=s1.toks) (fun b u e=>e_ _ e) (j_ _) ?_,rfl,q _ hf⟩;exact⟨z,us,0,r,u_ _ rfl⟩
end
abbrev Sp:=List V->Hp->VK->XK->Prop
abbrev CXT:=List Env->Hp->Shared->XK->Value->Shared->Prop
structure Env0 (P:Program) (w:World) (K:Frag) (mg:Str->Option Value) (base:Heap) (A:Around) (outer:List Env) (s:Shared) (H:Hp):Prop where
 frames:A.frames=some outer
 mod:Mod K mg base
 bs:∀b o,base.get? b=some o->s.heap.get? b=some o/\H b=none
 bsz:base.objs.size<=s.heap.objs.size
 funs:s.heap.FunFrames base outer
 frf:∀b∈frs outer,H b=none
 hok:HOk P w H s.heap
 bare:AllBare s.gens
def CE (outer:List Env) (P:Program) (w:World) (H:Hp) (s:Shared) (Q:VK) (u:Value) (s':Shared):Prop :=
 ∃v H',s'.os=s.os/\AllBare s'.gens/\Un (frs outer) [] H H' s.heap s'.heap/\HOk P w H' s'.heap/\RelV v u/\Q v H'
def CR (CX:CXT) (outer:List Env) (P:Program) (w:World) (H:Hp) (s:Shared) (Q:VK) (E:XK) (r:Result) (s':Shared):Prop :=
 match r with
 |.ok (.ret u)=>CE outer P w H s Q u s'
 |.ok _=>False
 |.error e=>CX outer H s E e s'
structure FnOk (P:Program) (w:World) (K:Frag) (mg:Str->Option Value) (base:Heap) (CX:CXT) (k:Nat) (f:Addr) (fd:FuncData) (ps:List Str) (sp:Sp):Prop where
 len:∀vs H Q E,sp vs H Q E->vs.length=ps.length
 run:∀(A:Around) (outer:List Env) (s:Shared) (H:Hp) (args:Args) (us:List Value) (vs:List V) (Q:VK) (E:XK),Room k A->Env0 P w K mg base A outer s H->BindsTo s fd args (ps.zip us)->Vals vs us->sp vs H Q E ->
  codeAny (model P w) A (.call (.ref f) args) (CR CX outer P w H s Q E) s
theorem FnOk.mono {P:Program}{w:World}{K:Frag}{mg:Str->Option Value}{base:Heap}{CX:CXT}{j k:Nat}{f:Addr}{fd:FuncData}{ps:List Str}{sp:Sp}(F:FnOk P w K mg base CX j f fd ps sp) (h:j<=k) :
  FnOk P w K mg base CX k f fd ps sp:=⟨F.len,fun A outer s H args us vs Q E hr=>F.run A outer s H args us vs Q E (hr.mono h)⟩
theorem FnOk.imp {P:Program}{w:World}{K:Frag}{mg:Str->Option Value}{base:Heap}{CX:CXT}{k:Nat}{f:Addr}{fd:FuncData}{ps:List Str}{sp sp':Sp}(F:FnOk P w K mg base CX k f fd ps sp)
  (h:∀vs H Q E,sp' vs H Q E->sp vs H Q E):FnOk P w K mg base CX k f fd ps sp' :=
 ⟨fun vs H Q E q=>F.len vs H Q E (h _ _ _ _ q),fun A outer s H args us vs Q E hr he hb hv hs=>F.run A outer s H args us vs Q E hr he hb hv (h _ _ _ _ hs)⟩
theorem Env0.make {P:Program}{w:World}{K:Frag}{mg:Str->Option Value}{base:Heap}{A:Around}{outer:List Env}{s:Shared}{H:Hp}(e:Env0 P w K mg base A outer s H) (C:Addr) (us:List Value) (kw:List (Str × Value)) :
  Env0 P w K mg base (A.under (.builtin "type.__call__" ⟨.ref C::us,kw⟩)) outer s H:=⟨by first | exact e.frames | (simpa [Around.under,Code.envs,Code.isFrame,pushEnvs] using e.frames),e.mod,e.bs,e.bsz,e.funs,e.frf,e.hok,e.bare⟩
theorem Env0.in1 {P:Program}{w:World}{K:Frag}{mg:Str->Option Value}{base:Heap}{A:Around}{outer:List Env}{s:Shared}{H:Hp}(e:Env0 P w K mg base A outer s H) :
  Env0 P w K mg base A.in1 outer s H:=⟨e.frames,e.mod,e.bs,e.bsz,e.funs,e.frf,e.hok,e.bare⟩
section
variable {X:Cx}{pins:List (Addr × Obj)}{Z:St}{H:Hp}{s s':Shared}
theorem Inv.env0 (I:Inv X pins Z H s):Env0 X.prog X.w X.K X.mg X.base X.A X.stack s H :=
 ⟨I.ok.frames,I.ok.mod,I.bs,U_ I.ok.bsz I.sz,I.stack,I.stkFree,I.hok,I.bare⟩
theorem Inv.after {Q:VK}{u:Value}(I:Inv X pins Z H s) (h:CE X.stack X.prog X.w H s Q u s'):EP X pins Z Q u s':=by
 obtain⟨v,H',os,bare,un,hok,r,q⟩:=h;obtain⟨hh,g,d,t,os'⟩:=s';obtain rfl:os'=s.os:=os;exact⟨v,H',I.call (h':=hh) (g':=g) (d':=d) (t':=t) (ch:=[]) un hok bare (fun b z=>absurd z (by simp)),r,q⟩
end
def QX (sp:Sp) (dvs:List V) (E:XK) (t:TA):TE:=fun Z H Q=>t Z H fun vs H1=>sp (vs++dvs) H1 Q E
def QZ (C:Addr) (m:Str) (sp:Sp) (dvs:List V) (E:XK) (ta:TE) (t:TA):TE:=fun Z H Q=>ta Z H fun x H1=>∃a dx fs,x=.ref a/\H1 a=some (.ins C dx fs)/\fs.lookup m=none /\
 t Z H1 fun vs H2=>sp (x::(vs++dvs)) H2 Q E
def Q0 (C:Addr) (sp:Sp) (dvs:List V) (E:XK) (t:TA):TE:=fun Z H Q=>t Z H fun vs H1=>∀x dx,H1 x=none->H1 dx=none->dx≠x ->
 sp (.ref x::(vs++dvs)) (upd (upd H1 dx (.own x)) x (.ins C dx [])) (fun v H2=>v=.non/\Q (.ref x) H2) E
def Binds (K:Frag) (fd:FuncData) (ps:List Str) (ds:List Value):Prop :=
 ∀(s:Shared) (us:List Value),K.In s.heap->(us++ds).length=ps.length->BindsTo s fd ⟨us,[]⟩ (ps.zip (us++ds))
theorem Binds.all {K:Frag}{fd:FuncData}{ps:List Str}(h:∀us:List Value,us.length=ps.length->bindArgs fd ⟨us,[]⟩=pure (ps.zip us)):Binds K fd ps []:=fun s us _ hl=>by
 rw[WD] at hl ⊢;exact .of_eq (h us hl)
def jx (CX:CXT) (X:Cx) (E:XK):Prop:=∀(pins:List (Addr × Obj)) (Z:St) (H:Hp) (s:Shared) (e:Value) (s':Shared),Inv X pins Z H s->CX X.stack H s E e s'->X.xe e s'
section
variable {X:Cx}{CX:CXT}{k:Nat}{f C:Addr}{fd:FuncData}{ps:List Str}{sp:Sp}{dvs:List V}{ds:List Value}{E:XK}{x m:Str}{p pos apos:Pos}{e o:Expr}{es:List Expr}{ta:TE}{t:TA}
theorem za {pins:List (Addr × Obj)}{Z:St}{H:Hp}{s:Shared}{Q:VK}{us:List Value}{vs:List V}(F:FnOk X.prog X.w X.K X.mg X.base CX k f fd ps sp) (hr:Room k X.A) (hb:Binds X.K fd ps ds) (hd:Vals dvs ds) (hx:jx CX X E)
  (I:Inv X pins Z H s) (r:Vals vs us) (h:sp (vs++dvs) H Q E):wpAny (model X.prog X.w) X.A (call (.ref f) us) (EP X pins Z Q) X.xe s:=by
 have r2:Vals (vs++dvs) (us++ds):=r.append hd;have hl:(us++ds).length=ps.length:=by rw[<- r2.length];exact F.len _ _ _ _ h
 refine wpAny_call (codeAny_mono (F.run X.A X.stack s H ⟨us,[]⟩ (us++ds) (vs++dvs) Q E hr I.env0 (hb s us I.kIn hl) r2 h) fun r s' hq=>?_);cases r with
 |error e=>exact hx pins Z H s e s' I hq
 |ok fl =>
 cases fl with
 |ret u=>exact I.after hq
 |next=>exact False.elim hq
 |brk=>exact False.elim hq
 |cont=>exact False.elim hq
theorem Ez (F:FnOk X.prog X.w X.K X.mg X.base CX k f fd ps sp) (hr:Room k X.A) (hg:Gl X x) (hm:X.mg x=some (.ref f)) (hk:keepIn X.K (.ref f)=true) (hb:Binds X.K fd ps ds) (hd:Vals dvs ds) (hx:jx CX X E)
  (ha:PA X (e::es) t) (hdb:(x==("__debug__":Str))=false:=by decide) (he:starEach (e::es) X.env=(false,eval e X.env)::starEach es X.env:=by rfl) (hpl:(backTo pos (starEach es X.env)).any (·.1)=false:=by rfl) :
  PE X (.Call (.Name x p) (e::es) [] pos) (QX sp dvs E t):=by
 intro pins s Z H Q I h;refine Xz (oK I hg hm ?_ hdb);refine callWith_K (h₀:=X.base) I.ok.mod.kin hk (thn (ha pos pins s Z H _ I h) fun us s1 ⟨vs,H1,I1,r,q⟩=>⟨I1.kIn,?_⟩) he hpl;exact za F hr hb hd hx I1 r q
theorem EY {pl:Sem Bool}(he:PE X o ta) (c:Cls X.K C) (hm:Meth X.K C m f) (F:FnOk X.prog X.w X.K X.mg X.base CX k f fd ps sp) (hr:Room k X.A) (hb:Binds X.K fd ps ds) (hd:Vals dvs ds) (hx:jx CX X E) (ha:PA X (e::es) t)
  (hst:starEach (e::es) X.env=(false,eval e X.env)::starEach es X.env:=by rfl) (hpl:(backTo pos (starEach es X.env)).any (·.1)=false:=by rfl)
  (ht:eval (.Call (.Attribute o m apos) (e::es) [] pos) X.env=(do
   let ov <- eval o X.env
   standAt apos.atName
   let (f,first) <- holding [ov] (getMethod ov m pl)
   callWith pos f first (backTo pos (starEach (e::es) X.env)) (backToKw pos (keywordEach [] X.env))):=by rfl) :
  PE X (.Call (.Attribute o m apos) (e::es) [] pos) (QZ C m sp dvs E ta t):=by
 intro pins s Z H Q I h;refine PySem.W.methodCall_KW (pl:=pl) (thn (he pins s Z H _ I h) fun u s1 ⟨x,H1,I1,rx,a,dx,fs,ex,ea,l,q⟩=>?_) ht;subst ex;obtain rfl:u=Value.ref a:=rx;refine tR I1 ea c hm l ?_;refine callWith_K (first:=[.ref a]) (h₀:=X.base) I.ok.mod.kin hm.kp (thn (ha pos pins s1 Z H1 _ I1 q) fun us s2 ⟨vs,H2,I2,r,q2⟩=>⟨I2.kIn,?_⟩) hst hpl;exact za (us:=.ref a::us) (vs:=.ref a::vs) F hr hb hd hx I2 (.cons rfl r) q2
structure Mk (K:Frag) (C f:Addr):Prop where
 makes:makesIn K C=true
 init:findIn K (.ref C) "__init__"=some (some (.ref f))
 fn:isFn K (.ref f)=true
 kp:keepIn K (.ref C)=true
theorem zb {pins:List (Addr × Obj)}{Z:St}{H:Hp}{s:Shared}{Q:VK}{us:List Value}{vs:List V}(M:Mk X.K C f) (F:FnOk X.prog X.w X.K X.mg X.base CX k f fd ps sp) (hr:Room (k+1) X.A) (hb:Binds X.K fd ps ds) (hd:Vals dvs ds)
  (hx:jx CX X E) (I:Inv X pins Z H s) (r:Vals vs us)
  (h:∀x dx,H x=none->H dx=none->dx≠x->sp (.ref x::(vs++dvs)) (upd (upd H dx (.own x)) x (.ins C dx [])) (fun v H2=>v=.non/\Q (.ref x) H2) E) :
  wpAny (model X.prog X.w) X.A (call (.ref C) us) (EP X pins Z Q) X.xe s:=by
 have hq:=h (s.heap.objs.size+1) s.heap.objs.size (I.hok.fresh (Zm _)) (I.hok.fresh (j_ _)) (C_ (Xc _));have I2:=Inv.made (C:=C) I;have r2:Vals (V.ref (s.heap.objs.size+1)::(vs++dvs)) (Value.ref (s.heap.objs.size+1)::(us++ds)):=.cons rfl (r.append hd);have hl:(Value.ref (s.heap.objs.size+1)::us++ds).length=ps.length:=by have e:=r2.length;rw[F.len _ _ _ _ hq] at e;exact e.symm
 refine wpAny_call (yZ (f:=f) I.kIn M.makes M.init (Yp.mp M.fn) (codeAny_mono (F.run _ X.stack _ _ ⟨Value.ref (s.heap.objs.size+1)::us,[]⟩ (Value.ref (s.heap.objs.size+1)::(us++ds)) _ _ E (hr.make C us [])
  (I2.env0.make C us []) (hb _ (Value.ref (s.heap.objs.size+1)::us) I2.kIn hl) r2 hq) fun r s' hq'=>?_))
 cases r with
 |error e=>exact hx pins Z _ _ e s' I2 hq'
 |ok fl =>
 cases fl with
 |ret u=>obtain⟨v,H',I3,rv,ev,q3⟩:=I2.after hq';subst ev;exact⟨rv,⟨V.ref (s.heap.objs.size+1),H',I3,rfl,q3⟩⟩
 |next=>exact False.elim hq'
 |brk=>exact False.elim hq'
 |cont=>exact False.elim hq'
theorem Fb (M:Mk X.K C f) (F:FnOk X.prog X.w X.K X.mg X.base CX k f fd ps sp) (hr:Room (k+1) X.A) (hg:Gl X x) (hm:X.mg x=some (.ref C)) (hb:Binds X.K fd ps ds) (hd:Vals dvs ds) (hx:jx CX X E)
  (ha:PA X (e::es) t) (hdb:(x==("__debug__":Str))=false:=by decide) (he:starEach (e::es) X.env=(false,eval e X.env)::starEach es X.env:=by rfl) (hpl:(backTo pos (starEach es X.env)).any (·.1)=false:=by rfl) :
  PE X (.Call (.Name x p) (e::es) [] pos) (Q0 C sp dvs E t):=by
 intro pins s Z H Q I h;refine Xz (oK I hg hm ?_ hdb);refine callWith_K (h₀:=X.base) I.ok.mod.kin M.kp (thn (ha pos pins s Z H _ I h) fun us s1 ⟨vs,H1,I1,r,q⟩=>⟨I1.kIn,?_⟩) he hpl;exact zb M F hr hb hd hx I1 r q
variable {ks:List Str}{kpos:Pos}{kws:List Keyword}{te:TE}{tk:TA}{nm:Option Str}{g:List Value->List Value->List Value}{gV:List V->List V->List V}
end
structure FnScope (N P:List Str) (sc:Scope):Prop where
 kind:sc.kind=.function
 co:sc.isCoroutine=false
 gen:sc.isGenerator=false
 nd:N.Nodup
 pre:N.take P.length=P
 par:∀x∈P,sc.names.lookup x=some .local\/sc.names.lookup x=some .cell
 nofree:∀y∈sc.names,y.2≠.free
theorem m5 {kindOf:Str->Option NameKind}{x:Str}:∀{binds:List (Str × Value)}{m:Str->Option Value},(∀v,(x,v)∉binds)->bindL kindOf binds m x=m x
 |[],_,_=>rfl
 | (n,v)::r,m,h=>by
  unfold bindL
  rw[m5 fun w hw=>h w (t_ _ hw)]
  split
  ·
   have:x≠n:=by rintro rfl;exact h v k_
   simp [this]
  ·
   rfl
theorem m6 {kindOf:Str->Option NameKind}{x:Str}:∀{binds:List (Str × Value)}{m:Str->Option Value},(∀v,(x,v)∉binds)->bindC kindOf binds m x=m x
 |[],_,_=>rfl
 | (n,v)::r,m,h=>by
  unfold bindC
  rw[m6 fun w hw=>h w (t_ _ hw)]
  split
  ·
   rfl
  ·
   have:x≠n:=by rintro rfl;exact h v k_
   simp [this]
theorem m7 {kindOf:Str->Option NameKind}{x:Str}{v:Value}:∀{P:List Str}{vs:List Value}{i:Nat}{m:Str->Option Value},P.Nodup->P[i]?=some x->vs[i]?=some v->kindOf x=some .local ->
  bindL kindOf (P.zip vs) m x=some v
 |[],_,_,_,_,h,_,_=>by simp at h
 |_::_,[],_,_,_,_,h,_=>by simp at h
 |p::P,w::vs,0,m,nd,h1,h2,hk=>by
  simp at h1 h2;subst h1;subst h2
  show bindL kindOf ((p,w)::P.zip vs) m p=_
  unfold bindL
  rw[m5 fun v hv=>(W8.mp nd).1 (YZ hv).1,if_pos hk]
  simp
 |p::P,w::vs,i+1,m,nd,h1,h2,hk=>by
  show bindL kindOf ((p,w)::P.zip vs) m x=_
  unfold bindL
  exact m7 (i:=i) (W8.mp nd).2 (by simpa using h1) (by simpa using h2) hk
theorem m9 {kindOf:Str->Option NameKind}{x:Str}{v:Value}:∀{P:List Str}{vs:List Value}{i:Nat}{m:Str->Option Value},P.Nodup->P[i]?=some x->vs[i]?=some v->kindOf x≠some .local ->
  bindC kindOf (P.zip vs) m x=some v
 |[],_,_,_,_,h,_,_=>by simp at h
 |_::_,[],_,_,_,_,h,_=>by simp at h
 |p::P,w::vs,0,m,nd,h1,h2,hk=>by
  simp at h1 h2;subst h1;subst h2
  show bindC kindOf ((p,w)::P.zip vs) m p=_
  unfold bindC
  rw[m6 fun v hv=>(W8.mp nd).1 (YZ hv).1,if_neg hk]
  simp
 |p::P,w::vs,i+1,m,nd,h1,h2,hk=>by
  show bindC kindOf ((p,w)::P.zip vs) m x=_
  unfold bindC
  exact m9 (i:=i) (W8.mp nd).2 (by simpa using h1) (by simpa using h2) hk
def start (N:List Str) (vs:List V):St:=vs.map some++List.replicate (N.length - vs.length) none
def tX (CX:CXT) (P:Program) (w:World) (K:Frag) (mg:Str->Option Value) (base:Heap) (N:List Str) (qual:Str) (scope:Scope) (f:Addr) (cd:Value) (A:Around) (outer:List Env) (s:Shared) (H:Hp) (E:XK):Cx where
 prog:=P
 w:=w
 K:=K
 mg:=mg
 base:=base
 A:=A.deeper (envOfC qual scope s.heap.objs.size f cd)
 N:=N
 s₀:=s
 H₀:=H
 env:=envOfC qual scope s.heap.objs.size f cd
 outer:=outer
 stack:=envOfC qual scope s.heap.objs.size f cd::outer
 ex:=[]
 calm:=true
 fn:=fun _=>true
 pn:=[]
 xe:=fun e s'=>wpAny (model P w) (A.deeper (envOfC qual scope s.heap.objs.size f cd)) (leaving (envOfC qual scope s.heap.objs.size f cd) e) (fun _ s''=>CX outer H s E e s'') (fun e' s''=>CX outer H s E e' s'') s'
theorem je {sc:Scope}{n:Nat}{x:Str}(h:sc.names.lookup x=some .cell):∃c,(cellsFrom n sc.names []).lookup x=some c:=by
 have q:=cellsFrom_some sc.names n [] (.inl h);exact YD.mp q
theorem xT {CX:CXT}{P:Program}{w:World}{K:Frag}{mg:Str->Option Value}{base:Heap}{N ps:List Str}{qual:Str}{scope:Scope}{f:Addr}{cd:Value}{A:Around}{outer:List Env}{s s1:Shared}{H:Hp}{E:XK}{us:List Value}{vs:List V}
  (S:FnScope N ps scope) (hd:A.handled=none) (e0:Env0 P w K mg base A outer s H) (hl:vs.length=ps.length) (r:Vals vs us)
  (x:InCallC s s.heap.objs.size (bindL (envOfC qual scope s.heap.objs.size f cd).kindOf (ps.zip us) fun _=>none) (cellsFrom (s.heap.objs.size+1) scope.names []) (bindC (envOfC qual scope s.heap.objs.size f cd).kindOf (ps.zip us) fun _=>none) s1) :
  Inv (tX CX P w K mg base N qual scope f cd A outer s H E) [] (start N vs) H s1:=by
 have hpl:ps.length<=N.length:=by have:=WK List.length S.pre;rw[Xd] at this;omega
 obtain⟨h1,tk,rfl,hk⟩:=x.done;have noA:∀b:Addr,b∉(tX CX P w K mg base N qual scope f cd A outer s H E).ex:=fun b z=>absurd (show b∈([]:List Addr) from z) (by simp);refine⟨⟨e0.mod,S.kind,rfl,rfl,j_ _,fun y z c h1 h2=>?_,fun y hy=>?_,fun y c _ h=>?_,fun _=>hd,Around.frames_deeper e0.frames,.inr ⟨rfl,rfl⟩,fun b z=>absurd z (noA b),e0.bs,e0.bsz,fun b _ _=>noA b,fun b z=>absurd z (noA b),e0.funs,e0.frf⟩,
  rfl,e0.bare,Un.kept hk,⟨_,x.toInCall.ns,fun i y v h1 h2 h3=>?_⟩,fun y c h=>⟨_,x.cell y c h⟩,e0.hok.fresh (j_ _),fun y c h=>?_,fun p hp=>absurd (show p∈([]:List (Addr × Obj)) from hp) (by simp),e0.hok.kept hk,?_⟩
 ·exact name_of_addr x.apart (mem_of_lookup h1) (mem_of_lookup h2)
 ·have hy:scope.names.lookup y=some .cell\/scope.names.lookup y=some .free:=hy;rcases hy with hy | hy
  ·exact je hy
  exact absurd rfl (S.nofree _ (mem_of_lookup hy))
 ·exact Xx (x.above y c (mem_of_lookup h))
 ·have hi:i<vs.length:=by
   unfold start at h2;by_cases hi:i<vs.length
   ·exact hi
   rw[N_ (by simpa using hi)] at h2;rw[Yc] at h2;split at h2 <;> cases h2
  have ha:vs[i]?=some v:=by
   unfold start at h2;rw[WM (by simpa using hi),o_] at h2;cases e:vs[i]? with
   |none=>rw[e] at h2;cases h2
   |some a=>rw[e] at h2;cases h2;rfl
  obtain⟨u,hu,rv⟩:=r.get ha;have hp:ps[i]?=some y:=by rw[<- S.pre,List.getElem?_take_of_lt (by omega)];exact h1
  have ndP:ps.Nodup:=by rw[<- S.pre];exact S.nd.sublist (List.take_sublist _ _)
  refine⟨u,rv,?_⟩;rcases S.par y (Q_ hp) with k | k
  ·exact .inl ⟨k,m7 ndP hp hu k⟩
  obtain⟨c,e⟩:=je (n:=s.heap.objs.size+1) k;refine .inr ⟨.inl k,c,e,?_⟩;have q:=x.cell y c e;rw[m9 ndP hp hu (by show scope.names.lookup y≠_;rw[k];decide)] at q;exact q
 ·exact e0.hok.fresh (Xx (x.above y c (mem_of_lookup h)))
 unfold start;show _=N.length;rw[g_,h_,WX];omega
theorem Q4 {CX:CXT}{P:Program}{w:World}{K:Frag}{mg:Str->Option Value}{base:Heap}{k:Nat}{f:Addr}{name qual:Str}{params:Arguments}{body:List Stmt}{scope:Scope}{dV kV doc pm cdv ct oc:Value}{an od:Option Addr}
  {osl:Array (Option Value)} {N ps:List Str} {sp:Sp} (lk:K.lookup f=some ⟨oc,od,.func (fnOf name qual params body scope dV kV doc pm an cdv ct),osl⟩) (hcd:codeIn K cdv qual=true) (S:FnScope N ps scope)
  (len:∀vs H Q E,sp vs H Q E->vs.length=ps.length)
  (hbody:∀(A:Around) (outer:List Env) (s:Shared) (H:Hp) (vs:List V) (Q:VK) (E:XK),Room k (A.deeper (envOfC qual scope s.heap.objs.size f cdv))->sp vs H Q E ->
   ∃t,PSs (tX CX P w K mg base N qual scope f cdv A outer s H E) body t/\t { nx:=fun _ H'=>Q .non H',rt:=Q} (start N vs) H) :
  FnOk P w K mg base CX (k+1) f (fnOf name qual params body scope dV kV doc pm an cdv ct) ps sp:=by
 refine⟨len,fun A outer s H args us vs Q E hr e0 hb r hsp=>?_⟩;have hl:=len _ _ _ _ hsp;have KX:K.In s.heap:=e0.mod.kin.keeps fun b o e=>(e0.bs b o e).1;have lim:s.heap.NoLimit:=e0.mod.nolimit.keeps fun b o e=>(e0.bs b o e).1;have hkind:∀y∈ps.zip us,scope.names.lookup y.1=some .local\/(scope.names.lookup y.1=some .cell/\((cellsFrom (s.heap.objs.size+1) scope.names []).lookup y.1).isSome=true):=fun ⟨n,v⟩ hy=>by
  rcases S.par n (YZ hy).1 with q | q
  ·exact .inl q
  exact .inr ⟨q,cellsFrom_some _ _ _ (.inl q)⟩
 refine codeAny_call_function hr.depth (KX _ _ lk) rfl S.co S.gen rfl (PySem.W.codeRec_of KX hcd) (hb _ _ _ _ ?_);refine wpAny_newFunctionEnv_cells S.kind hkind fun env he s1 x=>?_;subst he;refine⟨lim.keeps x.toInCall.keep,codeAny_func ?_⟩;obtain⟨t,ht,hq⟩:=hbody A outer s H vs Q E (hr.deeper _) hsp;have I:Inv (tX CX P w K mg base N qual scope f cdv A outer s H E) [] (start N vs) H s1:=xT S hr.hd e0 hl r x;refine Xh (ht [] s1 (start N vs) H _ I hq) (fun fl s' hs=>?_) fun e s' hs=>hs;have fin:∀{Z':St} {H':Hp} {v:V} {u:Value},Inv (tX CX P w K mg base N qual scope f cdv A outer s H E) [] Z' H' s'->RelV v u->Q v H'->CE outer P w H s Q u s' :=
  fun {Z' H' v u} J rv q=>⟨v,H',J.os,J.bare,J.base,J.hok,rv,q⟩
 cases fl with
 |ret u=>obtain⟨v,Z',H',J,rv,q⟩:=hs;exact fin J rv q
 |next=>obtain⟨Z',H',J,q⟩:=hs;exact fin (v:=V.non) (u:=Value.none) J rfl q
 |brk=>obtain⟨_,_,_,q⟩:=hs;exact False.elim q
 |cont =>
 obtain⟨_,_,_,q⟩:=hs;exact False.elim q
section
variable {X:Cx}{x:Str}{p pos:Pos}{e:Expr}{es:List Expr}{t:TA}{id T:String}{r:List V->Hp->VK->Prop}
def tCB (r:List V->Hp->VK->Prop) (t:TA):TE:=fun Z H Q=>t Z H fun vs H1=>r vs H1 Q
theorem zc (hc:CallR X (.builtin id) r) (hg:Gl X x) (hm:X.mg x=none) (hv:bootBuiltins x=some (.builtin id)) (ha:PA X (e::es) t) (hn:x≠"__name__":=by decide) (hdb:(x==("__debug__":Str))=false:=by decide)
  (he:starEach (e::es) X.env=(false,eval e X.env)::starEach es X.env:=by rfl) (hpl:(backTo pos (starEach es X.env)).any (·.1)=false:=by rfl):PE X (.Call (.Name x p) (e::es) [] pos) (tCB r t):=by
 intro pins s Z H Q I h;refine Xz (d9 I hg hm hv ?_ hn hdb);exact PyProof.Rows.callWith_builtin1 (thn (ha pos pins s Z H _ I h) fun us s1 ⟨vs,H1,I1,r1,q1⟩=>hc pins s1 Z H1 vs us Q I1 r1 q1) he hpl
theorem xU (hc:CallR X (.type T) r) (hg:Gl X x) (hm:X.mg x=none) (hv:bootBuiltins x=some (.type T)) (ha:PA X (e::es) t) (hn:x≠"__name__":=by decide) (hdb:(x==("__debug__":Str))=false:=by decide)
  (he:starEach (e::es) X.env=(false,eval e X.env)::starEach es X.env:=by rfl) (hpl:(backTo pos (starEach es X.env)).any (·.1)=false:=by rfl):PE X (.Call (.Name x p) (e::es) [] pos) (tCB r t):=by
 intro pins s Z H Q I h;refine Xz (d9 I hg hm hv ?_ hn hdb);exact WP (thn (ha pos pins s Z H _ I h) fun us s1 ⟨vs,H1,I1,r1,q1⟩=>hc pins s1 Z H1 vs us Q I1 r1 q1) he hpl
end
end L2
namespace HT
open PySem PyProof.Rows
section
open PySem.SeqAt
open PySem.AutoSeq1 (wpAny_loadPart')
open PySem.MeetsSeq PySem.MeetsSeq2 PySem.MeetsSeq3
variable {prog:Program}{w:World}{A:Around}{E:Value->Shared->Prop}{s:Shared}
theorem cat_tup {t b:Addr}{vs ws:List Value}{Q:Value->Shared->Prop}(ht:IsTup s.heap t vs.toArray) (hb:IsTup s.heap b ws.toArray) (hv:vs≠[])
  (h1:ws=[]->Q (.ref t) s) (h2:ws≠[]->Q (.ref s.heap.objs.size) { s with heap:=s.heap.push { cls:=.type "tuple",data:=.seq (vs++ws).toArray}})
  (hsz:vs.length+ws.length<=sizeLine):wpAny (model prog w) A (binaryOp .Add (.ref t) (.ref b)) Q E s:=by
 obtain⟨⟨cls,dd,data,sl⟩,ho,hc,n,hd⟩:=id ht;obtain⟨⟨cls2,dd2,data2,sl2⟩,ho2,hc2,n2,hd2⟩:=id hb;simp only at hc hd hc2 hd2;subst hc hd hc2 hd2;have e:vs.toArray++ws.toArray=(vs++ws).toArray:=by simp
 by_cases hw:ws=[]
 ·exact concat_meets ⟨_,ho,rfl⟩ ⟨_,ho2,rfl⟩ noFill_tuple_add seq_tuple_add PySem.F.slot_tuple_add PySem.F.entry_tuple_add (Zd _ _)
   (tuple_addW1 t b vs.toArray ws.toArray n n2 dd dd2 sl sl2 (by simpa using hv) (by simp [hw])) ⟨ho,ho2,h1 hw⟩
 refine concat_meets ⟨_,ho,rfl⟩ ⟨_,ho2,rfl⟩ noFill_tuple_add seq_tuple_add PySem.F.slot_tuple_add PySem.F.entry_tuple_add (Zd _ _)
  (tuple_addW2 t b vs.toArray ws.toArray n n2 dd dd2 sl sl2 (by simpa using hv) (by simpa using hw) (by rw[i_,i_];exact hsz)) ⟨ho,ho2,?_⟩
 rw[e];exact h2 hw
def sIx (n d:Nat):Option Int->Nat
 |none=>d
 |some v=>if v<0 then (v+(n:Int)).toNat else min v.toNat n
theorem sIx_none (n d:Nat):sIx n d none=d:=rfl
theorem sIx_nat (n d k:Nat):sIx n d (some (k:Int))=min k n:=by
 show (if (k:Int)<0 then ((k:Int)+(n:Int)).toNat else min (k:Int).toNat n)=min k n;rw[if_neg (by omega),Xi]
theorem Lh (n d:Nat) (hd:d<=n) (o:Option Int):sIx n d o<=n:=by
 cases o with
 |none=>exact hd
 |some v =>
  show (if v<0 then (v+(n:Int)).toNat else min v.toNat n)<=n
  by_cases hv:v<0
  ·
   rw[if_pos hv];omega
  ·
   rw[if_neg hv];exact Nat.min_le_right _ _
theorem vH (v:Int) (n d:Nat):(if v<0 then max (v+(n:Int)) 0 else min v (n:Int))=((sIx n d (some v):Nat):Int):=by
 show (if v<0 then max (v+(n:Int)) 0 else min v (n:Int))=(((if v<0 then (v+(n:Int)).toNat else min v.toNat n):Nat):Int);by_cases hv:v<0
 ·simp only[if_pos hv];omega
 simp only[if_neg hv];omega
theorem tY (lo hi:Option Int) (n:Nat):Builtin.Slice.sliceAdjust lo hi 1 (n:Int)=(((sIx n 0 lo:Nat):Int),((sIx n n hi:Nat):Int)):=by
 have h1:¬((1:Int)<0):=by omega
 unfold Builtin.Slice.sliceAdjust;simp only[h1,Wt];refine Prod.ext ?_ ?_
 ·cases lo with
  |none=>rfl
  |some v=>exact vH v n 0
 cases hi with
 |none=>rfl
 |some v=>exact vH v n n
theorem tZ (i j:Nat):Builtin.Slice.slicePlaces (i:Int) (j:Int) 1=j - i:=by
 unfold Builtin.Slice.slicePlaces;have h1:(1:Int)>0:=by omega
 simp only[h1,if_true,Int.ediv_one];split <;> omega
theorem iJ {v:Value}{o:Option Int}{Q:Option Int->Shared->Prop}(p:IsPart v o) (h:Q o s):wpAny (model prog w) A (Builtin.Slice.slicePartIndex v) Q E s:=by
 cases p with
 |none=>exact slicePart_none h
 |int i t=>exact slicePart_int h
theorem fP {sl:Addr}{vl vu:Value}{lo hi:Option Int}{n:Nat}{Q:Int × Int × Nat->Shared->Prop}(hs:s.heap.IsSliceOf sl vl vu .none) (pl:IsPart vl lo) (pu:IsPart vu hi)
  (h:Q (((sIx n 0 lo:Nat):Int),1,sIx n n hi - sIx n 0 lo) s):wpAny (model prog w) A (Builtin.Slice.sliceApplied (.ref sl) (pure (n:Int))) Q E s:=by
 obtain⟨os,hos,hcs,hds⟩:=id hs;unfold Builtin.Slice.sliceApplied Builtin.Slice.sliceFields;refine b_ (b_ (W_ hos hds (x:=vl) rfl (b_ (W_ hos hds (x:=vu) rfl (b_ (W_ hos hds (x:=.none) rfl (m_ ?_)))))));refine b_ (slicePart_none ?_);show wpAny _ _ (if ((1:Int)==0)=true then _ else _) _ _ s;rw[if_neg (by decide)];refine b_ (iJ pl (b_ (iJ pu (b_ (m_ ?_)))));show wpAny _ _ (match Builtin.Slice.sliceAdjust lo hi 1 (n:Int) with | (lo,hi)=>pure (lo,(1:Int),Builtin.Slice.slicePlaces lo hi 1)) _ _ s;rw[tY lo hi n];show wpAny _ _ (pure (((sIx n 0 lo:Nat):Int),(1:Int),Builtin.Slice.slicePlaces ((sIx n 0 lo:Nat):Int) ((sIx n n hi:Nat):Int) 1)) _ _ s;rw[tZ];exact m_ h
theorem zf (xs : Array Value) (i k : Nat) : ((List.range k).filterMap fun (m : Nat) => xs[((i : Int) + (m : Int) * 1).toNat]?).toArray = ((xs.toList.drop i).take k).toArray:=by
 have e:(fun (m:Nat)=>xs[((i:Int)+(m:Int)*1).toNat]?)=fun m=>xs[i+m]?:=by
  funext m;have:((i:Int)+(m:Int)*1).toNat=i+m:=by omega
  rw[this]
 rw [e];have:=pick_run xs i k;rw [List.filterMap_map] at this;have e2 : ((fun x => xs[x]?) ∘ fun x => i + x) = fun m => xs[i + m]?:=rfl;rw [e2] at this;rw [this]
theorem getItem_tuple_cut {t sl:Addr}{items:Array Value}{vl vu:Value}{lo hi:Option Int}{Q:Value->Shared->Prop}(ht:IsTup s.heap t items) (hs:s.heap.IsSliceOf sl vl vu .none) (pl:IsPart vl lo) (pu:IsPart vu hi)
  (hw:¬(sIx items.size 0 lo=0/\sIx items.size items.size hi=items.size))
  (h:Q (.ref s.heap.objs.size) { s with heap:=s.heap.push { cls:=.type "tuple",data:=.seq ((items.toList.drop (sIx items.size 0 lo)).take (sIx items.size items.size hi - sIx items.size 0 lo)).toArray}})
  (hsz:items.size<=sizeLine):wpAny (model prog w) A (getItem (.ref t) (.ref sl)) Q E s:=by
 have htake:sizeOk (.seq ((items.toList.drop (sIx items.size 0 lo)).take (sIx items.size items.size hi - sIx items.size 0 lo)).toArray):=by show ((items.toList.drop (sIx items.size 0 lo)).take (sIx items.size items.size hi - sIx items.size 0 lo)).toArray.size<=sizeLine;rw[i_,Xd,Y_,Ym];omega
 have hj:sIx items.size items.size hi<=items.size:=Lh _ _ (j_ _) hi;obtain⟨os,hos,hcs,hds⟩:=id hs;have hTs:s.TypeIs (.ref sl) "slice":=⟨os,hos,hcs⟩;unfold getItem;try with_reducible refine X8 ?_
 first | refine b_ (m_ ?_) | skip
 refine b_ (wpAny_sequenceKey ht.typeIs (by decide) ?_);refine b_ (Xl (name:=Str.ofString "__getitem__") ht.typeIs Ww
  (Xp Ww ht.typeIs entry_tuple_getitem ?_ (args_tuple_getitem _ _)))
 show wpAny _ _ (Builtin.Tuple.tupleItemsOf (.ref t) >>= _) _ _ s;refine b_ (tupleItemsOf_ ht ?_);refine b_ (wpAny_typeOf hTs ?_);rw[if_pos (by decide)];refine b_ (fP hs pl pu ?_);have hno:¬((((sIx items.size 0 lo:Nat):Int)==0&&(1:Int)==1&&(sIx items.size items.size hi - sIx items.size 0 lo)==items.size)=true):=by intro q;rw[WL,WL] at q;have q1:((sIx items.size 0 lo:Nat):Int)=0:=eq_of_beq q.1.1;have q2:sIx items.size items.size hi - sIx items.size 0 lo=items.size:=eq_of_beq q.2;exact hw ⟨by omega,by omega⟩
 show wpAny _ _ (if (((sIx items.size 0 lo:Nat):Int)==0&&(1:Int)==1&&(sIx items.size items.size hi - sIx items.size 0 lo)==items.size)=true then _ else _) _ _ s;rw[if_neg hno,zf];first
  |exact b_ (m:=Builtin.Tuple.tupleExact _) (W9 (m_ ⟨_,rfl,m_ h⟩) htake)
  |exact b_ (m:=Builtin.Tuple.tupleExact _) (W9 (b_ (m_ (m_ ⟨_,rfl,m_ h⟩))) htake)
  |exact b_ (b_ (m:=Builtin.Tuple.tupleExact _) (W9 (m_ (m_ ⟨_,rfl,m_ h⟩)) htake))
  |exact b_ (b_ (m:=Builtin.Tuple.tupleExact _) (W9 (m_ ⟨_,rfl,m_ h⟩) htake))
end
end HT
namespace L2
abbrev TO:=St->Hp->(Option Int->Hp->Prop)->Prop
def PO (X:Cx) (e:Option Expr) (t:TO):Prop :=
 ∀(pins:List (Addr × Obj)) (s:Shared) (Z:St) (H:Hp) (Q:Option Int->Hp->Prop),Inv X pins Z H s->t Z H Q ->
  wpAny (model X.prog X.w) X.A (evalPart e X.env) (fun u s'=>∃o H',Inv X pins Z H' s'/\IsPart u o/\Q o H') X.xe s
def Fd:TO:=fun _ H Q=>Q none H
def Q5 (t:TE):TO:=fun Z H Q=>t Z H fun x H1=>∃i,x=.int i/\Q (some i) H1
section
variable {X:Cx}{e:Expr}{te:TE}{lo hi:Option Expr}{tl th:TO}{pos p2:Pos}
theorem Fe:PO X none Fd:=by
 intro pins s Z H Q I h;rw[evalPart_none];exact m_ ⟨none,H,I,.none,h⟩
theorem Ff (h:PE X e te):PO X (some e) (Q5 te):=by
 intro pins s Z H Q I hw;rw[evalPart_some];refine thn (h pins s Z H _ I hw) fun u s1 ⟨x,H1,I1,r1,q1⟩=>?_;obtain⟨i,rfl,q⟩:=q1;obtain⟨t,rfl⟩:=r1;exact⟨some i,H1,I1,.int i t,q⟩
def SlR (X:Cx) (r:V->Option Int->Option Int->Hp->VK->Prop):Prop :=
 ∀(pins:List (Addr × Obj)) (s:Shared) (Z:St) (H:Hp) (x:V) (v vl vu:Value) (lo hi:Option Int) (sl:Addr) (Q:VK),Inv X pins Z H s->RelV x v->s.heap.IsSliceOf sl vl vu .none->IsPart vl lo->IsPart vu hi->r x lo hi H Q ->
  ∃T id,typeLookup (.type T) "__getitem__"=pure (some (.builtin id))/\s.TypeIs v T/\wpAny (model X.prog X.w) X.A (getItem v (.ref sl)) (EP X pins Z Q) X.xe s
theorem SlR.or {r r':V->Option Int->Option Int->Hp->VK->Prop}(h:SlR X r) (h':SlR X r'):SlR X (fun x lo hi H Q=>r x lo hi H Q\/r' x lo hi H Q):=by
 intro pins s Z H x v vl vu lo hi sl Q I rx hs pl pu q;rcases q with q | q
 ·exact h pins s Z H x v vl vu lo hi sl Q I rx hs pl pu q
 exact h' pins s Z H x v vl vu lo hi sl Q I rx hs pl pu q
def tSl (r:V->Option Int->Option Int->Hp->VK->Prop) (te:TE) (tl th:TO):TE:=fun Z H Q=>te Z H fun x H1=>tl Z H1 fun l H2=>th Z H2 fun u H3=>r x l u H3 Q
theorem qw {r:V->Option Int->Option Int->Hp->VK->Prop}(hr:SlR X r) (he:PE X e te) (hl:PO X lo tl) (hu:PO X hi th):PE X (.Subscript e (.Slice lo hi none p2) pos) (tSl r te tl th):=by
 intro pins s Z H Q I h;refine Subscript_ (thn (he pins s Z H _ I h) fun v s1 ⟨x,H1,I1,r1,q1⟩=>?_);refine wpAny_Slice (thn (hl pins s1 Z H1 _ I1 q1) fun vl s2 ⟨l,H2,I2,pl,q2⟩=>thn (hu pins s2 Z H2 _ I2 q2) fun vu s3 ⟨u,H3,I3,pu,q3⟩=>?_);rw[evalPart_none];refine m_ ?_;have I4:Inv X pins Z H3 { s3 with heap:=s3.heap.push { cls:=.type "slice",data:=.fields #[vl,vu,.none]}}:=I3.kept (t':=s3.toks) fun b ob q=>e_ _ q;obtain⟨T,id,hT,ht,hg⟩:=hr pins { s3 with heap:=s3.heap.push { cls:=.type "slice",data:=.fields #[vl,vu,.none]}} Z H3 x v vl vu l u s3.heap.objs.size Q I4 r1 (Heap.IsSliceOf.new ..) pl pu q3;show wpAny (model X.prog X.w) X.A (subscriptTail e (.Slice lo hi none p2) v (.ref s3.heap.objs.size)) (EP X pins Z Q) X.xe { s3 with heap:=s3.heap.push { cls:=.type "slice",data:=.fields #[vl,vu,.none]}};exact tail_any (ops:=[.ref s3.heap.objs.size,v]) ht hT hg (by with_unfolding_all rfl)
def qz (xs:List V) (lo hi:Option Int):List V:=(xs.drop (HT.sIx xs.length 0 lo)).take (HT.sIx xs.length xs.length hi - HT.sIx xs.length 0 lo)
theorem jL (xs:List V) (lo hi:Option Int):(qz xs lo hi).length<=xs.length:=by
 unfold qz;rw[Xd,Y_];omega
def VL (K:Frag):V->Option Int->Option Int->Hp->VK->Prop:=fun x lo hi H Q=>∃a xs,x=.ref a/\SqT K H a xs /\
 ¬(HT.sIx xs.length 0 lo=0/\HT.sIx xs.length xs.length hi=xs.length)/\∀p,H p=none->Q (.ref p) (upd H p (.tup (qz xs lo hi)))
theorem sl_tup:SlR X (VL X.K):=by
 intro pins s Z H x v vl vu lo hi sl Q I rx hs pl pu h;obtain⟨a,xs,rfl,hx,hw,q⟩:=h;cases rx;obtain⟨its,r,ht,hz⟩:=I.tuple hx;have hlen:its.toArray.size=xs.length:=by rw[i_];exact r.length.symm
 refine⟨"tuple",_,Ww.lookup,ht.typeIs,?_⟩;refine HT.getItem_tuple_cut ht hs pl pu (by rw[hlen];exact hw) ?_ (by rw[hlen];exact hz);rw[hlen];refine⟨.ref s.heap.objs.size,_,I.laid (t':=s.toks) (o:=.tup (qz xs lo hi)) (fun b ob q=>e_ _ q) (j_ _) ?_,rfl,q _ (I.hok.fresh (j_ _))⟩;exact⟨U_ (jL xs lo hi) hz,_,(r.drop (HT.sIx xs.length 0 lo)).take (HT.sIx xs.length xs.length hi - HT.sIx xs.length 0 lo),Tup0.new _ _⟩
def Q6 (K:Frag):R2:=fun x y H Q=>∃a b xs ys,x=.ref a/\y=.ref b/\SqT K H a xs/\SqT K H b ys/\xs≠[]/\xs.length+ys.length<=sizeLine /\
 (ys=[]->Q (.ref a) H)/\(ys≠[]->∀p,H p=none->Q (.ref p) (upd H p (.tup (xs++ys))))
theorem Vals.nil_iff {xs:List V}{us:List Value}(r:Vals xs us):us=[]↔xs=[]:=by
 cases r with
 |nil=>simp
 |cons _ _=>simp
theorem op_catT:OpR X (binaryOp .Add) (Q6 X.K):=by
 intro pins s Z H x y v u Q I rx ry h;obtain⟨a,b,xs,ys,rfl,rfl,ha,hb,hx,hz,q1,q2⟩:=h;cases rx;cases ry;obtain⟨its,r1,p1,_⟩:=I.tuple ha;obtain⟨its2,r2,p2,_⟩:=I.tuple hb;refine HT.cat_tup p1 p2 (fun z=>hx (r1.nil_iff.mp z)) (fun z=>⟨.ref a,H,I,rfl,q1 (r2.nil_iff.mp z)⟩) (fun z=>?_) (by rw[<- r1.length,<- r2.length];exact hz);refine⟨.ref s.heap.objs.size,_,I.laid (t':=s.toks) (o:=.tup (xs++ys)) (fun b ob q=>e_ _ q) (j_ _) ?_,rfl,q2 (fun w=>z (r2.nil_iff.mpr w)) _ (I.hok.fresh (j_ _))⟩;exact⟨by rw[g_];exact hz,_,r1.append r2,Tup0.new _ _⟩
end
def ixN (n:Nat) (i:Int):Option Nat:=if 0<=i then (if i<n then some i.toNat else none) else if -(n:Int)<=i then some (i+n).toNat else none
def atI {α:Type}(xs:List α) (i:Int):Option α:=(ixN xs.length i).bind fun j=>xs[j]?
theorem vI {n:Nat}{i:Int}{j:Nat}(h:ixN n i=some j):seqIndex? i n=some j/\j<n /\ -(n:Int)<=i/\i<n:=by
 unfold ixN at h;by_cases h0:0<=i
 ·rw[if_pos h0] at h;by_cases h1:i<n
  ·rw[if_pos h1] at h;have e:i.toNat=j:=K_ h;exact⟨by rw[seqIndex_of h0 h1,e],by omega,by omega,h1⟩
  rw[if_neg h1] at h;cases h
 rw[if_neg h0] at h;by_cases h1 : -(n:Int)<=i
 ·rw[if_pos h1] at h;have e:(i+n).toNat=j:=K_ h;exact⟨by rw[seqIndex_neg (by omega) h1,e],by omega,h1,by omega⟩
 rw[if_neg h1] at h;cases h
theorem oN {α:Type}{xs:List α}{i:Int}{v:α}(h:atI xs i=some v):∃j,seqIndex? i xs.length=some j/\xs[j]?=some v/\j<xs.length /\ -(xs.length:Int)<=i/\i<xs.length:=by
 unfold atI at h;cases e:ixN xs.length i with
 |none=>rw[e] at h;cases h
 |some j =>
 rw[e] at h;obtain⟨h1,h2,h3,h4⟩:=vI e;exact⟨j,h1,h,h2,h3,h4⟩
theorem bN {α:Type}{xs:List α}{j:Nat}{v:α}(h:xs[j]?=some v):atI xs (j:Int)=some v:=by
 have hj:j<xs.length:=(Xa.mp h).1;have e:ixN xs.length (j:Int)=some j:=by unfold ixN;rw[if_pos (by omega),if_pos (by omega)];simp
 unfold atI;rw[e];exact h
theorem zg {α:Type}(xs:List α) (v:α):atI (xs++[v]) (-1)=some v:=by
 have hl:(xs++[v]).length=xs.length+1:=by simp
 have e:ixN (xs++[v]).length (-1)=some xs.length:=by unfold ixN;rw[hl,if_neg (by decide),if_pos (by omega)];congr 1;omega
 unfold atI;rw[e];show (xs++[v])[xs.length]?=some v;simp
def vJ (b:Expr):Prop:=∀o i,subscripted b false o i=operate [o,i] (getItem o i)
def IxR (X:Cx) (r:R2):Prop :=
 ∀(value slice:Expr) (pins:List (Addr × Obj)) (s:Shared) (Z:St) (H:Hp) (x y:V) (v u:Value) (Q:VK),Inv X pins Z H s->RelV x v->RelV y u->r x y H Q ->
  subscripted slice false v u=operate [v,u] (getItem v u)->wpAny (model X.prog X.w) X.A (subscriptTail value slice v u) (EP X pins Z Q) X.xe s
def MtR (X:Cx) (id:String) (r:V->List V->Hp->VK->Prop):Prop :=
 ∀(pins:List (Addr × Obj)) (s:Shared) (Z:St) (H:Hp) (x:V) (xs:List V) (v:Value) (us:List Value) (Q:VK),Inv X pins Z H s->RelV x v->Vals xs us->r x xs H Q ->
  wpAny (model X.prog X.w) X.A (call (.builtin id) (v::us)) (EP X pins Z Q) X.xe s
section
variable {X:Cx}{a b:Expr}{ta tb:TE}{pos:Pos}
theorem IxR.or {r r':R2}(h:IxR X r) (h':IxR X r'):IxR X (fun x y H Q=>r x y H Q\/r' x y H Q):=by
 intro value slice pins s Z H x y v u Q I rx ry q hs;rcases q with q | q
 ·exact h value slice pins s Z H x y v u Q I rx ry q hs
 exact h' value slice pins s Z H x y v u Q I rx ry q hs
theorem MtR.or {id:String}{r r':V->List V->Hp->VK->Prop}(h:MtR X id r) (h':MtR X id r'):MtR X id (fun x xs H Q=>r x xs H Q\/r' x xs H Q):=by
 intro pins s Z H x xs v us Q I rx rs q;rcases q with q | q
 ·exact h pins s Z H x xs v us Q I rx rs q
 exact h' pins s Z H x xs v us Q I rx rs q
theorem Q7 {r:R2}(hr:IxR X r) (ha:PE X a ta) (hb:PE X b tb) (hs:vJ b):PE X (.Subscript a b pos) (tOp r ta tb):=by
 intro pins s Z H Q I h;exact Subscript_ (K1 ha hb I h fun v u s2 x y H2 I2 rx ry q=>hr a b pins s2 Z H2 x y v u Q I2 rx ry q (hs _ _))
def Q8 (K:Frag):R2:=fun x y H Q=>∃p xs i v,x=.ref p/\y=.int i/\SqL K H p xs/\atI xs i=some v/\Q v H
def Q9 (K:Frag):R2:=fun x y H Q=>∃p xs i v,x=.ref p/\y=.int i/\SqT K H p xs/\atI xs i=some v/\Q v H
def Rg:R2:=fun x y H Q=>∃z i c,x=.str z/\y=.int i/\z.length<=sizeLine/\atI z.cps.toList i=some c/\Q (.str ⟨#[c]⟩) H
theorem ix_list:IxR X (Q8 X.K):=by
 intro value slice pins s Z H x y v u Q I rx ry h hs;obtain⟨p,xs,i,z,rfl,rfl,hq,he,q⟩:=h;cases rx;obtain⟨t,rfl⟩:=ry;obtain⟨its,r,pl,hz⟩:=I.list hq;obtain⟨j,h1,h2,h3,h4,h5⟩:=oN he;obtain⟨w,ew,rw'⟩:=r.get h2;have hl:=r.length;have hn:=ju;have fin:EP X pins Z Q w s:=⟨z,H,I,rw',q⟩;by_cases h0:0<=i
 ·have hj:i.toNat=j:=by rw[seqIndex_of h0 h5] at h1;exact K_ h1
  exact item_listR pl.isList h0 (by omega) (by rw[hj];simpa using ew) fin hs
 have hj:(i+(its.toArray.size:Int)).toNat=j:=by rw[seqIndex_neg (by omega) h4] at h1;rw[i_,<- hl];exact K_ h1
 exact subscriptTail_builtinR (x:=w) pl.isList.typeIs slot_list_getitem.lookup
  (wpAny_getItem_list_neg (Q:=fun r s'=>r=w/\EP X pins Z Q r s') pl.isList (by omega) (by rw[i_] <;> omega) (by omega) (by rw[hj];simpa using ew) ⟨rfl,fin⟩) hs
theorem ix_tup:IxR X (Q9 X.K):=by
 intro value slice pins s Z H x y v u Q I rx ry h hs;obtain⟨p,xs,i,z,rfl,rfl,hq,he,q⟩:=h;cases rx;obtain⟨t,rfl⟩:=ry;obtain⟨its,r,pl,hz⟩:=I.tuple hq;obtain⟨j,h1,h2,h3,h4,h5⟩:=oN he;obtain⟨w,ew,rw'⟩:=r.get h2;have hl:=r.length;have hn:=ju;have fin:EP X pins Z Q w s:=⟨z,H,I,rw',q⟩;exact subscriptTail_builtinR (x:=w) pl.typeIs slot_tuple_getitem.lookup
  (getItem_tuple (j:=j) (Q:=fun r s'=>r=w/\EP X pins Z Q r s') pl (by omega) (by omega) (by rw[i_,<- hl];exact h1) (by simpa using ew) ⟨rfl,fin⟩) hs
theorem Li:IxR X Rg:=by
 intro value slice pins s Z H x y v u Q I rx ry h hs;obtain⟨z,i,c,rfl,rfl,hz,he,q⟩:=h;obtain⟨t,rfl⟩:=rx;obtain⟨t',rfl⟩:=ry;obtain⟨j,h1,h2,h3,h4,h5⟩:=oN he;have hl:z.cps.toList.length=z.length:=by simp [Str.length]
 rw[hl] at h1 h4 h5;have hn:=ju;exact tail_any (typeIs_str s z t) slot_str_getitem.lookup (getItem_str (c:=c) (by
  have e1:decide (i < -(2^63:Int))=false:=E_ (by omega)
  have e2:decide (i ≥ 2^63)=false:=E_ (by omega)
  rw[e1,e2,Bool.or_false]) (by rw[h1];simpa using h2) ⟨.str ⟨#[c]⟩,H,I.tok _,⟨_,rfl⟩,q⟩) hs
def rIx (K:Frag):R2:=fun x y H Q=>Q8 K x y H Q\/Q9 K x y H Q\/Rg x y H Q
theorem Lj:IxR X (rIx X.K):=ix_list.or (ix_tup.or Li)
theorem t7 (its:List Value) (n j:Nat) (u:Value):Obj.mapSeq (·.setIfInBounds j u) { cls:=.type "list",data:=.seq its.toArray n}={ cls:=.type "list",data:=.seq (its.set j u).toArray n}:=by
 simp [Obj.mapSeq]
theorem Inv.lst {pins:List (Addr × Obj)}{Z:St}{H:Hp}{s:Shared}{p:Addr}{xs:List V}(I:Inv X pins Z H s) (h:H p=some (.lst xs)) :
  ∃(its:List Value) (n:Nat),Vals xs its/\s.heap.get? p=some { cls:=.type "list",data:=.seq its.toArray n}/\xs.length<=sizeLine:=by
 obtain⟨z,its,n,r,e⟩:=I.hok p _ h;exact⟨its,n,r,e,z⟩
theorem Inv.lstUpd {pins:List (Addr × Obj)}{Z:St}{H:Hp}{s:Shared}{p:Addr}{xs ys:List V}{its its':List Value}{n n':Nat}{f:Obj->Obj}(I:Inv X pins Z H s) (h:H p=some (.lst xs))
  (ho:s.heap.get? p=some { cls:=.type "list",data:=.seq its.toArray n}) (hf:f { cls:=.type "list",data:=.seq its.toArray n}={ cls:=.type "list",data:=.seq its'.toArray n'}) (r:Vals ys its') (hz:ys.length<=sizeLine) (t:Nat) :
  Inv X pins Z (upd H p (.lst ys)) { s with heap:=s.heap.update p f,toks:=t}:=by
 have e:(s.heap.update p f).get? p=some { cls:=.type "list",data:=.seq its'.toArray n'}:=by rw[Heap.get?_update_self f ho (by rw[hf] <;> rfl),hf]
 refine I.write (x:=p) (e:=p) (by rw[h];trivial) (.inl rfl) (fun b u hb q=>(YS _ _ (Ne.symm hb)).trans q) ⟨_,e⟩ ?_;exact⟨hz,its',n',r,e⟩
def Rh:V->V->V->Hp->(Hp->Prop)->Prop:=fun o i v H Q=>∃p xs k j,o=.ref p/\i=.int k/\H p=some (.lst xs)/\ixN xs.length k=some j/\Q (upd H p (.lst (xs.set j v)))
theorem set_list:PSet X Rh:=by
 intro pins s Z H o i v ov iv u Q I ro ri rv h;obtain⟨p,xs,k,j,rfl,rfl,hp,hj,q⟩:=h;cases ro;obtain⟨t,rfl⟩:=ri;obtain⟨its,n,r,ho,hz⟩:=I.lst hp;obtain⟨h1,h2,h3,h4⟩:=vI hj;have hl:=r.length;have hn:=ju;have I':Inv X pins Z (upd H p (.lst (xs.set j v))) { s with heap:=s.heap.update p (Obj.mapSeq (·.setIfInBounds j u))} :=
  I.lstUpd hp ho (t7 its n j u) (r.set rv j) (by rw[List.length_set];exact hz) s.toks
 by_cases h0:0<=k
 ·have hk:k.toNat=j:=by rw[seqIndex_of h0 h4] at h1;exact K_ h1
  exact PySem.W.ki_setAt ho h0 (by omega) (by rw[i_,<- hl];exact h4) (by rw[hk];exact⟨_,I',q⟩)
 have hk:(k+(its.toArray.size:Int)).toNat=j:=by rw[seqIndex_neg (by omega) h3] at h1;rw[i_,<- hl];exact K_ h1
 exact PySem.W.ki_setBack ho (by omega) (by rw[i_,<- hl];exact h3) (by omega) (by rw[hk];exact⟨_,I',q⟩)
theorem oO (lo hi:Option Int) (n:Nat):(sliceBounds lo hi none n).1=((HT.sIx n 0 lo:Nat):Int)/\(sliceBounds lo hi none n).2.1=((HT.sIx n n hi:Nat):Int)/\(sliceBounds lo hi none n).2.2=1:=by
 refine⟨?_,?_,rfl⟩
 ·cases lo with
  |none=>simp [sliceBounds,HT.sIx]
  |some i =>
  simp only[sliceBounds,HT.sIx,Option.getD_none,show (1:Int)>0 by decide,if_true];by_cases h:i<0
  ·simp only[h,if_true] <;> omega
  simp only[h,Wt] <;> omega
 cases hi with
 |none=>simp [sliceBounds,HT.sIx]
 |some i =>
 simp only[sliceBounds,HT.sIx,Option.getD_none,show (1:Int)>0 by decide,if_true];by_cases h:i<0
 ·simp only[h,if_true] <;> omega
 simp only[h,Wt] <;> omega
theorem mH (its:List Value) (lo hi:Option Int):slicePick its.toArray lo hi none=((its.drop (HT.sIx its.length 0 lo)).take (HT.sIx its.length its.length hi - HT.sIx its.length 0 lo)).toArray:=by
 obtain⟨h1,h2,h3⟩:=oO lo hi its.toArray.size;unfold slicePick;rw[h1,h2,h3];simp only[sliceRange_one,pick_run,i_] <;> rfl
def VM (K:Frag):V->Option Int->Option Int->Hp->VK->Prop:=fun x lo hi H Q=>∃a xs,x=.ref a/\SqL K H a xs/\∀p,H p=none->Q (.ref p) (upd H p (.lst (qz xs lo hi)))
theorem sl_list:SlR X (VM X.K):=by
 intro pins s Z H x v vl vu lo hi sl Q I rx hs pl pu h;obtain⟨a,xs,rfl,hx,q⟩:=h;cases rx;obtain⟨its,r,ht,hz⟩:=I.list hx;have hlen:=r.length;refine⟨"list",_,slot_list_getitem.lookup,ht.isList.typeIs,?_⟩;refine wpAny_getItem_list_slice ht.isList hs pl pu .none (by simp) ?_ (by rw[i_] <;> omega);rw[mH,<- hlen];refine⟨.ref s.heap.objs.size,_,I.laid (t':=s.toks) (o:=.lst (qz xs lo hi)) (fun b ob q=>e_ _ q) (j_ _) ?_,rfl,q _ (I.hok.fresh (j_ _))⟩;exact⟨U_ (jL xs lo hi) hz,_,0,(r.drop (HT.sIx xs.length 0 lo)).take (HT.sIx xs.length xs.length hi - HT.sIx xs.length 0 lo),u_ _ rfl⟩
theorem call_len_seq:CallR X (.builtin "len") (fun xs H Q=>∃p ys,xs=[.ref p]/\(SqL X.K H p ys\/SqT X.K H p ys)/\Q (.int ys.length) H):=by
 intro pins s Z H xs us Q I r h;obtain⟨p,ys,rfl,hq,q⟩:=h;obtain⟨u,rfl,rx⟩:=vals1 r;cases rx;have hn:=ju;rcases hq with hq | hq
 ·obtain⟨its,r',pl,hz⟩:=I.list hq;have hlen:=r'.length;exact Calls.call_len_list pl.isList (by simp only[i_] <;> omega) ⟨.int ys.length,H,I.tok _,⟨s.toks+1,by rw[i_,hlen]⟩,q⟩
 obtain⟨its,r',pl,hz⟩:=I.tuple hq;have hlen:=r'.length;exact len_tuple pl (by simp only[i_] <;> omega) ⟨.int ys.length,H,I.tok _,⟨s.toks+1,by rw[i_,hlen]⟩,q⟩
theorem oR:CallR X (.builtin "len") (fun xs H Q=>∃z,xs=[.str z]/\z.length<=sizeLine/\Q (.int z.length) H):=by
 intro pins s Z H xs us Q I r h;obtain⟨z,rfl,hz,q⟩:=h;obtain⟨u,rfl,t,rfl⟩:=vals1 r;have hn:=ju;exact len_str (by omega) ⟨.int z.length,H,I.tok _,⟨_,rfl⟩,q⟩
theorem CallR.or {f:Value}{r r':List V->Hp->VK->Prop}(h:CallR X f r) (h':CallR X f r'):CallR X f (fun xs H Q=>r xs H Q\/r' xs H Q):=by
 intro pins s Z H xs us Q I rs q;rcases q with q | q
 ·exact h pins s Z H xs us Q I rs q
 exact h' pins s Z H xs us Q I rs q
theorem oU:CallR X (.type "list") (fun xs H Q=>∃p ys,xs=[.ref p]/\(SqL X.K H p ys\/SqT X.K H p ys)/\∀l,H l=none->Q (.ref l) (upd H l (.lst ys))):=by
 intro pins s Z H xs us Q I r h;obtain⟨p,ys,rfl,hq,q⟩:=h;obtain⟨u,rfl,rx⟩:=vals1 r;cases rx;have fin:∀(its:List Value),Vals ys its->ys.length<=sizeLine->∀(h':Heap) (c':Nat),(∀b o',s.heap.get? b=some o'->h'.get? b=some o') ->
   h'.get? s.heap.objs.size=some { cls:=.type "list",dict:=none,data:=.seq its.toArray c',slots:=#[]}->EP X pins Z Q (.ref s.heap.objs.size) { s with heap:=h'}:=fun its r' hz h' c' kp e =>
  ⟨.ref s.heap.objs.size,_,I.laid (t':=s.toks) kp (j_ _) (show ObjOk X.prog X.w _ h' _ (.lst ys) from ⟨hz,its,c',r',e⟩),rfl,q _ (I.hok.fresh (j_ _))⟩
 rcases hq with hq | hq
 ·obtain⟨its,r',pl,hz⟩:=I.list hq;have hlen:=r'.length;obtain⟨o,ho,hc,n,hd⟩:=pl.isList;exact call_list_seq p (.inl rfl) ho hc hd (fun h' c' kp e=>fin its r' hz h' c' kp e) (by simp only[i_] <;> omega)
 obtain⟨its,r',pl,hz⟩:=I.tuple hq;have hlen:=r'.length;obtain⟨o,ho,hc,n,hd⟩:=pl;exact call_list_seq p (.inr rfl) ho hc hd (fun h' c' kp e=>fin its r' hz h' c' kp e) (by simp only[i_] <;> omega)
theorem mJ:CallR X (.type "tuple") (fun xs H Q=>∃p ys,xs=[.ref p]/\((SqL X.K H p ys/\∀l,H l=none->Q (.ref l) (upd H l (.tup ys)))\/(SqT X.K H p ys/\Q (.ref p) H))):=by
 intro pins s Z H xs us Q I r h;obtain⟨p,ys,rfl,h⟩:=h;obtain⟨u,rfl,rx⟩:=vals1 r;cases rx;rcases h with ⟨hq,q⟩ | ⟨hq,q⟩
 ·obtain⟨its,r',pl,hz⟩:=I.list hq;have hlen:=r'.length;refine call_tuple_list pl.isList (fun h' kp=>?_) (by simp only[i_] <;> omega);have I1:Inv X pins Z H { s with heap:=h'}:=I.kept (t':=s.toks) kp;have I2:Inv X pins Z (upd H h'.objs.size (.tup ys)) { s with heap:=h'.push { cls:=.type "tuple",data:=.seq its.toArray}} :=
   I1.laid (t':=s.toks) (fun b o e=>e_ _ e) (j_ _) (show ObjOk X.prog X.w _ _ _ (.tup ys) from ⟨hz,its,r',Tup0.new _ _⟩)
  exact⟨.ref h'.objs.size,_,I2,rfl,q _ (I1.hok.fresh (j_ _))⟩
 obtain⟨its,r',pl,hz⟩:=I.tuple hq;exact call_tuple_same pl ⟨.ref p,H,I,rfl,q⟩
def tyV (K:Frag) (T:String) (x:V) (H:Hp):Prop:=match x with
 |.str _=>T="str"
 |.int _=>T="int"
 |.ref p=>(T="list"/\∃xs,SqL K H p xs)\/(T="tuple"/\∃xs,SqT K H p xs) \/
   (T="dict"/\((∃kvs,H p=some (.dK kvs))\/∃kvs,H p=some (.dT kvs)))\/(T="set"/\∃S n,H p=some (.set S n))
 |_=>False
theorem zj {pins:List (Addr × Obj)}{Z:St}{H:Hp}{s:Shared}{T:String}{x:V}{v:Value}(I:Inv X pins Z H s) (r:RelV x v) (ty:tyV X.K T x H) :
  s.TypeIs v T/\∀a,v=.ref a->∃ob,s.heap.get? a=some ob/\ob.dict=none:=by
 cases x with
 |str z=>obtain⟨t,rfl⟩:=r;cases (show T="str" from ty);exact⟨typeIs_str s z t,fun _ e=>nomatch e⟩
 |int i=>obtain⟨t,rfl⟩:=r;cases (show T="int" from ty);exact⟨typeIs_int s i t,fun _ e=>nomatch e⟩
 |ref p =>
  cases r;rcases ty with ⟨rfl,xs,hq⟩ | ⟨rfl,xs,hk⟩ | ⟨rfl,hk⟩ | ⟨rfl,S,n,hk⟩
  ·obtain⟨its,_,pl,_⟩:=I.list hq;refine⟨pl.isList.typeIs,fun a e=>?_⟩;cases e;obtain⟨o,n,e,c,hd,_⟩:=pl;exact⟨o,e,hd⟩
  ·rcases hk with hk | ⟨o,its,n,hk,hc,hd,_⟩
   ·obtain⟨_,its,r,o,ho,hc,n,hd,hn⟩:=hk.ok I.hok;refine⟨⟨o,ho,hc⟩,fun a e=>?_⟩;cases e;exact⟨o,ho,hn⟩
   refine⟨⟨o,I.kIn p o hk,hc⟩,fun a e=>?_⟩;cases e;exact⟨o,I.kIn _ o hk,hd⟩
  ·have z:∃o,s.heap.get? p=some o/\o.ExactDict:=by
    rcases hk with ⟨kvs,hk⟩ | ⟨kvs,hk⟩
    ·obtain⟨_,_,_,_,o,_,_,e,ex,_⟩:=I.hok p _ hk;exact⟨o,e,ex⟩
    obtain⟨_,_,_,_,o,_,_,e,ex,_⟩:=I.hok p _ hk;exact⟨o,e,ex⟩
   obtain⟨o,e,ex⟩:=z;refine⟨⟨o,e,ex.1⟩,fun a e2=>?_⟩;cases e2;exact⟨o,e,ex.2.1⟩
  obtain⟨o,_,_,_,e,ex,_⟩:=I.hok p _ hk;refine⟨⟨o,e,ex.1⟩,fun a e2=>?_⟩;cases e2;exact⟨o,e,ex.2.1⟩
 |_=>exact False.elim ty
def VN (K:Frag) (T:String) (r:V->List V->Hp->VK->Prop) (to:TE):TE:=fun Z H Q=>to Z H fun x H1=>tyV K T x H1/\r x [] H1 Q
def tBM (K:Frag) (T:String) (r:V->List V->Hp->VK->Prop) (to:TE) (t:TA):TE:=fun Z H Q=>to Z H fun x H1=>tyV K T x H1/\t Z H1 fun xs H2=>r x xs H2 Q
variable {o e:Expr}{es:List Expr}{to:TE}{t:TA}{name:Str}{apos cpos:Pos}{T id:String}{r:V->List V->Hp->VK->Prop}
theorem Lk (pa:PlainAttrs T) (slot:Slot T name id) (hty:typeOf (.builtin id)=pure (.type "method_descriptor")) (hm:MtR X id r) (ho:PE X o to)
  (hbase:attributeBase o name X.env (eval o X.env)=eval o X.env:=by rfl) (hline:(apos.endLine==cpos.line)=true:=by rfl):PE X (.Call (.Attribute o name apos) [] [] cpos) (VN X.K T r to):=by
 intro pins s Z H Q I h;refine wpAny_Call_method0_late hbase hline (thn (ho pins s Z H _ I h) fun v s1 ⟨x,H1,I1,r1,ty,q1⟩=>?_);obtain⟨h1,h2⟩:=zj I1 r1 ty;exact⟨T,id,pa,slot,hty,h1,h2,YT rfl (PySem.evalArgs_none (hm pins s1 Z H1 x [] v [] Q I1 r1 .nil q1))⟩
theorem Ri (pa:PlainAttrs T) (slot:Slot T name id) (hty:typeOf (.builtin id)=pure (.type "method_descriptor")) (hm:MtR X id r) (ho:PE X o to) (ha:PA X (e::es) t)
  (hbase:attributeBase o name X.env (eval o X.env)=eval o X.env:=by rfl)
  (hfew:((backTo cpos (starEach (e::es) X.env)).all (fun x=>!x.1)&&(backToKw cpos (keywordEach [] X.env)).all (fun x=>x.1.isSome)
   && decide ((e::es).length+([]:List Keyword).length+(if ([]:List Keyword).isEmpty then 0 else 1)<30))=true:=by rfl)
  (hline:(apos.endLine==cpos.line)=true:=by rfl) (hs:starEach (e::es) X.env=(false,eval e X.env)::starEach es X.env:=by rfl) (hplain:(backTo cpos (starEach es X.env)).any (·.1)=false:=by rfl) :
  PE X (.Call (.Attribute o name apos) (e::es) [] cpos) (tBM X.K T r to t):=by
 intro pins s Z H Q I h;refine wpAny_Call_method_late hbase hfew hline rfl (thn (ho pins s Z H _ I h) fun v s1 ⟨x,H1,I1,r1,ty,q1⟩=>?_);obtain⟨h1,h2⟩:=zj I1 r1 ty;refine⟨T,id,pa,slot,hty,h1,h2,?_⟩;have hA:=ha cpos pins s1 Z H1 _ I1 q1;rw[hs] at hA ⊢;refine YT (by show (false||(backTo cpos (starEach es X.env)).any (·.1))=false;rw[hplain] <;> rfl) (Calls.evalArgs_plain ?_);exact thn hA fun us s2 ⟨vs,H2,I2,r2,q2⟩=>hm pins s2 Z H2 x vs v us Q I2 r1 r2 q2
/- xs.append(e),list.index on a module's tuple .. are MtR facts of 06m -/
end
def MtM (X:Cx) (id:String) (r:V->List V->Hp->VK->Prop):Prop :=
 ∀(pins:List (Addr × Obj)) (s:Shared) (Z:St) (H:Hp) (x:V) (xs:List V) (v:Value) (us:List Value) (Q:VK),Inv X pins Z H s->RelV x v->Vals xs us->r x xs H Q ->
  wpAny (model X.prog X.w) X.A (call (.builtin id) (v::us)) (EP X pins Z Q) X.xe s
theorem Vals.one {x:V}{us:List Value}(r:Vals [x] us):∃u,us=[u]/\RelV x u:=vals1 r
theorem Vals.two {x y:V}{us:List Value}(r:Vals [x,y] us):∃u v,us=[u,v]/\RelV x u/\RelV y v:=vals2 r
theorem Vals.zero:∀{us:List Value},Vals [] us->us=[]
 |_,.nil=>rfl
theorem Vals.dropLast {xs:List V}{us:List Value}(h:Vals xs us):Vals xs.dropLast us.dropLast:=by
 induction h with
 |nil=>exact .nil
 |cons r t ih =>
 cases t with
 |nil=>exact .nil
 |cons q t'=>exact .cons r ih
theorem Vals.eraseIdx:∀{xs:List V}{us:List Value}(i:Nat),Vals xs us->Vals (xs.eraseIdx i) (us.eraseIdx i)
 |_,_,_,.nil=>.nil
 |_,_,0,.cons _ t=>t
 |_,_,i+1,.cons r t=>.cons r (Vals.eraseIdx i t)
theorem Vals.reverse {xs:List V}{us:List Value}(h:Vals xs us):Vals xs.reverse us.reverse:=by
 induction h with
 |nil=>exact .nil
 |cons r t ih=>rw[List.reverse_cons,List.reverse_cons];exact Vals.append ih (.cons r .nil)
theorem Vals.rep {xs:List V}{us:List Value}(h:Vals xs us):∀k:Nat,Vals (List.replicate k xs).flatten (List.replicate k us).flatten
 |0=>.nil
 |k+1=>by
  rw[W7,W7,Xj,Xj]
  exact Vals.append h (Vals.rep h k)
theorem foldl_rep (its:List Value):∀(k:Nat) (acc:List Value),
  List.foldl (fun x1 x2=>x1++x2) acc.toArray (List.replicate k its.toArray)=(acc++(List.replicate k its).flatten).toArray
 |0,acc=>by simp
 |k+1,acc=>by
  have e:acc.toArray++its.toArray=(acc++its).toArray:=by simp
  have e2:(acc++its)++(List.replicate k its).flatten=acc++(List.replicate (k+1) its).flatten:=by
   rw[W7,Xj,WW]
  rw[<- e2,<- foldl_rep its k (acc++its),<- e,W7,Zf]
section
variable {X:Cx}{pins:List (Addr × Obj)}{Z:St}{H:Hp}{s:Shared}{l b:Addr}{xs ys zs:List V}
theorem Inv.lset {its its':List Value}{n:Nat}{f:Array Value->Array Value}{t':Nat}(I:Inv X pins Z H s) (hH:H l=some (.lst xs))
  (e:s.heap.get? l=some { cls:=.type "list",data:=.seq its.toArray n}) (hf:f its.toArray=its'.toArray) (hv:Vals ys its') (hz:ys.length<=sizeLine) :
  Inv X pins Z (upd H l (.lst ys)) { s with heap:=s.heap.update l (Obj.mapSeq f),toks:=t'}:=by
 have q:=PySem.IsL.update e f;rw[hf] at q;refine I.write (x:=l) (e:=l) (by rw[hH];exact trivial) (.inl rfl) (fun b' u hb hu=>(YS s.heap (Obj.mapSeq f) (Ne.symm hb)).trans hu) ⟨_,q⟩ ?_;exact⟨hz,its',_,hv,q⟩
theorem Inv.lnew {its:List Value}{t':Nat}(I:Inv X pins Z H s) (hv:Vals ys its) (hz:ys.length<=sizeLine) :
  Inv X pins Z (upd H s.heap.objs.size (.lst ys)) { s with heap:=s.heap.push { cls:=.type "list",data:=.seq its.toArray},toks:=t'} :=
 I.laid (fun _ _ q=>e_ _ q) (j_ _) ⟨hz,its,0,hv,u_ _ rfl⟩
theorem Inv.fresh (I:Inv X pins Z H s):H s.heap.objs.size=none:=I.hok.fresh (j_ _)
theorem Inv.lstM (I:Inv X pins Z H s) (hH:H l=some (.lst xs)):xs.length<=sizeLine/\∃(its:List Value) (n:Nat),Vals xs its/\xs.length=its.length/\s.heap.get? l=some { cls:=.type "list",data:=.seq its.toArray n}:=by
 obtain⟨z,its,n,r,e⟩:=I.hok l _ hH;exact⟨z,its,n,r,r.length,e⟩
theorem zm {n:Nat}(h:n<=sizeLine):Builtin.List.listTooLong n=false:=by
 unfold Builtin.List.listTooLong;exact E_ (by omega)
def Fg:V->List V->Hp->VK->Prop:=fun x vs H Q=>∃l xs y,x=.ref l/\vs=[y]/\H l=some (.lst xs)/\xs.length<sizeLine/\Q .non (upd H l (.lst (xs++[y])))
theorem xV:MtM X "list.append" Fg:=by
 intro pins s Z H x vs v us Q I rx rv h;obtain⟨l,xs,y,rfl,rfl,hH,hz,q⟩:=h;cases rx;obtain⟨u,rfl,ru⟩:=rv.one;obtain⟨z,its,n,r,hl,e⟩:=I.lstM hH;refine call_meets F.slot_list_append ⟨_,e,rfl⟩ F.entry_list_append (F.args_list_append_2 _ _) (list_append l its.toArray n u (by rw[i_];omega)) ⟨e,?_⟩;refine⟨.non,_,I.lset (its':=its++[u]) hH e (by simp) (r.append (.cons ru .nil)) ?_,rfl,q⟩;rw[g_,D_];omega
def zp:V->List V->Hp->VK->Prop:=fun x vs H Q=>∃l xs,x=.ref l/\vs=[]/\H l=some (.lst xs)/\Q .non (upd H l (.lst xs.reverse))
theorem ue:MtM X "list.reverse" zp:=by
 intro pins s Z H x vs v us Q I rx rv h;obtain⟨l,xs,rfl,rfl,hH,q⟩:=h;cases rx;have hus:=rv.zero;subst hus;obtain⟨z,its,n,r,hl,e⟩:=I.lstM hH;refine call_meets F.slot_list_reverse ⟨_,e,rfl⟩ F.entry_list_reverse (F.args_list_reverse_1 _) (AutoSeq1.list_reverse_list_0 l its.toArray n (by rw[i_];omega)) ⟨e,?_⟩;refine⟨.non,_,I.lset (its':=its.reverse) hH e (by simp) r.reverse ?_,rfl,q⟩;rw[Xg];omega
def VP:R2:=fun x y H Q=>∃l b xs zs,x=.ref l/\y=.ref b/\H l=some (.lst xs)/\H b=some (.lst zs)/\xs.length+zs.length<=sizeLine/\∀p,H p=none->Q (.ref p) (upd H p (.lst (xs++zs)))
theorem op_cat:OpR X (binaryOp .Add) VP:=by
 intro pins s Z H x y v u Q I rx ry h;obtain⟨l,b,xs,zs,rfl,rfl,hH,hB,hz,q⟩:=h;cases rx;cases ry;obtain⟨z,its,n,r,hl,e⟩:=I.lstM hH;obtain⟨z2,its2,n2,r2,hl2,e2⟩:=I.lstM hB;refine PySem.P.add_list e e2 ?_ (by rw[i_,i_];omega);have ea:its.toArray++its2.toArray=(its++its2).toArray:=by simp
 rw[ea];exact⟨.ref _,_,I.lnew (t':=s.toks) (r.append r2) (by rw[g_];omega),rfl,q _ I.fresh⟩
def VR:R2:=fun x y H Q=>∃l k xs,x=.ref l/\y=.int k/\H l=some (.lst xs) /\ -(2^63)<=k/\k<2^63/\xs.length*k.toNat<=sizeLine /\
 ∀p,H p=none->Q (.ref p) (upd H p (.lst (List.replicate k.toNat xs).flatten))
theorem len_rep {α:Type}(xs:List α) (k:Nat):(List.replicate k xs).flatten.length=k*xs.length:=by
 induction k with
 |zero=>simp
 |succ k ih=>rw[W7,Xj,g_,ih,Nat.succ_mul,Nat.add_comm]
theorem Ln:OpR X (binaryOp .Mult) VR:=by
 intro pins s Z H x y v u Q I rx ry h;obtain⟨l,k,xs,rfl,rfl,hH,h1,h2,hz,q⟩:=h;cases rx;obtain⟨t,rfl⟩:=ry;obtain⟨z,its,n,r,hl,e⟩:=I.lstM hH;have hlen:its.toArray.size*k.toNat<=sizeLine:=by rw[i_,<- hl];exact hz
 have hcap:¬its.toArray.size*k.toNat>(2^63 - 1) / 8:=by
  have:(sizeLine:Nat)<=(2^63 - 1) / 8:=by decide
  omega
 have hfit:¬(!Builtin.List.listFitsIndex k)=true:=by rw[fitsIndex_both h1 h2];exact p_
 have hlong:¬Builtin.List.listTooLong (its.toArray.size*k.toNat)=true:=by rw[zm hlen];exact p_
 have hnew:List.foldl (fun x1 x2=>x1++x2) #[] (List.replicate (if its.toArray.isEmpty=true then 0 else k.toNat) its.toArray)=(List.replicate k.toNat its).flatten.toArray:=by
  have f0:∀m:Nat,List.foldl (fun x1 x2=>x1++x2) #[] (List.replicate m its.toArray)=(List.replicate m its).flatten.toArray:=fun m=>by have:=foldl_rep its m [];rw[Yj] at this;exact this
  rw[f0];cases its with
  |nil=>simp
  |cons a r'=>rw[if_neg (by simp)]
 refine wpAny_binaryOp_repeat_ref (T:="list") (U:="int") (by decide) ⟨_,e,rfl⟩ (fun s'=>typeIs_int s' k t) noFill_list_mul F.fills_int_mul F.slot_int_rmul repeat_list F.slot_int_index.lookup
  (call_meets F.slot_int_rmul (typeIs_int s k t) F.entry_int_rmul (F.args_int_rmul_2 _ _) (int___rmul___int_list k t l its.toArray n)
   ⟨e,rfl,⟨_,e,rfl⟩,call_meets F.slot_list_mul ⟨_,e,rfl⟩ F.entry_list_mul (F.args_list_mul_2 _ _) (AutoListH.list___mul___list_int_3 l its.toArray n k t hfit hcap hlong) ⟨e,?_⟩⟩)
 rw[hnew];exact⟨.ref _,_,I.lnew (t':=s.toks) (r.rep k.toNat) (by rw[len_rep,Nat.mul_comm];exact hz),rfl,q _ I.fresh⟩
variable {prog:Program}{w:World}{A:Around}{E:Value->Shared->Prop}
set_option maxRecDepth 100000 in
end
section
variable {κ:Type} [DecidableEq κ]
def eN (kvs:List (κ × V)) (k:κ):Option V:=(kvs.find? fun kv=>decide (kv.1=k)).map (·.2)
def putK (kvs:List (κ × V)) (k:κ) (v:V):List (κ × V) :=
 if (kvs.any fun kv=>decide (kv.1=k))=true then kvs.map (fun kv=>if kv.1=k then (kv.1,v) else kv) else kvs++[(k,v)]
def Jc (kvs:List (κ × V)) (k:κ):List (κ × V):=kvs.filter fun kv=>decide (kv.1≠k)
theorem eO {p:κ × V}{r:List (κ × V)}{k:κ}(e:p.1=k):eN (p::r) k=some p.2:=by simp [eN,Y0,e]
theorem eQ {p:κ × V}{r:List (κ × V)}{k:κ}(e:¬p.1=k):eN (p::r) k=eN r k:=by simp [eN,Y0,e]
theorem qC (k:κ):∀kvs:List (κ × V),(kvs.any fun kv=>decide (kv.1=k))=(eN kvs k).isSome
 |[]=>rfl
 |p::r=>by
  rw[Ze]
  by_cases e:p.1=k
  ·
   simp only[eO e,L_ e,Bool.true_or,X6]
  ·
   rw[eQ e,E_ e,Bool.false_or];exact qC k r
theorem eZ (kvs:List (κ × V)) (k:κ) (v:V):(putK kvs k v).length<=kvs.length+1:=by
 unfold putK;split
 ·rw[h_];omega
 rw[g_,l_,W3];omega
theorem RelO.isSome_eq {o:Option V}{u:Option Value}(r:RelO o u):o.isSome=u.isSome:=by
 cases o with
 |none=>cases u with
  |none=>rfl
  |some _=>exact (show False from r).elim
 |some _=>cases u with
  |none=>exact (show False from r).elim
  |some _=>rfl
theorem RelO.getD {o:Option V}{u:Option Value}{d:V}{d':Value}(r:RelO o u) (rd:RelV d d'):RelV (o.getD d) (u.getD d'):=by
 cases o with
 |none=>cases u with
  |none=>exact rd
  |some _=>exact (show False from r).elim
 |some _=>cases u with
  |none=>exact (show False from r).elim
  |some _=>exact r
theorem KV.val {kvs:List (κ × V)}{vs:List (κ × Value)}(r:KV kvs vs) (k:κ):RelO (eN kvs k) (valueAt vs k):=by
 unfold KV at r;induction r with
 |nil=>exact True.intro
 |@cons p q ps qs h t ih =>
 obtain⟨h1,h2⟩:=h;by_cases e:p.1=k
 ·have e':q.1=k:=h1.symm.trans e;have b:valueAt (q::qs) k=some q.2:=by simp [valueAt,Y0,e']
  rw[eO e,b];exact h2
 have e':¬q.1=k:=fun z=>e (h1.trans z);have b:valueAt (q::qs) k=valueAt qs k:=by simp [valueAt,Y0,e']
 rw[eQ e,b];exact ih
theorem KV.any {kvs:List (κ × V)}{vs:List (κ × Value)}(r:KV kvs vs) (k:κ):(kvs.any fun kv=>decide (kv.1=k))=vs.any fun kv=>decide (kv.1=k):=by
 unfold KV at r;induction r with
 |nil=>rfl
 |cons h t ih=>rw[Ze,Ze,ih,h.1]
theorem KV.repl {kvs:List (κ × V)}{vs:List (κ × Value)}(r:KV kvs vs) (k:κ) {y:V}{u:Value}(ry:RelV y u) :
  KV (kvs.map fun kv=>if kv.1=k then (kv.1,y) else kv) (vs.map fun kv=>if kv.1=k then (kv.1,u) else kv):=by
 unfold KV at r ⊢;induction r with
 |nil=>exact .nil
 |@cons p q ps qs h t ih =>
 rw[I_,I_];refine .cons ?_ ih;obtain⟨h1,h2⟩:=h;by_cases e:p.1=k
 ·rw[if_pos e,if_pos (h1.symm.trans e)];exact⟨h1,ry⟩
 rw[if_neg e,if_neg (fun z=>e (h1.trans z))];exact⟨h1,h2⟩
theorem KV.put {kvs:List (κ × V)}{vs:List (κ × Value)}(r:KV kvs vs) (k:κ) {y:V}{u:Value}(ry:RelV y u):KV (putK kvs k y) (stored vs k u):=by
 unfold putK stored;rw[r.any k];by_cases e:(vs.any fun kv=>decide (kv.1=k))=true
 ·rw[if_pos e,if_pos e];exact r.repl k ry
 rw[if_neg e,if_neg e];exact Paired.snoc r ⟨rfl,ry⟩
theorem KV.drop {kvs:List (κ × V)}{vs:List (κ × Value)}(r:KV kvs vs) (k:κ):KV (Jc kvs k) (without vs k):=by
 unfold KV at r ⊢;unfold Jc without;induction r with
 |nil=>exact .nil
 |@cons p q ps qs h t ih =>
 obtain⟨h1,h2⟩:=h;rw[Xq,Xq];by_cases e:p.1=k
 ·have a:¬decide (p.1≠k)=true:=by simp [e]
  have b:¬decide (q.1≠k)=true:=by simp [h1.symm.trans e]
  rw[if_neg a,if_neg b];exact ih
 have e':¬q.1=k:=fun z=>e (h1.trans z);have a:decide (p.1≠k)=true:=by simp [e]
 have b:decide (q.1≠k)=true:=by simp [e']
 rw[if_pos a,if_pos b];exact .cons ⟨h1,h2⟩ ih
theorem KV.keys {kvs:List (κ × V)}{vs:List (κ × Value)}(r:KV kvs vs):kvs.map (·.1)=vs.map (·.1):=by
 unfold KV at r;induction r with
 |nil=>rfl
 |cons h t ih=>rw[I_,I_,ih,h.1]
theorem KV.length {kvs:List (κ × V)}{vs:List (κ × Value)}(r:KV kvs vs):kvs.length=vs.length:=YC r
end
theorem kW {P:Program}{w:World}{k:Key}{u:Value}(r:RelV (kV k) u):(bx P w).is k u=true:=by
 cases k with
 |inl i=>obtain⟨t,e⟩:=(show ∃t,u=Value.int i t from r);subst e;exact ql P w i t
 |inr x=>obtain⟨t,e⟩:=(show ∃t,u=Value.str x t from r);subst e;exact qm P w x t
theorem nj {P:Program}{w:World}:∀{ks:List Key}{us:List Value},Vals (ks.map kV) us->ItemsAre (bx P w) ks us
 |[],_,r=>by rw[Xy] at r;cases r;exact .nil
 |k::ks,_,r=>by
  rw[I_] at r
  cases r with
  |cons h t=>exact .cons (kW h) (nj t)
abbrev KT (H:Hp):List (List Key × V)->List (List Key × Addr × Value)->Prop:=Paired fun p q=>p.1=q.1/\H q.2.1=some (.tup (p.1.map kV))/\RelV p.2 q.2.2
theorem KT.val {H:Hp}{kvs:List (List Key × V)}{xs:List (List Key × Addr × Value)}(r:KT H kvs xs) (k:List Key):RelO (eN kvs k) ((atKey xs k).map (·.2)):=by
 induction r with
 |nil=>exact True.intro
 |@cons p q ps qs h t ih =>
 obtain⟨h1,_,h2⟩:=h;by_cases e:p.1=k
 ·have e':q.1=k:=h1.symm.trans e;have b:atKey (q::qs) k=some q.2:=by simp [atKey,Y0,e']
  rw[eO e,b];exact h2
 have e':¬q.1=k:=fun z=>e (h1.trans z);have b:atKey (q::qs) k=atKey qs k:=by simp [atKey,Y0,e']
 rw[eQ e,b];exact ih
theorem KT.repl {H:Hp}{kvs:List (List Key × V)}{xs:List (List Key × Addr × Value)}(r:KT H kvs xs) (k:List Key) {y:V}{u:Value}(ry:RelV y u) :
  KT H (kvs.map fun kv=>if kv.1=k then (kv.1,y) else kv) (xs.map (putAt k u)):=by
 induction r with
 |nil=>exact .nil
 |@cons p q ps qs h t ih =>
 rw[I_,I_];refine .cons ?_ ih;obtain⟨h1,h2,h3⟩:=h;unfold putAt;by_cases e:p.1=k
 ·rw[if_pos e,if_pos (h1.symm.trans e)];exact⟨h1,h2,ry⟩
 rw[if_neg e,if_neg (fun z=>e (h1.trans z))];exact⟨h1,h2,h3⟩
theorem KT.put {H:Hp}{kvs:List (List Key × V)}{xs:List (List Key × Addr × Value)}(r:KT H kvs xs) (k:List Key) {b:Addr}{y:V}{u:Value}(hb:H b=some (.tup (k.map kV))) (ry:RelV y u) :
  KT H (putK kvs k y) (storedH xs k b u):=by
 have e:(kvs.any fun kv=>decide (kv.1=k))=(atKey xs k).isSome:=by rw[qC,(r.val k).isSome_eq,Option.isSome_map]
 unfold putK storedH;rw[e];by_cases q:(atKey xs k).isSome=true
 ·rw[if_pos q,if_pos q];exact r.repl k ry
 rw[if_neg q,if_neg q];exact Paired.snoc r ⟨rfl,hb,ry⟩
theorem KT.keeps {H H':Hp}{kvs:List (List Key × V)}{xs:List (List Key × Addr × Value)}(r:KT H kvs xs) (ht:∀b ys,H b=some (.tup ys)->H' b=some (.tup ys)):KT H' kvs xs :=
 Paired.mapP r fun _ _ z=>⟨z.1,ht _ _ z.2.1,z.2.2⟩
section
variable {P:Program}{w:World}{H:Hp}{h:Heap}{a:Addr}
theorem Jd {u:HO}(ok:HOk P w H h) (e:Rd H a u):ObjOk P w H h a u:=e.ok ok
theorem nq {kvs:List (Key × V)}(ok:HOk P w H h) (e:Rd H a (.dK kvs)):kvs.length<=sizeLine/\(a==sysModules)=false/\∃vs,KV kvs vs/\h.DictOf (bx P w) a vs :=
 show ObjOk P w H h a (.dK kvs) from Jd ok e
theorem qD {kvs:List (Key × V)}(ok:HOk P w H h) (e:H a=some (.dK kvs)):kvs.length<=sizeLine/\(a==sysModules)=false/\∃vs,KV kvs vs/\h.DictOf (bx P w) a vs:=nq ok (.inl e)
theorem kY {ks:List Key}(ok:HOk P w H h) (e:H a=some (.tup (ks.map kV))):(tupleKind (bx P w)).is h ks a:=by
 obtain⟨_,its,r,o,h1,h2,n,h3,_⟩:=(show ObjOk P w H h a (.tup (ks.map kV)) from ok a _ e);exact⟨o,its.toArray,n,h1,h2,h3,by simpa using nj r⟩
theorem nu {kvs:List (List Key × V)}(ok:HOk P w H h) (e:Rd H a (.dT kvs)):kvs.length<=sizeLine/\(a==sysModules)=false /\
  ∃xs,KT H kvs xs/\h.DictOfH (tupleKind (bx P w)) a xs:=by
 obtain⟨z,y,xs,r,o,es,ep,h1,h2,h3,h4,h5⟩:=(show ObjOk P w H h a (.dT kvs) from Jd ok e);refine⟨z,y,xs,r,o,es,ep,h1,h2,h3,h4,fun x hx=>?_,h5⟩;have all:∀{l:List (List Key × V)} {m:List (List Key × Addr × Value)},KT H l m->∀x∈m,(tupleKind (bx P w)).is h x.1 x.2.1:=by
  intro l m q;induction q with
  |nil=>intro x hx;exact nomatch hx
  |@cons p q ps qs hq t ih =>
  intro x hx;rcases n_.mp hx with e | hx
  ·subst e;exact kY ok (by rw[<- hq.1];exact hq.2.1)
  exact ih x hx
 exact all r x hx
theorem Rj {kvs:List (List Key × V)}(ok:HOk P w H h) (e:H a=some (.dT kvs)):kvs.length<=sizeLine/\(a==sysModules)=false /\
  ∃xs,KT H kvs xs/\h.DictOfH (tupleKind (bx P w)) a xs:=nu ok (.inl e)
end
def DGet (H:Hp) (a:Addr) (y:V) (r:Option V):Prop :=
 (∃kvs k,Rd H a (.dK kvs)/\y=kV k/\r=eN kvs k)\/∃kvs k b,Rd H a (.dT kvs)/\y=.ref b/\H b=some (.tup (k.map kV))/\r=eN kvs k
def DPut (H:Hp) (a:Addr) (y v:V) (H':Hp):Prop :=
 (∃kvs k,H a=some (.dK kvs)/\y=kV k/\kvs.length<sizeLine/\H'=upd H a (.dK (putK kvs k v))) \/
 ∃kvs k b,H a=some (.dT kvs)/\y=.ref b/\H b=some (.tup (k.map kV))/\kvs.length<sizeLine/\H'=upd H a (.dT (putK kvs k v))
theorem DGet.k {H:Hp}{a:Addr}{kvs:List (Key × V)}{k:Key}(e:H a=some (.dK kvs)):DGet H a (kV k) (eN kvs k):=.inl ⟨kvs,k,.inl e,rfl,rfl⟩
theorem DGet.t {H:Hp}{a b:Addr}{kvs:List (List Key × V)}{k:List Key}(e:H a=some (.dT kvs)) (eb:H b=some (.tup (k.map kV))):DGet H a (.ref b) (eN kvs k):=.inr ⟨kvs,k,b,.inl e,rfl,eb,rfl⟩
theorem DPut.k {H:Hp}{a:Addr}{kvs:List (Key × V)}{k:Key}{v:V}(e:H a=some (.dK kvs)) (hl:kvs.length<sizeLine):DPut H a (kV k) v (upd H a (.dK (putK kvs k v))):=.inl ⟨kvs,k,e,rfl,hl,rfl⟩
theorem DPut.t {H:Hp}{a b:Addr}{kvs:List (List Key × V)}{k:List Key}{v:V}(e:H a=some (.dT kvs)) (eb:H b=some (.tup (k.map kV))) (hl:kvs.length<sizeLine) :
  DPut H a (.ref b) v (upd H a (.dT (putK kvs k v))):=.inr ⟨kvs,k,b,e,rfl,eb,hl,rfl⟩
section
variable {X:Cx}{pins:List (Addr × Obj)}{Z:St}{H:Hp}{s:Shared}{a:Addr}{y v:V}{u r:Value}{o:Option V}{A:Around}{E:Value->Shared->Prop}
theorem Inv.big (I:Inv X pins Z H s):sysModules<s.heap.objs.size:=by
 have h:mainGlobals<s.heap.objs.size:=(I.mod.glob.keeps I.bk).lt;exact WF (by decide) h
theorem xW {Q:Value->Shared->Prop}(hu:A.units+1<cLine) (I:Inv X pins Z H s) (g:DGet H a y (some v)) (ry:RelV y u) (h:∀w' s',Inv X pins Z H s'->RelV v w'->Q w' s') :
  wpAny (model X.prog X.w) A (getItem (.ref a) u) Q E s:=by
 rcases g with ⟨kvs,k,e,ey,l⟩ | ⟨kvs,k,b,e,ey,eb,l⟩
 ·subst ey;obtain⟨z,hd,vs,rel,dd⟩:=nq I.hok e;obtain⟨w',hw,rw'⟩:=RelO.some_of (v:=v) (o:=valueAt vs k) (by rw[l];exact rel.val k);exact wpAny_getItem_of (kW ry) dd.mapOf hw (h w' _ (I.tok _) rw')
 subst ey;cases (show u=Value.ref b from ry);obtain⟨z,hd,xs,rel,dd⟩:=nu I.hok e;obtain⟨w',hw,rw'⟩:=RelO.some_of (v:=v) (o:=(atKey xs k).map (·.2)) (by rw[l];exact rel.val k);obtain⟨p,hp,hp2⟩:=Option.map_eq_some_iff.mp hw;refine wpAny_getItem_heap (Zg hu) (kY I.hok eb) dd hp ?_;rw[hp2];exact h w' _ (I.tok _) rw'
theorem V0 {Q:Value->Shared->Prop}(hu:A.units+1<cLine) (I:Inv X pins Z H s) (g:DGet H a y o) (ry:RelV y u) (h:∀s',Inv X pins Z H s'->Q (.bool o.isSome) s') :
  wpAny (model X.prog X.w) A (compareOp .In u (.ref a)) Q E s:=by
 rcases g with ⟨kvs,k,e,ey,l⟩ | ⟨kvs,k,b,e,ey,eb,l⟩
 ·subst ey;obtain⟨z,hd,vs,rel,dd⟩:=nq I.hok e;refine wpAny_in_of (kW ry) hd dd.mapOf ?_;rw[<- (rel.val k).isSome_eq,<- l];exact h _ (I.tok _)
 subst ey;cases (show u=Value.ref b from ry);obtain⟨z,hd,xs,rel,dd⟩:=nu I.hok e;refine wpAny_in_heap (Zg hu) (kY I.hok eb) hd dd ?_;have q:=(rel.val k).isSome_eq;rw[Option.isSome_map] at q;rw[<- q,<- l];exact h _ (I.tok _)
theorem Fi {Q:Value->Shared->Prop}(hu:A.units+1<cLine) (I:Inv X pins Z H s) (g:DGet H a y o) (ry:RelV y u) (h:∀s',Inv X pins Z H s'->Q (.bool (!o.isSome)) s') :
  wpAny (model X.prog X.w) A (compareOp .NotIn u (.ref a)) Q E s:=by
 rcases g with ⟨kvs,k,e,ey,l⟩ | ⟨kvs,k,b,e,ey,eb,l⟩
 ·subst ey;obtain⟨z,hd,vs,rel,dd⟩:=nq I.hok e;refine wpAny_notIn_of (kW ry) hd dd.mapOf ?_;rw[<- (rel.val k).isSome_eq,<- l];exact h _ (I.tok _)
 subst ey;cases (show u=Value.ref b from ry);obtain⟨z,hd,xs,rel,dd⟩:=nu I.hok e;refine wpAny_notIn_heap (Zg hu) (kY I.hok eb) hd dd ?_;have q:=(rel.val k).isSome_eq;rw[Option.isSome_map] at q;rw[<- q,<- l];exact h _ (I.tok _)
theorem j4 {h':Heap}{t':Nat}{ob:HO}(I:Inv X pins Z H s) (mu:Mut (H a)) (hs:Heap.SameBut a s.heap h') (he:∃q,h'.get? a=some q) (new:ObjOk X.prog X.w (upd H a ob) h' a ob) :
  Inv X pins Z (upd H a ob) { s with heap:=h',toks:=t'} :=
 I.write (x:=a) (e:=a) mu (.inl rfl) (fun b q hb z=>(hs.2 b hb).trans z) he new
theorem uf {P:Program}{w:World}{H':Hp}{h':Heap}{kvs:List (Key × V)}{vs:List (Key × Value)}(z:kvs.length<=sizeLine) (hd:(a==sysModules)=false) (rel:KV kvs vs) (dd:h'.DictOf (bx P w) a vs) :
  ObjOk P w H' h' a (.dK kvs):=⟨z,hd,vs,rel,dd⟩
theorem xX {H':Hp}{Q:Unit->Shared->Prop}(hu:A.units+1<cLine) (I:Inv X pins Z H s) (g:DPut H a y v H') (ry:RelV y u) (rv:RelV v r) (h:∀s',Inv X pins Z H' s'->Q () s') :
  wpAny (model X.prog X.w) A (setItem (.ref a) u r) Q E s:=by
 rcases g with ⟨kvs,k,e,ey,l,eH⟩ | ⟨kvs,k,b,e,ey,eb,l,eH⟩
 ·subst ey eH;obtain⟨z,hd,vs,rel,dd⟩:=qD I.hok e;have hz:vs.length<=sizeLine:=by rw[<- rel.length];exact z
  have hl:(putK kvs k v).length<=sizeLine:=by have:=eZ kvs k v;omega
  refine wpAny_setItem_pairs (hsz:=hz) (kW ry) dd fun h' dd' hs=>h _ ?_;have he:∃q,h'.get? a=some q:=let ⟨q,_,_,hq,_⟩:=dd';⟨q,hq⟩;exact j4 I (by rw[e];exact True.intro) hs he (uf hl hd (rel.put k rv) dd')
 subst ey eH;cases (show u=Value.ref b from ry);obtain⟨z,hd,xs,rel,dd⟩:=Rj I.hok e;have hz:xs.length<=sizeLine:=by rw[<- YC rel];exact z
 have hl:(putK kvs k v).length<=sizeLine:=by have:=eZ kvs k v;omega
 refine wpAny_setItem_heap (hsz:=hz) (Zg hu) (kY I.hok eb) dd fun h' dd' hs=>h _ ?_;obtain⟨q,es,ep,hq,h2,h3,h4,_,h5⟩:=dd';refine j4 I (by rw[e];exact True.intro) hs ⟨q,hq⟩ ⟨hl,hd,_,(rel.put k eb rv).keeps fun c ys ec=>?_,q,es,ep,hq,h2,h3,h4,h5⟩;rw[aO (Qs ec e (fun z=>nomatch z))];exact ec
variable {kvs:List (Key × V)}{k:Key}
end
def Fj (i:Expr):Prop:=∀ov iv,subscripted i false ov iv=operate [ov,iv] (getItem ov iv)
theorem Fl {prog:Program}{w:World}{A:Around}{E:Value->Shared->Prop}{s:Shared}{env:Env}{value slice:Expr}{pos:Pos}{T id:String}{Q:Value->Shared->Prop}
  (hl:typeLookup (.type T) "__getitem__"=pure (some (.builtin id))) (hs:Fj slice)
  (h:wpAny (model prog w) A (eval value env) (fun o s₁=>wpAny (model prog w) A (eval slice env) (fun i s₂=>s₂.TypeIs o T/\wpAny (model prog w) A (getItem o i) Q E s₂) E s₁) E s) :
  wpAny (model prog w) A (eval (.Subscript value slice pos) env) Q E s:=by
 refine Subscript_ (Xh h (fun o s₁ h₁=>Xh h₁ (fun i s₂ h₂=>?_) fun _ _ x=>x) fun _ _ x=>x);obtain⟨hT,h₂⟩:=h₂;unfold subscriptTail;refine b_ ?_;rw[getitemInPython_of_ne hT.not_modules];refine b_ (wpAny_specialOf hT hl ?_);have fin:wpAny (model prog w) A (subscripted slice false o i) (fun r s₃=>wpAny (model prog w) A (letTemporaryGo value o r >>= fun _=>pure r) Q E s₃) E s₂:=by rw[hs o i];exact wpAny_operating (Xh h₂ (fun r s₃ h₃=>b_ (wpAny_letTemporaryGo (m_ h₃))) fun _ _ x=>x)
 first
  |exact m_ (b_ fin)
  |exact b_ (m_ (b_ fin))
  |exact b_ fin
theorem qF {X:Cx}{pins:List (Addr × Obj)}{Z:St}{H:Hp}{s:Shared}{a:Addr}{y:V}{o:Option V}(I:Inv X pins Z H s) (g:DGet H a y o):s.TypeIs (.ref a) "dict":=by
 rcases g with ⟨kvs,k,e,_,_⟩ | ⟨kvs,k,b,e,_,_,_⟩
 ·obtain⟨_,_,vs,_,dd⟩:=nq I.hok e;exact dd.typeIs
 obtain⟨_,_,xs,_,dd⟩:=nu I.hok e;exact dd.typeIs
def Rk (td ty:TE):TE:=fun Z H Q=>td Z H fun x H1=>ty Z H1 fun y H2=>∃a v,x=.ref a/\DGet H2 a y (some v)/\Q v H2
def V1 (ty td:TE):TE:=fun Z H Q=>ty Z H fun y H1=>td Z H1 fun x H2=>∃a o,x=.ref a/\DGet H2 a y o/\Q (.bl o.isSome) H2
def Fo (ty td:TE):TE:=fun Z H Q=>ty Z H fun y H1=>td Z H1 fun x H2=>∃a o,x=.ref a/\DGet H2 a y o/\Q (.bl (!o.isSome)) H2
def Rm (td ty tv:TE):TS:=fun D Z H=>tv Z H fun v H1=>td Z H1 fun x H2=>ty Z H2 fun y H3=>∃a H4,x=.ref a/\DPut H3 a y v H4/\D.nx Z H4
section
variable {X:Cx}{o i e value:Expr}{pos pos' tpos:Pos}{td ty tv:TE}
theorem vK (hu:X.A.units+1<cLine) (ho:PE X o td) (hi:PE X i ty) (hs:Fj i):PE X (.Subscript o i pos) (Rk td ty):=by
 intro pins s Z H Q I h;refine Fl PySem.F.slot_dict_getitem.lookup hs (thn (ho pins s Z H _ I h) fun u s1 ⟨x,H1,I1,rx,q1⟩=>thn (hi pins s1 Z H1 _ I1 q1) fun iv s2 ⟨y,H2,I2,ry,a,v,ex,g,q2⟩=>?_);subst ex;obtain rfl:u=Value.ref a:=rx;exact⟨qF I2 g,xW hu I2 g ry fun w' s3 I3 rw'=>⟨v,H2,I3,rw',q2⟩⟩
theorem Lp (hu:X.A.units+1<cLine) (hi:PE X i ty) (ho:PE X o td):PC X .In i o (V1 ty td):=by
 intro pins s Z H Q I h;refine thn (hi pins s Z H _ I h) fun iv s1 ⟨y,H1,I1,ry,q1⟩=>thn (ho pins s1 Z H1 _ I1 q1) fun u s2 ⟨x,H2,I2,rx,a,ov,ex,g,q2⟩=>?_;subst ex;obtain rfl:u=Value.ref a:=rx;exact V0 hu I2 g ry fun s3 I3=>⟨.bl ov.isSome,H2,I3,rfl,q2⟩
theorem nA (hu:X.A.units+1<cLine) (hi:PE X i ty) (ho:PE X o td):PC X .NotIn i o (Fo ty td):=by
 intro pins s Z H Q I h;refine thn (hi pins s Z H _ I h) fun iv s1 ⟨y,H1,I1,ry,q1⟩=>thn (ho pins s1 Z H1 _ I1 q1) fun u s2 ⟨x,H2,I2,rx,a,ov,ex,g,q2⟩=>?_;subst ex;obtain rfl:u=Value.ref a:=rx;exact Fi hu I2 g ry fun s3 I3=>⟨.bl (!ov.isSome),H2,I3,rfl,q2⟩
theorem Fp (hu:X.A.units+1<cLine) (ho:PE X o td) (hi:PE X i ty) (hv:PE X value tv) (hs:swapsWith value (some (.Subscript o i pos')) pos.line X.env=pure false) :
  PS X (.Assign [.Subscript o i pos'] value pos) (Rm td ty tv):=by
 intro pins s Z H D I h;refine wpAny_Assign_Subscript (thn (hv pins s Z H _ I h) fun r s1 ⟨v,H1,I1,rv,q1⟩=>thn (ho pins s1 Z H1 _ I1 q1) fun u s2 ⟨x,H2,I2,rx,q2⟩=>thn (hi pins s2 Z H2 _ I2 q2) fun iv s3 ⟨y,H3,I3,ry,a,H4,ex,g,q3⟩=>?_) hs;subst ex;obtain rfl:u=Value.ref a:=rx;exact xX hu I3 g ry rv fun s4 I4=>⟨Z,H4,I4,q3⟩
end
theorem qG {P:Program}{w:World}{H:Hp}(h:Heap) (hb:sysModules<h.objs.size):ObjOk P w H (h.push { cls:=.type "dict",data:=.dict #[]}) h.objs.size (.dK []) :=
 ⟨WR _,W0.mpr (Ne.symm (C_ hb)),[],.nil,Heap.DictOf.new h⟩
def Lq:TE:=fun _ H Q=>∀p,H p=none->Q (.ref p) (upd H p (.dK []))
section
variable {X:Cx}{pos:Pos}
theorem qH:PE X (.Dict [] [] pos) Lq:=fun pins s Z H Q I h =>
 wpAny_Dict_empty ⟨.ref s.heap.objs.size,_,I.laid (a:=s.heap.objs.size) (o:=.dK []) (t':=s.toks) (fun _ _ q=>e_ _ q) (j_ _) (qG s.heap I.big),rfl,h _ (I.hok.fresh (j_ _))⟩
end
def ug:List (TE × TE)->St->Hp->(List (V × V)->Hp->Prop)->Prop
 |[],_,H,Q=>Q [] H
 | (tk,tv)::r,Z,H,Q=>tk Z H fun x H1=>tv Z H1 fun y H2=>ug r Z H2 fun ps H3=>Q ((x,y)::ps) H3
abbrev VV:List (V × V)->List (Value × Value)->Prop:=Paired fun p q=>RelV p.1 q.1/\RelV p.2 q.2
def PPs (X:Cx) (pos:Pos) (keys:List (Option Expr)) (values:List Expr) (trs:List (TE × TE)):Prop :=
 ∀(pins:List (Addr × Obj)) (s:Shared) (Z:St) (H:Hp) (Q:List (V × V)->Hp->Prop),Inv X pins Z H s->ug trs Z H Q ->
  wpAny (model X.prog X.w) X.A (evalPairs (pairTrees keys values X.env pos)) (fun vs s'=>∃ps H',Inv X pins Z H' s'/\VV ps vs/\Q ps H') X.xe s
theorem vL {X:Cx}{pos:Pos}:PPs X pos [] [] []:=fun pins s Z H Q I h=>pairTrees_nil_walk ⟨[],H,I,.nil,h⟩
theorem qI {X:Cx}{pos:Pos}{k v:Expr}{ks:List (Option Expr)}{vs:List Expr}{tk tv:TE}{trs:List (TE × TE)}(hk:PE X k tk) (hv:PE X v tv) (hr:PPs X pos ks vs trs) :
  PPs X pos (some k::ks) (v::vs) ((tk,tv)::trs):=fun pins s Z H Q I h =>
 pairTrees_cons_walk (thn (hk pins s Z H _ I h) fun u s1 ⟨x,H1,I1,rx,q1⟩=>thn (hv pins s1 Z H1 _ I1 q1) fun w2 s2 ⟨y,H2,I2,ry,q2⟩ =>
  thn (hr pins s2 Z H2 _ I2 q2) fun ws s3 ⟨ps,H3,I3,rel,q3⟩=>⟨(x,y)::ps,H3,I3,.cons ⟨rx,ry⟩ rel,q3⟩)
def iK (kvs more:List (Key × V)):List (Key × V):=more.foldl (fun acc kv=>putK acc kv.1 kv.2) kvs
theorem KV.merge:∀{more:List (Key × V)}{rs:List (Key × Value)}{kvs:List (Key × V)}{vs:List (Key × Value)},KV more rs->KV kvs vs->KV (iK kvs more) (merged vs rs):=by
 intro more rs kvs vs r;unfold KV at r;induction r generalizing kvs vs with
 |nil=>intro q;exact q
 |@cons p q ps qs h t ih =>
 intro r0;have e:KV (putK kvs p.1 p.2) (stored vs q.1 q.2):=by have:=r0.put p.1 h.2;rw[<- h.1];exact this
 exact ih e
theorem iC:∀(more kvs:List (Key × V)),(iK kvs more).length<=kvs.length+more.length
 |[],kvs=>by show kvs.length<=kvs.length+0;omega
 |p::r,kvs=>by
  have h1:=iC r (putK kvs p.1 p.2)
  have h2:=eZ kvs p.1 p.2
  show (iK (putK kvs p.1 p.2) r).length<=_
  rw[l_];omega
theorem kZ {P:Program}{w:World}:∀{kvs:List (Key × V)}{ws:List (Value × Value)},VV (kvs.map fun kv=>(kV kv.1,kv.2)) ws->∃rs,Carries (bx P w) ws rs/\KV kvs rs
 |[],_,r=>by rw[Xy] at r;cases r;exact⟨[],True.intro,.nil⟩
 |p::kvs,_,r=>by
  rw[I_] at r
  cases r with
  |@cons a b as bs h t =>
   obtain⟨rs,c,q⟩:=kZ (P:=P) (w:=w) t
   obtain⟨b1,b2⟩:=b
   exact⟨(p.1,b2)::rs,⟨kW h.1,rfl,c⟩,.cons ⟨rfl,h.2⟩ q⟩
def Rn (trs:List (TE × TE)):TE:=fun Z H Q=>∀p,H p=none->ug trs Z (upd H p (.dK [])) fun ps H2=>H2 p=some (.dK [])/\∃kvs:List (Key × V),ps=kvs.map (fun kv=>(kV kv.1,kv.2))/\kvs.length<=15/\Q (.ref p) (upd H2 p (.dK (iK [] kvs)))
theorem vM {X:Cx}{pos:Pos}{keys:List (Option Expr)}{values:List Expr}{trs:List (TE × TE)}(h:PPs X pos keys values trs) (hall:keys.all (·.isSome)=true) (hl:keys.length=values.length) (h0:keys≠[])
  (h15:keys.length<=15):PE X (.Dict keys values pos) (Rn trs):=by
 intro pins s Z H Q I q;have hn:=I.hok.fresh (j_ s.heap.objs.size);have I1:=I.laid (a:=s.heap.objs.size) (o:=.dK []) (h':=s.heap.push { cls:=.type "dict",data:=.dict #[]}) (t':=s.toks) (fun _ _ q=>e_ _ q) (j_ _) (qG s.heap I.big);refine wpAny_Dict_walk (knd:=bx X.prog X.w) hall hl h0 h15 (thn (h pins _ Z _ _ I1 (q _ hn)) fun ws s2 ⟨ps,H2,I2,rel,e,kvs,ep,lk,q2⟩=>?_);subst ep;obtain⟨rs,c,rk⟩:=kZ (P:=X.prog) (w:=X.w) rel;obtain⟨z,hd,vs0,r0,dd⟩:=qD I2.hok e;cases r0;refine⟨rs,c,dd,fun h' dd' hs=>⟨.ref s.heap.objs.size,_,?_,rfl,q2⟩⟩;have hz:(iK [] kvs).length<=sizeLine:=by have h1:=iC kvs [];rw[W3] at h1;rw[Zk];omega
 have he:∃q,h'.get? s.heap.objs.size=some q:=let ⟨q,_,_,hq,_⟩:=dd';⟨q,hq⟩;exact j4 I2 (by rw[e];exact True.intro) hs he (uf hz hd (rk.merge .nil) dd')
structure M2 (X:Cx) (o:Expr) (m:Str) (apos:Pos) (e f:Expr) (cpos:Pos):Prop where
 base:attributeBase o m X.env (eval o X.env)=eval o X.env
 few:((backTo cpos (starEach [e,f] X.env)).all (fun x=>!x.1)&&(backToKw cpos (keywordEach [] X.env)).all (fun x=>x.1.isSome)
  && decide (([e,f]:List Expr).length+([]:List Keyword).length+(if ([]:List Keyword).isEmpty then 0 else 1)<30))=true
 line:(apos.endLine==cpos.line)=true
 trees:backTo cpos (starEach [e,f] X.env)=[(false,eval e X.env),(false,eval f X.env)]
def IsD (H:Hp) (a:Addr):Prop:=(∃kvs,Rd H a (.dK kvs))\/∃kvs,Rd H a (.dT kvs)
theorem zq {X:Cx}{pins:List (Addr × Obj)}{Z:St}{H:Hp}{s:Shared}{a:Addr}(I:Inv X pins Z H s) (d:IsD H a) :
  s.TypeIs (.ref a) "dict"/\(∀b,Value.ref a=.ref b->∃ob,s.heap.get? b=some ob/\ob.dict=none)/\(a==sysModules)=false:=by
 rcases d with ⟨kvs,e⟩ | ⟨kvs,e⟩
 ·obtain⟨_,hd,vs,_,dd⟩:=nq I.hok e;refine⟨dd.typeIs,fun b q=>?_,hd⟩;cases q;obtain⟨ob,_,_,h1,h2,_⟩:=dd;exact⟨ob,h1,h2.2.1⟩
 obtain⟨_,hd,xs,_,dd⟩:=nu I.hok e;refine⟨dd.typeIs,fun b q=>?_,hd⟩;cases q;obtain⟨ob,_,_,h1,h2,_⟩:=dd;exact⟨ob,h1,h2.2.1⟩
section
variable {X:Cx}{pins:List (Addr × Obj)}{Z:St}{H:Hp}{s:Shared}{a:Addr}{y d:V}{u r:Value}{o:Option V}{A:Around}{E:Value->Shared->Prop}
end
section
variable {X:Cx}{o e f:Expr}{apos cpos:Pos}{td ty tx:TE}
variable {pins:List (Addr × Obj)}{Z:St}{H:Hp}{s:Shared}{a:Addr}{kvs:List (Key × V)}{A:Around}{E:Value->Shared->Prop}
variable {y:V}{u:Value}
end
end L2
namespace Att
open PySem PySem.W PySem.Calls PyProof.Rows
theorem jX {P:Params}{h:Heap}:∀(ns:List Int) (vs:List Value),WellAll P h vs (ns.map WData.int)->IntsAre vs ns:=by
 intro ns;induction ns with
 |nil=>intro vs w;rw[Xy] at w;cases w;exact .nil
 |cons n ns ih =>
 intro vs w;rw[I_] at w;cases w with
 |cons a b =>
 cases a;exact .cons _ _ (ih _ b)
theorem xY {l:OpenLaw}{n:Nat}(hn:l.most=some n) {P:Params}{h:Heap}{args:List WData}{vals:List Value}
  (hpre:l.row.toRowW.claim.pre args=true) (hwl:WellAll P h vals args) :
  ∃a vs ns,vals=[Value.ref a]/\args=[WData.list (ns.map WData.int)]/\h.get? a=some { cls:=.type "list",data:=.seq vs.toArray}/\IntsAre vs ns/\ns.length<=n:=by
 have hsh:WShape.hasAll [] args [.list .int]=true:=(pre_splitW hpre).1;have hc:l.pre.holds [] { args:=args}=true:=(pre_splitW hpre).2;obtain⟨d,r,rfl,h1,h2⟩:=hasAllW_cons hsh;obtain rfl:=hasAllW_nil h2;obtain⟨xs,rfl,h3⟩:=hasW_list h1;obtain⟨ns,rfl⟩:=items_int h3;have hlen:ns.length<=n:=by
  unfold OpenLaw.pre at hc;have h4:(WTm.not (.lt (.lit (.int (n:Int))) (.len (.arg 0)))).holds [] { args:=[.list (ns.map .int)]}=true:=by have h4:=(holds_andW hc).1;rw[hn] at h4;exact h4
  have h5:=condW_of h4 (w_not (w_lt w_lit (w_len_list (w_arg rfl))));rw[h_] at h5;refine Nat.le_of_not_lt fun q=>?_;have q':(n:Int)<((ns.length:Nat):Int):=by omega
  first
   | (rw[L_ q'] at h5;exact absurd h5 (by decide))
   | (simp at h5;omega)
 cases hwl with
 |cons w1 w2 =>
 cases w2;cases w1 with
 |list ho hall=>exact⟨_,_,ns,rfl,rfl,ho,jX ns _ hall,hlen⟩
theorem xZ (l:OpenLaw) (args:List WData):l.row.toRowW.claim.post args (.bool true) args=true :=
 postW_of (r:=l.row.toRowW) (X:=(true==true))
  (show WShape.has [] (.bool true) .bool=true by first | rfl | decide | simp [WShape.has,WShape.arms,WShape.armsAll])
  (show (WTm.eq .res (.lit (.bool true))).value [] { args:=args,res:=some (.bool true),after:=args}=some (.bool (true==true)) from w_eq_bool (w_res rfl) w_lit) rfl
theorem attach_call {l:OpenLaw}{n:Nat}{q:Program}{loose:List Str}{XP:(Str->Option Value)->Heap->Prop}{YP:World->Heap->Prop}{d:DefRec}
  (hn:l.most=some n) (hdf:d.params.defaults=[])
  (call:∀(w:World) (s₀ s₁:Shared) (mg mb:Str->Option Value) (fa:Addr) (o:Obj) (pm cd doc:Value) (a:Addr) (vs:List Value) (ns:List Int),
   Ground q loose [] XP w s₀ mg mb s₁.heap->YP w s₁.heap ->
   s₁.heap.get? fa=some o->o.data=.func (docDef d.name d.params d.body d.scope pm cd doc)->s₁.heap.CodeRec cd d.name->mg d.name=some (.ref fa) ->
   s₁.heap.get? a=some { cls:=.type "list",data:=.seq vs.toArray}->IntsAre vs ns->ns.length<=n->s₁.gens=#[] ->
   codeAny (model l.prog w) callerA (.call (.ref fa) ⟨[.ref a],[]⟩) (fun r s'=>r=.ok (.ret (.bool true))/\OldK s₁.heap s'.heap/\s'.os=s₁.os/\AllBare s'.gens) s₁) :
  WalkO q loose XP YP l.row.toRowW d [] (fun f vs=>PySem.call f vs):=by
 intro w s₀ s₁ mg mb G Y fa o pm cd doc dV kV ho hd hcd hD hmg hg args vals as hpre hlay hrd hwl hlo;obtain rfl:dV=.none:=Dflts.none hD hdf;obtain rfl:kV=.none:=Dflts.noKw hD;obtain⟨a,vs,ns,rfl,rfl,hobj,hints,hlen⟩:=xY hn hpre hwl;refine enter_call (codeAny_mono (call w s₀ s₁ mg mb fa o pm cd doc a vs ns G Y ho (fd_plain hd) hcd hmg hobj hints hlen hg) fun r s' hq=>?_);obtain⟨rfl,h2,h3,h4⟩:=hq;exact⟨.inl ⟨.bool true,.bool true,[],rfl,fun _=>rfl,.bool true,xZ l _,fun _=>⟨List.Pairwise.nil,fun _ hm=>(nomatch hm)⟩⟩,h2,h3,h4⟩
section
variable {prog:Program}{w:World}{A:Around}{E:Value->Shared->Prop}{s:Shared}{K:Frag}
def ledger (h : Heap) (L d : Addr) : List (Addr × Obj):=(List.range h.objs.size).filterMap fun a => if a = L \/ a = d then none else (h.get? a).map fun o => (a,o)
end
end Att
namespace L2
theorem nF:∀{vs:List Value}{ns:List Int},IntsAre vs ns->Vals (ns.map V.int) vs
 |_,_,.nil=>.nil
 |_,_,.cons n t h=>.cons ⟨t,rfl⟩ (nF h)
def Only (H:Hp):Prop:=∀b,H b=none\/∃o xs,H b=some (.frz o (.lst xs))
theorem zr {P:Program}{w:World}{K:Frag}{mg mb:Str->Option Value}{CX:CXT}{k:Nat}{fa a:Addr}{fd:FuncData}{x:Str}{sp:Sp}{s₁:Shared}{vs:List Value}{ns:List Int}
  (KX:K.In s₁.heap) (hns:s₁.heap.Ns mainGlobals mg) (hb:s₁.heap.Ns builtinsNs mb) (hbb:∀x:Str,x≠"__name__"->mb x=bootBuiltins x) (hlim:s₁.heap.NoLimit) (hg:s₁.gens=#[])
  (ha:s₁.heap.get? a=some { cls:=.type "list",data:=.seq vs.toArray}) (hi:IntsAre vs ns) (hl:ns.length<=sizeLine) (hr:Room k callerA)
  (F:∀base:Heap,K.In base->base.Ns mainGlobals mg->FnOk P w K mg base CX k fa fd [x] sp) (hbind:∀(s:Shared) (u:Value),BindsTo s fd ⟨[u],[]⟩ [(x,u)])
  (hsp:∀H:Hp,Only H->SqL K H a (ns.map V.int)->sp [.ref a] H (fun v _=>v=.bl true) fun _ _ _=>False)
  (hCX:∀H e s',CX [] H s₁ (fun _ _ _=>False) e s'->False) :
  codeAny (model P w) callerA (.call (.ref fa) ⟨[.ref a],[]⟩) (fun r s'=>r=.ok (.ret (.bool true))/\OldK s₁.heap s'.heap/\s'.os=s₁.os/\AllBare s'.gens) s₁:=by
 have rv:=nF hi;have lenV:=hi.length
 have core:∀H:Hp,Only H->SqL K H a (ns.map V.int)->HOk P w H s₁.heap->(∀b,H b≠none->b=a)->(H a≠none->K.lookup a=none) ->
   codeAny (model P w) callerA (.call (.ref fa) ⟨[.ref a],[]⟩) (fun r s'=>r=.ok (.ret (.bool true))/\OldK s₁.heap s'.heap/\s'.os=s₁.os/\AllBare s'.gens) s₁:=by
  intro H hO hS hok hA hK
  have base_of:∀{b:Addr} {o:Obj},s₁.heap.get? b=some o->H b=none->(oJ s₁.heap H).get? b=some o:=fun e n=>yO e n
  have noA:∀{b:Addr} {o:Obj} {es:Array DictEntry} {ep:Nat},s₁.heap.get? b=some o->o.data=.dict es ep->H b=none:=fun {b o es ep} e d=>by
   cases q:H b with
   |none=>rfl
   |some u =>
    have e':b=a:=hA b (by rw[q];simp)
    subst e'
    rw[ha] at e;cases e
    have d':Data.seq vs.toArray _=Data.dict es ep:=d
    cases d'
  have nsK:∀{b:Addr} {m:Str->Option Value},s₁.heap.Ns b m->(oJ s₁.heap H).Ns b m:=fun {b m} ⟨o,es,ep,e,d,r⟩=>⟨o,es,ep,base_of e (noA e d),d,r⟩
  have hKb:K.In (oJ s₁.heap H):=fun b o e=>base_of (KX b o e) (by
   cases q:H b with
   |none=>rfl
   |some u =>
    have e':b=a:=hA b (by rw[q];simp)
    subst e'
    rw[hK (by rw[q];simp)] at e;cases e)
  have hM:Mod K mg (oJ s₁.heap H):=⟨hKb,nsK hns,⟨mb,nsK hb,hbb⟩,let ⟨mc,h1,h2⟩:=hlim;⟨mc,nsK h1,h2⟩⟩
  have e0:Env0 P w K mg (oJ s₁.heap H) callerA [] s₁ H:=⟨rfl,hM,fun b o e=>Ef e,Zn (xH _ _),trivial,fun b hb=>absurd (show b∈([]:List Addr) from hb) (by simp),hok,.of_eq hg⟩
  refine codeAny_mono ((F _ hKb (nsK hns)).run callerA [] s₁ H ⟨[.ref a],[]⟩ [.ref a] [.ref a] _ _ hr e0 (hbind s₁ (.ref a)) (.cons rfl .nil) (hsp H hO hS)) fun r s' h=>?_
  cases r with
  |error e=>exact (hCX H e s' h).elim
  |ok fl =>
   cases fl with
   |next=>exact False.elim h
   |brk=>exact False.elim h
   |cont=>exact False.elim h
   |ret u =>
    obtain⟨v,H',os,bare,un,hok',r',q⟩:=h
    have q':v=.bl true:=q
    subst q'
    obtain rfl:u=Value.bool true:=r'
    refine⟨rfl,OldK.of_keep fun b o e=>?_,os,bare⟩
    cases q:H b with
    |none=>exact un.keep b o e q (by intro z;exact absurd (show b∈([]:List Addr) from z) (by simp)) (by simp)
    |some u =>
     rcases hO b with z | ⟨ob,xs,z⟩
     ·
      rw[q] at z;cases z
     ·
      have z2:=un.frzs b ob _ z
      obtain⟨e1,_⟩:=hok b _ z
      obtain⟨e2,_⟩:=hok' b _ z2
      rw[e] at e1;cases e1
      exact e2
 cases hk:K.lookup a with
 |some o =>
  have e:=KX a o hk
  rw[ha] at e
  cases e
  refine core (fun _=>none) (fun _=>.inl rfl) (.inr ⟨_,vs.toArray,_,hk,rfl,rfl,rfl,by rw[i_,lenV];exact hl,by simpa using rv⟩) (fun b u z=>by have z':(none:Option HO)=some u:=z;cases z') (fun b z=>absurd rfl z) fun z=>absurd rfl z
 |none =>
 refine core (fun b=>if b=a then some (.frz { cls:=.type "list",data:=.seq vs.toArray} (.lst (ns.map V.int))) else none) (fun b=>?_) (.inl (.inr ⟨{ cls:=.type "list",data:=.seq vs.toArray},if_pos rfl⟩)) (fun b u z=>?_) (fun b z=>?_) fun _=>hk
 ·by_cases hb:b=a
  ·exact .inr ⟨_,_,if_pos hb⟩
  exact .inl (if_neg hb)
 ·by_cases hb:b=a
  ·have z':=(if_pos hb).symm.trans z;cases z';subst hb;exact⟨ha,by rw[h_];exact hl,vs,_,rv,ha⟩
  have z':=(if_neg hb).symm.trans z;cases z'
 by_cases hb:b=a
 ·exact hb
 exact absurd (if_neg hb) z
abbrev KOf {K:Frag}{h:Heap}(_:K.In h):Frag:=K
theorem walk_of {l:PySem.W.OpenLaw}{n k:Nat}{q:Program}{loose:List Str}{XP:(Str->Option Value)->Heap->Prop}{YP:World->Heap->Prop}{d:DefRec}{K:Params->Frag}{CX:World->CXT}{sp:World->Sp}{x:Str}
  (hn:l.most=some n) (hn2:n<=sizeLine) (hdf:d.params.defaults=[]) (hr:Room k callerA)
  (hY:∀(w:World) (h:Heap),YP w h->(K w.params).In h)
  (F:∀(w:World) (mg:Str->Option Value) (fa:Addr) (h:Heap),(K w.params).In h->h.Ns mainGlobals mg->mg d.name=some (.ref fa) ->
   ∃fd:FuncData,(∀(s:Shared) (u:Value),BindsTo s fd ⟨[u],[]⟩ [(x,u)]) /\
    ∀base:Heap,(K w.params).In base->base.Ns mainGlobals mg->FnOk l.prog w (K w.params) mg base (CX w) k fa fd [x] (sp w))
  (hsp:∀(w:World) (H:Hp) (a:Addr) (ns:List Int),ns.length<=n->Only H->SqL (K w.params) H a (ns.map V.int)->sp w [.ref a] H (fun v _=>v=.bl true) fun _ _ _=>False)
  (hCX:∀(w:World) (H:Hp) (s:Shared) (e:Value) (s':Shared),CX w [] H s (fun _ _ _=>False) e s'->False) :
  PySem.W.WalkO q loose XP YP l.row.toRowW d [] (fun f vs=>PySem.call f vs):=by
 refine Att.attach_call hn hdf fun w s₀ s₁ mg mb fa o pm cd doc a vs ns G Y ho hd hcd hmg hobj hints hlen hg=>?_;have KX:=hY w _ Y;obtain⟨fd,hb,hF⟩:=F w mg fa _ KX G.T.g hmg;exact zr KX G.T.g G.T.b G.T.builtins G.T.nolimit hg hobj hints (U_ hlen hn2) hr hF hb (fun H hO hS=>hsp w H a ns hlen hO hS) fun H e s'=>hCX w H s₁ e s'
end L2
/- THE LAST THEOREM (shape;LID,My.* are yours):
  My.Adr: a structure of the addresses that your layer names (classes,functions);My.Txt K t: a structure (Prop) of the equations over K;
  My.txt_mk:{K} {implicit addresses ..} (e1:nsIn K mainGlobals "law"=some (some (.ref f))) (e2:K.lookup f=some ⟨oc,od,.func (fnOf "law" "law" params body scope dV kV doc pm an cdv ct),sl⟩) (e3:codeIn K cdv "law"=true) .. : ∃t,My.Txt K t
set_option maxRecDepth 100000 in
set_option maxHeartbeats 0 in
theorem PySem.Challenge.cw_LID_holds : PySem.Challenge.rw_LID.Holds := by
 w_on;o_law;k_head;(case hw=>w_witness2)
 k_fill
 refine L2.walk_of (l:=PySem.Challenge.rw_LID) (n:=63) (k:=40) (x:="script") (CX:=fun w=>..) (sp:=fun _=>My.sp_law) rfl (by decide) rfl ⟨rfl,by decide,by decide⟩ (fun w h Y=>PySem.W.kIn_of Y) ?F ?S ?C
 case F =>
  intro w mg fa h KX G hmg
  have T:∃t,My.Txt (L2.KOf KX) t:=by
   dsimp only[L2.KOf]                          -- K must stand as «<heap const> w.params» for k_is
   refine' My.txt_mk ?e1 ?e2 ?e3 ..
   (case e1=>PySem.W.k_is)                    -- in the order: a name->its address->its object->its parts
   (case e2=>PySem.W.k_is)
   ..
  obtain⟨t,T⟩:=T
  have e0:=hmg.symm.trans (mg_of KX G T.law)
  cases e0                                       -- fa is the law's own address
  exact⟨_,fun s u=>.of_eq rfl,fun base kb nb=>My.law_fn T kb nb⟩     -- if «.of_eq rfl» comes too early: refine'⟨_,?b,fun base kb nb=>My.law_fn T kb nb⟩;exact fun s u=>.of_eq rfl
 case S=>exact fun w H a ns hl hO hS=>..
 case C=>exact ..
(the tactic k_is has no namespace: write k_is) -/
namespace L2
abbrev CX0:CXT:=fun _ _ _ _ _ _=>False
abbrev E0:XK:=fun _ _ _=>False
theorem zu {X:Cx}:jx CX0 X E0:=fun _ _ _ _ _ _ _ h=>h.elim
structure Fun (K:Frag) (x qual:Str) (st:Stmt) (f:Addr) (fd:FuncData):Prop where
 ex:∃(oc:Value) (od:Option Addr) (kV doc pm:Value) (an:Option Addr) (cdv ct:Value) (osl:Array (Option Value)),
  fd=fnOf x qual (bR st) (bD st) (aB st) .none kV doc pm an cdv ct/\K.lookup f=some ⟨oc,od,.func fd,osl⟩/\codeIn K cdv qual=true
 kp:keepIn K (.ref f)=true
section
variable {P:Program}{w:World}{K:Frag}{mg:Str->Option Value}{base:Heap}
theorem Fun.ok {x qual:Str}{st:Stmt}{f:Addr}{fd:FuncData}{N ps:List Str}{k:Nat}{sp:Sp}(F:Fun K x qual st f fd) (S:FnScope N ps (aB st)) (len:∀vs H Q E,sp vs H Q E->vs.length=ps.length)
  (hbody:∀(cdv:Value) (A:Around) (outer:List Env) (s:Shared) (H:Hp) (vs:List V) (Q:VK) (E:XK),Room k (A.deeper (envOfC qual (aB st) s.heap.objs.size f cdv))->sp vs H Q E ->
   ∃t,PSs (tX CX0 P w K mg base N qual (aB st) f cdv A outer s H E).nox (bD st) t/\t { nx:=fun _ H'=>Q .non H',rt:=Q} (start N vs) H):FnOk P w K mg base CX0 (k+1) f fd ps sp:=by
 obtain⟨oc,od,kV,doc,pm,an,cdv,ct,osl,rfl,lk,hcd⟩:=F.ex;refine Q4 lk hcd S len fun A outer s H vs Q E hr hsp=>?_;obtain⟨t,h,q⟩:=hbody cdv A outer s H vs Q E hr hsp;exact⟨t,h.nox,q⟩
theorem Fun.binds {x qual:Str}{st:Stmt}{f:Addr}{fd:FuncData}{ps:List Str}(F:Fun K x qual st f fd)
  (h:∀(kV doc pm:Value) (an:Option Addr) (cdv ct:Value) (us:List Value),us.length=ps.length->bindArgs (fnOf x qual (bR st) (bD st) (aB st) .none kV doc pm an cdv ct) ⟨us,[]⟩=pure (ps.zip us)):Binds K fd ps []:=by
 obtain⟨oc,od,kV,doc,pm,an,cdv,ct,osl,rfl,lk,hcd⟩:=F.ex;exact .all (h kV doc pm an cdv ct)
theorem lq {x qual:Str}{st:Stmt}{f:Addr}{oc:Value}{od an:Option Addr}{osl:Array (Option Value)}{kV doc pm cdv ct:Value}(l:K.lookup f=some ⟨oc,od,.func (fnOf x qual (bR st) (bD st) (aB st) .none kV doc pm an cdv ct),osl⟩)
  (c:codeIn K cdv qual=true) (k:keepIn K (.ref f)=true):Fun K x qual st f (fnOf x qual (bR st) (bD st) (aB st) .none kV doc pm an cdv ct):=⟨⟨oc,od,kV,doc,pm,an,cdv,ct,osl,rfl,l,c⟩,k⟩
variable {X:Cx}
theorem pv (i:Nat) {x:Str}{pos:Pos}(hN:X.N[i]?=some x:=by rfl) (hv:Vis X.env.scope x:=by first | exact Or.inl rfl | exact Or.inr (Or.inl rfl) | exact Or.inr (Or.inr rfl)) (hd:(x==("__debug__":Str))=false:=by decide)
  (hcd:(x==("__classdict__":Str))=false:=by decide):PE X (.Name x pos) (Qt i):=Km hN hv hd hcd
end
theorem V2 {A B:Prop}(h:B):if false=true then A else B:=by
 rw[if_neg p_];exact h
theorem V3 {A B:Prop}(h:A):if true=true then A else B:=by
 rw[if_pos rfl];exact h
section
variable {κ:Type} [DecidableEq κ]
theorem gm:∀{l:List κ}{k:κ},l.Nodup->¬k∈l->(l++[k]).Nodup
 |[],k,_,_=>by simp
 |a::r,k,h,hk=>by
  obtain⟨h1,h2⟩:=W8.mp h
  show (a::(r++[k])).Nodup
  refine W8.mpr ⟨fun m=>?_,gm h2 fun m=>hk (n_.mpr (Or.inr m))⟩
  rcases G_.mp m with q | q
  ·
   exact h1 q
  ·
   exact hk (n_.mpr (Or.inl (q_.mp q).symm))
end
theorem jM {F:Str × NameKind->Str × NameKind}(hF:∀p,(F p).1=p.1) {x:Str}{k:NameKind}:∀{names:List (Str × NameKind)},names.lookup x=some k->(names.map F).lookup x=some (F (x,k)).2
 |[],h=>by cases h
 | (m,q)::r,h=>by
  have hm:=hF (m,q)
  rw[I_,show F (m,q)=(m,(F (m,q)).2) from Prod.ext hm rfl]
  by_cases e:x=m
  ·
   subst e
   rw[List.lookup_cons_self] at h ⊢
   cases h
   rfl
  ·
   have eb:(x==m)=false:=W0.mpr e
   simp only[List.lookup,eb] at h ⊢
   exact jM hF h
theorem iy {env:Env}{x:Str}{names:List (Str × NameKind)}(h:names.lookup x=some .free) :
  (names.map fun (n,k)=>if (k==NameKind.free&&env.scope.kind==.function&&env.kindOf n==some .cell) then (n,NameKind.cell) else (n,k)).lookup x=some .cell \/
  (names.map fun (n,k)=>if (k==NameKind.free&&env.scope.kind==.function&&env.kindOf n==some .cell) then (n,NameKind.cell) else (n,k)).lookup x=some .free:=by
 rw[jM (F:=fun (n,k)=>if (k==NameKind.free&&env.scope.kind==.function&&env.kindOf n==some .cell) then (n,NameKind.cell) else (n,k)) (fun p=>by dsimp only;split <;> rfl) h];dsimp only;split
 ·exact .inl rfl
 exact .inr rfl
theorem lr {scope:Scope}{env:Env}(h:∀y∈scope.names,y.2=.free->∃c,env.cells.lookup y.1=some c) :
  ∃cl,closureFor scope env=pure cl/\(∀x c,cl.lookup x=some c->env.cells.lookup x=some c)/\∀y∈scope.names,y.2=.free->∃c,cl.lookup y.1=some c:=by
 have key:∀(names:List (Str × NameKind)) (cs:List (Str × Addr)),(∀y∈names,y.2=.free->∃c,env.cells.lookup y.1=some c)->(∀x c,cs.lookup x=some c->env.cells.lookup x=some c) ->
   ∃cl:List (Str × Addr),(forIn names cs (fun (x:Str × NameKind) (r:List (Str × Addr))=>(do
    if x.2==.free then do
     let a <- cellOf env x.1
     pure (ForInStep.yield ((x.1,a)::r))
    else pure (ForInStep.yield r):Sem (ForInStep (List (Str × Addr))))):Sem (List (Str × Addr)))=pure cl/\(∀x c,cl.lookup x=some c->env.cells.lookup x=some c) /\
    (∀x c,cs.lookup x=some c->∃c',cl.lookup x=some c')/\∀y∈names,y.2=.free->∃c,cl.lookup y.1=some c:=by
  intro names
  induction names with
  |nil=>intro cs _ hc;exact⟨cs,rfl,hc,fun x c e=>⟨c,e⟩,fun y hy=>nomatch hy⟩
  |cons y r ih =>
   intro cs hn hc
   obtain⟨n,k⟩:=y
   by_cases hk:k=.free
   ·
    subst hk
    obtain⟨c,ec⟩:=hn (n,.free) k_ rfl
    have hcell:cellOf env n=pure c:=by unfold cellOf;rw[ec]
    obtain⟨cl,e,h1,h2,h3⟩:=ih ((n,c)::cs) (fun y hy=>hn y (t_ _ hy)) (fun x c' q=>by
     simp only[Xr] at q
     cases hx:x==n with
     |true=>rw[hx] at q;cases q;rw[eq_of_beq hx];exact ec
     |false=>rw[hx] at q;exact hc x c' q)
    refine⟨cl,?_,h1,fun x c' q=>?_,fun y hy hf=>?_⟩
    ·
     rw[List.forIn_cons]
     show ((if (NameKind.free==NameKind.free)=true then (cellOf env n >>= fun a=>pure (ForInStep.yield ((n,a)::cs))) else pure (ForInStep.yield cs)) >>= _)=_
     rw[hcell]
     exact e
    ·
     cases hx:x==n with
     |true=>exact h2 x c (by simp only[Xr,hx])
     |false=>exact h2 x c' (by simp only[Xr,hx];exact q)
    ·
     rcases n_.mp hy with rfl | hy
     ·
      exact h2 n c (by simp [Xr])
     ·
      exact h3 y hy hf
   ·
    obtain⟨cl,e,h1,h2,h3⟩:=ih cs (fun y hy=>hn y (t_ _ hy)) hc
    have hb:(k==NameKind.free)=false:=by simpa using hk
    refine⟨cl,?_,h1,h2,fun y hy hf=>?_⟩
    ·
     rw[List.forIn_cons]
     show ((if (k==NameKind.free)=true then (cellOf env n >>= fun a=>pure (ForInStep.yield ((n,a)::cs))) else pure (ForInStep.yield cs)) >>= _)=_
     rw[hb]
     exact e
    ·
     rcases n_.mp hy with rfl | hy
     ·
      exact absurd hf hk
     ·
      exact h3 y hy hf
 obtain⟨cl,e,h1,_,h3⟩:=key scope.names [] h (fun x c q=>by simp at q);refine⟨cl,?_,h1,h3⟩;unfold closureFor;exact WK (fun m=>m >>= fun r=>pure r) e
def bF (X:Cx) (N':List Str) (scope:Scope) (cl:List (Str × Addr)) (pins:List (Addr × Obj)) (s:Shared) (H:Hp) (C:Addr) (fp:List Addr):Cx where
 prog:=X.prog
 w:=X.w
 K:=X.K
 mg:=X.mg
 base:=X.base
 A:=X.A
 N:=N'
 s₀:=s
 H₀:=H
 env:=compEnvC scope cl C X.env
 outer:=X.stack
 stack:=X.stack
 ex:=fp
 fn:=fun x=>scope.names.lookup x==some .cell
 calm:=X.calm
 pn:=X.pn++pins
 xe:=fun _ _=>False
def PIf (X:Cx) (ifs:List Expr) (t:TT):Prop :=
 ∀(pins:List (Addr × Obj)) (s:Shared) (Z:St) (H:Hp) (Q:Bool->Hp->Prop),Inv X pins Z H s->t Z H Q ->
  wpAny (model X.prog X.w) X.A (forIn ifs true fun c r=>if r=true then do let ok <- isTrue c X.env (eval c X.env);pure (ForInStep.yield ok) else pure (ForInStep.yield r)) (TP X pins Z Q) X.xe s
def V4:TT:=fun _ H Q=>Q true H
theorem Fq {X:Cx}:PIf X [] V4:=fun _ _ _ H _ I h=>wpAny_tests_nil ⟨H,I,h⟩
theorem Ft {X:Cx}{c:Expr}{t:TT}(h:PT X c t):PIf X [c] t:=fun pins s Z H Q I hq=>wpAny_tests_one (h pins s Z H Q I hq)
section
variable {prog:Program}{w:World}{A:Around}{R:Result->Shared->Prop}{s:Shared}
theorem oV {elt target iter:Expr}{ifs:List Expr}{scope:Scope}{pos:Pos}{it acc:Value}{env:Env}(I:Nat->Shared->Prop)
  (turn:∀n s,I n s->wpAny (model prog w) A (pyNext it) (fun r s₁=>match r with | .none=>R (.ok .next) s₁ | .some v=>wpAny (model prog w) A (letOwnedTupleGo target it v) (fun _ s₁'=>wpAny (model prog w) A (assign target env v) (fun _ s₂=>wpAny (model prog w) A (forIn ifs true fun c r=>if r=true then do let ok <- isTrue c env (eval c env);pure (ForInStep.yield ok) else pure (ForInStep.yield r)) (fun ok s₃=>if ok=true then wpAny (model prog w) A (eval elt env) (fun x s₄=>wpAny (model prog w) A (call (.builtin "list.append") [acc,x]) (fun _ s₅=>∃m,m<n/\I m s₅) (fun _ _=>False) s₄) (fun _ _=>False) s₃ else ∃m,m<n/\I m s₃) (fun _ _=>False) s₂) (fun _ _=>False) s₁') (fun _ _=>False) s₁) (fun _ _=>False) s)
  (n:Nat) (h:I n s):codeAny (model prog w) A (.compLoop (.ListComp elt [⟨target,iter,ifs,0⟩] scope pos) 0 it acc env) R s:=by
 refine codeAny_loop rfl I (fun j s₀ hI=>?_) n h;show wpAny _ A ((compTurn (.ListComp elt [⟨target,iter,ifs,0⟩] scope pos) 0 it acc env).onRaise (fun x=>do noteFrame x env;theTreesLotGoes x)) _ _ s₀;refine wpAny_noted ?_;rw[compTurn_list];refine b_ (wpAny_standAt (b_ (Xh (turn j s₀ hI) (fun r s₁ h₁=>?_) fun _ _ h'=>h'.elim)));cases r with
 |none=>exact m_ h₁
 |some v =>
 refine b_ (Xh h₁ (fun _ s₁' h₁'=>?_) fun _ _ h'=>h'.elim);refine b_ (Xh h₁' (fun _ s₂ h₂=>b_ (Xh h₂ (fun ok s₃ h₃=>?_) fun _ _ h'=>h'.elim)) fun _ _ h'=>h'.elim);cases ok with
 |false=>exact (m_ (And.intro rfl h₃))
 |true =>
 exact b_ (b_ (Xh h₃ (fun x s₄ h₄=>b_ (Xh h₄ (fun _ s₅ h₅=>m_ (m_ ⟨rfl,h₅⟩)) fun _ _ h'=>h'.elim)) fun _ _ h'=>h'.elim))
end
def vN (J:It) (g:TG) (tt:TT) (te:TE) (fin:List V->Hp->Prop) (Z₀:St) (H₁:Hp):Prop :=
 ∃W:Nat->Nat->List V->St->Hp->Prop,(∃m,W 0 m [] Z₀ H₁)/\∀i m ys Z H,W i m ys Z H ->
  (J.stop i H/\ys.length<=sizeLine/\fin ys H) \/
  (J.go i H/\∀x H',J.yld i H x H'->g x Z H' fun Z2 H2=>tt Z2 H2 fun b H3=>if b=true then te Z2 H3 fun y H4=>ys.length<sizeLine/\∃m',m'<m/\W (i+1) m' (ys++[y]) Z2 H4 else ∃m',m'<m/\W (i+1) m' ys Z2 H3)
def mK (nt:Nat) (cap:List Nat) (Z:St):St:=List.replicate nt none++cap.map fun j=>(Z[j]?).getD none
structure CompSc (X:Cx) (N':List Str) (nt:Nat) (cap:List Nat) (scope:Scope):Prop where
 kind:scope.kind=.function
 cells:∀y∈scope.names,y.2=.cell->scope.names.lookup y.1=some .cell
 names:∀x∈scope.names,x.2=.local->scope.names.lookup x.1=some .local
 free:∀y∈scope.names,y.2=.free->X.env.kindOf y.1=some .cell\/X.env.kindOf y.1=some .free
 len:N'.length=nt+cap.length
 caps:∀(j:Nat) (x:Str),N'[nt+j]?=some x->∃i,cap[j]?=some i/\X.N[i]?=some x/\scope.names.lookup x=some .free
theorem jY {l:Addr}{its:List Value}{n:Nat}{u:Value}{P:Program}{w:World}{A:Around}{E:Value->Shared->Prop}{s:Shared}{Q:Value->Shared->Prop}
  (e:s.heap.get? l=some { cls:=.type "list",data:=.seq its.toArray n}) (hz:its.length<sizeLine)
  (h:∀h' n',h'.get? l=some { cls:=.type "list",data:=.seq (its++[u]).toArray n'}->(∀b o,b≠l->s.heap.get? b=some o->h'.get? b=some o)->Q .none { s with heap:=h'}) :
  wpAny (model P w) A (call (.builtin "list.append") [.ref l,u]) Q E s:=by
 refine call_meets F.slot_list_append ⟨_,e,rfl⟩ F.entry_list_append (F.args_list_append_2 _ _) (list_append l its.toArray n u (by rw[i_];omega)) ⟨e,?_⟩;have q:=PySem.IsL.update e (·.push u);rw[List.push_toArray] at q;exact h _ _ q (fun b o hb hu=>(YS s.heap _ (Ne.symm hb)).trans hu)
theorem bH:∀(names:List (Str × NameKind)) (n:Nat) (acc:List (Str × Addr)),cellsFrom n names acc=cellsFrom n names []++acc
 |[],_,_=>rfl
 | (x,k)::r,n,acc=>by
  unfold cellsFrom
  split
  ·
   rw[bH r (n+1) ((x,n)::acc),bH r (n+1) [(x,n)],WW]
   rfl
  ·
   exact bH r n acc
theorem dz {α:Type}(x:Str):∀(l m:List (Str × α)),(l++m).lookup x=(l.lookup x).or (m.lookup x)
 |[],_=>rfl
 | (y,v)::r,m=>by
  rw[YG,Xr,Xr,dz x r m]
  cases x==y <;> rfl
theorem gA {names:List (Str × NameKind)}{n:Nat}{cl:List (Str × Addr)}{x:Str}{c:Addr}(h:(cellsFrom n names cl).lookup x=some c):(cellsFrom n names []).lookup x=some c\/((cellsFrom n names []).lookup x=none/\cl.lookup x=some c):=by
 rw[bH,dz] at h;cases e:(cellsFrom n names []).lookup x with
 |some d=>rw[e] at h;exact .inl h
 |none=>rw[e] at h;exact .inr ⟨rfl,h⟩
theorem iM {x:Str}{c:Addr}:∀{names:List (Str × NameKind)}{n:Nat}{acc:List (Str × Addr)},(x,c)∈cellsFrom n names acc->(x,NameKind.cell)∈names\/(x,c)∈acc
 |[],_,_,h=>.inr h
 | (y,k)::r,n,acc,h=>by
  unfold cellsFrom at h
  split at h
  ·
   rename_i hk
   rcases iM h with q | q
   ·
    exact .inl (t_ _ q)
   ·
    rcases n_.mp q with q | q
    ·
     cases q
     have:k=.cell:=by simpa using hk
     subst this
     exact .inl k_
    ·
     exact .inr q
  ·
   rcases iM h with q | q
   ·
    exact .inl (t_ _ q)
   ·
    exact .inr q
theorem Fv {M:Model}{A:Around}{E:Value->Shared->Prop}{s:Shared}{scope:Scope}{globals:Addr}{closure:List (Str × Addr)}{qual:Str}{env:Env}{Q:Env->Shared->Prop}
  (hQ:Q (newEnv scope s.heap.objs.size globals (cellsFrom (s.heap.objs.size+1) scope.names closure) qual none .none (some env) builtinsNs) { s with heap:=pushCells (s.heap.push { cls:=.type "dict",data:=.dict #[]}) scope.names}) :
  wpAny M A (newFunctionEnv scope globals closure [] qual none .none (some env)) Q E s:=by
 simp only[newFunctionEnv,X6,if_true];refine b_ (wpAny_alloc ?_);refine b_ (wpAny_layCells _ (fun name kind cells=>by cases hkc:kind==NameKind.cell <;> simp [hkc]) _ _ _ _ ?_);rw[show ({ s with heap:=s.heap.push { cls:=.type "dict",data:=.dict #[]}}:Shared).heap.objs.size=s.heap.objs.size+1 from XM ..];refine b_ ?_;rw[List.forIn_nil];exact m_ (m_ hQ)
theorem zx {X:Cx}{pins:List (Addr × Obj)}{Z:St}{H:Hp}{s:Shared}{N':List Str}{nt:Nat}{cap:List Nat}{scope:Scope}{cl:List (Str × Addr)}{fp:List Addr}{h':Heap}{C:Addr}{tk:Nat}{pl:List (Addr × Obj)}
  (S:CompSc X N' nt cap scope) (I:Inv X pins Z H s) (hcl:∀x c,cl.lookup x=some c->X.env.cells.lookup x=some c) (hclh:∀y∈scope.names,y.2=.free->∃c,cl.lookup y.1=some c)
  (hf:∀b∈fp,jW X pins H b) (hfl:∀b∈fp,b<s.heap.objs.size) (hC:s.heap.objs.size<C) (hn:h'.Ns C fun _=>none) (hk:∀b o,s.heap.get? b=some o->h'.get? b=some o)
  (hp:∀p∈pl,h'.get? p.1=some p.2/\s.heap.objs.size=p.1/\∀v,p.2.data≠.cell v) (hcc:CellsOk h' (C+1) (cellsFrom (C+1) scope.names [])) :
  Inv (bF X N' scope (cellsFrom (C+1) scope.names cl) pins s H C fp) pl (mK nt cap Z) H { s with heap:=h',toks:=tk}:=by
 have two:∀x c,(cellsFrom (C+1) scope.names cl).lookup x=some c->(C+1<=c/\(cellsFrom (C+1) scope.names []).lookup x=some c)\/X.env.cells.lookup x=some c:=fun x c e=>by
  rcases gA e with q | q
  ·exact .inl ⟨(hcc.empty x c (mem_of_lookup q)).2,q⟩
  exact .inr (hcl x c q.2)
 have low:∀x c,X.env.cells.lookup x=some c->c<s.heap.objs.size:=fun x c e=>by obtain⟨v,q⟩:=I.cell x c e;exact q.lt
 have hok:(bF X N' scope (cellsFrom (C+1) scope.names cl) pins s H C fp).Ok:=by
  refine⟨I.ok.mod,S.kind,I.ok.glob,I.ok.blt,Xx hC,fun x y c e1 e2=>?_,fun x hx=>?_,fun x c z e=>?_,I.ok.hd,I.ok.frames,.inl rfl,fun b hb=>?_,I.bs,U_ I.ok.bsz I.sz,fun b o e hb=>?_,fun b hb z=>?_,I.stack,I.stkFree⟩
  ·rcases two x c e1 with ⟨q1,p1⟩ | q1
   ·rcases two y c e2 with ⟨q2,p2⟩ | q2
    ·exact name_of_addr hcc.apart (mem_of_lookup p1) (mem_of_lookup p2)
    exact absurd (S_ (Xw (WF (low y c q2) hC)) q1) (WQ _)
   rcases two y c e2 with ⟨q2,p2⟩ | q2
   ·exact absurd (S_ (Xw (WF (low x c q1) hC)) q2) (WQ _)
   exact I.ok.inj x y c q1 q2
  ·have hx':(relabel scope X.env).names.lookup x=some .cell\/(relabel scope X.env).names.lookup x=some .free:=hx;have hm:∃k,(x,k)∈(relabel scope X.env).names/\(k=.cell\/k=.free):=by
    rcases hx' with z | z
    ·exact⟨_,mem_of_lookup z,.inl rfl⟩
    exact⟨_,mem_of_lookup z,.inr rfl⟩
   obtain⟨k,hm,hk⟩:=hm;obtain⟨⟨n,k0⟩,hm0,e⟩:=z_.mp hm;have e':(if (k0==NameKind.free&&X.env.scope.kind==.function&&X.env.kindOf n==some .cell)=true then (n,NameKind.cell) else (n,k0))=(x,k):=e;by_cases hk0:k0=.free
   ·subst hk0;have en:n=x:=by split at e' <;> exact WK Prod.fst e'
    subst en;obtain⟨c,ec⟩:=hclh (n,.free) hm0 rfl;show ∃c,(cellsFrom (C+1) scope.names cl).lookup n=some c;rw[bH,dz,ec];cases (cellsFrom (C+1) scope.names []).lookup n with
    |none=>exact⟨c,rfl⟩
    |some d=>exact⟨d,rfl⟩
   have hb:(k0==NameKind.free)=false:=by simpa using hk0
   rw[hb] at e';simp only[Bool.false_and,x_,Wt] at e';cases e';rcases hk with rfl | rfl
   ·obtain⟨c,ec⟩:=je (n:=C+1) (S.cells _ hm0 rfl);refine⟨c,?_⟩;show (cellsFrom (C+1) scope.names cl).lookup _=some c;rw[bH,dz,ec];rfl
   exact absurd rfl hk0
  ·have z':scope.names.lookup x=some .cell:=by simpa [bF] using z
   obtain⟨d,ed⟩:=je (n:=C+1) z';have e':(cellsFrom (C+1) scope.names cl).lookup x=some c:=e;rw[bH,dz,ed] at e';cases e';have:=(hcc.empty x _ (mem_of_lookup ed)).2;show s.heap.objs.size<=_;omega
  ·obtain⟨f0,f1,f2,f3,f4,f5⟩:=hf b hb;refine⟨fun z=>absurd (hfl b hb) (Zh.mpr (by rw[show b=C from z];exact Xx hC)),fun x c e=>?_⟩;rcases two x c e with ⟨q,_⟩ | q
   ·intro z;rw[z] at q;exact absurd (S_ (Xw (WF (hfl b hb) hC)) q) (WQ _)
   exact f4 x c q
  ·obtain⟨f0,f1,f2,f3,f4,f5⟩:=hf b hb;rcases f3 with q | q
   ·exact I.ok.noex b o e q
   exact absurd (y_ (I.ok.bs b o e).1) (Zh.mpr q)
  obtain⟨f0,f1,f2,f3,f4,f5⟩:=hf b hb;rcases n_.mp (I.stkSub b z) with q | q
  ·exact f1 q
  exact f2 q
 obtain⟨m,hnm,hl⟩:=id I.loc;refine⟨hok,rfl,I.bare,Un.kept hk,⟨_,hn,fun i x v e1 e2 e3=>?_⟩,fun x c e=>?_,I.hok.fresh (Xx hC),fun x c e=>?_,fun p hp'=>?_,I.hok.kept hk,?_⟩
 ·-- a name of the block: one that it takes from around
  unfold mK at e2;by_cases hi:i<nt
  ·rw[WM (by simpa using hi),Yc] at e2;split at e2 <;> cases e2
  obtain⟨j,rfl⟩:∃j,i=nt+j:=⟨i - nt,by omega⟩;obtain⟨k,ck,hN,hfree⟩:=S.caps j x e1;rw[N_ (by simp),WX,Nat.add_sub_cancel_left,o_,ck] at e2;have e2':(Z[k]?).getD none=some v:=K_ e2;have e2'':Z[k]?=some (some v):=by
   cases q:Z[k]? with
   |none=>rw[q] at e2';cases e2'
   |some z=>rw[q] at e2';exact WK some e2'
  have hkd:=S.free (x,.free) (mem_of_lookup hfree) rfl;obtain⟨u,ru,lk⟩:=hl k x v hN e2'' (.inr hkd);refine⟨u,ru,.inr ⟨iy hfree,?_⟩⟩;rcases lk with ⟨kl,_⟩ | ⟨_,c,hc,hcell⟩
  ·rcases hkd with z | z <;> (rw[kl] at z;cases z)
  obtain⟨c',hc'⟩:=hclh (x,.free) (mem_of_lookup hfree) rfl;have e:=hcl x c' hc';rw[hc] at e;cases e;obtain⟨o,ho,hd⟩:=hcell;refine⟨c,?_,o,hk _ _ ho,hd⟩;show (cellsFrom (C+1) scope.names cl).lookup x=some c;rw[bH,dz];cases q:(cellsFrom (C+1) scope.names []).lookup x with
  |none=>exact hc'
  |some d =>
  rcases iM (mem_of_lookup q) with z | z
  ·have:=S.cells _ z rfl;rw[hfree] at this;cases this
  cases z
 ·rcases two x c e with ⟨_,q⟩ | q
  ·exact⟨none,(hcc.empty x c (mem_of_lookup q)).1⟩
  obtain⟨v,o,ho,hd⟩:=I.cell x c q;exact⟨v,o,hk _ _ ho,hd⟩
 ·rcases two x c e with ⟨q,_⟩ | q
  ·exact I.hok.fresh (Xx (S_ (Xw hC) q))
  exact I.freeC x c q
 ·rcases G_.mp hp' with z | z
  ·obtain⟨e,n,n1,n2,d⟩:=I.pin p z;refine⟨hk _ _ e,n,fun q=>?_,fun q=>?_,d⟩
   ·exact absurd (y_ e) (Zh.mpr (by rw[show p.1=C from q];exact Xx hC))
   rcases n_.mp (I.stkSub p.1 q) with q | q
   ·exact n1 q
   exact n2 q
  obtain⟨e,n,d⟩:=hp p z;refine⟨e,I.hok.fresh (by omega),fun q=>?_,fun q=>?_,d⟩
  ·exact absurd (n.trans (show p.1=C from q)) (C_ hC)
  have:=I.stkSub p.1 q;rcases n_.mp this with q | q
  ·exact absurd I.lt (Zh.mpr (by rw[<- q,n];exact j_ _))
  exact I.nofs (by omega) q
 unfold mK;show _=N'.length;rw[g_,WX,h_,S.len]
theorem HOk.track {P:Program}{w:World}{H:Hp}{h h':Heap}{a C:Addr}{o:HO}(x:HOk P w H h) (hn:H a=none) (hC:H C=none) (k:∀b u,b≠C->h.get? b=some u->h'.get? b=some u) (new:ObjOk P w (upd H a o) h' a o):HOk P w (upd H a o) h':=fun b u e=>by
 by_cases hb:b=a
 ·subst hb;rw[bM] at e;cases e;exact new
 rw[aO hb] at e;have nC:∀c z,H c=some z->c≠C:=fun c z q r=>by rw[r,hC] at q;cases q
 refine (x b u e).stay (fun c v hc q=>k c v ?_ q) (fun c q=>by rw[aO (bV q hn)];exact q) fun c xs q=>by rw[aO (bV q hn)];exact q
 rcases hc with rfl | hc
 ·exact nC c u e
 exact nC c _ hc
theorem qJ {X:Cx}{pins:List (Addr × Obj)}{Z:St}{H₂:Hp}{s₂:Shared}{N':List Str}{nt:Nat}{cap:List Nat}{scope:Scope}{cl:List (Str × Addr)}{elt tg iter:Expr}{ifs:List Expr}{pos:Pos}{g:TG}{tt:TT}{te:TE}
  {it:Addr} {fp:List Addr} {tn:Nat->Heap->Prop} {J:It} {fin:List V->Hp->Prop} {E:Value->Shared->Prop} {RR:Value->Addr->Result->Shared->Prop}
  (hc:X.calm=true) (S:CompSc X N' nt cap scope) (hcl:∀x c,cl.lookup x=some c->X.env.cells.lookup x=some c) (hclh:∀y∈scope.names,y.2=.free->∃c,cl.lookup y.1=some c)
  (hX:∀cl pins s H C fp,PG (bF X N' scope cl pins s H C fp) tg g/\PIf (bF X N' scope cl pins s H C fp) ifs tt/\PE (bF X N' scope cl pins s H C fp) elt te)
  (I:Inv X pins Z H₂ s₂) (T:Turn X.prog X.w X.K tg J fp it tn) (st:tn 0 s₂.heap) (hf:∀b∈fp,jW X pins H₂ b) (hw:vN J g tt te fin (mK nt cap Z) H₂)
  (hRR:∀(D C:Addr) (s₄:Shared) (m:Str->Option Value) (ys:List V) (H':Hp),s₄.heap.Ns C m->s₂.heap.objs.size<=D->s₂.heap.objs.size<=C->C≠D->H' D=none->H' C=none->ys.length<=sizeLine->fin ys H' ->
   (∀h',(∀b o,b≠C->s₄.heap.get? b=some o->h'.get? b=some o)->Inv X pins Z (upd H' D (.lst ys)) { s₄ with heap:=h'})->RR (.ref D) C (.ok .next) s₄) :
  wpAny (model X.prog X.w) X.A (newList []) (fun acc s₃=>wpAny (model X.prog X.w) X.A (newFunctionEnv scope X.env.globals cl [] X.env.qual none .none (some X.env)) (fun cenv s₄ =>
   codeAny (model X.prog X.w) X.A (.compStart (.ListComp elt [⟨tg,iter,ifs,0⟩] scope pos) 0 (.ref it) acc { cenv with scope:=relabel scope X.env}) (RR acc cenv.locals) s₄) E s₃) E s₂:=by
 refine W9 (Fv ?_);dsimp only;generalize hH2:s₂.heap.push { cls:=.type "list",dict:=none,data:=.seq ([]:List Value).toArray}=B;generalize hD:s₂.heap.objs.size=D;have hB:B.objs.size=D+1:=by rw[<- hH2,XM,hD]
 have hcc0:CellsOk (pushCells (B.push { cls:=.type "dict",data:=.dict #[]}) scope.names) (B.objs.size+1) (cellsFrom (B.objs.size+1) scope.names []):=by have:=cellsFrom_ok scope.names (B.push { cls:=.type "dict",data:=.dict #[]}) (B.objs.size+1) [] ⟨fun _ _ hm=>(nomatch hm),List.Pairwise.nil⟩ (by rw[XM];exact j_ _);rw[XM] at this;exact this
 have hns₁:(pushCells (B.push { cls:=.type "dict",data:=.dict #[]}) scope.names).Ns B.objs.size fun _=>none:=(Heap.Ns.new B (.type "dict")).keeps (pushCells_keeps _ _);have kp₁:∀b o,B.get? b=some o->(pushCells (B.push { cls:=.type "dict",data:=.dict #[]}) scope.names).get? b=some o:=fun b o e=>pushCells_keeps _ _ b o (e_ _ e);generalize hCe:B.objs.size=C at hns₁ hcc0 ⊢;generalize pushCells (B.push { cls:=.type "dict",data:=.dict #[]}) scope.names=h₁ at hns₁ hcc0 kp₁ ⊢;have hCD:C=D+1:=hCe.symm.trans hB;have hDC:D≠C:=by rw[hCD];exact C_ (Xc _)
 have hDlt:s₂.heap.objs.size<C:=by rw[hD,hCD];exact Xc _
 have below:∀b o,s₂.heap.get? b=some o->b≠C/\b≠D:=fun b o e=>by have:=y_ e;rw[hD] at this;exact⟨by rw[hCD];exact C_ (Xw this),C_ this⟩
 have old:∀b o,s₂.heap.get? b=some o->h₁.get? b=some o:=fun b o e=>kp₁ b o (hH2▸e_ _ e);have hacc:h₁.get? D=some { cls:=.type "list",data:=.seq ([]:List Value).toArray 0}:=kp₁ _ _ (hH2▸hD▸u_ _ rfl);have hst₁:tn 0 h₁:=T.keep _ _ _ st fun b hb o e=>old b o e;have hfl:∀b∈fp,b<s₂.heap.objs.size:=fun b hb=>by obtain⟨o,e,_⟩:=T.obj _ _ st b hb;exact y_ e
 obtain⟨W,⟨m0,w0⟩,turn⟩:=hw;obtain⟨hg,hi,he⟩:=hX (cellsFrom (C+1) scope.names cl) pins s₂ H₂ C fp;have stat:∀{H':Hp} {k:Nat} {its:List Value},(∀b∈fp,H' b=none)->∀b∈fp,jW (bF X N' scope (cellsFrom (C+1) scope.names cl) pins s₂ H₂ C fp) [(D,{ cls:=.type "list",data:=.seq its.toArray k})] H' b:=fun {H' k its} hn b hb=>by
  obtain⟨f0,f1,f2,f3,f4,f5⟩:=hf b hb;have hlt:=hfl b hb;refine⟨hn b hb,fun z=>?_,fun z=>?_,.inl hb,fun x c e=>?_,fun p hp=>?_⟩
  ·rw[show b=C from z] at hlt;exact absurd hlt (Zh.mpr (Xx hDlt))
  ·rcases n_.mp (I.stkSub b z) with q | q
   ·exact f1 q
   exact f2 q
  ·rcases gA e with q | q
   ·have:=(hcc0.empty x c (mem_of_lookup q)).2;intro z;rw[z] at this;exact absurd (S_ (Xw (WF hlt hDlt)) this) (WQ _)
   exact f4 x c (hcl x c q.2)
  rcases G_.mp hp with z | z
  ·exact f5 p z
  rw[q_.mp z];intro e;rw[<- (show D=b from e),hD] at hlt;exact WQ _ hlt
 have loop:∀s₃:Shared,s₃={ s₂ with heap:=h₁}->codeAny (model X.prog X.w) X.A (.compLoop (.ListComp elt [⟨tg,iter,ifs,0⟩] scope pos) 0 (.ref it) (.ref D) (compEnvC scope (cellsFrom (C+1) scope.names cl) C X.env)) (RR (.ref D) C) s₃:=by
  rintro s₃ rfl;refine oV (fun n s'=>∃i ys its k Z' H',Inv (bF X N' scope (cellsFrom (C+1) scope.names cl) pins s₂ H₂ C fp) [(D,{ cls:=.type "list",data:=.seq its.toArray k})] Z' H' s'/\Vals ys its/\tn i s'.heap/\(∀b∈fp,H' b=none)/\W i n ys Z' H'/\ys.length<=sizeLine) ?_ m0
   ⟨0,[],[],0,mK nt cap Z,H₂,zx (tk:=s₂.toks) S I hcl hclh hf hfl hDlt hns₁ old (fun p hp=>?_) hcc0,.nil,hst₁,fun b hb=>(hf b hb).1,w0,WR _⟩
  ·rintro n s3 ⟨i,ys,its,k,Z3,H3,I3,rv,st3,fr3,w3,hz⟩;have pD:=I3.pin (D,{ cls:=.type "list",data:=.seq its.toArray k}) (Ws _ (q_.mpr rfl));rcases turn i n ys Z3 H3 w3 with ⟨stop,hz',hfin⟩ | ⟨go,step⟩
   ·refine thn (T.done (bF X N' scope (cellsFrom (C+1) scope.names cl) pins s₂ H₂ C fp) rfl rfl rfl hc i _ s3 Z3 H3 (fun _ _=>False) I3 (stat fr3) st3 stop) fun r s4 ⟨hr,I4⟩=>?_;subst hr;obtain⟨m4,hn4,_⟩:=I4.loc;have pD4:=I4.pin (D,{ cls:=.type "list",data:=.seq its.toArray k}) (Ws _ (q_.mpr rfl));refine hRR D C s4 m4 ys H3 hn4 (by rw[hD];exact j_ _) (Xx hDlt) (Ne.symm hDC) pD4.2.1 I4.free hz' hfin fun h' k'=>?_;have nD:∀b u,H3 b=some u->b≠D:=fun b u e z=>by rw[z,pD4.2.1] at e;cases e
    have nDs:∀b o,s₂.heap.get? b=some o->b≠D/\b≠C:=fun b o e=>⟨(below b o e).2,(below b o e).1⟩;have B4:=I4.base;refine I.call' (s':={ s4 with heap:=h'}) (ch:=fp) I4.os ⟨fun b o e n hb hx=>k' b o (nDs b o e).2 (B4.keep b o e n hb hx),fun b o e n hb hx=>?_,fun b o e n hx=>?_,fun b o e hx=>?_,fun b xs e=>?_,fun b o u e=>?_,fun b ps e=>?_⟩ ?_ I4.bare fun b hb=>?_
    ·obtain⟨sl,q⟩:=B4.slot b o e n hb hx;exact⟨sl,k' b _ (nDs b o e).2 q⟩
    ·rw[aO (nDs b o e).1];exact B4.free b o e n hx
    ·obtain⟨o',q⟩:=B4.there b o e hx;exact⟨o',k' b _ (nDs b o e).2 q⟩
    ·have q:=B4.tups b xs e;rw[aO (nD _ _ q)];exact q
    ·have q:=B4.frzs b o u e;rw[aO (nD _ _ q)];exact q
    ·obtain⟨more,q⟩:=B4.tbls b ps e;exact⟨more,by rw[aO (nD _ _ q)];exact q⟩
    ·exact I4.hok.track pD4.2.1 I4.free k' ⟨hz',its,k,rv,k' D _ hDC pD4.1⟩
    obtain⟨f0,f1,f2,f3,f4,f5⟩:=hf b hb;exact⟨f3,f1,f4,f5⟩
   refine thn (T.item (bF X N' scope (cellsFrom (C+1) scope.names cl) pins s₂ H₂ C fp) rfl rfl rfl hc i _ s3 Z3 H3 (fun _ _=>False) I3 (stat fr3) st3 go) fun r s4 ⟨u,hr,h4⟩=>?_;subst hr;refine thn h4 fun _ s5 ⟨x,H5,I5,r5,y5,st5,fr5⟩=>?_;have I5':=I5.pinned (stat fr5) (T.obj _ _ st5);refine thn (hg _ s5 Z3 H5 x u _ I5' r5 (step x H5 y5)) fun _ s6 ⟨Z6,H6,I6,q6⟩=>?_;refine thn (hi _ s6 Z6 H6 _ I6 q6) fun ok s7 ⟨H7,I7,q7⟩=>?_;have back:∀{Z8:St} {H8:Hp} {s8:Shared},Inv (bF X N' scope (cellsFrom (C+1) scope.names cl) pins s₂ H₂ C fp) ([(D,{ cls:=.type "list",data:=.seq its.toArray k})]++kO fp s5.heap) Z8 H8 s8->tn (i+1) s8.heap/\∀b∈fp,H8 b=none:=fun {Z8 H8 s8} I8 =>
    ⟨T.keep _ _ _ st5 fun b hb o e=>(I8.pin (b,o) (Ws _ (Ws _ (f9 hb e)))).1,fun b hb=>by
     obtain⟨o,e,d⟩:=T.obj _ _ st5 b hb
     exact (I8.pin (b,o) (Ws _ (Ws _ (f9 hb e)))).2.1⟩
   cases ok with
   |false=>rw[if_neg p_] at q7 ⊢;obtain⟨m',hm,w7⟩:=q7;exact⟨m',hm,i+1,ys,its,k,Z6,H7,I7.unpinned,rv,(back I7).1,(back I7).2,w7,hz⟩
   |true =>
   rw[if_pos rfl] at q7 ⊢;refine thn (he _ s7 Z6 H7 _ I7 q7) fun uy s8 ⟨y,H8,I8,ry,hz8,m',hm,w8⟩=>?_;have pD8:=I8.pin (D,{ cls:=.type "list",data:=.seq its.toArray k}) (Ws _ (WT _ (q_.mpr rfl)));have hl:=rv.length;refine jY pD8.1 (by omega) fun h' k' e' kk=>?_;have I9:Inv (bF X N' scope (cellsFrom (C+1) scope.names cl) pins s₂ H₂ C fp) [] Z6 H8 { s8 with heap:=h'}:=by
    refine Inv.turned (t':=s8.toks) (it:=D) (I8.pins_of (pins':=[]) (fun p hp=>nomatch hp)) (fun b o hb e=>kk b o hb e) pD8.2.1 pD8.2.2.1 (.inr (by show s₂.heap.objs.size<=D;rw[hD];exact j_ _)) (fun x c e z=>?_) (fun p hp z=>?_)
    ·rcases gA e with q | q
     ·have:=(hcc0.empty x c (mem_of_lookup q)).2;rw[z,hCD] at this;omega
     obtain⟨v,q⟩:=I.cell x c (hcl x c q.2);have:=q.lt;rw[z,hD] at this;exact WQ _ this
    rw[WD] at hp;have:=y_ (I.pin p hp).1;rw[z,hD] at this;exact WQ _ this
   refine⟨m',hm,i+1,ys++[y],its++[uy],k',Z6,H8,I9.pins_of fun p hp=>?_,rv.append (.cons ry .nil),?_,(back I8).2,w8,?_⟩
   ·rw[q_.mp hp];exact⟨e',pD8.2.1,pD8.2.2.1,pD8.2.2.2.1,fun v z=>by cases z⟩
   ·refine T.keep _ _ _ (back I8).1 fun b hb o e=>kk b o (fun z=>?_) e;have:=hfl b hb;rw[z,hD] at this;exact WQ _ this
   rw[g_,D_];omega
  rw[q_.mp hp];exact⟨hacc,hD,fun v z=>by cases z⟩
 exact codeAny_compStart_list (loop _ rfl) (T.self _ 0 _ _ _ hst₁ (loop _ rfl))
def Ro (wi:TI) (g:TG) (tt:TT) (te:TE) (nt:Nat) (cap:List Nat):TE:=fun Z H Q=>wi Z H fun J H1=>vN J g tt te (fun ys H'=>∀p,H' p=none->Q (.ref p) (upd H' p (.lst ys))) (mK nt cap Z) H1
theorem Fw {X:Cx}{N':List Str}{nt:Nat}{cap:List Nat}{scope:Scope}{elt tg iter:Expr}{ifs:List Expr}{pos:Pos}{wi:TI}{g:TG}{tt:TT}{te:TE}(hc:X.calm=true) (S:CompSc X N' nt cap scope) (hi:PI X tg iter wi)
  (hX:∀cl pins s H C fp,PG (bF X N' scope cl pins s H C fp) tg g/\PIf (bF X N' scope cl pins s H C fp) ifs tt/\PE (bF X N' scope cl pins s H C fp) elt te)
  (hs:∀x,foldedSetIterable iter X.env x=pure x:=by intro _;rfl):PE X (.ListComp elt [⟨tg,iter,ifs,0⟩] scope pos) (Ro wi g tt te nt cap):=by
 intro pins s Z H Q I h;rw[eval_ListComp];obtain⟨cl,hclos,hcl,hclh⟩:=lr (scope:=scope) (env:=X.env) fun y hy hf=>I.ok.has y.1 (S.free y hy hf);refine wpAny_comprehension_free (use:=none) rfl hs hclos S.kind S.names (thn (hi pins s Z H _ I h) fun v s1 h1=>thn h1 fun itv s2 h2=>?_);obtain⟨it,fp,tn,J,H2,rfl,I2,T,st2,f2,hw⟩:=h2;refine qJ (RR:=fun acc C=>compPost (model X.prog X.w) X.A X.xe none (EP X pins Z Q) acc C) hc S hcl hclh hX I2 T st2 f2 hw fun D C s4 m ys H' hn hD hC hDC nD nC hz hfin k=>?_;refine⟨m,hn,fun h' hs'=>?_⟩;exact⟨.ref D,_,k h' fun b o hb e=>hs'.extBut b o hb e,rfl,hfin D nD⟩
def zy (wi:TI) (g:TG) (tt:TT) (te:TE) (nt:Nat) (cap:List Nat) (i:Nat):TS:=fun D Z H=>wi Z H fun J H1=>vN J g tt te (fun ys H'=>∀p,H' p=none->D.nx (Z.set i (some (.ref p))) (upd H' p (.lst ys))) (mK nt cap Z) H1
theorem Fx {X:Cx}{N':List Str}{nt:Nat}{cap:List Nat}{scope:Scope}{elt tg iter:Expr}{ifs:List Expr}{pos pos' spos:Pos}{wi:TI}{g:TG}{tt:TT}{te:TE}{i:Nat}{x:Str}(hc:X.calm=true) (hN:X.N.Nodup) (hi':X.N[i]?=some x) (hx:Loc X.env.scope x) (S:CompSc X N' nt cap scope) (hi:PI X tg iter wi)
  (hX:∀cl pins s H C fp,PG (bF X N' scope cl pins s H C fp) tg g/\PIf (bF X N' scope cl pins s H C fp) ifs tt/\PE (bF X N' scope cl pins s H C fp) elt te)
  (hsw:swapsWith (.ListComp elt [⟨tg,iter,ifs,0⟩] scope pos) (some (.Name x pos')) spos.line X.env=pure true:=by rfl)
  (hs:∀x,foldedSetIterable iter X.env x=pure x:=by intro _;rfl) (hf:X.fn x=true\/X.env.scope.names.lookup x=some .local:=by first | exact .inl rfl | exact .inr rfl | assumption) :
  PS X (.Assign [.Name x pos'] (.ListComp elt [⟨tg,iter,ifs,0⟩] scope pos) spos) (zy wi g tt te nt cap i):=by
 intro pins s Z H Dn I h;rw[exec_Assign_Name_used _ _ _ _ hsw];obtain⟨cl,hclos,hcl,hclh⟩:=lr (scope:=scope) (env:=X.env) fun y hy hf=>I.ok.has y.1 (S.free y hy hf);refine b_ (wpAny_standAt (b_ ?_));show wpAny _ X.A (do let _ <- comprehension (.ListComp elt [⟨tg,iter,ifs,0⟩] scope pos) scope X.env _ (newList []) false (eval iter X.env) (some (assign (.Name x pos') X.env))) _ _ s;refine b_ (Xh (wpAny_comprehension_free (use:=some (assign (.Name x pos') X.env)) (Q:=fun _ s'=>SP X pins Dn .next s') rfl hs hclos S.kind S.names
  (thn (hi pins s Z H _ I h) fun v s1 h1=>thn h1 fun itv s2 h2=>?_)) (fun _ s' hq=>m_ (m_ hq)) fun _ _ e=>e)
 obtain⟨it,fp,tn,J,H2,rfl,I2,T,st2,f2,hw⟩:=h2;refine qJ (RR:=fun acc C=>compPost (model X.prog X.w) X.A X.xe (some (assign (.Name x pos') X.env)) (fun _ s'=>SP X pins Dn .next s') acc C) hc S hcl hclh hX I2 T st2 f2 hw fun D C s4 m ys H' hn hD hC hDC nD nC hz hfin k=>?_;show wpAny _ X.A (assign (.Name x pos') X.env (.ref D)) _ _ s4;have I4:=k s4.heap fun b o _ e=>e;have nCL:C≠X.env.locals:=fun z=>by have:=I2.lt;rw[<- z] at this;exact absurd this (Zh.mpr hC)
 have nCc:∀y c,X.env.cells.lookup y=some c->c≠C:=fun y c e z=>by obtain⟨v,q⟩:=I2.cell y c e;have:=q.lt;rw[z] at this;exact absurd this (Zh.mpr hC)
 refine wpAny_assign_Name (mZ I4 hN hi' hx (show RelV (.ref D) (.ref D) from rfl) (fun s5 I5 ⟨a,sb,ha⟩=>?_) hf);have nCa:C≠a:=by
  rcases ha with rfl | ha
  ·exact nCL
  exact fun z=>nCc x a ha z.symm
 refine⟨m,hn.sameBut sb nCa,fun h' hs'=>⟨_,_,Inv.turned (t':=s5.toks) (it:=C) I5 (fun b o hb e=>hs'.extBut b o hb e) (by rw[aO hDC];exact nC) nCL (.inr (U_ I2.sz hC)) nCc (fun p hp z=>?_),hfin D nD⟩⟩;have:=y_ (I2.pin p hp).1;rw[z] at this;exact absurd this (Zh.mpr hC)
def exP (e C:Addr) (d:Option Addr) (rd:Bool) (h:Heap):Prop:=∃vs sl,h.get? e=some ⟨.ref C,d,.fields vs,sl⟩/\(rd=true->vs[1]?=some .none)
def exO (e C:Addr) (d:Option Addr) (rd:Bool):HO:=.ext (exP e C d rd)
def dxP (dx:Addr) (fs:List (Str × V)) (h:Heap):Prop:=∃mA,h.Ns1 dx mA/\(∀f,RelO (fs.lookup f) (mA f))/\PySem.Within mA (fs.map (·.1))
def dxO (dx:Addr) (fs:List (Str × V)):HO:=.ext (dxP dx fs)
section
variable {P:Program}{w:World}{H:Hp}{h:Heap}{e C dx:Addr}{d:Option Addr}{rd:Bool}{fs:List (Str × V)}
theorem exP.at {h1 h2:Heap}(x:exP e C d rd h1) (k:∀o,h1.get? e=some o->h2.get? e=some o):exP e C d rd h2:=let ⟨vs,sl,a,b⟩:=x;⟨vs,sl,k _ a,b⟩
theorem dxP.at {h1 h2:Heap}(x:dxP dx fs h1) (k:∀o,h1.get? dx=some o->h2.get? dx=some o):dxP dx fs h2:=let ⟨mA,a,b⟩:=x;⟨mA,a.at k,b⟩
theorem exO.ok (x:exP e C d rd h):ObjOk P w H h e (exO e C d rd):=⟨x,let ⟨_,_,a,_⟩:=x;⟨_,a⟩,fun _ _ y k=>y.at k⟩
theorem dxO.ok (x:dxP dx fs h):ObjOk P w H h dx (dxO dx fs):=⟨x,let ⟨_,⟨_,_,_,a,_⟩,_⟩:=x;⟨_,a⟩,fun _ _ y k=>y.at k⟩
theorem exO.of (x:HOk P w H h) (q:H e=some (exO e C d rd)):exP e C d rd h:=(x e _ q).1
theorem dxO.of (x:HOk P w H h) (q:H dx=some (dxO dx fs)):dxP dx fs h:=(x dx _ q).1
end
end L2
set_option maxHeartbeats 1000000
namespace L3
open L2
inductive T where
 |non | bl (b:Bool) | int (i:Int) | str (x:Str) | tup (ts:List T) | ref (a:Addr) | ty (n:String)
mutual
def Rep (K:Frag) (H:Hp):T->V->Prop
 |.non,v=>v=.non
 |.bl b,v=>v=.bl b
 |.int i,v=>v=.int i
 |.str x,v=>v=.str x
 |.tup ts,v=>∃a xs,v=.ref a/\SqT K H a xs/\Reps K H ts xs
 |.ref a,v=>v=.ref a
 |.ty n,v=>v=.ty n
def Reps (K:Frag) (H:Hp):List T->List V->Prop
 |[],xs=>xs=[]
 |t::ts,xs=>∃x r,xs=x::r/\Rep K H t x/\Reps K H ts r
end
def TupLe (K:Frag) (H H':Hp):Prop:=∀a xs,SqT K H a xs->SqT K H' a xs
theorem TupLe.refl {K:Frag}{H:Hp}:TupLe K H H:=fun _ _ h=>h
theorem TupLe.trans {K:Frag}{H H1 H2:Hp}(a:TupLe K H H1) (b:TupLe K H1 H2):TupLe K H H2:=fun c xs h=>b c xs (a c xs h)
mutual
theorem Rep.mono {K:Frag}{H H':Hp}(le:TupLe K H H'):∀{t:T}{v:V},Rep K H t v->Rep K H' t v
 |.non,_,h=>by simp only[Rep] at h ⊢;exact h
 |.bl _,_,h=>by simp only[Rep] at h ⊢;exact h
 |.int _,_,h=>by simp only[Rep] at h ⊢;exact h
 |.str _,_,h=>by simp only[Rep] at h ⊢;exact h
 |.ref _,_,h=>by simp only[Rep] at h ⊢;exact h
 |.ty _,_,h=>by simp only[Rep] at h ⊢;exact h
 |.tup ts,_,h=>by
  simp only[Rep] at h ⊢
  obtain⟨a,xs,e,s,r⟩:=h
  exact⟨a,xs,e,le a xs s,Reps.mono le r⟩
theorem Reps.mono {K:Frag}{H H':Hp}(le:TupLe K H H'):∀{ts:List T}{xs:List V},Reps K H ts xs->Reps K H' ts xs
 |[],_,h=>by simp only[Reps] at h ⊢;exact h
 |t::ts,_,h=>by
  simp only[Reps] at h ⊢
  obtain⟨x,r,e,a,b⟩:=h
  exact⟨x,r,e,Rep.mono le a,Reps.mono le b⟩
end
section
variable {K:Frag}{H:Hp}
theorem Reps.nil:Reps K H [] []:=by simp only[Reps]
theorem Reps.cons {t:T}{v:V}{ts:List T}{vs:List V}(a:Rep K H t v) (b:Reps K H ts vs):Reps K H (t::ts) (v::vs):=by simp only[Reps];exact⟨v,vs,rfl,a,b⟩
theorem Reps.inv {t:T}{ts:List T}{vs:List V}(h:Reps K H (t::ts) vs):∃v r,vs=v::r/\Rep K H t v/\Reps K H ts r:=by simp only[Reps] at h;exact h
theorem Reps.inv0 {vs:List V}(h:Reps K H [] vs):vs=[]:=by simp only[Reps] at h;exact h
theorem Reps.length:∀{ts:List T}{vs:List V},Reps K H ts vs->ts.length=vs.length
 |[],_,h=>by rw[h.inv0];rfl
 |t::ts,_,h=>by obtain⟨v,r,rfl,_,b⟩:=h.inv;simp [Reps.length b]
theorem Reps.get:∀{ts:List T}{vs:List V}{i:Nat}{t:T},Reps K H ts vs->ts[i]?=some t->∃v,vs[i]?=some v/\Rep K H t v
 |[],_,_,_,_,e=>by simp at e
 |a::ts,_,0,t,h,e=>by obtain⟨v,r,rfl,q,_⟩:=h.inv;simp at e;subst e;exact⟨v,rfl,q⟩
 |a::ts,_,i+1,t,h,e=>by obtain⟨v,r,rfl,_,b⟩:=h.inv;simpa using Reps.get b (by simpa using e)
theorem Reps.get':∀{ts:List T}{vs:List V}{i:Nat}{v:V},Reps K H ts vs->vs[i]?=some v->∃t,ts[i]?=some t/\Rep K H t v
 |[],_,_,_,h,e=>by rw[h.inv0] at e;simp at e
 |a::ts,_,0,v,h,e=>by obtain⟨x,r,rfl,q,_⟩:=h.inv;simp at e;subst e;exact⟨a,rfl,q⟩
 |a::ts,_,i+1,v,h,e=>by obtain⟨x,r,rfl,_,b⟩:=h.inv;simpa using Reps.get' b (by simpa using e)
theorem Reps.append:∀{ts us:List T}{xs ys:List V},Reps K H ts xs->Reps K H us ys->Reps K H (ts++us) (xs++ys)
 |[],_,_,_,h,h'=>by rw[h.inv0];exact h'
 |t::ts,_,_,_,h,h'=>by obtain⟨v,r,rfl,a,b⟩:=h.inv;exact .cons a (Reps.append b h')
theorem Reps.take:∀{ts:List T}{xs:List V}(n:Nat),Reps K H ts xs->Reps K H (ts.take n) (xs.take n)
 |[],_,n,h=>by rw[h.inv0];simp only[List.take_nil];exact .nil
 |t::ts,_,0,h=>.nil
 |t::ts,_,n+1,h=>by obtain⟨v,r,rfl,a,b⟩:=h.inv;exact .cons a (Reps.take n b)
theorem Reps.drop:∀{ts:List T}{xs:List V}(n:Nat),Reps K H ts xs->Reps K H (ts.drop n) (xs.drop n)
 |[],_,n,h=>by rw[h.inv0];simp only[List.drop_nil];exact .nil
 |t::ts,_,0,h=>h
 |t::ts,_,n+1,h=>by obtain⟨v,r,rfl,a,b⟩:=h.inv;exact Reps.drop n b
theorem Reps.set:∀{ts:List T}{xs:List V}{t:T}{v:V}(n:Nat),Reps K H ts xs->Rep K H t v->Reps K H (ts.set n t) (xs.set n v)
 |[],_,_,_,n,h,r=>by rw[h.inv0];exact .nil
 |t::ts,_,_,_,0,h,q=>by obtain⟨v,r,rfl,a,b⟩:=h.inv;exact .cons q b
 |t::ts,_,_,_,n+1,h,q=>by obtain⟨v,r,rfl,a,b⟩:=h.inv;exact .cons a (Reps.set n b q)
theorem Reps.reverse {ts:List T}{xs:List V}(h:Reps K H ts xs):Reps K H ts.reverse xs.reverse:=by
 induction ts generalizing xs with
 |nil=>rw[h.inv0];exact .nil
 |cons t ts ih=>obtain⟨v,r,rfl,a,b⟩:=h.inv;simp only[List.reverse_cons];exact (ih b).append (.cons a .nil)
theorem Reps.eraseIdx:∀{ts:List T}{xs:List V}(n:Nat),Reps K H ts xs->Reps K H (ts.eraseIdx n) (xs.eraseIdx n)
 |[],_,n,h=>by rw[h.inv0];exact .nil
 |t::ts,_,0,h=>by obtain⟨v,r,rfl,a,b⟩:=h.inv;exact b
 |t::ts,_,n+1,h=>by obtain⟨v,r,rfl,a,b⟩:=h.inv;exact .cons a (Reps.eraseIdx n b)
theorem Rep.non {v:V}(h:Rep K H .non v):v=.non:=by simp only[Rep] at h;exact h
theorem Rep.bl {b:Bool}{v:V}(h:Rep K H (.bl b) v):v=.bl b:=by simp only[Rep] at h;exact h
theorem Rep.int {i:Int}{v:V}(h:Rep K H (.int i) v):v=.int i:=by simp only[Rep] at h;exact h
theorem Rep.str {x:Str}{v:V}(h:Rep K H (.str x) v):v=.str x:=by simp only[Rep] at h;exact h
theorem Rep.ref {a:Addr}{v:V}(h:Rep K H (.ref a) v):v=.ref a:=by simp only[Rep] at h;exact h
theorem Rep.ty {n:String}{v:V}(h:Rep K H (.ty n) v):v=.ty n:=by simp only[Rep] at h;exact h
theorem Rep.tup {ts:List T}{v:V}(h:Rep K H (.tup ts) v):∃a xs,v=.ref a/\SqT K H a xs/\Reps K H ts xs:=by simp only[Rep] at h;exact h
theorem Rep.ofNon:Rep K H .non .non:=by simp only[Rep]
theorem Rep.ofBl {b:Bool}:Rep K H (.bl b) (.bl b):=by simp only[Rep]
theorem Rep.ofInt {i:Int}:Rep K H (.int i) (.int i):=by simp only[Rep]
theorem Rep.ofStr {x:Str}:Rep K H (.str x) (.str x):=by simp only[Rep]
theorem Rep.ofRef {a:Addr}:Rep K H (.ref a) (.ref a):=by simp only[Rep]
theorem Rep.ofTy {n:String}:Rep K H (.ty n) (.ty n):=by simp only[Rep]
theorem Rep.ofTup {ts:List T}{a:Addr}{xs:List V}(h:SqT K H a xs) (r:Reps K H ts xs):Rep K H (.tup ts) (.ref a):=by simp only[Rep];exact⟨a,xs,rfl,h,r⟩
end
inductive O3 where
 |lst (ts:List T) | rol (ts:List T) | dct (kvs:List (Str × T)) | dcp (kvs:List (List Key × T))
 |exc (C dx:Addr) | xdt (fs:List (Str × T))
 |dci (kvs:List (Int × T)) | dif (o:Obj) (kvs:List (Int × T)) | ins (C:Addr) (fs:List (Str × T))
abbrev Hp3:=Addr->Option O3
def up3 (H:Hp3) (a:Addr) (o:O3):Hp3:=fun b=>if b=a then some o else H b
theorem aq {H:Hp3}{a:Addr}{o:O3}:up3 H a o a=some o:=by unfold up3;rw[if_pos rfl]
theorem aD {H:Hp3}{a b:Addr}{o:O3}(h:b≠a):up3 H a o b=H b:=by unfold up3;rw[if_neg h]
theorem oW {H:Hp3}{a:Addr}{o u:O3}:up3 (up3 H a o) a u=up3 H a u:=by funext b;unfold up3;split <;> rfl
def RepD (K:Frag) (H:Hp):List (Str × T)->List (Key × V)->Prop:=Paired fun (p:Str × T) (q:Key × V)=>q.1=Sum.inr p.1/\Rep K H p.2 q.2
def RepP (K:Frag) (H:Hp):List (List Key × T)->List (List Key × V)->Prop:=Paired fun (p:List Key × T) (q:List Key × V)=>q.1=p.1/\Rep K H p.2 q.2
def RepF (K:Frag) (H:Hp):List (Str × T)->List (Str × V)->Prop:=Paired fun (p:Str × T) (q:Str × V)=>q.1=p.1/\Rep K H p.2 q.2
def RepI (K:Frag) (H:Hp):List (Int × T)->List (Key × V)->Prop:=Paired fun (p:Int × T) (q:Key × V)=>q.1=Sum.inl p.1/\Rep K H p.2 q.2
def RepO (K:Frag) (H:Hp) (a:Addr):O3->Prop
 |.lst ts=>∃xs,H a=some (.lst xs)/\Reps K H ts xs
 |.rol ts=>∃xs,Rd H a (.lst xs)/\Reps K H ts xs
 |.dct kvs=>∃vs,H a=some (.dK vs)/\RepD K H kvs vs
 |.dcp kvs=>∃vs,H a=some (.dT vs)/\RepP K H kvs vs
 |.exc C dx=>H a=some (exO a C (some dx) false)
 |.xdt fs=>∃vs,H a=some (dxO a vs)/\RepF K H fs vs
 |.dci kvs=>∃vs,H a=some (.dK vs)/\RepI K H kvs vs
 |.dif o kvs=>∃vs,H a=some (.frz o (.dK vs))/\RepI K H kvs vs
 |.ins C fs=>∃dx vs,H a=some (.ins C dx vs)/\RepF K H fs vs
def SimH (K:Frag) (H3:Hp3) (H:Hp):Prop:=∀a o,H3 a=some o->RepO K H a o
abbrev St3:=List (Option T)
structure SimS (K:Frag) (H:Hp) (Z3:St3) (Z:L2.St):Prop where
 len:Z3.length=Z.length
 at':∀(i:Nat) (t:T),Z3[i]?=some (some t)->∃v,Z[i]?=some (some v)/\Rep K H t v
section
variable {K:Frag}{H H':Hp}{H3:Hp3}{Z3:St3}{Z:L2.St}
theorem SimS.mono (s:SimS K H Z3 Z) (le:TupLe K H H'):SimS K H' Z3 Z:=⟨s.len,fun i t e=>let ⟨v,e',r⟩:=s.at' i t e;⟨v,e',r.mono le⟩⟩
theorem SimS.set (s:SimS K H Z3 Z) {i:Nat}{t:T}{v:V}(r:Rep K H t v):SimS K H (Z3.set i (some t)) (Z.set i (some v)):=by
 refine⟨by simp [s.len],fun j u e=>?_⟩;by_cases hj:i=j
 ·subst hj;by_cases hl:i<Z3.length
  ·rw[Yn hl] at e;have e':t=u:=K_ (K_ e);subst e';exact⟨v,by rw[Yn (by rw[<- s.len];exact hl)],r⟩
  rw[J_ (by simpa using hl)] at e;cases e
 rw[Yx hj] at e;rw[Yx hj];exact s.at' j u e
theorem RepD.mono {kvs:List (Str × T)}{vs:List (Key × V)}(h:RepD K H kvs vs) (le:TupLe K H H'):RepD K H' kvs vs:=Paired.mapP h fun _ _ ⟨a,b⟩=>⟨a,b.mono le⟩
theorem RepF.mono {kvs:List (Str × T)}{vs:List (Str × V)}(h:RepF K H kvs vs) (le:TupLe K H H'):RepF K H' kvs vs:=Paired.mapP h fun _ _ ⟨a,b⟩=>⟨a,b.mono le⟩
theorem RepI.mono {kvs:List (Int × T)}{vs:List (Key × V)}(h:RepI K H kvs vs) (le:TupLe K H H'):RepI K H' kvs vs:=Paired.mapP h fun _ _ ⟨a,b⟩=>⟨a,b.mono le⟩
theorem RepP.mono {kvs:List (List Key × T)}{vs:List (List Key × V)}(h:RepP K H kvs vs) (le:TupLe K H H'):RepP K H' kvs vs:=Paired.mapP h fun _ _ ⟨a,b⟩=>⟨a,b.mono le⟩
theorem ne3 {a b:Addr}{o u:O3}(h:H3 a=some o) (h':H3 b=some u) (d:o≠u):a≠b:=by
 intro e;subst e;rw[h] at h';exact d (K_ h')
theorem bw {a b:Addr}{o:O3}(h:H3 a=some o) (h':H3 b=none):a≠b:=by
 intro e;subst e;rw[h] at h';cases h'
theorem aJ {p:Addr}{o:HO}(hp:H p=none):TupLe K H (upd H p o):=fun a xs h=>by
 rcases h with (h | ⟨ob,h⟩) | h
 ·exact .inl (.inl (by rw[aO (bV h hp)];exact h))
 ·exact .inl (.inr ⟨ob,by rw[aO (bV h hp)];exact h⟩)
 exact .inr h
theorem bT {p:Addr}{o:HO}(hp:Mut (H p)):TupLe K H (upd H p o):=fun a xs h=>by
 have key:∀u,H a=some u->¬Mut (some u)->a≠p:=fun u e nm z=>by subst z;rw[e] at hp;exact nm hp
 rcases h with (h | ⟨ob,h⟩) | h
 ·exact .inl (.inl (by rw[aO (key _ h fun z=>z)];exact h))
 ·exact .inl (.inr ⟨ob,by rw[aO (key _ h fun z=>z)];exact h⟩)
 exact .inr h
theorem RepO.stay {a:Addr}{o:O3}(h:RepO K H a o) (le:TupLe K H H') (keep:∀u,H a=some u->H' a=some u):RepO K H' a o:=by
 cases o with
 |lst ts=>obtain⟨xs,e,r⟩:=h;exact⟨xs,keep _ e,r.mono le⟩
 |rol ts =>
  obtain⟨xs,e,r⟩:=h;refine⟨xs,?_,r.mono le⟩;rcases e with e | ⟨ob,e⟩
  ·exact .inl (keep _ e)
  exact .inr ⟨ob,keep _ e⟩
 |dct kvs=>obtain⟨vs,e,r⟩:=h;exact⟨vs,keep _ e,r.mono le⟩
 |dcp kvs=>obtain⟨vs,e,r⟩:=h;exact⟨vs,keep _ e,r.mono le⟩
 |exc C dx=>exact keep _ h
 |xdt fs=>obtain⟨vs,e,r⟩:=h;exact⟨vs,keep _ e,r.mono le⟩
 |dci kvs=>obtain⟨vs,e,r⟩:=h;exact⟨vs,keep _ e,r.mono le⟩
 |dif o kvs=>obtain⟨vs,e,r⟩:=h;exact⟨vs,keep _ e,r.mono le⟩
 |ins C fs=>obtain⟨dx,vs,e,r⟩:=h;exact⟨dx,vs,keep _ e,r.mono le⟩
theorem SimH.new {p:Addr}{o:HO}(s:SimH K H3 H) (hp:H p=none):SimH K H3 (upd H p o):=fun a u e =>
 (s a u e).stay (aJ hp) fun w q=>by rw[aO (bV q hp)];exact q
theorem SimH.fresh {p:Addr}(s:SimH K H3 H) (hp:H p=none):H3 p=none:=by
 cases e:H3 p with
 |none=>rfl
 |some o =>
  have q:=s p o e
  cases o with
  |lst ts=>obtain⟨xs,z,_⟩:=q;rw[hp] at z;cases z
  |dct ts=>obtain⟨xs,z,_⟩:=q;rw[hp] at z;cases z
  |dcp ts=>obtain⟨xs,z,_⟩:=q;rw[hp] at z;cases z
  |exc C dx=>have z:H p=_:=q;rw[hp] at z;cases z
  |xdt ts=>obtain⟨xs,z,_⟩:=q;rw[hp] at z;cases z
  |dci ts=>obtain⟨xs,z,_⟩:=q;rw[hp] at z;cases z
  |dif o ts=>obtain⟨xs,z,_⟩:=q;rw[hp] at z;cases z
  |ins C ts=>obtain⟨dx,xs,z,_⟩:=q;rw[hp] at z;cases z
  |rol ts =>
   obtain⟨xs,z,_⟩:=q
   rcases z with z | ⟨ob,z⟩
   ·
    rw[hp] at z;cases z
   ·
    rw[hp] at z;cases z
end
abbrev VK3:=T->Hp3->Prop
abbrev TE3:=St3->Hp3->VK3->Prop
abbrev TT3:=St3->Hp3->(Bool->Hp3->Prop)->Prop
abbrev TA3:=St3->Hp3->(List T->Hp3->Prop)->Prop
structure Ends3 where
 nx:St3->Hp3->Prop
 rt:VK3
 bk:St3->Hp3->Prop:=fun _ _=>False
 ct:St3->Hp3->Prop:=fun _ _=>False
abbrev TS3:=Ends3->St3->Hp3->Prop
abbrev TG3:=T->St3->Hp3->(St3->Hp3->Prop)->Prop
abbrev lu:=List T->St3->Hp3->(St3->Hp3->Prop)->Prop
abbrev R3:=T->T->Hp3->VK3->Prop
section
variable (K:Frag)
def KV3 (H:Hp) (Q3:VK3) (Q:VK):Prop:=∀v H' t H3',TupLe K H H'->SimH K H3' H'->Rep K H' t v->Q3 t H3'->Q v H'
def KS3 (H:Hp) (N3:St3->Hp3->Prop) (N:L2.St->Hp->Prop):Prop:=∀Z' H' Z3' H3',TupLe K H H'->SimS K H' Z3' Z'->SimH K H3' H'->N3 Z3' H3'->N Z' H'
def lft (t3:TE3):TE:=fun Z H Q=>∃Z3 H3 Q3,SimS K H Z3 Z/\SimH K H3 H/\t3 Z3 H3 Q3/\KV3 K H Q3 Q
def yc (t3:TT3):TT:=fun Z H Q=>∃Z3 H3 Q3,SimS K H Z3 Z/\SimH K H3 H/\t3 Z3 H3 Q3/\∀b H' H3',TupLe K H H'->SimH K H3' H'->Q3 b H3'->Q b H'
def V5 (t3:TA3):TA:=fun Z H Q=>∃Z3 H3 Q3,SimS K H Z3 Z/\SimH K H3 H/\t3 Z3 H3 Q3/\∀vs H' ts H3',TupLe K H H'->SimH K H3' H'->Reps K H' ts vs->Q3 ts H3'->Q vs H'
def Rp (t3:TS3):TS:=fun D Z H=>∃Z3 H3 D3,SimS K H Z3 Z/\SimH K H3 H/\t3 D3 Z3 H3/\KS3 K H D3.nx D.nx/\KV3 K H D3.rt D.rt/\KS3 K H D3.bk D.bk/\KS3 K H D3.ct D.ct
def Fy (t3:TG3):TG:=fun v Z H Q=>∃t Z3 H3 Q3,Rep K H t v/\SimS K H Z3 Z/\SimH K H3 H/\t3 t Z3 H3 Q3/\KS3 K H Q3 Q
def Rq (t3:lu):TGs:=fun vs Z H Q=>∃ts Z3 H3 Q3,Reps K H ts vs/\SimS K H Z3 Z/\SimH K H3 H/\t3 ts Z3 H3 Q3/\KS3 K H Q3 Q
def Lr (r3:R3):R2:=fun x y H Q=>∃tx ty H3 Q3,Rep K H tx x/\Rep K H ty y/\SimH K H3 H/\r3 tx ty H3 Q3/\KV3 K H Q3 Q
def V6 (r3:List T->Hp3->VK3->Prop):List V->Hp->VK->Prop:=fun xs H Q=>∃ts H3 Q3,Reps K H ts xs/\SimH K H3 H/\r3 ts H3 Q3/\KV3 K H Q3 Q
def V7 (r3:T->List T->Hp3->VK3->Prop):V->List V->Hp->VK->Prop:=fun x xs H Q=>∃tx ts H3 Q3,Rep K H tx x/\Reps K H ts xs/\SimH K H3 H/\r3 tx ts H3 Q3/\KV3 K H Q3 Q
end
section
variable {K:Frag}{H H1:Hp}
theorem KV3.at {Q3:VK3}{Q:VK}(k:KV3 K H Q3 Q) (le:TupLe K H H1):KV3 K H1 Q3 Q:=fun v H' t H3' l=>k v H' t H3' (le.trans l)
theorem KS3.at {N3:St3->Hp3->Prop}{N:L2.St->Hp->Prop}(k:KS3 K H N3 N) (le:TupLe K H H1):KS3 K H1 N3 N:=fun a b c d l=>k a b c d (le.trans l)
end
def PE3 (X:Cx) (e:Expr) (t:TE3):Prop:=PE X e (lft X.K t)
def PT3 (X:Cx) (e:Expr) (t:TT3):Prop:=PT X e (yc X.K t)
def PW3 (X:Cx) (e:Expr) (t:TT3):Prop:=PW X e (yc X.K t)
def PA3 (X:Cx) (es:List Expr) (t:TA3):Prop:=PA X es (V5 X.K t)
def PS3 (X:Cx) (st:Stmt) (t:TS3):Prop:=PS X st (Rp X.K t)
def oX (X:Cx) (st:List Stmt) (t:TS3):Prop:=PSs X st (Rp X.K t)
def PG3 (X:Cx) (e:Expr) (t:TG3):Prop:=PG X e (Fy X.K t)
def Fz (X:Cx) (es:List Expr) (t:lu):Prop:=PGs X es (Rq X.K t)
def eU (X:Cx) (f:Value->Value->Sem Value) (r:R3):Prop:=OpR X f (Lr X.K r)
def cZ (X:Cx) (f:Value) (r:List T->Hp3->VK3->Prop):Prop:=CallR X f (V6 X.K r)
def Rr (X:Cx) (r:R3):Prop:=IxR X (Lr X.K r)
def zz (X:Cx) (id:String) (r:T->List T->Hp3->VK3->Prop):Prop:=MtR X id (V7 X.K r)
theorem PE.imp {X:Cx}{e:Expr}{t t':TE}(h:PE X e t) (w:∀Z H Q,t' Z H Q->t Z H Q):PE X e t':=fun pins s Z H Q I q=>h pins s Z H Q I (w Z H Q q)
theorem PT.imp {X:Cx}{e:Expr}{t t':TT}(h:PT X e t) (w:∀Z H Q,t' Z H Q->t Z H Q):PT X e t':=fun pins s Z H Q I q=>h pins s Z H Q I (w Z H Q q)
theorem PW.imp {X:Cx}{e:Expr}{t t':TT}(h:PW X e t) (w:∀Z H Q,t' Z H Q->t Z H Q):PW X e t':=fun wh pins s Z H Q I q=>h wh pins s Z H Q I (w Z H Q q)
theorem PA.imp {X:Cx}{es:List Expr}{t t':TA}(h:PA X es t) (w:∀Z H Q,t' Z H Q->t Z H Q):PA X es t':=fun pos pins s Z H Q I q=>h pos pins s Z H Q I (w Z H Q q)
theorem PS.imp {X:Cx}{e:Stmt}{t t':TS}(h:PS X e t) (w:∀D Z H,t' D Z H->t D Z H):PS X e t':=fun pins s Z H D I q=>h pins s Z H D I (w D Z H q)
theorem PSs.imp {X:Cx}{e:List Stmt}{t t':TS}(h:PSs X e t) (w:∀D Z H,t' D Z H->t D Z H):PSs X e t':=fun pins s Z H D I q=>h pins s Z H D I (w D Z H q)
theorem PG.imp {X:Cx}{e:Expr}{t t':TG}(h:PG X e t) (w:∀v Z H Q,t' v Z H Q->t v Z H Q):PG X e t':=fun pins s Z H v u Q I r q=>h pins s Z H v u Q I r (w v Z H Q q)
theorem PGs.imp {X:Cx}{e:List Expr}{t t':TGs}(h:PGs X e t) (w:∀v Z H Q,t' v Z H Q->t v Z H Q):PGs X e t':=fun pins s Z H v u Q I r q=>h pins s Z H v u Q I r (w v Z H Q q)
theorem OpR.imp {X:Cx}{f:Value->Value->Sem Value}{t t':R2}(h:OpR X f t) (w:∀x y H Q,t' x y H Q->t x y H Q):OpR X f t':=fun pins s Z H x y v u Q I r1 r2 q=>h pins s Z H x y v u Q I r1 r2 (w x y H Q q)
theorem UnR.imp {X:Cx}{f:Value->Sem Value}{t t':V->Hp->VK->Prop}(h:UnR X f t) (w:∀x H Q,t' x H Q->t x H Q):UnR X f t':=fun pins s Z H x v Q I r1 q=>h pins s Z H x v Q I r1 (w x H Q q)
theorem CallR.imp {X:Cx}{f:Value}{t t':List V->Hp->VK->Prop}(h:CallR X f t) (w:∀x H Q,t' x H Q->t x H Q):CallR X f t':=fun pins s Z H x v Q I r1 q=>h pins s Z H x v Q I r1 (w x H Q q)
theorem IxR.imp {X:Cx}{t t':R2}(h:IxR X t) (w:∀x y H Q,t' x y H Q->t x y H Q):IxR X t':=fun a b pins s Z H x y v u Q I r1 r2 q=>h a b pins s Z H x y v u Q I r1 r2 (w x y H Q q)
theorem MtR.imp {X:Cx}{id:String}{t t':V->List V->Hp->VK->Prop}(h:MtR X id t) (w:∀x xs H Q,t' x xs H Q->t x xs H Q):MtR X id t':=fun pins s Z H x xs v us Q I r1 r2 q=>h pins s Z H x xs v us Q I r1 r2 (w x xs H Q q)
section
variable {X:Cx}{pos:Pos}
def qK (i:Nat):TE3:=fun Z H Q=>match Z[i]? with
 |some (some t)=>Q t H
 |_=>False
def tC3 (t:T):TE3:=fun _ H Q=>Q t H
theorem v3 (i:Nat) {x:Str}{pos:Pos}(hN:X.N[i]?=some x:=by rfl) (hv:Vis X.env.scope x:=by first | exact Or.inl rfl | exact Or.inr (Or.inl rfl) | exact Or.inr (Or.inr rfl)) (hd:(x==("__debug__":Str))=false:=by decide)
  (hcd:(x==("__classdict__":Str))=false:=by decide):PE3 X (.Name x pos) (qK i):=by
 refine PE.imp (pv i hN hv hd hcd) ?_;rintro Z H Q ⟨Z3,H3,Q3,ss,sh,h,k⟩;unfold qK at h;split at h
 ·rename_i t e;obtain⟨v,e',r⟩:=ss.at' i t e;exact⟨v,e',k v H t H3 .refl sh r h⟩
 exact h.elim
theorem ao {i:Int}{j:Nat}:PE3 X (.Constant (.int i) j pos) (tC3 (.int i)):=by
 refine PE.imp Ko ?_;rintro Z H Q ⟨Z3,H3,Q3,ss,sh,h,k⟩;exact k _ _ _ H3 .refl sh .ofInt h
theorem cz {b:Bool}{j:Nat}:PE3 X (.Constant (.bool b) j pos) (tC3 (.bl b)):=by
 refine PE.imp Qu ?_;rintro Z H Q ⟨Z3,H3,Q3,ss,sh,h,k⟩;exact k _ _ _ H3 .refl sh .ofBl h
theorem zA {j:Nat}:PE3 X (.Constant .none j pos) (tC3 .non):=by
 refine PE.imp Kp ?_;rintro Z H Q ⟨Z3,H3,Q3,ss,sh,h,k⟩;exact k _ _ _ H3 .refl sh .ofNon h
theorem gB {x:Str}{j:Nat}:PE3 X (.Constant (.str x) j pos) (tC3 (.str x)):=by
 refine PE.imp Kq ?_;rintro Z H Q ⟨Z3,H3,Q3,ss,sh,h,k⟩;exact k _ _ _ H3 .refl sh .ofStr h
theorem g3 {x:Str}{t:T}{v:V}{u:Value}(hg:Gl X x) (hm:X.mg x=some u) (r:RelV v u) (rt:∀H,Rep X.K H t v) (hd:(x==("__debug__":Str))=false:=by decide):PE3 X (.Name x pos) (tC3 t):=by
 refine PE.imp (Eh hg hm r hd) ?_;rintro Z H Q ⟨Z3,H3,Q3,ss,sh,h,k⟩;exact k _ _ _ H3 .refl sh (rt H) h
variable {a b c:Expr}{ta tb tc:TE3}
def qL (r:R3) (ta tb:TE3):TE3:=fun Z H Q=>ta Z H fun x H1=>tb Z H1 fun y H2=>r x y H2 Q
theorem ik {r:R3}{Z:L2.St}{H:Hp}{Q:VK}(h:lft X.K (qL r ta tb) Z H Q):tOp (Lr X.K r) (lft X.K ta) (lft X.K tb) Z H Q:=by
 obtain⟨Z3,H3,Q3,ss,sh,h,k⟩:=h;exact⟨Z3,H3,_,ss,sh,h,fun x H1 tx H31 le1 sh1 rx q1=>⟨Z3,H31,_,ss.mono le1,sh1,q1,fun y H2 ty H32 le2 sh2 ry q2=>⟨tx,ty,H32,Q3,rx.mono le2,ry,sh2,q2,k.at (le1.trans le2)⟩⟩⟩
theorem aF {op:Operator}{r:R3}(ho:eU X (binaryOp op) r) (ha:PE3 X a ta) (hb:PE3 X b tb):PE3 X (.BinOp a op b pos) (qL r ta tb):=PE.imp (QH ho ha hb) fun _ _ _ h=>ik h
theorem dR {op:CmpOp}{r:R3}(ho:eU X (compareOp op) r) (ha:PE3 X a ta) (hb:PE3 X b tb) (hm:behindInMarks op b=false:=by first | exact yW _ | rfl):PE3 X (.Compare a [op] [b] pos) (qL r ta tb):=PE.imp (Es ho ha hb hm) fun _ _ _ h=>ik h
theorem aL {r:R3}(hr:Rr X r) (ha:PE3 X a ta) (hb:PE3 X b tb) (hs:vJ b:=by exact fun _ _=>rfl):PE3 X (.Subscript a b pos) (qL r ta tb):=PE.imp (Q7 hr ha hb hs) fun _ _ _ h=>ik h
def jy (t:TE3):TT3:=fun Z H Q=>t Z H fun x H'=>match x with
 |.bl k=>Q k H'
 |_=>False
theorem aV {op:CmpOp}{r:R3}(ho:eU X (compareOp op) r) (ha:PE3 X a ta) (hb:PE3 X b tb) (hm:behindInMarks op b=false:=by first | exact yW _ | rfl):PT3 X (.Compare a [op] [b] pos) (jy (qL r ta tb)):=by
 refine PT.imp (Et ho ha hb hm) ?_;rintro Z H Q ⟨Z3,H3,Q3,ss,sh,h,k⟩;refine ik (X:=X) ⟨Z3,H3,_,ss,sh,h,fun v H' t H3' le sh' r q=>?_⟩;cases t with
 |bl b=>exact⟨b,r.bl,k b H' H3' le sh' q⟩
 |_=>exact q.elim
def FJ (r r':R3) (ta tb tc:TE3):TE3:=fun Z H Q=>ta Z H fun x H1=>tb Z H1 fun y H2=>r x y H2 fun z H3=>match z with
 |.bl k=>if k=true then tc Z H3 fun w H4=>r' y w H4 Q else Q (.bl false) H3
 |_=>False
variable {tA tB':TT3}{rest:List Expr}
theorem cR (h:PE3 X a ta) (he:∀whole,isTrue a X.env whole=(do let v <- whole;standAt a.pos;holding [v] (truthy v)):=by intro _;rfl):PT3 X a (jy ta):=by
 refine PT.imp (Kr h he) ?_;rintro Z H Q ⟨Z3,H3,Q3,ss,sh,h,k⟩;refine⟨Z3,H3,_,ss,sh,h,fun v H' t H3' le sh' r q=>?_⟩;cases t with
 |bl b=>exact⟨b,r.bl,k b H' H3' le sh' q⟩
 |_=>exact q.elim
def Je (t u:TT3):TT3:=fun Z H Q=>t Z H fun c H1=>if c=true then u Z H1 Q else Q false H1
def Rt (t u:TT3):TT3:=fun Z H Q=>t Z H fun c H1=>if c=true then Q true H1 else u Z H1 Q
def Jf (t:TT3):TT3:=fun Z H Q=>t Z H fun c H1=>Q (!c) H1
theorem PW3.pt (h:PW3 X a tA):PT3 X a tA:=PW.pt h
theorem dY (ha:PT3 X a tA):PW3 X (.BoolOp .And [a] pos) tA:=Ej ha
theorem oY (ha:PT3 X a tA):PW3 X (.BoolOp .Or [a] pos) tA:=Ks ha
theorem eV (ha:PT3 X a tA) (hb:PW3 X (.BoolOp .And (b::rest) pos) tB'):PW3 X (.BoolOp .And (a::b::rest) pos) (Je tA tB'):=by
 refine PW.imp (Ku ha hb) ?_;rintro Z H Q ⟨Z3,H3,Q3,ss,sh,h,k⟩;refine⟨Z3,H3,_,ss,sh,h,fun b H' H3' le sh' q=>?_⟩;cases b with
 |true=>exact⟨Z3,H3',_,ss.mono le,sh',q,fun b H'' H3'' le' sh'' q'=>k b H'' H3'' (le.trans le') sh'' q'⟩
 |false=>exact k false H' H3' le sh' q
theorem qM (ha:PT3 X a tA) (hb:PW3 X (.BoolOp .Or (b::rest) pos) tB'):PW3 X (.BoolOp .Or (a::b::rest) pos) (Rt tA tB'):=by
 refine PW.imp (Qv ha hb) ?_;rintro Z H Q ⟨Z3,H3,Q3,ss,sh,h,k⟩;refine⟨Z3,H3,_,ss,sh,h,fun b H' H3' le sh' q=>?_⟩;cases b with
 |true=>exact k true H' H3' le sh' q
 |false=>exact⟨Z3,H3',_,ss.mono le,sh',q,fun b H'' H3'' le' sh'' q'=>k b H'' H3'' (le.trans le') sh'' q'⟩
theorem gC (ha:PT3 X a tA):PT3 X (.UnaryOp .Not a pos) (Jf tA):=by
 refine PT.imp (Kv ha) ?_;rintro Z H Q ⟨Z3,H3,Q3,ss,sh,h,k⟩;exact⟨Z3,H3,_,ss,sh,h,fun b H' H3' le sh' q=>k _ H' H3' le sh' q⟩
def Ls (ta tb:TE3):TE3:=fun Z H Q=>ta Z H fun x H1=>match x with
 |.bl c=>if c=true then tb Z H1 Q else Q (.bl false) H1
 |_=>False
def Jg (ta tb:TE3):TE3:=fun Z H Q=>ta Z H fun x H1=>match x with
 |.bl c=>if c=true then Q (.bl true) H1 else tb Z H1 Q
 |_=>False
def Lw (ta:TE3):TE3:=fun Z H Q=>ta Z H fun x H1=>match x with
 |.bl c=>Q (.bl (!c)) H1
 |_=>False
theorem Lx {op:PySem.BoolOp}{t:TE3}(h:PE3 X a t):PE3 X (.BoolOp op [a] pos) t:=Kz h
theorem Ru (ha:PE3 X a ta) (hb:PE3 X (.BoolOp .Or (b::rest) pos) tb):PE3 X (.BoolOp .Or (a::b::rest) pos) (Jg ta tb):=by
 refine PE.imp (Qw ha hb) ?_;rintro Z H Q ⟨Z3,H3,Q3,ss,sh,h,k⟩;refine⟨Z3,H3,_,ss,sh,h,fun v H' t H3' le sh' r q=>?_⟩;cases t with
 |bl b =>
  refine⟨b,r.bl,?_⟩;cases b with
  |true=>exact k _ H' _ H3' le sh' .ofBl q
  |false=>exact⟨Z3,H3',_,ss.mono le,sh',q,k.at le⟩
 |_=>exact q.elim
def V8 (t:TT3) (ta tb:TE3):TE3:=fun Z H Q=>t Z H fun c H1=>if c=true then ta Z H1 Q else tb Z H1 Q
variable {e:Expr}{es:List Expr}{te:TE3}{t:TA3}
def Jh:TA3:=fun _ H Q=>Q [] H
def zB (ta:TE3) (tr:TA3):TA3:=fun Z H Q=>ta Z H fun x H1=>tr Z H1 fun xs H2=>Q (x::xs) H2
theorem ak:PA3 X [] Jh:=by
 refine PA.imp Le ?_;rintro Z H Q ⟨Z3,H3,Q3,ss,sh,h,k⟩;exact k _ _ _ _ .refl sh .nil h
theorem aa (ha:PE3 X e te) (hr:PA3 X es t) (hs:starEach (e::es) X.env=(false,eval e X.env)::starEach es X.env:=by rfl):PA3 X (e::es) (zB te t):=by
 refine PA.imp (Ey ha hr hs) ?_;rintro Z H Q ⟨Z3,H3,Q3,ss,sh,h,k⟩;exact⟨Z3,H3,_,ss,sh,h,fun v H' t H3' le sh' r q=>⟨Z3,H3',_,ss.mono le,sh',q,fun vs H'' ts H3'' le' sh'' rs q'=>k _ _ _ _ (le.trans le') sh'' (.cons (r.mono le') rs) q'⟩⟩
def Ji (t:TA3):TE3:=fun Z H Q=>t Z H fun xs H1=>xs.length<=sizeLine/\Q (.tup xs) H1
def Jj (t:TA3):TE3:=fun Z H Q=>t Z H fun xs H1=>xs.length<=sizeLine/\∀p,H1 p=none->Q (.ref p) (up3 H1 p (.lst xs))
theorem SimH.newTup {K:Frag}{H:Hp}{H3:Hp3}{ts:List T}{xs:List V}{p:Addr}(hp:H p=none) (r:Reps K H ts xs):Rep K (upd H p (.tup xs)) (.tup ts) (.ref p) :=
 .ofTup (.of bM) (r.mono (aJ hp))
theorem SimH.newLst {K:Frag}{H:Hp}{H3:Hp3}{ts:List T}{xs:List V}{p:Addr}(s:SimH K H3 H) (hp:H p=none) (r:Reps K H ts xs):SimH K (up3 H3 p (.lst ts)) (upd H p (.lst xs)):=fun a o e=>by
 by_cases ha:a=p
 ·subst ha;rw[aq] at e;cases e;exact⟨xs,bM,r.mono (aJ hp)⟩
 rw[aD ha] at e;exact s.new hp a o e
theorem bG {x1}(h:PA3 X es t):PE3 X (.Tuple es x1 pos) (Ji t):=by
 refine PE.imp (Lf h) ?_;rintro Z H Q ⟨Z3,H3,Q3,ss,sh,h,k⟩;refine⟨Z3,H3,_,ss,sh,h,fun vs H' ts H3' le sh' r q=>⟨by rw[<- r.length];exact q.1,fun p hp=>?_⟩⟩;exact k _ _ _ H3' (le.trans (aJ hp)) (sh'.new hp) (SimH.newTup (H3:=H3') hp r) q.2
theorem bf (h:PA3 X es t):PE3 X (.List es pos) (Jj t):=by
 refine PE.imp (Lg h) ?_;rintro Z H Q ⟨Z3,H3,Q3,ss,sh,h,k⟩;refine⟨Z3,H3,_,ss,sh,h,fun vs H' ts H3' le sh' r q=>⟨by rw[<- r.length];exact q.1,fun p hp=>?_⟩⟩;exact k _ _ _ _ (le.trans (aJ hp)) (sh'.newLst hp r) .ofRef (q.2 p (sh'.fresh hp))
end
section
variable {X:Cx}{st:Stmt}{rest:List Stmt}{e c:Expr}{te:TE3}{tc:TT3}{t u:TS3}{pos:Pos}
def zE:TS3:=fun D Z H=>D.nx Z H
def vO (t u:TS3):TS3:=fun D Z H=>t { D with nx:=u D} Z H
theorem aP:oX X [] zE:=by
 refine PSs.imp Ek ?_;rintro D Z H ⟨Z3,H3,D3,ss,sh,h,k1,_⟩;exact k1 _ _ _ _ .refl ss sh h
theorem aj (h1:PS3 X st t) (h2:oX X rest u):oX X (st::rest) (vO t u):=by
 refine PSs.imp (yQ h1 h2) ?_;rintro D Z H ⟨Z3,H3,D3,ss,sh,h,k1,k2,k3,k4⟩;exact⟨Z3,H3,_,ss,sh,h,fun Z' H' Z3' H3' le ss' sh' q=>⟨Z3',H3',D3,ss',sh',q,k1.at le,k2.at le,k3.at le,k4.at le⟩,k2,k3,k4⟩
theorem au (h1:PS3 X st t):oX X [st] t:=El h1
def zF (te:TE3):TS3:=fun D Z H=>te Z H fun _ H1=>D.nx Z H1
theorem cj (he:PE3 X e te) (hs:swapsWith e none pos.line X.env=pure false:=by rfl):PS3 X (.Expr e pos) (zF te):=by
 refine PS.imp (Em he hs) ?_;rintro D Z H ⟨Z3,H3,D3,ss,sh,h,k1,_⟩;exact⟨Z3,H3,_,ss,sh,h,fun v H' t H3' le sh' r q=>k1 _ _ _ _ le (ss.mono le) sh' q⟩
def Jk (te:TE3):TS3:=fun D Z H=>te Z H D.rt
theorem aK (he:PE3 X e te):PS3 X (.Return (some e) pos) (Jk te):=by
 refine PS.imp (KD he) ?_;rintro D Z H ⟨Z3,H3,D3,ss,sh,h,k1,k2,_⟩;exact⟨Z3,H3,_,ss,sh,h,k2⟩
def Ly:TS3:=fun D _ H=>D.rt .non H
def Jl (c:TT3) (t u:TS3):TS3:=fun D Z H=>c Z H fun b H1=>if b=true then t D Z H1 else u D Z H1
theorem bu {a b:List Stmt}(hc:PT3 X c tc) (ha:oX X a t) (hb:oX X b u):PS3 X (.If c a b pos) (Jl tc t u):=by
 refine PS.imp (Qz hc ha hb) ?_;rintro D Z H ⟨Z3,H3,D3,ss,sh,h,k1,k2,k3,k4⟩;refine⟨Z3,H3,_,ss,sh,h,fun b H' H3' le sh' q=>?_⟩;cases b with
 |true=>exact⟨Z3,H3',D3,ss.mono le,sh',q,k1.at le,k2.at le,k3.at le,k4.at le⟩
 |false=>exact⟨Z3,H3',D3,ss.mono le,sh',q,k1.at le,k2.at le,k3.at le,k4.at le⟩
def gM (i:Nat):TG3:=fun v Z H Q=>Q (Z.set i (some v)) H
theorem aC {i:Nat}{x:Str}(hN:X.N.Nodup) (hi:X.N[i]?=some x:=by rfl) (hx:Loc X.env.scope x:=by first | exact Or.inl rfl | exact Or.inr rfl) (hf:X.fn x=true\/X.env.scope.names.lookup x=some .local:=by first | exact .inl rfl | exact .inr rfl | assumption):PG3 X (.Name x pos) (gM i):=by
 refine PG.imp (En hN hi hx hf) ?_;rintro v Z H Q ⟨t,Z3,H3,Q3,r,ss,sh,h,k⟩;exact k _ _ _ _ .refl (ss.set r) sh h
def zG:lu:=fun ts Z H Q=>match ts with
 |[]=>Q Z H
 |_=>False
def oZ (t:TG3) (u:lu):lu:=fun ts Z H Q=>match ts with
 |x::r=>t x Z H fun Z' H'=>u r Z' H' Q
 |[]=>False
theorem bA:Fz X [] zG:=by
 refine PGs.imp Eo ?_;rintro vs Z H Q ⟨ts,Z3,H3,Q3,r,ss,sh,h,k⟩;cases ts with
 |nil=>exact⟨r.inv0,k _ _ _ _ .refl ss sh h⟩
 |cons _ _=>exact h.elim
theorem aH {e:Expr}{es:List Expr}{t:TG3}{u:lu}(h1:PG3 X e t) (h2:Fz X es u)
  (hs:(assignEach (e::es) X.env).map (·.2)=assign e X.env::(assignEach es X.env).map (·.2):=by rfl):Fz X (e::es) (oZ t u):=by
 refine PGs.imp (yS h1 h2 hs) ?_;rintro vs Z H Q ⟨ts,Z3,H3,Q3,r,ss,sh,h,k⟩;cases ts with
 |nil=>exact h.elim
 |cons x ts =>
 obtain⟨v,vr,rfl,rv,rr⟩:=r.inv;exact⟨v,vr,rfl,x,Z3,H3,_,rv,ss,sh,h,fun Z' H' Z3' H3' le ss' sh' q=>⟨ts,Z3',H3',Q3,rr.mono le,ss',sh',q,k.at le⟩⟩
def vP (n:Nat) (g:lu):TG3:=fun t Z H Q=>match t with
 |.tup ts=>ts.length=n/\g ts Z H Q
 |_=>False
theorem bW {es:List Expr}{k:Nat}{t:lu}{n:Nat}(hc:X.calm=true) (h:Fz X es t)
  (hn:(assignEach es X.env).length=n:=by rfl) (hst:(assignEach es X.env).findIdx? (·.1)=none:=by rfl):PG3 X (.Tuple es k pos) (vP n t):=by
 refine PG.imp (KH hc h hn hst) ?_;rintro v Z H Q ⟨t,Z3,H3,Q3,r,ss,sh,h,k⟩;cases t with
 |tup ts=>obtain⟨a,xs,rfl,s,rs⟩:=r.tup;exact⟨a,xs,rfl,s,by rw[<- rs.length];exact h.1,ts,Z3,H3,Q3,rs,ss,sh,h.2,k⟩
 |_=>exact h.elim
def vQ (te:TE3) (g:TG3):TS3:=fun D Z H=>te Z H fun x H1=>g x Z H1 D.nx
theorem gO {tg e:Expr}{te:TE3}{g:TG3}(he:PE3 X e te) (hg:PG3 X tg g) (hs:swapsWithSole [tg] e pos.line X.env=pure false:=by rfl) (hw:swappedStores [tg] e X.env=pure none:=by rfl)
  (h1:(assignEach [tg] X.env).map (·.2)=[assign tg X.env]:=by rfl):PS3 X (.Assign [tg] e pos) (vQ te g):=by
 refine PS.imp (KN he hg hs hw h1) ?_;rintro D Z H ⟨Z3,H3,D3,ss,sh,h,k1,_⟩;exact⟨Z3,H3,_,ss,sh,h,fun v H' t H3' le sh' r q=>⟨t,Z3,H3',_,r,ss.mono le,sh',q,k1.at le⟩⟩
theorem aG {i:Nat}{x:Str}{e:Expr}{te:TE3}{pos':Pos}(hN:X.N.Nodup) (he:PE3 X e te) (hi:X.N[i]?=some x:=by rfl) (hx:Loc X.env.scope x:=by first | exact Or.inl rfl | exact Or.inr rfl)
  (hs:swapsWith e (some (.Name x pos')) pos.line X.env=pure false:=by rfl) (hf:X.fn x=true\/X.env.scope.names.lookup x=some .local:=by first | exact .inl rfl | exact .inr rfl | assumption) :
  PS3 X (.Assign [.Name x pos'] e pos) (vQ te (gM i)):=by
 refine PS.imp (KQ hN hi hx he hs hf) ?_;rintro D Z H ⟨Z3,H3,D3,ss,sh,h,k1,_⟩;exact⟨Z3,H3,_,ss,sh,h,fun v H' t H3' le sh' r q=>k1 _ _ _ _ le ((ss.mono le).set r) sh' q⟩
end
abbrev qN:=T->T->T->Hp3->(Hp3->Prop)->Prop
def Lz (K:Frag) (t3:qN):yR:=fun o i v H Q=>∃to ti tv H3 Q3,Rep K H to o/\Rep K H ti i/\Rep K H tv v/\SimH K H3 H/\t3 to ti tv H3 Q3/\∀H' H3',TupLe K H H'->SimH K H3' H'->Q3 H3'->Q H'
def Jm (X:Cx) (t:qN):Prop:=PSet X (Lz X.K t)
theorem PSet.imp {X:Cx}{t t':yR}(h:PSet X t) (w:∀o i v H Q,t' o i v H Q->t o i v H Q):PSet X t':=fun pins s Z H o i v ov iv u Q I r1 r2 r3 q=>h pins s Z H o i v ov iv u Q I r1 r2 r3 (w o i v H Q q)
section
variable {X:Cx}{pos:Pos}
def Jo (to ti:TE3) (t:qN):TG3:=fun v Z H Q=>to Z H fun o H1=>ti Z H1 fun i H2=>t o i v H2 fun H3=>Q Z H3
theorem zH {o i:Expr}{to ti:TE3}{t:qN}(ho:PE3 X o to) (hi:PE3 X i ti) (hs:Jm X t)
  (ha:∀v,assign (.Subscript o i pos) X.env v=(do
   let ov <- holding [v] (eval o X.env)
   let iv <- holding [v,ov] (eval i X.env)
   standAt pos
   holding [v,ov,iv] (setItem ov iv v)
   release [v,ov,iv] []):=by intro _;rfl):PG3 X (.Subscript o i pos) (Jo to ti t):=by
 refine PG.imp (KJ ho hi hs ha) ?_;rintro v Z H Q ⟨t,Z3,H3,Q3,r,ss,sh,h,k⟩;exact⟨Z3,H3,_,ss,sh,h,fun o H1 to H31 le1 sh1 ro q1=>⟨Z3,H31,_,ss.mono le1,sh1,q1,fun i H2 ti H32 le2 sh2 ri q2=>⟨to,ti,t,H32,_,ro.mono le2,ri,r.mono (le1.trans le2),sh2,q2,fun H' H3' le sh' q=>k _ _ _ _ (le1.trans (le2.trans le)) (ss.mono (le1.trans (le2.trans le))) sh' q⟩⟩⟩
end
abbrev TI3:=St3->Hp3->(List T->(Hp3->Prop)->Hp3->Prop)->Prop
def iD (K:Frag) (J:It) (ts:List T) (still:Hp3->Prop) (H:Hp):Prop:=∀H' H3',TupLe K H H'->SimH K H3' H'->still H3' ->
 (∀i,ts.length<=i->J.stop i H')/\∀i t,ts[i]?=some t->J.go i H'/\∀x H'',J.yld i H' x H''->TupLe K H' H''/\SimH K H3' H''/\Rep K H'' t x
def V9 (K:Frag) (t3:TI3):TI:=fun Z H R=>∃Z3 H3 R3,SimS K H Z3 Z/\SimH K H3 H/\t3 Z3 H3 R3/\∀J ts still H' H3',TupLe K H H'->SimH K H3' H'->iD K J ts still H'->R3 ts still H3'->R J H'
def PI3 (X:Cx) (tg iter:Expr) (t:TI3):Prop:=PI X tg iter (V9 X.K t)
theorem PI.imp {X:Cx}{tg e:Expr}{t t':TI}(h:PI X tg e t) (w:∀Z H R,t' Z H R->t Z H R):PI X tg e t':=fun pins s Z H R I q=>h pins s Z H R I (w Z H R q)
def cA:Hp3->Prop:=fun _=>True
def aX (a:Addr) (ts:List T):Hp3->Prop:=fun H=>H a=some (.lst ts)\/H a=some (.rol ts)
theorem SimH.sqL {K:Frag}{H:Hp}{H3:Hp3}{a:Addr}{ts:List T}(s:SimH K H3 H) (h:aX a ts H3):∃xs,SqL K H a xs/\Reps K H ts xs:=by
 rcases h with h | h
 ·obtain⟨xs,e,r⟩:=s a _ h;exact⟨xs,.of e,r⟩
 obtain⟨xs,e,r⟩:=s a _ h;exact⟨xs,.inl e,r⟩
section
variable {X:Cx}{tg l:Expr}{tl:TE3}{pos p:Pos}
def zJ (tl:TE3):TI3:=fun Z H R=>tl Z H fun x H1=>match x with
 |.ref a=>match H1 a with
  |some (.lst ts)=>R ts (aX a ts) H1
  |some (.rol ts)=>R ts (aX a ts) H1
  |_=>False
 |_=>False
theorem nG {K:Frag}{H:Hp}{a:Addr}{ts:List T}:iD K (Itl K a) ts (aX a ts) H:=fun H' H3' le sh st=>by
 obtain⟨xs,sq,rs⟩:=sh.sqL st;have hl:=rs.length;refine⟨fun i hi=>⟨xs,sq,by omega⟩,fun i t e=>?_⟩;obtain⟨v,ev,rv⟩:=rs.get e;refine⟨⟨xs,v,sq,ev⟩,fun x H'' y=>?_⟩;obtain⟨e1,y⟩:=y;subst e1;have:=y xs sq;rw[ev] at this;cases this;exact⟨.refl,sh,rv⟩
theorem cL (hl:PE3 X l tl):PI3 X tg l (zJ tl):=by
 refine PI.imp (Ep hl) ?_;rintro Z H R ⟨Z3,H3,R3,ss,sh,h,k⟩;refine⟨Z3,H3,_,ss,sh,h,fun v H' t H3' le sh' r q=>?_⟩;cases t with
 |ref a =>
  have q':(match H3' a with
   |some (.lst ts)=>R3 ts (aX a ts) H3'
   |some (.rol ts)=>R3 ts (aX a ts) H3'
   |_=>False):=q
  split at q'
  ·
   rename_i ts e
   obtain⟨xs,sq,rs⟩:=sh'.sqL (.inl e)
   exact⟨a,r.ref,⟨xs,sq⟩,k _ ts (aX a ts) H' H3' le sh' nG q'⟩
  ·
   rename_i ts e
   obtain⟨xs,sq,rs⟩:=sh'.sqL (.inr e)
   exact⟨a,r.ref,⟨xs,sq⟩,k _ ts (aX a ts) H' H3' le sh' nG q'⟩
  ·
   exact q'.elim
 |_=>exact q.elim
def Jp (tl:TE3):TI3:=fun Z H R=>tl Z H fun x H1=>match x with
 |.tup ts=>R ts cA H1
 |_=>False
theorem zK {K:Frag}{H:Hp}{a:Addr}{ts:List T}{xs:List V}(sq:SqT K H a xs) (rs:Reps K H ts xs):iD K (Itt K a) ts cA H:=fun H' H3' le sh st=>by
 have hl:=rs.length;refine⟨fun i hi=>⟨xs,le _ _ sq,by omega⟩,fun i t e=>?_⟩;obtain⟨v,ev,rv⟩:=rs.get e;refine⟨⟨xs,v,le _ _ sq,ev⟩,fun x H'' y=>?_⟩;obtain⟨e1,y⟩:=y;subst e1;have:=y xs (le _ _ sq);rw[ev] at this;cases this;exact⟨.refl,sh,rv.mono le⟩
theorem bY (hl:PE3 X l tl):PI3 X tg l (Jp tl):=by
 refine PI.imp (KY hl) ?_;rintro Z H R ⟨Z3,H3,R3,ss,sh,h,k⟩;refine⟨Z3,H3,_,ss,sh,h,fun v H' t H3' le sh' r q=>?_⟩;cases t with
 |tup ts=>obtain⟨a,xs,e,sq,rs⟩:=r.tup;exact⟨a,e,⟨xs,sq⟩,k _ ts cA H' H3' le sh' (zK sq rs) q⟩
 |_=>exact q.elim
def dH (lo:Int) (n:Nat):List T:=(List.range n).map fun (i:Nat)=>T.int (lo+i)
theorem qO {K:Frag}{H:Hp}{lo:Int}{n:Nat}:iD K (Itr lo n) (dH lo n) cA H:=fun H' H3' le sh st=>by
 refine⟨fun i hi=>by unfold dH at hi;simp at hi;exact hi,fun i t e=>?_⟩;unfold dH at e;rw[o_] at e;by_cases hi:i<n
 ·rw[Wv hi] at e;cases e;refine⟨hi,fun x H'' y=>?_⟩;obtain⟨e1,e2⟩:=y;subst e1;subst e2;exact⟨.refl,sh,.ofInt⟩
 rw[J_ (by simpa using hi)] at e;cases e
def zL (ta:TA3):TI3:=fun Z H R=>ta Z H fun vs H1=>match vs with
 |[.int j]=>-(2^62)<=j/\j<2^62/\R (dH 0 j.toNat) cA H1
 |[.int i,.int j]=>(-(2^62)<=i/\i<2^62 /\ -(2^62)<=j/\j<2^62)/\R (dH i (j - i).toNat) cA H1
 |_=>False
theorem cB {a:Expr}{ta:TA3}(hg:Gl X "range") (hm:X.mg "range"=none) (ha:PA3 X [a] ta) (hs:starEach [a] X.env=[(false,eval a X.env)]:=by rfl):PI3 X tg (.Call (.Name "range" p) [a] [] pos) (zL (fun Z H Q=>ta Z H fun vs H1=>vs.length=1/\Q vs H1)):=by
 refine PI.imp (xK hg hm ha hs) ?_;rintro Z H R ⟨Z3,H3,R3,ss,sh,h,k⟩;refine⟨Z3,H3,_,ss,sh,h,fun vs H' ts H3' le sh' r q=>?_⟩;obtain⟨hl,q⟩:=q;cases ts with
 |nil=>cases hl
 |cons t ts =>
 cases ts with
 |cons _ _=>simp at hl
 |nil =>
 cases t with
 |int j=>obtain⟨v,_,rfl,rv,r0⟩:=r.inv;rw[r0.inv0,rv.int];exact⟨j,rfl,q.1,q.2.1,k _ _ _ H' H3' le sh' qO q.2.2⟩
 |_=>exact q.elim
theorem yd {a b:Expr}{ta:TA3}(hg:Gl X "range") (hm:X.mg "range"=none) (ha:PA3 X [a,b] ta) (hs:starEach [a,b] X.env=[(false,eval a X.env),(false,eval b X.env)]:=by rfl) (hs2:starEach [b] X.env=[(false,eval b X.env)]:=by rfl) :
  PI3 X tg (.Call (.Name "range" p) [a,b] [] pos) (zL (fun Z H Q=>ta Z H fun vs H1=>vs.length=2/\Q vs H1)):=by
 refine PI.imp (xM hg hm ha hs hs2) ?_;rintro Z H R ⟨Z3,H3,R3,ss,sh,h,k⟩;refine⟨Z3,H3,_,ss,sh,h,fun vs H' ts H3' le sh' r q=>?_⟩;obtain⟨hl,q⟩:=q
 match ts,hl,r with
 |[t1,t2],_,r =>
 obtain⟨v,_,rfl,rv,r1⟩:=r.inv;obtain⟨v2,_,rfl,rv2,r2⟩:=r1.inv;cases t1 with
 |int i =>
  cases t2 with
  |int j=>rw[r2.inv0,rv.int,rv2.int];exact⟨i,j,rfl,q.1,k _ _ _ H' H3' le sh' qO q.2⟩
  |_=>exact q.elim
 |_=>cases t2 <;> exact q.elim
end
def iter3 (g:TG3) (tb:TS3) (D:Ends3) (still:Hp3->Prop):List T->St3->Hp3->Prop
 |[],Z,H=>still H/\D.nx Z H
 |t::r,Z,H=>still H/\g t Z H fun Z2 H2=>tb { D with nx:=iter3 g tb D still r,ct:=iter3 g tb D still r,bk:=D.nx} Z2 H2
theorem iter3.st {g:TG3}{tb:TS3}{D:Ends3}{still:Hp3->Prop}{ts:List T}{Z:St3}{H:Hp3}(h:iter3 g tb D still ts Z H):still H:=by
 cases ts with
 |nil=>exact h.1
 |cons t r=>exact h.1
def Jq (wi:TI3) (g:TG3) (tb:TS3):TS3:=fun D Z H=>wi Z H fun ts still H1=>iter3 g tb D still ts Z H1
section
variable {X:Cx}{tg iter:Expr}{pos:Pos}
theorem bh {body:List Stmt}{wi:TI3}{g:TG3}{tb:TS3}(hp:PassesOwn (model X.prog X.w) X.A X.env X.xe) (hc:X.calm=true) (hi:PI3 X tg iter wi) (hg:PG3 X tg g) (hb:oX X body tb)
  (hs:∀x,foldedSetIterable iter X.env x=pure x:=by intro _;rfl):PS3 X (.For tg iter body [] pos) (Jq wi g tb):=by
 refine PS.imp (KZ hp hc hi hg hb hs) ?_;rintro D Z H ⟨Z3,H3,D3,ss,sh,h,k1,k2,k3,k4⟩;refine⟨Z3,H3,_,ss,sh,h,fun J ts still H1 H31 le sh1 wk q=>?_⟩;refine⟨fun i m Z H=>∃Z3 H3,TupLe X.K H1 H/\SimS X.K H Z3 Z/\SimH X.K H3 H/\m=ts.length - i/\i<=ts.length/\iter3 g tb D3 still (ts.drop i) Z3 H3,⟨ts.length,Z3,H31,.refl,ss.mono le,sh1,rfl,WR _,by simpa using q⟩,?_⟩;rintro i m Z H ⟨Z4,H4,le4,ss4,sh4,rfl,hi,it⟩;have w:=wk H H4 le4 sh4 it.st;by_cases hlt:i<ts.length
 ·have e:=a_ hlt;have ed:ts.drop i=ts[i]::ts.drop (i+1):=Xb hlt;rw[ed] at it;obtain⟨st,it⟩:=it;obtain⟨go,yl⟩:=w.2 i _ e;refine .inr ⟨go,fun Z' H'=>∃Z3 H3,TupLe X.K H1 H'/\SimS X.K H' Z3 Z'/\SimH X.K H3 H'/\iter3 g tb D3 still (ts.drop (i+1)) Z3 H3,fun Z' H' ⟨s5,h5,a,b,c,d⟩=>⟨ts.length - (i+1),by omega,s5,h5,a,b,c,rfl,hlt,d⟩,fun x H' y=>?_⟩;obtain⟨le',sh',rx⟩:=yl x H' y;refine⟨ts[i],Z4,H4,_,rx,ss4.mono le',sh',it,fun Z2 H2 Z32 H32 le2 ss2 sh2 q2=>?_⟩;have all:TupLe X.K H1 H2:=le4.trans (le'.trans le2);have nx:∀(B:TupLe X.K H1 H2),KS3 X.K H2 (iter3 g tb D3 still (ts.drop (i+1))) (fun Z' H'=>∃Z3 H3,TupLe X.K H1 H'/\SimS X.K H' Z3 Z'/\SimH X.K H3 H'/\iter3 g tb D3 still (ts.drop (i+1)) Z3 H3) :=
   fun B Z' H' Z3' H3' l s h q=>⟨Z3',H3',B.trans l,s,h,q⟩
  exact⟨Z32,H32,_,ss2,sh2,q2,nx all,k2.at (le.trans all),k1.at (le.trans all),nx all⟩
 have e:i=ts.length:=by omega
 subst e;rw[List.drop_length] at it;exact .inl ⟨w.1 _ (j_ _),k1 _ _ _ _ (le.trans le4) ss4 sh4 it.2⟩
def vR (c:TT3) (tb:TS3):TS3:=fun D Z H=>∃W:Nat->St3->Hp3->Prop,(∃m,W m Z H)/\∀m Z H,W m Z H ->
 c Z H fun b H1=>if b=true then tb { D with nx:=fun Z' H'=>∃m',m'<m/\W m' Z' H',ct:=fun Z' H'=>∃m',m'<m/\W m' Z' H',bk:=D.nx} Z H1 else D.nx Z H1
theorem lw {c:Expr}{body:List Stmt}{tc:TT3}{tb:TS3}(hp:PassesOwn (model X.prog X.w) X.A X.env X.xe) (hc:PT3 X c tc) (hb:oX X body tb):PS3 X (.While c body [] pos) (vR tc tb):=by
 refine PS.imp (yU hp hc hb) ?_;rintro D Z H ⟨Z3,H3,D3,ss,sh,⟨W,⟨m0,w0⟩,turn⟩,k1,k2,k3,k4⟩;refine⟨fun m Z' H'=>∃Z3 H3,TupLe X.K H H'/\SimS X.K H' Z3 Z'/\SimH X.K H3 H'/\W m Z3 H3,⟨m0,Z3,H3,.refl,ss,sh,w0⟩,?_⟩;rintro m Z1 H1 ⟨Z4,H4,le4,ss4,sh4,w4⟩;refine⟨Z4,H4,_,ss4,sh4,turn m Z4 H4 w4,fun b H2 H5 le5 sh5 q=>?_⟩;cases b with
 |true =>
  rw[if_pos rfl] at q ⊢;have nx:KS3 X.K H2 (fun Z' H'=>∃m',m'<m/\W m' Z' H') (fun Z' H'=>∃m',m'<m/\∃Z3 H3,TupLe X.K H H'/\SimS X.K H' Z3 Z'/\SimH X.K H3 H'/\W m' Z3 H3) :=
   fun Z' H' Z3' H3' l s h ⟨m',hm,w⟩=>⟨m',hm,Z3',H3',le4.trans (le5.trans l),s,h,w⟩
  exact⟨_,fun Z' H' h=>h,Z4,H5,_,ss4.mono le5,sh5,q,nx,k2.at (le4.trans le5),k1.at (le4.trans le5),nx⟩
 |false =>
 rw[if_neg p_] at q ⊢;exact k1 _ _ _ _ (le4.trans le5) (ss4.mono le5) sh5 q
end
def FN (X:Cx) (ifs:List Expr) (t:TT3):Prop:=PIf X ifs (yc X.K t)
def vU:TT3:=fun _ H Q=>Q true H
theorem cX {X:Cx}:FN X [] vU:=fun pins s Z H Q I ⟨Z3,H3,Q3,ss,sh,h,k⟩=>Fq pins s Z H Q I (k _ _ _ .refl sh h)
theorem gD {X:Cx}{c:Expr}{t:TT3}(h:PT3 X c t):FN X [c] t:=Ft h
def o4 (nt:Nat) (cap:List Nat) (Z:St3):St3:=List.replicate nt none++cap.map fun j=>(Z[j]?).getD none
theorem vV {K:Frag}{H:Hp}{Z3:St3}{Z:L2.St}{nt:Nat}{cap:List Nat}(s:SimS K H Z3 Z):SimS K H (o4 nt cap Z3) (mK nt cap Z):=by
 refine⟨by simp [o4,mK],fun i t e=>?_⟩;unfold o4 at e;unfold mK;by_cases hi:i<nt
 ·rw[WM (by simpa using hi),Yc] at e;split at e <;> cases e
 rw[N_ (by simpa using hi),o_] at e;rw[N_ (by simpa using hi),o_];simp only[WX] at e ⊢;cases q:cap[i - nt]? with
 |none=>rw[q] at e;cases e
 |some j =>
 rw[q] at e;have e':(Z3[j]?).getD none=some t:=K_ e;have e2:Z3[j]?=some (some t):=by
  cases z:Z3[j]? with
  |none=>rw[z] at e';cases e'
  |some y=>rw[z] at e';exact WK some e'
 obtain⟨v,ev,r⟩:=s.at' j t e2;exact⟨v,by simp [ev],r⟩
def cIter3 (g:TG3) (tt:TT3) (te:TE3) (still:Hp3->Prop) (fin:List T->Hp3->Prop):List T->List T->St3->Hp3->Prop
 |[],ys,Z,H=>still H/\ys.length<=sizeLine/\fin ys H
 |t::r,ys,Z,H=>still H/\g t Z H fun Z2 H2=>tt Z2 H2 fun b H3=>if b=true then te Z2 H3 fun y H4=>ys.length<sizeLine/\cIter3 g tt te still fin r (ys++[y]) Z2 H4 else cIter3 g tt te still fin r ys Z2 H3
theorem cIter3.st {g:TG3}{tt:TT3}{te:TE3}{still:Hp3->Prop}{fin:List T->Hp3->Prop}{ts ys:List T}{Z:St3}{H:Hp3}(h:cIter3 g tt te still fin ts ys Z H):still H:=by
 cases ts with
 |nil=>exact h.1
 |cons t r=>exact h.1
theorem zM {K:Frag}{J:It}{g:TG3}{tt:TT3}{te:TE3}{still:Hp3->Prop}{fin3:List T->Hp3->Prop}{fin:List V->Hp->Prop}{ts:List T}{Z3:St3}{Z:L2.St}{H1:Hp}{H31:Hp3}
  (wk:iD K J ts still H1) (ss:SimS K H1 Z3 Z) (sh:SimH K H31 H1) (h:cIter3 g tt te still fin3 ts [] Z3 H31)
  (hf:∀ys us H' H3',TupLe K H1 H'->SimH K H3' H'->Reps K H' ys us->fin3 ys H3'->fin us H'):vN J (Fy K g) (yc K tt) (lft K te) fin Z H1:=by
 refine⟨fun i m us Z H=>∃Z3 H3 ys,TupLe K H1 H/\SimS K H Z3 Z/\SimH K H3 H/\Reps K H ys us/\m=ts.length - i/\i<=ts.length/\cIter3 g tt te still fin3 (ts.drop i) ys Z3 H3,⟨ts.length,Z3,H31,[],.refl,ss,sh,.nil,rfl,WR _,by simpa using h⟩,?_⟩;rintro i m us Z H ⟨Z4,H4,ys,le4,ss4,sh4,ry,rfl,hi,it⟩;have w:=wk H H4 le4 sh4 it.st;by_cases hlt:i<ts.length
 ·have e:=a_ hlt;have ed:ts.drop i=ts[i]::ts.drop (i+1):=Xb hlt;rw[ed] at it;obtain⟨st,it⟩:=it;obtain⟨go,yl⟩:=w.2 i _ e;refine .inr ⟨go,fun x H' y=>?_⟩;obtain⟨le',sh',rx⟩:=yl x H' y;refine⟨ts[i],Z4,H4,_,rx,ss4.mono le',sh',it,fun Z2 H2 Z32 H32 le2 ss2 sh2 q2=>?_⟩;refine⟨Z32,H32,_,ss2,sh2,q2,fun b H3 H33 le3 sh3 q3=>?_⟩;have all:TupLe K H H3:=le'.trans (le2.trans le3);cases b with
  |true=>rw[if_pos rfl] at q3;refine V3 ?_;refine⟨Z32,H33,_,ss2.mono le3,sh3,q3,fun v H5 t H35 le5 sh5 rt q5=>⟨by rw[<- ry.length];exact q5.1,ts.length - (i+1),by omega,Z32,H35,ys++[t],le4.trans (all.trans le5),ss2.mono (le3.trans le5),sh5,(ry.mono (all.trans le5)).append (.cons rt .nil),rfl,hlt,q5.2⟩⟩
  |false =>
  rw[if_neg p_] at q3;refine V2 ?_;exact⟨ts.length - (i+1),by omega,Z32,H33,ys,le4.trans all,ss2.mono le3,sh3,ry.mono all,rfl,hlt,q3⟩
 have e:i=ts.length:=by omega
 subst e;rw[List.drop_length] at it;exact .inl ⟨w.1 _ (j_ _),by rw[<- ry.length];exact it.2.1,hf _ _ _ _ le4 sh4 ry it.2.2⟩
def zN (wi:TI3) (g:TG3) (tt:TT3) (te:TE3) (nt:Nat) (cap:List Nat):TE3:=fun Z H Q=>wi Z H fun ts still H1=>cIter3 g tt te still (fun ys H'=>∀p,H' p=none->Q (.ref p) (up3 H' p (.lst ys))) ts [] (o4 nt cap Z) H1
def nH (wi:TI3) (g:TG3) (tt:TT3) (te:TE3) (nt:Nat) (cap:List Nat) (i:Nat):TS3:=fun D Z H=>wi Z H fun ts still H1=>cIter3 g tt te still (fun ys H'=>∀p,H' p=none->D.nx (Z.set i (some (.ref p))) (up3 H' p (.lst ys))) ts [] (o4 nt cap Z) H1
section
variable {X:Cx}{N':List Str}{nt:Nat}{cap:List Nat}{scope:Scope}{elt tg iter:Expr}{ifs:List Expr}{pos pos' spos:Pos}{wi:TI3}{g:TG3}{tt:TT3}{te:TE3}
theorem bU (hc:X.calm=true) (S:CompSc X N' nt cap scope) (hi:PI3 X tg iter wi)
  (hX:∀cl pins s H C fp,PG3 (bF X N' scope cl pins s H C fp) tg g/\FN (bF X N' scope cl pins s H C fp) ifs tt/\PE3 (bF X N' scope cl pins s H C fp) elt te)
  (hs:∀x,foldedSetIterable iter X.env x=pure x:=by intro _;rfl):PE3 X (.ListComp elt [⟨tg,iter,ifs,0⟩] scope pos) (zN wi g tt te nt cap):=by
 refine PE.imp (Fw (g:=Fy X.K g) (tt:=yc X.K tt) (te:=lft X.K te) hc S hi hX hs) ?_;rintro Z H Q ⟨Z3,H3,Q3,ss,sh,h,k⟩;refine⟨Z3,H3,_,ss,sh,h,fun J ts still H1 H31 le sh1 wk q=>?_⟩;exact zM wk (vV (ss.mono le)) sh1 q fun ys us H' H3' le' sh' ry q' p hp=>k _ _ _ _ (le.trans (le'.trans (aJ hp))) (sh'.newLst hp ry) .ofRef (q' p (sh'.fresh hp))
theorem vW {i:Nat}{x:Str}(hc:X.calm=true) (hN:X.N.Nodup) (S:CompSc X N' nt cap scope) (hi:PI3 X tg iter wi)
  (hX:∀cl pins s H C fp,PG3 (bF X N' scope cl pins s H C fp) tg g/\FN (bF X N' scope cl pins s H C fp) ifs tt/\PE3 (bF X N' scope cl pins s H C fp) elt te)
  (hi':X.N[i]?=some x:=by rfl) (hx:Loc X.env.scope x:=by first | exact Or.inl rfl | exact Or.inr rfl)
  (hsw:swapsWith (.ListComp elt [⟨tg,iter,ifs,0⟩] scope pos) (some (.Name x pos')) spos.line X.env=pure true:=by rfl)
  (hs:∀x,foldedSetIterable iter X.env x=pure x:=by intro _;rfl) (hf:X.fn x=true\/X.env.scope.names.lookup x=some .local:=by first | exact .inl rfl | exact .inr rfl | assumption) :
  PS3 X (.Assign [.Name x pos'] (.ListComp elt [⟨tg,iter,ifs,0⟩] scope pos) spos) (nH wi g tt te nt cap i):=by
 refine PS.imp (Fx (g:=Fy X.K g) (tt:=yc X.K tt) (te:=lft X.K te) hc hN hi' hx S hi hX hsw hs hf) ?_;rintro D Z H ⟨Z3,H3,D3,ss,sh,h,k1,_⟩;refine⟨Z3,H3,_,ss,sh,h,fun J ts still H1 H31 le sh1 wk q=>?_⟩;exact zM wk (vV (ss.mono le)) sh1 q fun ys us H' H3' le' sh' ry q' p hp =>
  k1 _ _ _ _ (le.trans (le'.trans (aJ hp))) ((ss.mono (le.trans (le'.trans (aJ hp)))).set .ofRef) (sh'.newLst hp ry) (q' p (sh'.fresh hp))
end
abbrev Sp3:=List T->Hp3->VK3->Prop
def qP (K:Frag) (sp:Sp3):Sp:=fun vs H Q _=>∃ts H3 Q3,Reps K H ts vs/\SimH K H3 H/\sp ts H3 Q3/\KV3 K H Q3 Q
def Sub3 (H H':Hp3):Prop:=∀a o,H a=some o->H' a=some o
theorem Sub3.refl {H:Hp3}:Sub3 H H:=fun _ _ h=>h
theorem Sub3.trans {H H1 H2:Hp3}(a:Sub3 H H1) (b:Sub3 H1 H2):Sub3 H H2:=fun c o h=>b c o (a c o h)
theorem Sub3.new {H:Hp3}{p:Addr}{o:O3}(h:H p=none):Sub3 H (up3 H p o):=fun a u e=>by rw[aD (bw e h)];exact e
theorem SimH.sub {K:Frag}{H3 H3':Hp3}{H:Hp}(s:SimH K H3' H) (h:Sub3 H3 H3'):SimH K H3 H:=fun a o e=>s a o (h a o e)
def Fin3 (Q:VK3):VK3:=fun v H=>∃H',Sub3 H' H/\Q v H'
theorem Fin3.of {Q:VK3}{v:T}{H H':Hp3}(h:Sub3 H' H) (q:Q v H'):Fin3 Q v H:=⟨H',h,q⟩
def aR (N:List Str) (ts:List T):St3:=ts.map some++List.replicate (N.length - ts.length) none
theorem ye {K:Frag}{H:Hp}{N:List Str}{ts:List T}{vs:List V}(r:Reps K H ts vs):SimS K H (aR N ts) (L2.start N vs):=by
 refine⟨by simp [aR,L2.start,r.length],fun i t e=>?_⟩;unfold aR at e;unfold L2.start;have hl:=r.length;by_cases hi:i<ts.length
 ·rw[WM (by simpa using hi),o_] at e;rw[WM (by rw[h_];omega),o_];cases q:ts[i]? with
  |none=>rw[q] at e;cases e
  |some u =>
  rw[q] at e;cases e;obtain⟨v,ev,rv⟩:=r.get q;exact⟨v,by rw[ev];rfl,rv⟩
 rw[N_ (by simpa using hi),Yc] at e;split at e <;> cases e
section
variable {X:Cx}{k:Nat}{f:Addr}{fd:FuncData}{ps:List Str}{sp:Sp3}{x:Str}{p pos:Pos}{e:Expr}{es:List Expr}{t:TA3}
def FnOk3 (P:Program) (w:World) (K:Frag) (mg:Str->Option Value) (base:Heap) (k:Nat) (f:Addr) (fd:FuncData) (ps:List Str) (sp:Sp3):Prop:=FnOk P w K mg base CX0 k f fd ps (qP K sp)
theorem FnOk3.mono {P:Program}{w:World}{K:Frag}{mg:Str->Option Value}{base:Heap}{j k:Nat}(F:FnOk3 P w K mg base j f fd ps sp) (h:j<=k):FnOk3 P w K mg base k f fd ps sp:=FnOk.mono F h
def o5 (sp:Sp3) (t:TA3):TE3:=fun Z H Q=>t Z H fun vs H1=>sp vs H1 Q
theorem FP (F:FnOk3 X.prog X.w X.K X.mg X.base k f fd ps sp) (hr:Room k X.A) (hg:Gl X x) (hm:X.mg x=some (.ref f)) (hk:keepIn X.K (.ref f)=true) (hb:Binds X.K fd ps [])
  (ha:PA3 X (e::es) t) (hdb:(x==("__debug__":Str))=false:=by decide) (he:starEach (e::es) X.env=(false,eval e X.env)::starEach es X.env:=by rfl) (hpl:(backTo pos (starEach es X.env)).any (·.1)=false:=by rfl) :
  PE3 X (.Call (.Name x p) (e::es) [] pos) (o5 sp t):=by
 refine PE.imp (Ez (dvs:=[]) (E:=E0) F hr hg hm hk hb .nil zu ha hdb he hpl) ?_;rintro Z H Q ⟨Z3,H3,Q3,ss,sh,h,k⟩;refine⟨Z3,H3,_,ss,sh,h,fun vs H' ts H3' le sh' r q=>?_⟩;show qP X.K sp (vs++[]) H' Q E0;rw[WD];exact⟨ts,H3',Q3,r,sh',q,k.at le⟩
theorem fn3 {P:Program}{w:World}{K:Frag}{mg:Str->Option Value}{base:Heap}{qual:Str}{st:Stmt}{N:List Str}(F:Fun K x qual st f fd) (S:FnScope N ps (aB st)) (len:∀ts H Q,sp ts H Q->ts.length=ps.length)
  (hbody:∀(cdv:Value) (A:Around) (outer:List Env) (s:Shared) (H:Hp) (E:XK) (ts:List T) (H3:Hp3) (Q:VK3),Room k (A.deeper (envOfC qual (aB st) s.heap.objs.size f cdv))->sp ts H3 Q ->
   ∃t,oX (tX CX0 P w K mg base N qual (aB st) f cdv A outer s H E).nox (bD st) t/\t { nx:=fun _ H'=>Fin3 Q .non H',rt:=Fin3 Q} (aR N ts) H3):FnOk3 P w K mg base (k+1) f fd ps sp:=by
 refine F.ok S (fun vs H Q E ⟨ts,H3,Q3,r,sh,q,k⟩=>by rw[<- r.length];exact len _ _ _ q) fun cdv A outer s H vs Q E hr ⟨ts,H3,Q3,r,sh,q,k⟩=>?_;obtain⟨t,ht,hq⟩:=hbody cdv A outer s H E ts H3 Q3 hr q;exact⟨_,ht,aR N ts,H3,_,ye r,sh,hq,fun Z' H' Z3' H3' le ss' sh' ⟨H4,sb,q⟩=>k _ _ _ _ le (sh'.sub sb) .ofNon q,fun v H' t H3' le sh' rv ⟨H4,sb,q⟩=>k _ _ _ _ le (sh'.sub sb) rv q,fun _ _ _ _ _ _ _ z=>z,fun _ _ _ _ _ _ _ z=>z⟩
end
noncomputable instance:DecidableEq T:=fun a b=>Classical.propDecidable (a=b)
def pl:Nat->T->Bool
 |_,.non=>true
 |_,.int _=>true
 |_,.str _=>true
 |d+1,.tup ts=>ts.all (pl d)
 |_,_=>false
section
variable {X:Cx}{pins:List (Addr × Obj)}{Z:L2.St}{H:Hp}{s:Shared}
theorem vX (I:Inv X pins Z H s):∀(d:Nat) (x y:T) (v:V),pl d x=true->pl d y=true->Rep X.K H x v->Rep X.K H y v->x=y:=by
 intro d;induction d with
 |zero =>
  intro x y v px py rx ry;cases x <;> cases y <;> first
   |rfl
   | (simp only[Rep] at rx ry;subst rx;cases ry <;> rfl)
   | (simp [pl] at px;done)
   | (simp [pl] at py;done)
 |succ d ih =>
 intro x y v px py rx ry;cases x with
 |tup ts =>
  cases y with
  |tup us =>
   obtain⟨a,xs,rfl,sq,r⟩:=rx.tup;obtain⟨b,ys,e,sq',r'⟩:=ry.tup;cases e;have:=I.tuple_inj sq sq';subst this;simp only[pl,Xe] at px py;congr 1;have key:∀(ts us:List T) (xs:List V),(∀t∈ts,pl d t=true)->(∀t∈us,pl d t=true)->Reps X.K H ts xs->Reps X.K H us xs->ts=us:=by
    intro ts;induction ts with
    |nil =>
     intro us xs _ _ h h';rw[h.inv0] at h';cases us with
     |nil=>rfl
     |cons u us=>obtain⟨_,_,e,_⟩:=h'.inv;cases e
    |cons t ts ih2 =>
    intro us xs p1 p2 h h';obtain⟨v,r,rfl,a,b⟩:=h.inv;cases us with
    |nil=>exact absurd h'.inv0 (by simp)
    |cons u us =>
    obtain⟨v',r',e,a',b'⟩:=h'.inv;cases e;rw[ih t u v (p1 t k_) (p2 u k_) a a',ih2 us r (fun t ht=>p1 t (t_ _ ht)) (fun t ht=>p2 t (t_ _ ht)) b b']
   exact key ts us xs px py r r'
  |_=>first | (simp only[Rep] at rx ry;obtain⟨a,xs,e,_⟩:=rx;subst e;cases ry;done) | (simp [pl] at py;done)
 |_=>cases y <;> first
  |rfl
  | (simp only[Rep] at rx ry;subst rx;cases ry <;> rfl)
  | (simp [pl] at px;done)
  | (simp [pl] at py;done)
  | (simp only[Rep] at rx ry;obtain⟨a,xs,e,_⟩:=ry;subst e;cases rx;done)
theorem units_in1 (A:Around):A.in1.units=A.units+1:=by rfl
theorem lz {α:Type} [DecidableEq (Option α)] (ts us:List α):((List.range (min ts.length us.length)).all (fun j=>decide (ts[j]?=us[j]?))&&ts.length==us.length)=true↔ts=us:=by
 rw[WL,Xe,Yp];constructor
 ·rintro⟨h,hl⟩;refine Yd fun i=>?_;by_cases hi:i<ts.length
  ·exact XN (h i (Wu.mpr (by omega)))
  rw[J_ (by omega),J_ (by omega)]
 rintro rfl;exact⟨fun i _=>by simp,rfl⟩
theorem FQ {us:List Value}{i:Nat}(h:i<us.toArray.size) {v:Value}(e:us[i]?=some v):us.toArray[i]=v:=by
 have:us.toArray[i]?=some v:=by simpa using e
 rw[Yu h] at this;exact K_ this
theorem vY (I:Inv X pins Z H s):∀(d:Nat) (A:Around) (x y:T) (vx vy:V) (u v:Value),pl d x=true->pl d y=true->Rep X.K H x vx->Rep X.K H y vy->RelV vx u->RelV vy v->A.units+d<cLine->SeqAt.EqAt A s u v (decide (x=y)):=by
 have iI:∀(A:Around) (x y:T) (vx vy:V) (u v:Value),pl 0 x=true->pl 0 y=true->Rep X.K H x vx->Rep X.K H y vy->RelV vx u->RelV vy v->SeqAt.EqAt A s u v (decide (x=y)):=by
  intro A x y vx vy u v px py rx ry ru rv;cases x with
  |non =>
   cases rx.non;cases ru;cases y with
   |non=>cases ry.non;cases rv;simp only[Yo];exact SeqAt.EqAt.same _
   |int j=>cases ry.int;obtain⟨t',rfl⟩:=rv;rw[E_ (by simp)];exact SeqAt.EqAt.none_int _ _
   |str j=>cases ry.str;obtain⟨t',rfl⟩:=rv;rw[E_ (by simp)];exact SeqAt.EqAt.none_str _ _
   |_=>simp [pl] at py
  |int i =>
   cases rx.int;obtain⟨t,rfl⟩:=ru;cases y with
   |non=>cases ry.non;cases rv;rw[E_ (by simp)];exact SeqAt.EqAt.int_none _ _
   |int j=>cases ry.int;obtain⟨t',rfl⟩:=rv;rw[show decide (T.int i=T.int j)=(i==j) by by_cases h:i=j <;> simp [h]];exact Zi _ _ _ _
   |str j=>cases ry.str;obtain⟨t',rfl⟩:=rv;rw[E_ (by simp)];exact SeqAt.EqAt.int_str _ _ _ _
   |_=>simp [pl] at py
  |str i =>
   cases rx.str;obtain⟨t,rfl⟩:=ru;cases y with
   |non=>cases ry.non;cases rv;rw[E_ (by simp)];exact SeqAt.EqAt.str_none _ _
   |int j=>cases ry.int;obtain⟨t',rfl⟩:=rv;rw[E_ (by simp)];exact SeqAt.EqAt.str_int _ _ _ _
   |str j=>cases ry.str;obtain⟨t',rfl⟩:=rv;rw[show decide (T.str i=T.str j)=(i==j) by by_cases h:i=j <;> simp [h]];exact SeqAt.EqAt.str_str _ _ _ _
   |_=>simp [pl] at py
  |_=>simp [pl] at px
 intro d;induction d with
 |zero=>intro A x y vx vy u v px py rx ry ru rv _;exact iI A x y vx vy u v px py rx ry ru rv
 |succ d ih =>
 intro A x y vx vy u v px py rx ry ru rv hu;have hu0:A.units<cLine:=by omega
 cases x with
 |tup ts =>
  obtain⟨a,xs,rfl,sq,r⟩:=rx.tup;cases ru;obtain⟨its,rv1,ht,_⟩:=I.tuple sq;cases y with
  |tup us =>
   obtain⟨b,ys,rfl,sq',r'⟩:=ry.tup;cases rv;obtain⟨its',rv2,ht',_⟩:=I.tuple sq';by_cases hab:a=b
   ·subst hab;have e:T.tup ts=T.tup us:=vX I (d+1) _ _ (.ref a) px py (.ofTup sq r) (.ofTup sq' r');rw[e,L_ rfl];exact SeqAt.EqAt.same _
   have l1:=r.length;have l2:=r'.length;have l3:=rv1.length;have l4:=rv2.length;have key:=SeqAt.RcAt.tuples (A:=A) (s:=s) (e:=fun j=>decide (ts[j]?=us[j]?)) (show s.heap.IsTuple a its.toArray from ht) (show s.heap.IsTuple b its'.toArray from ht') hu0 (fun j h1 h2=>by
    rw[i_] at h1 h2
    have g1:j<ts.length:=by omega
    have g2:j<us.length:=by omega
    obtain⟨p1,e1,q1⟩:=r.get (a_ g1)
    obtain⟨p2,e2,q2⟩:=r'.get (a_ g2)
    obtain⟨z1,f1,w1⟩:=rv1.get e1
    obtain⟨z2,f2,w2⟩:=rv2.get e2
    rw[FQ _ f1,FQ _ f2,a_ g1,a_ g2]
    simp only[pl,Xe] at px py
    have:=ih A.in1 ts[j] us[j] p1 p2 z1 z2 (px _ (W4 g1)) (py _ (W4 g2)) q1 q2 w1 w2 (by rw[units_in1];omega)
    rw[show decide (some ts[j]=some us[j])=decide (ts[j]=us[j]) by by_cases h:ts[j]=us[j] <;> simp [h]]
    exact this)
   have eb:((List.range (min its.toArray.size its'.toArray.size)).all (fun j=>decide (ts[j]?=us[j]?))&&its.toArray.size==its'.toArray.size)=decide (T.tup ts=T.tup us):=by
    rw[i_,i_,<- l3,<- l1,<- l4,<- l2,Wz,lz,v_];constructor
    ·rintro rfl;rfl
    intro h;injection h
   rw[eb] at key;exact .of_refs hab key
  |non=>cases ry.non;cases rv;rw[E_ (by simp)];exact SeqAt.EqAt.tuple_none ht hu0
  |int j=>cases ry.int;obtain⟨t',rfl⟩:=rv;rw[E_ (by simp)];exact SeqAt.EqAt.tuple_int _ _ ht hu0
  |str j=>cases ry.str;obtain⟨t',rfl⟩:=rv;rw[E_ (by simp)];exact SeqAt.EqAt.tuple_str _ _ ht hu0
  |_=>simp [pl] at py
 |non =>
  cases y with
  |tup us=>obtain⟨b,ys,rfl,sq',r'⟩:=ry.tup;cases rv;obtain⟨its',rv2,ht',_⟩:=I.tuple sq';cases rx.non;cases ru;rw[E_ (by simp)];exact SeqAt.EqAt.none_tuple ht' hu0
  |non=>exact iI A _ _ vx vy u v rfl rfl rx ry ru rv
  |int j=>exact iI A _ _ vx vy u v rfl rfl rx ry ru rv
  |str j=>exact iI A _ _ vx vy u v rfl rfl rx ry ru rv
  |_=>simp [pl] at py
 |int i =>
  cases y with
  |tup us=>obtain⟨b,ys,rfl,sq',r'⟩:=ry.tup;cases rv;obtain⟨its',rv2,ht',_⟩:=I.tuple sq';cases rx.int;obtain⟨t,rfl⟩:=ru;rw[E_ (by simp)];exact SeqAt.EqAt.int_tuple _ _ ht' hu0
  |non=>exact iI A _ _ vx vy u v rfl rfl rx ry ru rv
  |int j=>exact iI A _ _ vx vy u v rfl rfl rx ry ru rv
  |str j=>exact iI A _ _ vx vy u v rfl rfl rx ry ru rv
  |_=>simp [pl] at py
 |str i =>
  cases y with
  |tup us=>obtain⟨b,ys,rfl,sq',r'⟩:=ry.tup;cases rv;obtain⟨its',rv2,ht',_⟩:=I.tuple sq';cases rx.str;obtain⟨t,rfl⟩:=ru;rw[E_ (by simp)];exact SeqAt.EqAt.str_tuple _ _ ht' hu0
  |non=>exact iI A _ _ vx vy u v rfl rfl rx ry ru rv
  |int j=>exact iI A _ _ vx vy u v rfl rfl rx ry ru rv
  |str j=>exact iI A _ _ vx vy u v rfl rfl rx ry ru rv
  |_=>simp [pl] at py
 |_=>simp [pl] at px
end
def rI3 (C:Int->Int->Prop) (g:Int->Int->T):R3:=fun x y H Q=>match x,y with
 |.int i,.int j=>C i j/\Q (g i j) H
 |_,_=>False
def qQ (g:Int->Int->T):R3:=fun x y H Q=>match x,y with
 |.int i,.int j=>Q (g i j) H
 |_,_=>False
section
variable {X:Cx}
theorem FT {f:Value->Value->Sem Value}{C:Int->Int->Prop}{g:Int->Int->T}{g':Int->Int->V}(h:OpR X f (rI C g')) (hg:∀i j H,Rep X.K H (g i j) (g' i j)):eU X f (rI3 C g):=by
 refine OpR.imp h ?_;rintro x y H Q ⟨tx,ty,H3,Q3,rx,ry,sh,h,k⟩;cases tx with
 |int i =>
  cases ty with
  |int j=>exact⟨i,j,rx.int,ry.int,h.1,k _ _ _ _ .refl sh (hg i j H) h.2⟩
  |_=>exact h.elim
 |_=>exact h.elim
theorem nJ {f:Value->Value->Sem Value}{g:Int->Int->T}{g':Int->Int->V}(h:OpR X f (rI0 g')) (hg:∀i j H,Rep X.K H (g i j) (g' i j)):eU X f (qQ g):=by
 refine OpR.imp h ?_;rintro x y H Q ⟨tx,ty,H3,Q3,rx,ry,sh,h,k⟩;cases tx with
 |int i =>
  cases ty with
  |int j=>exact⟨i,j,rx.int,ry.int,k _ _ _ _ .refl sh (hg i j H) h⟩
  |_=>exact h.elim
 |_=>exact h.elim
def zO (_ j:Int):Prop:=0<j/\j.natAbs.log2<9000
theorem zP:OpR X (binaryOp .FloorDiv) (rI zO fun i j=>.int (i / j)):=opI fun i j _ _ _ _ _ hc q=>by
 have e:i / j=i.fdiv j:=(Int.fdiv_eq_ediv_of_nonneg i (Int.le_of_lt hc.1)).symm;rw[e] at q;exact floordiv_int (Int.ne_of_gt hc.1) q (.inl (PyProof.noPylong_of_log2 hc.2))
theorem uh:eU X (binaryOp .Sub) (qQ fun i j=>.int (i - j)):=nJ K4 fun _ _ _=>.ofInt
theorem aZ:eU X (binaryOp .FloorDiv) (rI3 zO fun i j=>.int (i / j)):=FT zP fun _ _ _=>.ofInt
theorem aU:eU X (binaryOp .Mod) (rI3 (fun _ j=>0<j) fun i j=>.int (i%j)):=FT K6 fun _ _ _=>.ofInt
theorem iQ:eU X (binaryOp .Pow) (rI3 QK fun i j=>.int (i^j.toNat)):=FT K7 fun _ _ _=>.ofInt
theorem Jr:eU X (compareOp .LtE) (qQ fun i j=>.bl (decide (i<=j))):=nJ QR fun _ _ _=>.ofBl
theorem qR:eU X (compareOp .Gt) (qQ fun i j=>.bl (decide (j<i))):=nJ QS fun _ _ _=>.ofBl
theorem Rv:eU X (compareOp .GtE) (qQ fun i j=>.bl (decide (j<=i))):=nJ QT fun _ _ _=>.ofBl
theorem cT:eU X (binaryOp .Mult) (rI3 CMul fun i j=>.int (i*j)):=FT K5 fun _ _ _=>.ofInt
def qT:R3:=fun x y H Q=>match x,y with
 |.int i,.int j=>Q (.int (i+j)) H
 |.str i,.str j=>i.length+j.length<=sizeLine/\Q (.str (i++j)) H
 |.ref a,.ref b=>match H a,H b with
  |some (.lst xs),some (.lst ys)=>xs.length+ys.length<=sizeLine/\∀p,H p=none->Q (.ref p) (up3 H p (.lst (xs++ys)))
  |_,_=>False
 |.tup xs,.tup ys=>xs.length+ys.length<=sizeLine/\Q (.tup (xs++ys)) H
 |_,_=>False
theorem zQ:OpR X (binaryOp .Add) (fun x y H Q=>∃a b ys,x=.ref a/\y=.ref b/\SqT X.K H a []/\SqT X.K H b ys/\Q (.ref b) H):=by
 intro pins s Z H x y v u Q I rx ry h;obtain⟨a,b,ys,rfl,rfl,ha,hb,q⟩:=h;cases rx;cases ry;obtain⟨its,r1,p1,_⟩:=I.tuple ha;obtain⟨its2,r2,p2,_⟩:=I.tuple hb;cases r1;obtain⟨⟨cls,dd,data,sl⟩,ho,hc,n,hd⟩:=id p1;obtain⟨⟨cls2,dd2,data2,sl2⟩,ho2,hc2,n2,hd2⟩:=id p2;simp only at hc hd hc2 hd2;subst hc hd hc2 hd2;exact concat_meets ⟨_,ho,rfl⟩ ⟨_,ho2,rfl⟩ noFill_tuple_add seq_tuple_add PySem.F.slot_tuple_add PySem.F.entry_tuple_add (Zd _ _)
   (tuple_addW0 a b _ its2.toArray n n2 dd dd2 sl sl2 (by simp)) ⟨ho,ho2,⟨.ref b,H,I,rfl,q⟩⟩
theorem aY:eU X (binaryOp .Add) qT:=by
 refine OpR.imp (op_add.or (op_add_str.or (op_cat.or (op_catT.or zQ)))) ?_;rintro x y H Q ⟨tx,ty,H3,Q3,rx,ry,sh,h,k⟩;cases tx with
 |int i =>
  cases ty with
  |int j=>exact .inl ⟨i,j,rx.int,ry.int,k _ _ _ _ .refl sh .ofInt h⟩
  |_=>exact h.elim
 |str i =>
  cases ty with
  |str j=>exact .inr (.inl ⟨i,j,rx.str,ry.str,h.1,k _ _ _ _ .refl sh .ofStr h.2⟩)
  |_=>exact h.elim
 |ref a =>
  cases ty with
  |ref b =>
   have h':(match H3 a,H3 b with
    |some (.lst xs),some (.lst ys)=>xs.length+ys.length<=sizeLine/\∀p,H3 p=none->Q3 (.ref p) (up3 H3 p (.lst (xs++ys)))
    |_,_=>False):=h
   split at h'
   ·
    rename_i xs ys e1 e2
    obtain⟨vs,g1,r1⟩:=sh a _ e1
    obtain⟨ws,g2,r2⟩:=sh b _ e2
    refine .inr (.inr (.inl ⟨a,b,vs,ws,rx.ref,ry.ref,g1,g2,by rw[<- r1.length,<- r2.length];exact h'.1,fun p hp=>?_⟩))
    exact k _ _ _ _ (aJ hp) (sh.newLst hp (r1.append r2)) .ofRef (h'.2 p (sh.fresh hp))
   ·
    exact h'.elim
  |_=>exact h.elim
 |tup xs =>
  cases ty with
  |tup ys =>
   obtain⟨a,vs,rfl,s1,r1⟩:=rx.tup;obtain⟨b,ws,rfl,s2,r2⟩:=ry.tup;by_cases hv:vs=[]
   ·subst hv;have e0:xs=[]:=X_ r1.length;subst e0;exact .inr (.inr (.inr (.inr ⟨a,b,ws,rfl,rfl,s1,s2,k _ _ _ _ .refl sh (.ofTup s2 r2) h.2⟩)))
   refine .inr (.inr (.inr (.inl ⟨a,b,vs,ws,rfl,rfl,s1,s2,hv,by rw[<- r1.length,<- r2.length];exact h.1,fun hw=>?_,fun hw p hp=>?_⟩)))
   ·have e:ys=[]:=by have:=r2.length;rw[hw] at this;exact X_ this
    have q:=h.2;rw[e,WD] at q;exact k _ _ _ _ .refl sh (.ofTup s1 r1) q
   exact k _ _ _ _ (aJ hp) (sh.new hp) (SimH.newTup (H3:=H3) hp (r1.append r2)) h.2
  |_=>exact h.elim
 |_=>exact h.elim
variable {pins:List (Addr × Obj)}{Z:L2.St}{H:Hp}{s:Shared}
def qU (neg:Bool):R3:=fun x y H Q=>match x,y with
 |.int i,.int j=>Q (.bl (if neg then !decide (i=j) else decide (i=j))) H
 |.str i,.str j=>Q (.bl (if neg then !decide (i=j) else decide (i=j))) H
 |.bl i,.bl j=>Q (.bl (if neg then !decide (i=j) else decide (i=j))) H
 |.non,.non=>Q (.bl (if neg then false else true)) H
 |.tup xs,.tup ys=>xs.all (pl 20)=true/\ys.all (pl 20)=true/\Q (.bl (if neg then !decide (xs=ys) else decide (xs=ys))) H
 |.ref a,.ref b=>match H a,H b with
  |some (.lst xs),some (.lst ys)=>a≠b/\xs.all (pl 20)=true/\ys.all (pl 20)=true/\Q (.bl (if neg then !decide (xs=ys) else decide (xs=ys))) H
  |_,_=>False
 |_,_=>False
theorem jf (I:Inv X pins Z H s) {ts us:List T}{xs ys:List V}{its its':List Value}{A:Around}(hu:A.units+30<cLine) (px:ts.all (pl 20)=true) (py:us.all (pl 20)=true) (r:Reps X.K H ts xs) (r':Reps X.K H us ys) (rv1:Vals xs its) (rv2:Vals ys its') :
  ∀j (h1:j<its.toArray.size) (h2:j<its'.toArray.size),SeqAt.EqAt A.in1 s its.toArray[j] its'.toArray[j] (decide (ts[j]?=us[j]?)):=fun j h1 h2=>by
 have l1:=r.length;have l2:=r'.length;have l3:=rv1.length;have l4:=rv2.length;rw[i_] at h1 h2;have g1:j<ts.length:=by omega
 have g2:j<us.length:=by omega
 obtain⟨p1,e1,q1⟩:=r.get (a_ g1);obtain⟨p2,e2,q2⟩:=r'.get (a_ g2);obtain⟨z1,f1,w1⟩:=rv1.get e1;obtain⟨z2,f2,w2⟩:=rv2.get e2;rw[FQ _ f1,FQ _ f2,a_ g1,a_ g2];rw[Xe] at px py;have:=vY I 20 A.in1 ts[j] us[j] p1 p2 z1 z2 (px _ (W4 g1)) (py _ (W4 g2)) q1 q2 w1 w2 (by rw[units_in1];omega);rw[show decide (some ts[j]=some us[j])=decide (ts[j]=us[j]) by by_cases h:ts[j]=us[j] <;> simp [h]];exact this
theorem jg {ts us:List T}:((List.range (min ts.length us.length)).all (fun j=>decide (ts[j]?=us[j]?))&&ts.length==us.length)=decide (ts=us):=by
 rw[Wz,lz,v_]
theorem cP (hu:X.A.units+30<cLine):eU X (compareOp .Eq) (qU false):=by
 intro pins s Z H x y v u Q I rv ru h;obtain⟨tx,ty,H3,Q3,rx,ry,sh,h,k⟩:=h;have sc:∀{x y:V},iI x y=true->RelV x v->RelV y u->(k:Q (.bl (decide (x=y))) H)->wpAny (model X.prog X.w) X.A (compareOp .Eq v u) (EP X pins Z Q) X.xe s:=fun {x y} a r1 r2 q=>QM pins s Z H x y v u Q I r1 r2 ⟨a,q⟩;cases tx with
 |int i =>
  cases ty with
  |int j=>rw[rx.int] at rv;rw[ry.int] at ru;exact sc rfl rv ru (k _ _ _ _ .refl sh (by rw[show decide (V.int i=V.int j)=decide (i=j) by by_cases e:i=j <;> simp [e]];exact .ofBl) h)
  |_=>exact h.elim
 |str i =>
  cases ty with
  |str j=>rw[rx.str] at rv;rw[ry.str] at ru;exact sc rfl rv ru (k _ _ _ _ .refl sh (by rw[show decide (V.str i=V.str j)=decide (i=j) by by_cases e:i=j <;> simp [e]];exact .ofBl) h)
  |_=>exact h.elim
 |bl i =>
  cases ty with
  |bl j=>rw[rx.bl] at rv;rw[ry.bl] at ru;exact sc rfl rv ru (k _ _ _ _ .refl sh (by rw[show decide (V.bl i=V.bl j)=decide (i=j) by by_cases e:i=j <;> simp [e]];exact .ofBl) h)
  |_=>exact h.elim
 |non =>
  cases ty with
  |non=>rw[rx.non] at rv;rw[ry.non] at ru;exact sc rfl rv ru (k _ _ _ _ .refl sh (by rw[show decide (V.non=V.non)=true by simp];exact .ofBl) h)
  |_=>exact h.elim
 |tup ts =>
  cases ty with
  |tup us=>obtain⟨a,xs,rfl,sq,r⟩:=rx.tup;obtain⟨b,ys,rfl,sq',r'⟩:=ry.tup;cases rv;cases ru;obtain⟨its,rv1,ht,_⟩:=I.tuple sq;obtain⟨its',rv2,ht',_⟩:=I.tuple sq';refine SeqAt.eq_tupleAt (e:=fun j=>decide (ts[j]?=us[j]?)) ht ht' (by omega) (jf I hu h.1 h.2.1 r r' rv1 rv2) ⟨.bl _,H,I,rfl,?_⟩;rw[i_,i_,<- rv1.length,<- rv2.length,<- r.length,<- r'.length,jg];exact k _ _ _ _ .refl sh .ofBl h.2.2
  |_=>exact h.elim
 |ref a =>
  cases ty with
  |ref b =>
   have h':(match H3 a,H3 b with
    |some (.lst xs),some (.lst ys)=>a≠b/\xs.all (pl 20)=true/\ys.all (pl 20)=true/\Q3 (.bl (decide (xs=ys))) H3
    |_,_=>False):=h
   split at h'
   ·
    rename_i ts us e1 e2
    obtain⟨xs,g1,r⟩:=sh a _ e1
    obtain⟨ys,g2,r'⟩:=sh b _ e2
    cases rx.ref;cases ry.ref;cases rv;cases ru
    obtain⟨its,rv1,ht,_⟩:=I.list (X:=X) (.of g1)
    obtain⟨its',rv2,ht',_⟩:=I.list (X:=X) (.of g2)
    have hl:its.length=ts.length:=by rw[<- rv1.length,<- r.length]
    have hl':its'.length=us.length:=by rw[<- rv2.length,<- r'.length]
    by_cases hsz:ts.length=us.length
    ·
     refine SeqAt.eq_listAt (e:=fun j=>decide (ts[j]?=us[j]?)) ht.isList ht'.isList (by simp;omega) (by omega) (jf I hu h'.2.1 h'.2.2.1 r r' rv1 rv2) ⟨.bl _,H,I,rfl,?_⟩
     have e:=jg (ts:=ts) (us:=us)
     rw[<- hsz,Nat.min_self,beq_self_eq_true,Bool.and_true] at e
     rw[i_,hl,e]
     exact k _ _ _ _ .refl sh .ofBl h'.2.2.2
    ·
     refine SeqAt.eq_list_lengthsAt ht.isList ht'.isList (by simp;omega) (by omega) ⟨.bl false,H,I,rfl,?_⟩
     have e:decide (ts=us)=false:=E_ fun z=>hsz (by rw[z])
     have q:=h'.2.2.2
     rw[e] at q
     exact k _ _ _ _ .refl sh .ofBl q
   ·
    exact h'.elim
  |_=>exact h.elim
 |_=>exact h.elim
theorem iG (hu:X.A.units+30<cLine):eU X (compareOp .NotEq) (qU true):=by
 intro pins s Z H x y v u Q I rv ru h;obtain⟨tx,ty,H3,Q3,rx,ry,sh,h,k⟩:=h;have sc:∀{x y:V},iI x y=true->RelV x v->RelV y u->(k:Q (.bl (!decide (x=y))) H)->wpAny (model X.prog X.w) X.A (compareOp .NotEq v u) (EP X pins Z Q) X.xe s:=fun {x y} a r1 r2 q=>QQ pins s Z H x y v u Q I r1 r2 ⟨a,q⟩;cases tx with
 |int i =>
  cases ty with
  |int j=>rw[rx.int] at rv;rw[ry.int] at ru;exact sc rfl rv ru (k _ _ _ _ .refl sh (by rw[show decide (V.int i=V.int j)=decide (i=j) by by_cases e:i=j <;> simp [e]];exact .ofBl) h)
  |_=>exact h.elim
 |str i =>
  cases ty with
  |str j=>rw[rx.str] at rv;rw[ry.str] at ru;exact sc rfl rv ru (k _ _ _ _ .refl sh (by rw[show decide (V.str i=V.str j)=decide (i=j) by by_cases e:i=j <;> simp [e]];exact .ofBl) h)
  |_=>exact h.elim
 |bl i =>
  cases ty with
  |bl j=>rw[rx.bl] at rv;rw[ry.bl] at ru;exact sc rfl rv ru (k _ _ _ _ .refl sh (by rw[show decide (V.bl i=V.bl j)=decide (i=j) by by_cases e:i=j <;> simp [e]];exact .ofBl) h)
  |_=>exact h.elim
 |non =>
  cases ty with
  |non=>rw[rx.non] at rv;rw[ry.non] at ru;exact sc rfl rv ru (k _ _ _ _ .refl sh (by rw[show decide (V.non=V.non)=true by simp];exact .ofBl) h)
  |_=>exact h.elim
 |tup ts =>
  cases ty with
  |tup us=>obtain⟨a,xs,rfl,sq,r⟩:=rx.tup;obtain⟨b,ys,rfl,sq',r'⟩:=ry.tup;cases rv;cases ru;obtain⟨its,rv1,ht,_⟩:=I.tuple sq;obtain⟨its',rv2,ht',_⟩:=I.tuple sq';refine SeqAt.RcNeAt.tuples (e:=fun j=>decide (ts[j]?=us[j]?)) ht ht' (by omega) (jf I hu h.1 h.2.1 r r' rv1 rv2) _ _ _ _ ⟨.bl _,H,I,rfl,?_⟩;rw[i_,i_,<- rv1.length,<- rv2.length,<- r.length,<- r'.length,jg];exact k _ _ _ _ .refl sh .ofBl h.2.2
  |_=>exact h.elim
 |ref a =>
  cases ty with
  |ref b =>
   have h':(match H3 a,H3 b with
    |some (.lst xs),some (.lst ys)=>a≠b/\xs.all (pl 20)=true/\ys.all (pl 20)=true/\Q3 (.bl (!decide (xs=ys))) H3
    |_,_=>False):=h
   split at h'
   ·
    rename_i ts us e1 e2
    obtain⟨xs,g1,r⟩:=sh a _ e1
    obtain⟨ys,g2,r'⟩:=sh b _ e2
    cases rx.ref;cases ry.ref;cases rv;cases ru
    obtain⟨its,rv1,ht,_⟩:=I.list (X:=X) (.of g1)
    obtain⟨its',rv2,ht',_⟩:=I.list (X:=X) (.of g2)
    have hl:its.length=ts.length:=by rw[<- rv1.length,<- r.length]
    have hl':its'.length=us.length:=by rw[<- rv2.length,<- r'.length]
    by_cases hsz:ts.length=us.length
    ·
     refine SeqAt.RcNeAt.lists (e:=fun j=>decide (ts[j]?=us[j]?)) ht.isList ht'.isList (by simp;omega) (by omega) (jf I hu h'.2.1 h'.2.2.1 r r' rv1 rv2) _ _ _ _ ⟨.bl _,H,I,rfl,?_⟩
     have e:=jg (ts:=ts) (us:=us)
     rw[<- hsz,Nat.min_self,beq_self_eq_true,Bool.and_true] at e
     rw[i_,hl,e]
     exact k _ _ _ _ .refl sh .ofBl h'.2.2.2
    ·
     refine SeqAt.RcNeAt.lists_lengths ht.isList ht'.isList (by simp;omega) (by omega) _ _ _ _ ⟨.bl true,H,I,rfl,?_⟩
     have e:decide (ts=us)=false:=E_ fun z=>hsz (by rw[z])
     have q:=h'.2.2.2
     rw[e] at q
     exact k _ _ _ _ .refl sh .ofBl q
   ·
    exact h'.elim
  |_=>exact h.elim
 |_=>exact h.elim
def dB (neg:Bool) (x:T) (ts:List T):Bool:=if neg then !decide (x∈ts) else decide (x∈ts)
def occ (neg:Bool) (i j:Str):Bool:=if neg then !(!(Builtin.Str.occurrences j i 0 j.length 1).isEmpty) else !(Builtin.Str.occurrences j i 0 j.length 1).isEmpty
def um (neg:Bool):R3:=fun x y H Q=>match y with
 |.tup ts=>pl 20 x=true/\ts.all (pl 20)=true/\Q (.bl (dB neg x ts)) H
 |.ref a=>match H a with
  |some (.lst ts)=>pl 20 x=true/\ts.all (pl 20)=true/\Q (.bl (dB neg x ts)) H
  |some (.rol ts)=>pl 20 x=true/\ts.all (pl 20)=true/\Q (.bl (dB neg x ts)) H
  |_=>False
 |.str j=>match x with
  |.str i=>Q (.bl (occ neg i j)) H
  |_=>False
 |_=>False
theorem o6 (I:Inv X pins Z H s) {x:T}{ts:List T}{xs:List V}{its:List Value}(px:pl 20 x=true) (pts:ts.all (pl 20)=true) (r:Reps X.K H ts xs) (rv:Vals xs its) (A:Around) (hu:A.units+30<cLine) {vx:V}{u:Value}(rx:Rep X.K H x vx) (ru:RelV vx u) :
  ∃e:Value->Bool,(∀y,y∈its->SeqAt.EqAt A s y u (e y))/\its.any e=decide (x∈ts):=by
 rw[Xe] at pts;have own:∀y,y∈its->∃t v,t∈ts/\Rep X.K H t v/\RelV v y:=fun y hy=>by
  obtain⟨i,hi,e⟩:=List.mem_iff_getElem.mp hy;have hl:=rv.length;have e':its[i]?=some y:=by rw[a_ hi,e]
  have hx:xs[i]?=some xs[i]:=a_ (by omega);obtain⟨z,ez,rz⟩:=rv.get hx;rw[e'] at ez;cases ez;obtain⟨t,et,rt⟩:=r.get' hx;exact⟨t,_,Q_ et,rt,rz⟩
 have dec:∀t v y,t∈ts->Rep X.K H t v->RelV v y->(@decide (∃v,RelV v y/\Rep X.K H x v) (Classical.propDecidable _)=true↔t=x):=fun t v y ht rt ry=>by
  rw[@v_ _ (Classical.propDecidable _)];constructor
  ·rintro⟨v',r1,r2⟩;cases r1.inj ry;exact vX I 20 t x _ (pts t ht) px rt r2
  rintro rfl;exact⟨v,ry,rt⟩
 refine⟨fun y=>@decide (∃v,RelV v y/\Rep X.K H x v) (Classical.propDecidable _),fun y hy=>?_,?_⟩
 ·obtain⟨t,v,ht,rt,ry⟩:=own y hy;have q:=vY I 20 A t x v vx y u (pts t ht) px rt rx ry ru (by omega);have e:@decide (∃v,RelV v y/\Rep X.K H x v) (Classical.propDecidable _)=decide (t=x):=by rw[Wz,dec t v y ht rt ry,v_]
  show SeqAt.EqAt A s y u (@decide (∃v,RelV v y/\Rep X.K H x v) (Classical.propDecidable _));rw[e];exact q
 rw[Wz,XC,v_];constructor
 ·rintro⟨y,hy,e⟩;obtain⟨t,v,ht,rt,ry⟩:=own y hy;rw[<- (dec t v y ht rt ry).mp e];exact ht
 intro hx;obtain⟨i,hi,e⟩:=List.mem_iff_getElem.mp hx;obtain⟨v,ev,rvv⟩:=r.get (show ts[i]?=some x by rw[a_ hi,e]);obtain⟨y,ey,ry⟩:=rv.get ev;exact⟨y,Q_ ey,(dec x v y hx rvv ry).mpr rfl⟩
theorem nM (hu:X.A.units+31<cLine):eU X (compareOp .In) (um false):=by
 intro pins s Z H x y v u Q I rv ru h;obtain⟨tx,ty,H3,Q3,rx,ry,sh,h,k⟩:=h;have hu':X.A.in1.units+30<cLine:=by rw[units_in1];omega
 have lst:∀{a:Addr} {ts:List T} {xs:List V},SqL X.K H a xs->Reps X.K H ts xs->u=.ref a->pl 20 tx=true->ts.all (pl 20)=true->Q3 (.bl (dB false tx ts)) H3->wpAny (model X.prog X.w) X.A (compareOp .In v u) (EP X pins Z Q) X.xe s:=by intro a ts xs sq r e p1 p2 q;subst e;obtain⟨its,rvs,ht,_⟩:=I.list sq;obtain⟨e,he,ea⟩:=o6 I p1 p2 r rvs X.A.in1 hu' rx rv;refine SeqAt.in_listAt e ht.isList (fun y hy=>he y (by simpa using hy)) ⟨.bl _,H,I,rfl,?_⟩;rw[show its.toArray.any e=its.any e by simp,ea];exact k _ _ _ _ .refl sh .ofBl q
 cases ty with
 |tup ts=>obtain⟨a,xs,rfl,sq,r⟩:=ry.tup;cases ru;obtain⟨its,rvs,ht,_⟩:=I.tuple sq;obtain⟨e,he,ea⟩:=o6 I h.1 h.2.1 r rvs X.A.in1 hu' rx rv;refine SeqAt.in_tupleAt e ht (fun y hy=>he y (by simpa using hy)) ⟨.bl _,H,I,rfl,?_⟩;rw[show its.toArray.any e=its.any e by simp,ea];exact k _ _ _ _ .refl sh .ofBl h.2.2
 |ref a =>
  have h':(match H3 a with
   |some (.lst ts)=>pl 20 tx=true/\ts.all (pl 20)=true/\Q3 (.bl (dB false tx ts)) H3
   |some (.rol ts)=>pl 20 tx=true/\ts.all (pl 20)=true/\Q3 (.bl (dB false tx ts)) H3
   |_=>False):=h
  rw[ry.ref] at ru
  split at h'
  ·
   rename_i ts e
   obtain⟨xs,sq,r⟩:=sh.sqL (.inl e)
   exact lst sq r ru h'.1 h'.2.1 h'.2.2
  ·
   rename_i ts e
   obtain⟨xs,sq,r⟩:=sh.sqL (.inr e)
   exact lst sq r ru h'.1 h'.2.1 h'.2.2
  ·
   exact h'.elim
 |str j =>
  cases tx with
  |str i=>exact xO pins s Z H x y v u Q I rv ru ⟨i,j,rx.str,ry.str,k _ _ _ _ .refl sh .ofBl h⟩
  |_=>exact h.elim
 |_=>exact h.elim
theorem lA (hu:X.A.units+31<cLine):eU X (compareOp .NotIn) (um true):=by
 intro pins s Z H x y v u Q I rv ru h;obtain⟨tx,ty,H3,Q3,rx,ry,sh,h,k⟩:=h;have hu':X.A.in1.units+30<cLine:=by rw[units_in1];omega
 have lst:∀{a:Addr} {ts:List T} {xs:List V},SqL X.K H a xs->Reps X.K H ts xs->u=.ref a->pl 20 tx=true->ts.all (pl 20)=true->Q3 (.bl (dB true tx ts)) H3->wpAny (model X.prog X.w) X.A (compareOp .NotIn v u) (EP X pins Z Q) X.xe s:=by intro a ts xs sq r e p1 p2 q;subst e;obtain⟨its,rvs,ht,_⟩:=I.list sq;obtain⟨e,he,ea⟩:=o6 I p1 p2 r rvs X.A.in1 hu' rx rv;refine SeqAt.notIn_listAt e ht.isList (fun y hy=>he y (by simpa using hy)) ⟨.bl _,H,I,rfl,?_⟩;rw[show its.toArray.any e=its.any e by simp,ea];exact k _ _ _ _ .refl sh .ofBl q
 cases ty with
 |tup ts=>obtain⟨a,xs,rfl,sq,r⟩:=ry.tup;cases ru;obtain⟨its,rvs,ht,_⟩:=I.tuple sq;obtain⟨e,he,ea⟩:=o6 I h.1 h.2.1 r rvs X.A.in1 hu' rx rv;refine SeqAt.notIn_tupleAt e ht (fun y hy=>he y (by simpa using hy)) ⟨.bl _,H,I,rfl,?_⟩;rw[show its.toArray.any e=its.any e by simp,ea];exact k _ _ _ _ .refl sh .ofBl h.2.2
 |ref a =>
  have h':(match H3 a with
   |some (.lst ts)=>pl 20 tx=true/\ts.all (pl 20)=true/\Q3 (.bl (dB true tx ts)) H3
   |some (.rol ts)=>pl 20 tx=true/\ts.all (pl 20)=true/\Q3 (.bl (dB true tx ts)) H3
   |_=>False):=h
  rw[ry.ref] at ru
  split at h'
  ·
   rename_i ts e
   obtain⟨xs,sq,r⟩:=sh.sqL (.inl e)
   exact lst sq r ru h'.1 h'.2.1 h'.2.2
  ·
   rename_i ts e
   obtain⟨xs,sq,r⟩:=sh.sqL (.inr e)
   exact lst sq r ru h'.1 h'.2.1 h'.2.2
  ·
   exact h'.elim
 |str j =>
  cases tx with
  |str i=>exact oM pins s Z H x y v u Q I rv ru ⟨i,j,rx.str,ry.str,k _ _ _ _ .refl sh .ofBl h⟩
  |_=>exact h.elim
 |_=>exact h.elim
def oq {α:Type}(o:Option α) (Q:α->Prop):Prop:=match o with
 |some v=>Q v
 |none=>False
def qW:R3:=fun x y H Q=>match x,y with
 |.ref a,.int i=>match H a with
  |some (.lst ts)=>oq (atI ts i) fun t=>Q t H
  |some (.rol ts)=>oq (atI ts i) fun t=>Q t H
  |_=>False
 |.tup ts,.int i=>oq (atI ts i) fun t=>Q t H
 |.str z,.int i=>z.length<=sizeLine/\oq (atI z.cps.toList i) fun c=>Q (.str ⟨#[c]⟩) H
 |_,_=>False
theorem vZ {K:Frag}{H:Hp}{ts:List T}{xs:List V}{i:Int}{t:T}(r:Reps K H ts xs) (h:atI ts i=some t):∃v,atI xs i=some v/\Rep K H t v:=by
 unfold atI at h ⊢;rw[<- r.length];cases e:ixN ts.length i with
 |none=>rw[e] at h;cases h
 |some j =>
 rw[e] at h;exact r.get h
theorem ix3:Rr X qW:=by
 refine IxR.imp Lj ?_;rintro x y H Q ⟨tx,ty,H3,Q3,rx,ry,sh,h,k⟩;have lst:∀{a:Addr} {ts:List T} {xs:List V} {i:Int},SqL X.K H a xs->Reps X.K H ts xs->x=.ref a->y=.int i->oq (atI ts i) (fun t=>Q3 t H3)->rIx X.K x y H Q:=by
  intro a ts xs i sq r e1 e2 q;cases e:atI ts i with
  |none=>rw[e] at q;exact q.elim
  |some t =>
  rw[e] at q;obtain⟨v,ev,rv⟩:=vZ r e;exact .inl ⟨a,xs,i,v,e1,e2,sq,ev,k _ _ _ _ .refl sh rv q⟩
 cases tx with
 |ref a =>
  cases ty with
  |int i =>
   have h':(match H3 a with
    |some (.lst ts)=>oq (atI ts i) fun t=>Q3 t H3
    |some (.rol ts)=>oq (atI ts i) fun t=>Q3 t H3
    |_=>False):=h
   split at h'
   ·
    rename_i ts e
    obtain⟨xs,sq,r⟩:=sh.sqL (.inl e)
    exact lst sq r rx.ref ry.int h'
   ·
    rename_i ts e
    obtain⟨xs,sq,r⟩:=sh.sqL (.inr e)
    exact lst sq r rx.ref ry.int h'
   ·
    exact h'.elim
  |_=>exact h.elim
 |tup ts =>
  cases ty with
  |int i =>
   have h':oq (atI ts i) fun t=>Q3 t H3:=h
   cases e:atI ts i with
   |none=>rw[e] at h';exact h'.elim
   |some t =>
    rw[e] at h'
    obtain⟨a,xs,e1,sq,r⟩:=rx.tup
    obtain⟨v,ev,rv⟩:=vZ r e
    exact .inr (.inl ⟨a,xs,i,v,e1,ry.int,sq,ev,k _ _ _ _ .refl sh rv h'⟩)
  |_=>exact h.elim
 |str z =>
  cases ty with
  |int i =>
   have h':z.length<=sizeLine/\oq (atI z.cps.toList i) fun c=>Q3 (.str ⟨#[c]⟩) H3:=h
   cases e:atI z.cps.toList i with
   |none=>rw[e] at h';exact h'.2.elim
   |some c =>
    rw[e] at h'
    exact .inr (.inr ⟨z,i,c,rx.str,ry.int,h'.1,e,k _ _ _ _ .refl sh .ofStr h'.2⟩)
  |_=>exact h.elim
 |_=>exact h.elim
def zR:qN:=fun o i v H Q=>match o,i with
 |.ref a,.int k=>match H a with
  |some (.lst ts)=>oq (ixN ts.length k) fun j=>Q (up3 H a (.lst (ts.set j v)))
  |_=>False
 |_,_=>False
theorem SimH.wrL {K:Frag}{H:Hp}{H3:Hp3}{a:Addr}{xs:List V}{ts:List T}{xs':List V}(s:SimH K H3 H) (hH:H a=some (.lst xs)) (r:Reps K H ts xs'):SimH K (up3 H3 a (.lst ts)) (upd H a (.lst xs')):=fun b o e=>by
 have le:TupLe K H (upd H a (.lst xs')):=bT (by rw[hH];exact trivial);by_cases hb:b=a
 ·subst hb;rw[aq] at e;cases e;exact⟨xs',bM,r.mono le⟩
 rw[aD hb] at e;exact (s b o e).stay le fun u q=>by rw[aO hb];exact q
theorem nO:Jm X zR:=by
 refine PSet.imp set_list ?_;rintro o i v H Q ⟨to,ti,tv,H3,Q3,ro,ri,rv,sh,h,k⟩;cases to with
 |ref a =>
  cases ti with
  |int n =>
   have h':(match H3 a with
    |some (.lst ts)=>oq (ixN ts.length n) fun j=>Q3 (up3 H3 a (.lst (ts.set j tv)))
    |_=>False):=h
   split at h'
   ·
    rename_i ts e
    obtain⟨xs,hH,r⟩:=sh a _ e
    cases ej:ixN ts.length n with
    |none=>rw[ej] at h';exact h'.elim
    |some j =>
     rw[ej] at h'
     exact⟨a,xs,n,j,ro.ref,ri.int,hH,by rw[<- r.length];exact ej,k _ _ (bT (by rw[hH];exact trivial)) (sh.wrL hH (r.set j rv)) h'⟩
   ·
    exact h'.elim
  |_=>exact h.elim
 |_=>exact h.elim
abbrev TO3:=St3->Hp3->(Option Int->Hp3->Prop)->Prop
def Wa (K:Frag) (t3:TO3):TO:=fun Z H Q=>∃Z3 H3 Q3,SimS K H Z3 Z/\SimH K H3 H/\t3 Z3 H3 Q3/\∀o H' H3',TupLe K H H'->SimH K H3' H'->Q3 o H3'->Q o H'
def PO3 (X:Cx) (e:Option Expr) (t:TO3):Prop:=PO X e (Wa X.K t)
theorem PO.imp {e:Option Expr}{t t':TO}(h:PO X e t) (w:∀Z H Q,t' Z H Q->t Z H Q):PO X e t':=fun pins s Z H Q I q=>h pins s Z H Q I (w Z H Q q)
def qX:TO3:=fun _ H Q=>Q none H
def zT (t:TE3):TO3:=fun Z H Q=>t Z H fun x H1=>match x with
 |.int i=>Q (some i) H1
 |_=>False
theorem eX:PO3 X none qX:=by
 refine PO.imp Fe ?_;rintro Z H Q ⟨Z3,H3,Q3,ss,sh,h,k⟩;exact k _ _ _ .refl sh h
theorem dJ {e:Expr}{te:TE3}(h:PE3 X e te):PO3 X (some e) (zT te):=by
 refine PO.imp (Ff h) ?_;rintro Z H Q ⟨Z3,H3,Q3,ss,sh,h,k⟩;refine⟨Z3,H3,_,ss,sh,h,fun v H' t H3' le sh' r q=>?_⟩;cases t with
 |int i=>exact⟨i,r.int,k _ _ _ le sh' q⟩
 |_=>exact q.elim
theorem LC:SlR X (fun x lo hi H Q=>∃z,x=.str z/\z.length<=sizeLine/\Q (.str (Txt.slice z lo hi)) H):=by
 intro pins s Z H x v vl vu lo hi sl Q I rx hs pl pu h;obtain⟨z,rfl,hz,q⟩:=h;obtain⟨t,rfl⟩:=rx;refine⟨"str",_,F.slot_str_getitem.lookup,typeIs_str _ _ _,?_⟩;obtain⟨o,e,c,d⟩:=hs;have fin:∀(t':Tok) (k:Nat),EP X pins Z Q (.str (Txt.slice z lo hi) t') { s with toks:=k}:=fun t' k=>⟨.str _,H,I.tok k,⟨t',rfl⟩,q⟩;cases pl with
 |none =>
  cases pu with
  |none=>exact YH (l:=none) (u:=none) (st:=none) ⟨o,e,c,d⟩ rfl (post_val_or_str ⟨U_ (Txt.slice_le z _ _) hz,fin⟩)
  |int j uj=>exact YH (l:=none) (u:=some (j,uj)) (st:=none) ⟨o,e,c,d⟩ rfl (post_val_or_str ⟨U_ (Txt.slice_le z _ _) hz,fin⟩)
 |int i ui =>
 cases pu with
 |none=>exact YH (l:=some (i,ui)) (u:=none) (st:=none) ⟨o,e,c,d⟩ rfl (post_val_or_str ⟨U_ (Txt.slice_le z _ _) hz,fin⟩)
 |int j uj=>exact YH (l:=some (i,ui)) (u:=some (j,uj)) (st:=none) ⟨o,e,c,d⟩ rfl (post_val_or_str ⟨U_ (Txt.slice_le z _ _) hz,fin⟩)
def fK (ts:List T) (lo hi:Option Int):List T:=(ts.drop (HT.sIx ts.length 0 lo)).take (HT.sIx ts.length ts.length hi - HT.sIx ts.length 0 lo)
def FW:T->Option Int->Option Int->Hp3->VK3->Prop:=fun x lo hi H Q=>match x with
 |.ref a=>match H a with
  |some (.lst ts)=>∀p,H p=none->Q (.ref p) (up3 H p (.lst (fK ts lo hi)))
  |some (.rol ts)=>∀p,H p=none->Q (.ref p) (up3 H p (.lst (fK ts lo hi)))
  |_=>False
 |.tup ts=>¬(HT.sIx ts.length 0 lo=0/\HT.sIx ts.length ts.length hi=ts.length)/\Q (.tup (fK ts lo hi)) H
 |.str z=>z.length<=sizeLine/\Q (.str (Txt.slice z lo hi)) H
 |_=>False
def Rw (te:TE3) (tl th:TO3):TE3:=fun Z H Q=>te Z H fun x H1=>tl Z H1 fun l H2=>th Z H2 fun u H3=>FW x l u H3 Q
theorem j5 {K:Frag}{H:Hp}{ts:List T}{xs:List V}(r:Reps K H ts xs) (lo hi:Option Int):Reps K H (fK ts lo hi) (qz xs lo hi):=by
 unfold fK qz;rw[<- r.length];exact (r.drop _).take _
theorem jh {e:Expr}{lo hi:Option Expr}{te:TE3}{tl th:TO3}{p2 pos:Pos}(he:PE3 X e te) (hl:PO3 X lo tl) (hu:PO3 X hi th):PE3 X (.Subscript e (.Slice lo hi none p2) pos) (Rw te tl th):=by
 refine PE.imp (qw (sl_list.or (sl_tup.or LC)) he hl hu) ?_;rintro Z H Q ⟨Z3,H3,Q3,ss,sh,h,k⟩;refine⟨Z3,H3,_,ss,sh,h,fun x H1 tx H31 le1 sh1 rx q1=>⟨Z3,H31,_,ss.mono le1,sh1,q1,fun l H2 H32 le2 sh2 q2=>⟨Z3,H32,_,ss.mono (le1.trans le2),sh2,q2,fun u H4 H34 le4 sh4 q4=>?_⟩⟩⟩;have k':=k.at (le1.trans (le2.trans le4));have rx':=rx.mono (le2.trans le4);cases tx with
 |ref a =>
  have h':(match H34 a with
   |some (.lst ts)=>∀p,H34 p=none->Q3 (.ref p) (up3 H34 p (.lst (fK ts l u)))
   |some (.rol ts)=>∀p,H34 p=none->Q3 (.ref p) (up3 H34 p (.lst (fK ts l u)))
   |_=>False):=q4
  split at h'
  ·
   rename_i ts e
   obtain⟨xs,sq,r⟩:=sh4.sqL (.inl e)
   exact .inl ⟨a,xs,rx'.ref,sq,fun p hp=>k' _ _ _ _ (aJ hp) (sh4.newLst hp (j5 r l u)) .ofRef (h' p (sh4.fresh hp))⟩
  ·
   rename_i ts e
   obtain⟨xs,sq,r⟩:=sh4.sqL (.inr e)
   exact .inl ⟨a,xs,rx'.ref,sq,fun p hp=>k' _ _ _ _ (aJ hp) (sh4.newLst hp (j5 r l u)) .ofRef (h' p (sh4.fresh hp))⟩
  ·
   exact h'.elim
 |tup ts=>obtain⟨a,xs,rfl,sq,r⟩:=rx'.tup;refine .inr (.inl ⟨a,xs,rfl,sq,by rw[<- r.length];exact q4.1,fun p hp=>k' _ _ _ _ (aJ hp) (sh4.new hp) (SimH.newTup (H3:=H34) hp (j5 r l u)) q4.2⟩)
 |str z=>exact .inr (.inr ⟨z,rx'.str,q4.1,k' _ _ _ _ .refl sh4 .ofStr q4.2⟩)
 |_=>exact q4.elim
def aN (k:Str):List (Str × T)->Option T
 |[]=>none
 | (k',v)::r=>if k'=k then some v else aN k r
def put3 (k:Str) (v:T) (kvs:List (Str × T)):List (Str × T) :=
 if (kvs.any fun kv=>decide (kv.1=k))=true then kvs.map (fun kv=>if kv.1=k then (kv.1,v) else kv) else kvs++[(k,v)]
def r3D:R3:=fun x y H Q=>match x,y with
 |.ref a,.str k=>match H a with
  |some (.dct kvs)=>oq (aN k kvs) fun t=>Q t H
  |_=>False
 |_,_=>False
theorem qY {K:Frag}{H:Hp}{k:Str}:∀{kvs:List (Str × T)}{vs:List (Key × V)}{t:T},RepD K H kvs vs->aN k kvs=some t->∃v,eN vs (Sum.inr k:Key)=some v/\Rep K H t v
 |[],_,_,_,e=>by cases e
 | (k',t')::r,_,t,.cons (b:=(kk,v')) ⟨e1,rv⟩ rr,e=>by
  simp only at e1 rv
  subst e1
  unfold aN at e
  by_cases hk:k'=k
  ·
   rw[if_pos hk] at e
   cases e
   exact⟨v',by rw[eO (by rw[hk])],rv⟩
  ·
   rw[if_neg hk] at e
   obtain⟨v,ev,q⟩:=qY rr e
   exact⟨v,by rw[eQ (by intro z;exact hk (Sum.inr.inj z))];exact ev,q⟩
theorem dj {o i:Expr}{to ti:TE3}{pos:Pos}(hu:X.A.units+1<cLine) (ho:PE3 X o to) (hi:PE3 X i ti) (hs:Fj i:=by exact fun _ _=>rfl):PE3 X (.Subscript o i pos) (qL r3D to ti):=by
 refine PE.imp (vK hu ho hi hs) ?_;rintro Z H Q ⟨Z3,H3,Q3,ss,sh,h,k⟩;refine⟨Z3,H3,_,ss,sh,h,fun x H1 tx H31 le1 sh1 rx q1=>⟨Z3,H31,_,ss.mono le1,sh1,q1,fun y H2 ty H32 le2 sh2 ry q2=>?_⟩⟩;cases tx with
 |ref a =>
  cases ty with
  |str key =>
   have h':(match H32 a with
    |some (.dct kvs)=>oq (aN key kvs) fun t=>Q3 t H32
    |_=>False):=q2
   split at h'
   ·
    rename_i kvs e
    obtain⟨vs,hH,r⟩:=sh2 a _ e
    cases el:aN key kvs with
    |none=>rw[el] at h';exact h'.elim
    |some t =>
     rw[el] at h'
     obtain⟨v,ev,rv⟩:=qY r el
     refine⟨a,v,rx.ref,?_,k.at (le1.trans le2) _ _ _ _ .refl sh2 rv h'⟩
     rw[ry.str,<- ev]
     exact DGet.k (k:=Sum.inr key) hH
   ·
    exact h'.elim
  |_=>exact q2.elim
 |_=>exact q2.elim
def zU (td ty tv:TE3):TS3:=fun D Z H=>tv Z H fun v H1=>td Z H1 fun x H2=>ty Z H2 fun y H3=>match x,y with
 |.ref a,.str k=>match H3 a with
  |some (.dct kvs)=>kvs.length<sizeLine/\D.nx Z (up3 H3 a (.dct (put3 k v kvs)))
  |_=>False
 |_,_=>False
theorem FZ {K:Frag}{H:Hp}{k:Str}{t:T}{v:V}(rv:Rep K H t v) {kvs:List (Str × T)}{vs:List (Key × V)}(r:RepD K H kvs vs):RepD K H (put3 k t kvs) (putK vs (Sum.inr k:Key) v):=by
 have e:∀{kvs:List (Str × T)} {vs:List (Key × V)},RepD K H kvs vs->(kvs.any fun kv=>decide (kv.1=k))=(vs.any fun kv=>decide (kv.1=(Sum.inr k:Key)))/\RepD K H (kvs.map (fun kv=>if kv.1=k then (kv.1,t) else kv)) (vs.map (fun kv=>if kv.1=(Sum.inr k:Key) then (kv.1,v) else kv)):=by
  intro kvs;induction kvs with
  |nil=>intro vs r;cases r;exact⟨rfl,.nil⟩
  |cons p l ih =>
  intro vs r;cases r with
  |cons q rr =>
  rename_i b l2;obtain⟨e1,e2⟩:=ih rr;obtain⟨q1,q2⟩:=q;obtain⟨bk,bv⟩:=b;simp only at q1 q2;subst q1;by_cases hk:p.1=k
  ·refine⟨by simp [hk],?_⟩;simp only[I_,hk,if_true];exact .cons ⟨rfl,rv⟩ e2
  have hk':¬(Sum.inr p.1:Key)=Sum.inr k:=fun z=>hk (Sum.inr.inj z);refine⟨by simp only[Ze,hk,hk',XQ,Bool.false_or];exact e1,?_⟩;simp only[I_,hk,hk',Wt];exact .cons ⟨rfl,q2⟩ e2
 obtain⟨e1,e2⟩:=e r;unfold put3 putK;rw[e1];split
 ·exact e2
 have app:∀{a:List (Str × T)} {b:List (Key × V)},RepD K H a b->RepD K H (a++[(k,t)]) (b++[((Sum.inr k:Key),v)]):=fun h=>Paired.snoc h ⟨rfl,rv⟩;exact app r
theorem SimH.wrD {K:Frag}{H:Hp}{H3:Hp3}{a:Addr}{kv:List (Key × V)}{kvs:List (Str × T)}{kv':List (Key × V)}(s:SimH K H3 H) (hH:H a=some (.dK kv)) (r:RepD K H kvs kv'):SimH K (up3 H3 a (.dct kvs)) (upd H a (.dK kv')):=fun b o e=>by
 have le:TupLe K H (upd H a (.dK kv')):=bT (by rw[hH];exact trivial);by_cases hb:b=a
 ·subst hb;rw[aq] at e;cases e;exact⟨kv',bM,r.mono le⟩
 rw[aD hb] at e;exact (s b o e).stay le fun u q=>by rw[aO hb];exact q
theorem j6 {o i value:Expr}{td ty tv:TE3}{pos pos':Pos}(hu:X.A.units+1<cLine) (ho:PE3 X o td) (hi:PE3 X i ty) (hv:PE3 X value tv) (hs:swapsWith value (some (.Subscript o i pos')) pos.line X.env=pure false:=by rfl) :
  PS3 X (.Assign [.Subscript o i pos'] value pos) (zU td ty tv):=by
 refine PS.imp (Fp hu ho hi hv hs) ?_;rintro D Z H ⟨Z3,H3,D3,ss,sh,h,k1,_⟩;refine⟨Z3,H3,_,ss,sh,h,fun v H1 tv H31 le1 sh1 rv q1=>⟨Z3,H31,_,ss.mono le1,sh1,q1,fun x H2 tx H32 le2 sh2 rx q2=>⟨Z3,H32,_,ss.mono (le1.trans le2),sh2,q2,fun y H4 ty H34 le4 sh4 ry q4=>?_⟩⟩⟩;cases tx with
 |ref a =>
  cases ty with
  |str key =>
   have h':(match H34 a with
    |some (.dct kvs)=>kvs.length<sizeLine/\D3.nx Z3 (up3 H34 a (.dct (put3 key tv kvs)))
    |_=>False):=q4
   split at h'
   ·
    rename_i kvs e
    obtain⟨vs,hH,r⟩:=sh4 a _ e
    have rvv:=rv.mono (le2.trans le4)
    have le5:TupLe X.K H4 (upd H4 a (.dK (putK vs (Sum.inr key:Key) v))):=bT (by rw[hH];exact trivial)
    refine⟨a,_,(rx.mono le4).ref,?_,k1 _ _ _ _ (le1.trans (le2.trans (le4.trans le5))) (ss.mono (le1.trans (le2.trans (le4.trans le5)))) (sh4.wrD hH (FZ rvv r)) h'.2⟩
    rw[ry.str]
    exact DPut.k (k:=Sum.inr key) hH (by rw[<- YC r];exact h'.1)
   ·
    exact h'.elim
  |_=>exact q4.elim
 |_=>exact q4.elim
def zV:List (Str × TE3)->St3->Hp3->(List (Str × T)->Hp3->Prop)->Prop
 |[],_,H,Q=>Q [] H
 | (k,tv)::r,Z,H,Q=>tv Z H fun y H2=>zV r Z H2 fun ps H3=>Q ((k,y)::ps) H3
def Wb (kvs more:List (Str × T)):List (Str × T):=more.foldl (fun acc kv=>put3 kv.1 kv.2 acc) kvs
def LK (trs:List (Str × TE3)):TE3:=fun Z H Q=>∀p,H p=none->zV trs Z (up3 H p (.dct [])) fun ps H2=>H2 p=some (.dct [])/\ps.length<=15/\Q (.ref p) (up3 H2 p (.dct (Wb [] ps)))
variable {x:Str}{p pos:Pos}{e:Expr}{es:List Expr}{t:TA3}{id Ty:String}{r:List T->Hp3->VK3->Prop}
def LQ (r:List T->Hp3->VK3->Prop) (t:TA3):TE3:=fun Z H Q=>t Z H fun vs H1=>r vs H1 Q
theorem aM (hc:cZ X (.builtin id) r) (hg:Gl X x) (hm:X.mg x=none) (hv:bootBuiltins x=some (.builtin id)) (ha:PA3 X (e::es) t) (hn:x≠"__name__":=by decide) (hdb:(x==("__debug__":Str))=false:=by decide)
  (he:starEach (e::es) X.env=(false,eval e X.env)::starEach es X.env:=by rfl) (hpl:(backTo pos (starEach es X.env)).any (·.1)=false:=by rfl):PE3 X (.Call (.Name x p) (e::es) [] pos) (LQ r t):=by
 refine PE.imp (zc hc hg hm hv ha hn hdb he hpl) ?_;rintro Z H Q ⟨Z3,H3,Q3,ss,sh,h,k⟩;exact⟨Z3,H3,_,ss,sh,h,fun vs H' ts H3' le sh' r q=>⟨ts,H3',Q3,r,sh',q,k.at le⟩⟩
theorem bI (hc:cZ X (.type Ty) r) (hg:Gl X x) (hm:X.mg x=none) (hv:bootBuiltins x=some (.type Ty)) (ha:PA3 X (e::es) t) (hn:x≠"__name__":=by decide) (hdb:(x==("__debug__":Str))=false:=by decide)
  (he:starEach (e::es) X.env=(false,eval e X.env)::starEach es X.env:=by rfl) (hpl:(backTo pos (starEach es X.env)).any (·.1)=false:=by rfl):PE3 X (.Call (.Name x p) (e::es) [] pos) (LQ r t):=by
 refine PE.imp (xU hc hg hm hv ha hn hdb he hpl) ?_;rintro Z H Q ⟨Z3,H3,Q3,ss,sh,h,k⟩;exact⟨Z3,H3,_,ss,sh,h,fun vs H' ts H3' le sh' r q=>⟨ts,H3',Q3,r,sh',q,k.at le⟩⟩
theorem zW {n:String}(hg:Gl X x) (hm:X.mg x=none) (hv:bootBuiltins x=some (.type n)) (hn:x≠"__name__":=by decide) (hdb:(x==("__debug__":Str))=false:=by decide):PE3 X (.Name x pos) (tC3 (.ty n)):=by
 refine PE.imp (Ei (v:=.ty n) hg hm hv rfl hn hdb) ?_;rintro Z H Q ⟨Z3,H3,Q3,ss,sh,h,k⟩;exact k _ _ _ H3 .refl sh .ofTy h
theorem Reps.one' {K:Frag}{H:Hp}{t:T}{vs:List V}(r:Reps K H [t] vs):∃v,vs=[v]/\Rep K H t v:=by
 obtain⟨v,_,rfl,a,b⟩:=r.inv;rw[b.inv0];exact⟨v,rfl,a⟩
theorem Reps.two' {K:Frag}{H:Hp}{t u:T}{vs:List V}(r:Reps K H [t,u] vs):∃v w,vs=[v,w]/\Rep K H t v/\Rep K H u w:=by
 obtain⟨v,_,rfl,a,b⟩:=r.inv;obtain⟨w,rfl,c⟩:=b.one';exact⟨v,w,rfl,a,c⟩
def wg:List T->Hp3->VK3->Prop:=fun ts H Q=>match ts with
 |[.ref a]=>match H a with
  |some (.lst xs)=>Q (.int xs.length) H
  |some (.rol xs)=>Q (.int xs.length) H
  |_=>False
 |[.tup xs]=>Q (.int xs.length) H
 |[.str z]=>z.length<=sizeLine/\Q (.int z.length) H
 |_=>False
theorem bO:cZ X (.builtin "len") wg:=by
 refine CallR.imp (call_len_seq.or oR) ?_;rintro xs H Q ⟨ts,H3,Q3,r,sh,h,k⟩
 match ts,h,r with
 |[.ref a],h,r =>
  obtain⟨v,rfl,rv⟩:=r.one';have h':(match H3 a with
   |some (.lst xs)=>Q3 (.int xs.length) H3
   |some (.rol xs)=>Q3 (.int xs.length) H3
   |_=>False):=h
  split at h'
  ·rename_i us e;obtain⟨ys,sq,rs⟩:=sh.sqL (.inl e);exact .inl ⟨a,ys,by rw[rv.ref],.inl sq,by rw[<- rs.length];exact k _ _ _ _ .refl sh .ofInt h'⟩
  ·rename_i us e;obtain⟨ys,sq,rs⟩:=sh.sqL (.inr e);exact .inl ⟨a,ys,by rw[rv.ref],.inl sq,by rw[<- rs.length];exact k _ _ _ _ .refl sh .ofInt h'⟩
  exact h'.elim
 |[.tup us],h,r=>obtain⟨v,rfl,rv⟩:=r.one';obtain⟨a,ys,rfl,sq,rs⟩:=rv.tup;exact .inl ⟨a,ys,rfl,.inr sq,by rw[<- rs.length];exact k _ _ _ _ .refl sh .ofInt h⟩
 |[.str z],h,r =>
 obtain⟨v,rfl,rv⟩:=r.one';exact .inr ⟨z,by rw[rv.str],h.1,k _ _ _ _ .refl sh .ofInt h.2⟩
def uo:List T->Hp3->VK3->Prop:=fun ts H Q=>match ts with
 |[.ref a]=>match H a with
  |some (.lst xs)=>∀p,H p=none->Q (.ref p) (up3 H p (.lst xs))
  |some (.rol xs)=>∀p,H p=none->Q (.ref p) (up3 H p (.lst xs))
  |_=>False
 |[.tup xs]=>∀p,H p=none->Q (.ref p) (up3 H p (.lst xs))
 |_=>False
theorem wj:cZ X (.type "list") uo:=by
 refine CallR.imp oU ?_;rintro xs H Q ⟨ts,H3,Q3,r,sh,h,k⟩
 match ts,h,r with
 |[.ref a],h,r =>
  obtain⟨v,rfl,rv⟩:=r.one';have h':(match H3 a with
   |some (.lst xs)=>∀p,H3 p=none->Q3 (.ref p) (up3 H3 p (.lst xs))
   |some (.rol xs)=>∀p,H3 p=none->Q3 (.ref p) (up3 H3 p (.lst xs))
   |_=>False):=h
  split at h'
  ·rename_i us e;obtain⟨ys,sq,rs⟩:=sh.sqL (.inl e);exact⟨a,ys,by rw[rv.ref],.inl sq,fun l hl=>k _ _ _ _ (aJ hl) (sh.newLst hl rs) .ofRef (h' l (sh.fresh hl))⟩
  ·rename_i us e;obtain⟨ys,sq,rs⟩:=sh.sqL (.inr e);exact⟨a,ys,by rw[rv.ref],.inl sq,fun l hl=>k _ _ _ _ (aJ hl) (sh.newLst hl rs) .ofRef (h' l (sh.fresh hl))⟩
  exact h'.elim
 |[.tup us],h,r =>
 obtain⟨v,rfl,rv⟩:=r.one';obtain⟨a,ys,rfl,sq,rs⟩:=rv.tup;exact⟨a,ys,rfl,.inr sq,fun l hl=>k _ _ _ _ (aJ hl) (sh.newLst hl rs) .ofRef (h l (sh.fresh hl))⟩
def o7:List T->Hp3->VK3->Prop:=fun ts H Q=>match ts with
 |[.ref a]=>match H a with
  |some (.lst xs)=>Q (.tup xs) H
  |some (.rol xs)=>Q (.tup xs) H
  |_=>False
 |[.tup xs]=>Q (.tup xs) H
 |_=>False
theorem dm:cZ X (.type "tuple") o7:=by
 refine CallR.imp mJ ?_;rintro xs H Q ⟨ts,H3,Q3,r,sh,h,k⟩
 match ts,h,r with
 |[.ref a],h,r =>
  obtain⟨v,rfl,rv⟩:=r.one';have h':(match H3 a with
   |some (.lst xs)=>Q3 (.tup xs) H3
   |some (.rol xs)=>Q3 (.tup xs) H3
   |_=>False):=h
  split at h'
  ·rename_i us e;obtain⟨ys,sq,rs⟩:=sh.sqL (.inl e);exact⟨a,ys,by rw[rv.ref],.inl ⟨sq,fun l hl=>k _ _ _ _ (aJ hl) (sh.new hl) (SimH.newTup (H3:=H3) hl rs) h'⟩⟩
  ·rename_i us e;obtain⟨ys,sq,rs⟩:=sh.sqL (.inr e);exact⟨a,ys,by rw[rv.ref],.inl ⟨sq,fun l hl=>k _ _ _ _ (aJ hl) (sh.new hl) (SimH.newTup (H3:=H3) hl rs) h'⟩⟩
  exact h'.elim
 |[.tup us],h,r =>
 obtain⟨v,rfl,rv⟩:=r.one';obtain⟨a,ys,rfl,sq,rs⟩:=rv.tup;exact⟨a,ys,rfl,.inr ⟨sq,k _ _ _ _ .refl sh (.ofTup sq rs) h⟩⟩
def zX:List T->Hp3->VK3->Prop:=fun ts H Q=>match ts with
 |[.int i]=>Q (.int i) H
 |[.bl b]=>Q (.int (if b then 1 else 0)) H
 |_=>False
theorem wu:cZ X (.type "int") zX:=by
 refine CallR.imp xP ?_;rintro xs H Q ⟨ts,H3,Q3,r,sh,h,k⟩
 match ts,h,r with
 |[.int i],h,r=>obtain⟨v,rfl,rv⟩:=r.one';exact .inl ⟨i,by rw[rv.int],k _ _ _ _ .refl sh .ofInt h⟩
 |[.bl b],h,r =>
 obtain⟨v,rfl,rv⟩:=r.one';exact .inr ⟨b,by rw[rv.bl],k _ _ _ _ .refl sh .ofInt h⟩
def Rx:List T->Hp3->VK3->Prop:=fun ts H Q=>match ts with
 |[.int i]=>i.natAbs.log2<1920/\Q (.str (toString i)) H
 |_=>False
def ints3:List T->Option (List Int)
 |[]=>some []
 |.int i::r=>(ints3 r).map (i::·)
 |_=>none
theorem jz:∀(ns:List Int),ints3 (ns.map T.int)=some ns
 |[]=>rfl
 |n::r=>by simp [ints3,jz r]
theorem iR {K:Frag}{H:Hp}:∀{ts:List T}{xs:List V}{us:List Value}{ns:List Int},ints3 ts=some ns->Reps K H ts xs->Vals xs us->IntsAre us ns
 |[],xs,us,ns,e,r,v=>by
  cases e
  rw[r.inv0] at v
  cases v
  exact .nil
 |.int i::l,xs,us,ns,e,r,v=>by
  obtain⟨x,xr,rfl,rx,rr⟩:=r.inv
  cases v with
  |cons a b =>
   rw[rx.int] at a
   obtain⟨t,rfl⟩:=a
   cases hl:ints3 l with
   |none=>simp [ints3,hl] at e
   |some ms =>
    simp [ints3,hl] at e
    subst e
    exact .cons _ _ (iR hl rr b)
 |.non::_,_,_,_,e,_,_=>by simp [ints3] at e
 |.bl _::_,_,_,_,e,_,_=>by simp [ints3] at e
 |.str _::_,_,_,_,e,_,_=>by simp [ints3] at e
 |.tup _::_,_,_,_,e,_,_=>by simp [ints3] at e
 |.ref _::_,_,_,_,e,_,_=>by simp [ints3] at e
 |.ty _::_,_,_,_,e,_,_=>by simp [ints3] at e
def Js:List T->Hp3->VK3->Prop:=fun ts H Q=>match ts with
 |[.ref a]=>match H a with
  |some (.lst xs)=>oq (ints3 xs) fun ns=>Q (.int ns.sum) H
  |some (.rol xs)=>oq (ints3 xs) fun ns=>Q (.int ns.sum) H
  |_=>False
 |_=>False
theorem LR (hc:X.calm=true):cZ X (.builtin "sum") Js:=by
 intro pins s Z H xs us Q I rv h;obtain⟨ts,H3,Q3,r,sh,h,k⟩:=h
 match ts,h,r with
 |[.ref a],h,r =>
 obtain⟨v,rfl,rv'⟩:=r.one';obtain⟨u,rfl,ru⟩:=vals1 rv;rw[rv'.ref] at ru;cases ru;have main:∀{ls:List T} {ys:List V},SqL X.K H a ys->Reps X.K H ls ys->oq (ints3 ls) (fun ns=>Q3 (.int ns.sum) H3)->wpAny (model X.prog X.w) X.A (call (.builtin "sum") [.ref a]) (EP X pins Z Q) X.xe s:=by
  intro ls ys sq rs q;cases e:ints3 ls with
  |none=>rw[e] at q;exact q.elim
  |some ns =>
  rw[e] at q;obtain⟨its,rvs,hl,_⟩:=I.list sq;have hi:=iR e rs rvs;have hall:AllInts its.toArray:=hi.allInts;obtain⟨zs,ez⟩:=hall.items;have hls:s.heap.IsList a (intItems zs):=by rw[<- ez];exact hl.isList
  refine sum_intListG (I.ok.hd hc) hls fun h' tk t' hk=>?_;have es:preSum (numAt zs) zs.size=ns.sum:=by have e1:=nums_intItems zs;rw[<- ez,show its.toArray.toList=its from rfl,hi.numsOf] at e1;rw[preSum_eq,YW (by simp),<- e1]
  rw[es];exact⟨.int ns.sum,H,I.kept hk,⟨t',rfl⟩,k _ _ _ _ .refl sh .ofInt q⟩
 have h':(match H3 a with
  |some (.lst xs)=>oq (ints3 xs) fun ns=>Q3 (.int ns.sum) H3
  |some (.rol xs)=>oq (ints3 xs) fun ns=>Q3 (.int ns.sum) H3
  |_=>False):=h
 split at h'
 ·rename_i ls e;obtain⟨ys,sq,rs⟩:=sh.sqL (.inl e);exact main sq rs h'
 ·rename_i ls e;obtain⟨ys,sq,rs⟩:=sh.sqL (.inr e);exact main sq rs h'
 exact h'.elim
def isT (n:String):T->Hp3->Option Bool:=fun x H=>match x with
 |.non=>some (n=="NoneType")
 |.bl _=>some (n=="bool"||n=="int")
 |.int _=>some (n=="int")
 |.str _=>some (n=="str")
 |.tup _=>some (n=="tuple")
 |.ref a=>match H a with
  |some (.lst _)=>some (n=="list")
  |some (.dct _)=>some (n=="dict")
  |_=>none
 |.ty _=>none
def lB:List T->Hp3->VK3->Prop:=fun ts H Q=>match ts with
 |[x,.ty n]=>(n="str"\/n="int"\/n="bool"\/n="tuple"\/n="list")/\oq (isT n x H) fun b=>Q (.bl b) H
 |_=>False
theorem iT (K:Frag) (a b:String) (ha:a="NoneType"\/a="bool"\/a="int"\/a="str"\/a="tuple"\/a="list"\/a="dict") (hb:b="str"\/b="int"\/b="bool"\/b="tuple"\/b="list") :
  kitOne K (.type a) (.type b)=some (a==b||(a=="bool"&&b=="int")):=by
 rcases ha with rfl | rfl | rfl | rfl | rfl | rfl | rfl <;> rcases hb with rfl | rfl | rfl | rfl | rfl <;> rfl
theorem ur:cZ X (.builtin "isinstance") lB:=by
 intro pins s Z H xs us Q I rv h;obtain⟨ts,H3,Q3,r,sh,h,k⟩:=h
 match ts,h,r with
 |[x,.ty n],h,r =>
 obtain⟨v,w,rfl,r1,r2⟩:=r.two';obtain⟨u1,u2,rfl,q1,q2⟩:=vals2 rv;rw[r2.ty] at q2;cases q2;obtain⟨hn,h⟩:=h;have fin:∀{b:Bool},Q3 (.bl b) H3->∀tk,EP X pins Z Q (.bool b) { s with toks:=tk}:=fun q tk=>⟨.bl _,H,I.tok tk,rfl,k _ _ _ _ .refl sh .ofBl q⟩;cases x with
 |non=>exact d7 I q1 (by rw[r1.non];exact .non) (iT X.K "NoneType" n (by simp) hn) (fin (by rcases hn with rfl | rfl | rfl | rfl | rfl <;> exact h))
 |bl b=>exact d7 I q1 (by rw[r1.bl];exact .bl b) (iT X.K "bool" n (by simp) hn) (fin (by rcases hn with rfl | rfl | rfl | rfl | rfl <;> exact h))
 |int i=>exact d7 I q1 (by rw[r1.int];exact .int i) (iT X.K "int" n (by simp) hn) (fin (by rcases hn with rfl | rfl | rfl | rfl | rfl <;> exact h))
 |str z=>exact d7 I q1 (by rw[r1.str];exact .str z) (iT X.K "str" n (by simp) hn) (fin (by rcases hn with rfl | rfl | rfl | rfl | rfl <;> exact h))
 |tup us=>obtain⟨a,ys,rfl,sq,rs⟩:=r1.tup;cases q1;obtain⟨its,_,⟨o,h1,h2,_⟩,_⟩:=I.tuple sq;exact kia_one kitx_tuple I.kIn ⟨o,h1,h2⟩ (iT X.K "tuple" n (by simp) hn) (fun z=>nomatch z) (fin (by rcases hn with rfl | rfl | rfl | rfl | rfl <;> exact h))
 |ref a =>
  have h':oq (match H3 a with
   |some (.lst _)=>some (n=="list")
   |some (.dct _)=>some (n=="dict")
   |_=>none) fun b=>Q3 (.bl b) H3:=h
  rw[r1.ref] at q1
  cases e:H3 a with
  |none=>rw[e] at h';exact h'.elim
  |some o =>
   rw[e] at h'
   cases o with
   |lst ls =>
    obtain⟨zs,hH,_⟩:=sh a _ e
    exact d7 I q1 (.lst hH) (iT X.K "list" n (by simp) hn) (fin (by rcases hn with rfl | rfl | rfl | rfl | rfl <;> exact h'))
   |dct ls =>
    obtain⟨zs,hH,_⟩:=sh a _ e
    exact d7 I q1 (.dK hH) (iT X.K "dict" n (by simp) hn) (fin (by rcases hn with rfl | rfl | rfl | rfl | rfl <;> exact h'))
   |rol ls=>exact h'.elim
   |dcp ls=>exact h'.elim
   |exc _ _=>exact h'.elim
   |xdt _=>exact h'.elim
   |dci _=>exact h'.elim
   |dif _ _=>exact h'.elim
   |ins _ _=>exact h'.elim
 |ty m=>exact h.elim
variable {o:Expr}{to:TE3}{name:Str}{apos cpos:Pos}{m:T->List T->Hp3->VK3->Prop}
def ty3 (Ty:String):T->Hp3->Prop:=fun x H=>match x with
 |.str _=>Ty="str"
 |.tup _=>Ty="tuple"
 |.ref a=>Ty="list"/\match H a with
  |some (.lst _)=>True
  |some (.rol _)=>True
  |_=>False
 |_=>False
theorem Jt {K:Frag}{H:Hp}{H3:Hp3}{t:T}{v:V}(sh:SimH K H3 H) (r:Rep K H t v) (h:ty3 Ty t H3):tyV K Ty v H:=by
 cases t with
 |str z=>rw[r.str];exact h
 |tup ts=>obtain⟨a,xs,rfl,sq,_⟩:=r.tup;exact .inr (.inl ⟨h,xs,sq⟩)
 |ref a =>
  rw[r.ref];refine .inl ⟨h.1,?_⟩;have h2:=h.2;cases e:H3 a with
  |none=>rw[e] at h2;exact h2.elim
  |some o =>
  rw[e] at h2;cases o with
  |lst ts=>obtain⟨xs,sq,_⟩:=sh.sqL (.inl e);exact⟨xs,sq⟩
  |rol ts=>obtain⟨xs,sq,_⟩:=sh.sqL (.inr e);exact⟨xs,sq⟩
  |dct _=>exact h2.elim
  |dcp _=>exact h2.elim
  |exc _ _=>exact h2.elim
  |xdt _=>exact h2.elim
  |dci _=>exact h2.elim
  |dif _ _=>exact h2.elim
  |ins _ _=>exact h2.elim
 |_=>exact h.elim
def Ry (Ty:String) (m:T->List T->Hp3->VK3->Prop) (to:TE3) (t:TA3):TE3:=fun Z H Q=>to Z H fun x H1=>ty3 Ty x H1/\t Z H1 fun xs H2=>m x xs H2 Q
theorem fc (pa:PlainAttrs Ty) (slot:Slot Ty name id) (hty:typeOf (.builtin id)=pure (.type "method_descriptor")) (hm:zz X id m) (ho:PE3 X o to) (ha:PA3 X (e::es) t)
  (hbase:attributeBase o name X.env (eval o X.env)=eval o X.env:=by rfl)
  (hfew:((backTo cpos (starEach (e::es) X.env)).all (fun x=>!x.1)&&(backToKw cpos (keywordEach [] X.env)).all (fun x=>x.1.isSome)
   && decide ((e::es).length+([]:List Keyword).length+(if ([]:List Keyword).isEmpty then 0 else 1)<30))=true:=by rfl)
  (hline:(apos.endLine==cpos.line)=true:=by rfl) (hs:starEach (e::es) X.env=(false,eval e X.env)::starEach es X.env:=by rfl) (hplain:(backTo cpos (starEach es X.env)).any (·.1)=false:=by rfl) :
  PE3 X (.Call (.Attribute o name apos) (e::es) [] cpos) (Ry Ty m to t):=by
 refine PE.imp (Ri pa slot hty hm ho ha hbase hfew hline hs hplain) ?_;rintro Z H Q ⟨Z3,H3,Q3,ss,sh,h,k⟩;exact⟨Z3,H3,_,ss,sh,h,fun x H1 tx H31 le1 sh1 rx q1=>⟨Jt sh1 rx q1.1,Z3,H31,_,ss.mono le1,sh1,q1.2,fun vs H2 ts H32 le2 sh2 rs q2=>⟨tx,ts,H32,Q3,rx.mono le2,rs,sh2,q2,k.at (le1.trans le2)⟩⟩⟩
def Ju:T->List T->Hp3->VK3->Prop:=fun x ts H Q=>match x,ts with
 |.ref a,[t]=>match H a with
  |some (.lst xs)=>xs.length<sizeLine/\Q .non (up3 H a (.lst (xs++[t])))
  |_=>False
 |_,_=>False
theorem bJ:zz X "list.append" Ju:=by
 refine MtR.imp xV ?_;rintro x xs H Q ⟨tx,ts,H3,Q3,rx,rs,sh,h,k⟩
 match tx,ts,h,rx,rs with
 |.ref a,[t],h,rx,rs =>
 obtain⟨v,rfl,rv⟩:=rs.one';have h':(match H3 a with
  |some (.lst xs)=>xs.length<sizeLine/\Q3 .non (up3 H3 a (.lst (xs++[t])))
  |_=>False):=h
 split at h'
 ·rename_i ls e;obtain⟨ys,hH,r⟩:=sh a _ e;exact⟨a,ys,v,rx.ref,rfl,hH,by rw[<- r.length];exact h'.1,k _ _ _ _ (bT (by rw[hH];exact trivial)) (sh.wrL hH (r.append (.cons rv .nil))) .ofNon h'.2⟩
 exact h'.elim
def Rz:T->List T->Hp3->VK3->Prop:=fun x ts H Q=>match x,ts with
 |.ref a,[.ref b]=>match H a,H b with
  |some (.lst xs),some (.lst ys)=>xs.length+ys.length<=sizeLine/\Q .non (up3 H a (.lst (xs++ys)))
  |_,_=>False
 |_,_=>False
def Ga:T->List T->Hp3->VK3->Prop:=fun x ts H Q=>match x,ts with
 |.ref a,[.int i]=>match H a with
  |some (.lst xs)=>oq (ixN xs.length i) fun j=>oq (xs[j]?) fun t=>Q t (up3 H a (.lst (xs.eraseIdx j)))
  |_=>False
 |_,_=>False
def jN:List T->Option (List Str)
 |[]=>some []
 |.str x::r=>(jN r).map (x::·)
 |_=>none
def jOk (z:Str) (ys:List Str):Prop:=(ys.map (·.length)).sum+ys.length*z.length<=16777216
def zY:T->List T->Hp3->VK3->Prop:=fun x ts H Q=>match x,ts with
 |.str z,[.ref a]=>match H a with
  |some (.lst xs)=>oq (jN xs) fun ys=>jOk z ys/\Q (.str (Txt.join z ys)) H
  |some (.rol xs)=>oq (jN xs) fun ys=>jOk z ys/\Q (.str (Txt.join z ys)) H
  |_=>False
 |.str z,[.tup xs]=>oq (jN xs) fun ys=>jOk z ys/\Q (.str (Txt.join z ys)) H
 |_,_=>False
def ww:T->List T->Hp3->VK3->Prop:=fun x ts H Q=>match x,ts with
 |.str z,[.str y]=>match Builtin.Str.occurrences z y 0 z.length 1 with
  |i::_=>Q (.int i) H
  |[]=>False
 |_,_=>False
theorem zZ:zz X "str.index" ww:=by
 intro pins s Z H x xs v us Q I rx0 rs0 hh;obtain⟨tx,ts,H3,Q3,rx,rs,sh,h,k⟩:=hh
 match tx,ts,h,rx,rs with
 |.str z,[.str y],h,rx,rs =>
 obtain⟨w,rfl,rv⟩:=rs.one';obtain⟨u,rfl,ru⟩:=vals1 rs0;rw[rv.str] at ru;obtain⟨t',rfl⟩:=ru;rw[rx.str] at rx0;obtain⟨t,rfl⟩:=rx0;have h':(match Builtin.Str.occurrences z y 0 z.length 1 with
  |i::_=>Q3 (.int i) H3
  |[]=>False):=h
 split at h'
 ·rename_i i rest e;exact SC.index e ⟨.int i,H,I.tok _,⟨_,rfl⟩,k _ _ _ _ .refl sh .ofInt h'⟩
 exact h'.elim
end
def compLook (n0:List (Str × NameKind)) (N:List Str) (kind:Bool) (names:List (Str × NameKind)) (N':List Str) (nt:Nat) (cap:List Nat):Bool :=
 kind&&names.all (fun y=>y.2 != .cell||names.lookup y.1==some .cell)&&names.all (fun x=>x.2 != .local||names.lookup x.1==some .local)&&names.all (fun y=>y.2 != .free||n0.lookup y.1==some .cell||n0.lookup y.1==some .free)
  && N'.length==nt+cap.length&&(List.range cap.length).all fun j=>match N'[nt+j]?,cap[j]? with
   |some x,some i=>N[i]?==some x&&names.lookup x==some .free
   |_,_=>false
theorem cC {X:Cx}{N':List Str}{nt:Nat}{cap:List Nat}{scope:Scope}{n0:List (Str × NameKind)}{N:List Str}(h0:X.env.scope.names=n0) (hN:X.N=N)
  (h:compLook n0 N (scope.kind==.function) scope.names N' nt cap=true):CompSc X N' nt cap scope:=by
 unfold compLook at h;simp only[WL,Xe,Yp,bne_iff_ne,Bool.or_eq_true,Wu] at h;obtain⟨⟨⟨⟨⟨h1,h2⟩,h3⟩,h4⟩,h5⟩,h6⟩:=h;refine⟨h1,fun y hy e=>(h2 y hy).resolve_left fun z=>z e,fun x hx e=>(h3 x hx).resolve_left fun z=>z e,fun y hy e=>?_,h5,fun j x e=>?_⟩
 ·show X.env.scope.names.lookup y.1=_\/X.env.scope.names.lookup y.1=_;rw[h0];rcases h4 y hy with (z | z) | z
  ·exact absurd e z
  ·exact .inl z
  exact .inr z
 have hj:j<cap.length:=by have:=(Xa.mp e).1;omega
 have q:=h6 j hj;rw[e] at q;cases ec:cap[j]? with
 |none=>rw[ec] at q;cases q
 |some i =>
 rw[ec] at q;simp only[WL,Yp] at q;exact⟨i,rfl,by rw[hN];exact q.1,q.2⟩
structure G3 (K:Frag) (mg:Str->Option Value) (x:Str) (st:Stmt) (ps:List Str) (f:Addr) (fd:FuncData):Prop where
 fn:Fun K x x st f fd
 b:Binds K fd ps []
 m:mg x=some (.ref f)
structure Bl (mg:Str->Option Value):Prop where
 len_:mg "len"=none
 sum_:mg "sum"=none
 isinstance_:mg "isinstance"=none
 all_:mg "all"=none
 any_:mg "any"=none
 list_:mg "list"=none
 tuple_:mg "tuple"=none
 int_:mg "int"=none
 str_:mg "str"=none
 bool_:mg "bool"=none
 range_:mg "range"=none
 zip_:mg "zip"=none
 reversed_:mg "reversed"=none
 enumerate_:mg "enumerate"=none
 set_:mg "set"=none
 sorted_:mg "sorted"=none
 min_:mg "min"=none
 max_:mg "max"=none
 dict_:mg "dict"=none
 repr_:mg "repr"=none
theorem bQ:bootBuiltins "len"=some (.builtin "len"):=by decide +kernel
theorem Ma:bootBuiltins "sum"=some (.builtin "sum"):=by decide +kernel
theorem fL:bootBuiltins "isinstance"=some (.builtin "isinstance"):=by decide +kernel
theorem Mf:bootBuiltins "any"=some (.builtin "any"):=by decide +kernel
theorem o8:bootBuiltins "list"=some (.type "list"):=by decide +kernel
theorem cI:bootBuiltins "tuple"=some (.type "tuple"):=by decide +kernel
theorem z6:bootBuiltins "int"=some (.type "int"):=by decide +kernel
theorem Mg:bootBuiltins "str"=some (.type "str"):=by decide +kernel
theorem Room.u30 {k:Nat}{A:Around}(r:Room k A):A.units+30<cLine:=by have:=r.un;omega
theorem Room.u31 {k:Nat}{A:Around}(r:Room k A):A.units+31<cLine:=by have:=r.un;omega
theorem Room.u1 {k:Nat}{A:Around}(r:Room k A):A.units+1<cLine:=by have:=r.un;omega
section
variable {H:Hp3}{Q:VK3}{Z:St3}
def vq (o:Option (Option T)) (Q:T->Prop):Prop:=match o with
 |some (some t)=>Q t
 |_=>False
theorem Wc (t:T) (Q:T->Prop):vq (some (some t)) Q=Q t:=rfl
theorem z7 (i:Nat):qK i Z H Q=vq (Z[i]?) fun t=>Q t H:=rfl
def bq (x:T) (Q:Bool->Prop):Prop:=match x with
 |.bl k=>Q k
 |_=>False
theorem dM (b:Bool) (Q:Bool->Prop):bq (.bl b) Q=Q b:=rfl
theorem Mh (t:TE3) (Q:Bool->Hp3->Prop):jy t Z H Q=t Z H fun x H'=>bq x fun k=>Q k H':=rfl
theorem Gb (r r':R3) (ta tb tc:TE3):FJ r r' ta tb tc Z H Q=ta Z H fun x H1=>tb Z H1 fun y H2=>r x y H2 fun z H3=>bq z fun k=>if k=true then tc Z H3 fun w H4=>r' y w H4 Q else Q (.bl false) H3:=rfl
theorem Mi (ta tb:TE3):Ls ta tb Z H Q=ta Z H fun x H1=>bq x fun c=>if c=true then tb Z H1 Q else Q (.bl false) H1:=rfl
theorem RB (ta tb:TE3):Jg ta tb Z H Q=ta Z H fun x H1=>bq x fun c=>if c=true then Q (.bl true) H1 else tb Z H1 Q:=rfl
theorem Mj (ta:TE3):Lw ta Z H Q=ta Z H fun x H1=>bq x fun c=>Q (.bl (!c)) H1:=rfl
theorem gK {α:Type}(v:α) (Q:α->Prop):oq (some v) Q=Q v:=rfl
theorem q_I (C:Int->Int->Prop) (g:Int->Int->T) (i j:Int):rI3 C g (.int i) (.int j) H Q=(C i j/\Q (g i j) H):=rfl
theorem Wd (g:Int->Int->T) (i j:Int):qQ g (.int i) (.int j) H Q=Q (g i j) H:=rfl
theorem Ml (i j:Int):qT (.int i) (.int j) H Q=Q (.int (i+j)) H:=rfl
theorem Mm (i j:Str):qT (.str i) (.str j) H Q=(i.length+j.length<=sizeLine/\Q (.str (i++j)) H):=rfl
theorem Mp (xs ys:List T):qT (.tup xs) (.tup ys) H Q=(xs.length+ys.length<=sizeLine/\Q (.tup (xs++ys)) H):=rfl
def RC (o u:Option O3) (H:Hp3) (Q:VK3):Prop:=match o,u with
 |some (.lst xs),some (.lst ys)=>xs.length+ys.length<=sizeLine/\∀p,H p=none->Q (.ref p) (up3 H p (.lst (xs++ys)))
 |_,_=>False
theorem z8 (a b:Addr):qT (.ref a) (.ref b) H Q=RC (H a) (H b) H Q:=rfl
theorem iU (xs ys:List T):RC (some (.lst xs)) (some (.lst ys)) H Q=(xs.length+ys.length<=sizeLine/\∀p,H p=none->Q (.ref p) (up3 H p (.lst (xs++ys)))):=rfl
theorem RD (n:Bool) (i j:Int):qU n (.int i) (.int j) H Q=Q (.bl (if n then !decide (i=j) else decide (i=j))) H:=rfl
theorem RG (n:Bool) (i j:Str):qU n (.str i) (.str j) H Q=Q (.bl (if n then !decide (i=j) else decide (i=j))) H:=rfl
theorem RJ (n:Bool) (i j:Bool):qU n (.bl i) (.bl j) H Q=Q (.bl (if n then !decide (i=j) else decide (i=j))) H:=rfl
theorem RK (n:Bool) (xs ys:List T):qU n (.tup xs) (.tup ys) H Q=(xs.all (pl 20)=true/\ys.all (pl 20)=true/\Q (.bl (if n then !decide (xs=ys) else decide (xs=ys))) H):=rfl
def eqH (n:Bool) (a b:Addr) (o u:Option O3) (H:Hp3) (Q:VK3):Prop:=match o,u with
 |some (.lst xs),some (.lst ys)=>a≠b/\xs.all (pl 20)=true/\ys.all (pl 20)=true/\Q (.bl (if n then !@decide (xs=ys) (instDecidableEqList xs ys) else @decide (xs=ys) (instDecidableEqList xs ys))) H
 |_,_=>False
theorem Jv (n:Bool) (a b:Addr):qU n (.ref a) (.ref b) H Q=eqH n a b (H a) (H b) H Q:=rfl
theorem qZ (n:Bool) (a b:Addr) (xs ys:List T):eqH n a b (some (.lst xs)) (some (.lst ys)) H Q=(a≠b/\xs.all (pl 20)=true/\ys.all (pl 20)=true/\Q (.bl (if n then !decide (xs=ys) else decide (xs=ys))) H):=rfl
theorem Jw (n:Bool) (x:T) (ts:List T):um n x (.tup ts) H Q=(pl 20 x=true/\ts.all (pl 20)=true/\Q (.bl (dB n x ts)) H):=rfl
theorem RL (n:Bool) (i j:Str):um n (.str i) (.str j) H Q=Q (.bl (occ n i j)) H:=rfl
def inH (n:Bool) (x:T) (o:Option O3) (H:Hp3) (Q:VK3):Prop:=match o with
 |some (.lst ts)=>pl 20 x=true/\ts.all (pl 20)=true/\Q (.bl (dB n x ts)) H
 |some (.rol ts)=>pl 20 x=true/\ts.all (pl 20)=true/\Q (.bl (dB n x ts)) H
 |_=>False
theorem Jx (n:Bool) (x:T) (a:Addr):um n x (.ref a) H Q=inH n x (H a) H Q:=rfl
theorem Jy (n:Bool) (x:T) (ts:List T):inH n x (some (.lst ts)) H Q=(pl 20 x=true/\ts.all (pl 20)=true/\Q (.bl (dB n x ts)) H):=rfl
def ixH (o:Option O3) (i:Int) (H:Hp3) (Q:VK3):Prop:=match o with
 |some (.lst ts)=>oq (atI ts i) fun t=>Q t H
 |some (.rol ts)=>oq (atI ts i) fun t=>Q t H
 |_=>False
theorem z9 (a:Addr) (i:Int):qW (.ref a) (.int i) H Q=ixH (H a) i H Q:=rfl
theorem wy (ts:List T) (i:Int):ixH (some (.lst ts)) i H Q=oq (atI ts i) fun t=>Q t H:=rfl
theorem RM (ts:List T) (i:Int):qW (.tup ts) (.int i) H Q=oq (atI ts i) fun t=>Q t H:=rfl
theorem RN (z:Str) (i:Int):qW (.str z) (.int i) H Q=(z.length<=sizeLine/\oq (atI z.cps.toList i) fun c=>Q (.str ⟨#[c]⟩) H):=rfl
def stH (o:Option O3) (a:Addr) (k:Int) (v:T) (H:Hp3) (Q:Hp3->Prop):Prop:=match o with
 |some (.lst ts)=>oq (ixN ts.length k) fun j=>Q (up3 H a (.lst (ts.set j v)))
 |_=>False
theorem Mq (a:Addr) (k:Int) (v:T) (Q:Hp3->Prop):zR (.ref a) (.int k) v H Q=stH (H a) a k v H Q:=rfl
theorem RP (ts:List T) (a:Addr) (k:Int) (v:T) (Q:Hp3->Prop):stH (some (.lst ts)) a k v H Q=oq (ixN ts.length k) fun j=>Q (up3 H a (.lst (ts.set j v))):=rfl
def pq (x:T) (Q:Option Int->Prop):Prop:=match x with
 |.int i=>Q (some i)
 |_=>False
theorem We (i:Int) (Q:Option Int->Prop):pq (.int i) Q=Q (some i):=rfl
theorem Mr (t:TE3) (Q:Option Int->Hp3->Prop):zT t Z H Q=t Z H fun x H1=>pq x fun o=>Q o H1:=rfl
def slH (o:Option O3) (lo hi:Option Int) (H:Hp3) (Q:VK3):Prop:=match o with
 |some (.lst ts)=>∀p,H p=none->Q (.ref p) (up3 H p (.lst (fK ts lo hi)))
 |some (.rol ts)=>∀p,H p=none->Q (.ref p) (up3 H p (.lst (fK ts lo hi)))
 |_=>False
theorem RQ (a:Addr) (lo hi:Option Int):FW (.ref a) lo hi H Q=slH (H a) lo hi H Q:=rfl
theorem Jz (ts:List T) (lo hi:Option Int):slH (some (.lst ts)) lo hi H Q=∀p,H p=none->Q (.ref p) (up3 H p (.lst (fK ts lo hi))):=rfl
theorem Ms (ts:List T) (lo hi:Option Int):slH (some (.rol ts)) lo hi H Q=∀p,H p=none->Q (.ref p) (up3 H p (.lst (fK ts lo hi))):=rfl
theorem RV (ts:List T) (lo hi:Option Int):FW (.tup ts) lo hi H Q=(¬(HT.sIx ts.length 0 lo=0/\HT.sIx ts.length ts.length hi=ts.length)/\Q (.tup (fK ts lo hi)) H):=rfl
theorem RW (z:Str) (lo hi:Option Int):FW (.str z) lo hi H Q=(z.length<=sizeLine/\Q (.str (Txt.slice z lo hi)) H):=rfl
def dgH (o:Option O3) (k:Str) (H:Hp3) (Q:VK3):Prop:=match o with
 |some (.dct kvs)=>oq (aN k kvs) fun t=>Q t H
 |_=>False
theorem q_D (a:Addr) (k:Str):r3D (.ref a) (.str k) H Q=dgH (H a) k H Q:=rfl
theorem RX (kvs:List (Str × T)) (k:Str):dgH (some (.dct kvs)) k H Q=oq (aN k kvs) fun t=>Q t H:=rfl
def dpH (x y v:T) (H:Hp3) (Q:Hp3->Prop):Prop:=match x,y with
 |.ref a,.str k=>match H a with
  |some (.dct kvs)=>kvs.length<sizeLine/\Q (up3 H a (.dct (put3 k v kvs)))
  |_=>False
 |_,_=>False
def dpO (o:Option O3) (a:Addr) (k:Str) (v:T) (H:Hp3) (Q:Hp3->Prop):Prop:=match o with
 |some (.dct kvs)=>kvs.length<sizeLine/\Q (up3 H a (.dct (put3 k v kvs)))
 |_=>False
theorem Mt (td ty tv:TE3) (D:Ends3):zU td ty tv D Z H=tv Z H fun v H1=>td Z H1 fun x H2=>ty Z H2 fun y H3=>dpH x y v H3 fun H4=>D.nx Z H4:=rfl
theorem RZ (a:Addr) (k:Str) (v:T) (Q:Hp3->Prop):dpH (.ref a) (.str k) v H Q=dpO (H a) a k v H Q:=rfl
theorem Sd (kvs:List (Str × T)) (a:Addr) (k:Str) (v:T) (Q:Hp3->Prop):dpO (some (.dct kvs)) a k v H Q=(kvs.length<sizeLine/\Q (up3 H a (.dct (put3 k v kvs)))):=rfl
def lnH (o:Option O3) (H:Hp3) (Q:VK3):Prop:=match o with
 |some (.lst xs)=>Q (.int xs.length) H
 |some (.rol xs)=>Q (.int xs.length) H
 |_=>False
theorem Mu (a:Addr):wg [.ref a] H Q=lnH (H a) H Q:=rfl
theorem Sg (xs:List T):lnH (some (.lst xs)) H Q=Q (.int xs.length) H:=rfl
theorem Mv (xs:List T):wg [.tup xs] H Q=Q (.int xs.length) H:=rfl
theorem Mw (z:Str):wg [.str z] H Q=(z.length<=sizeLine/\Q (.int z.length) H):=rfl
def liH (o:Option O3) (H:Hp3) (Q:VK3):Prop:=match o with
 |some (.lst xs)=>∀p,H p=none->Q (.ref p) (up3 H p (.lst xs))
 |some (.rol xs)=>∀p,H p=none->Q (.ref p) (up3 H p (.lst xs))
 |_=>False
theorem Gd (a:Addr):uo [.ref a] H Q=liH (H a) H Q:=rfl
theorem Sh (xs:List T):liH (some (.lst xs)) H Q=∀p,H p=none->Q (.ref p) (up3 H p (.lst xs)):=rfl
theorem Ge (xs:List T):uo [.tup xs] H Q=∀p,H p=none->Q (.ref p) (up3 H p (.lst xs)):=rfl
def tpH (o:Option O3) (H:Hp3) (Q:VK3):Prop:=match o with
 |some (.lst xs)=>Q (.tup xs) H
 |some (.rol xs)=>Q (.tup xs) H
 |_=>False
theorem Mx (a:Addr):o7 [.ref a] H Q=tpH (H a) H Q:=rfl
theorem Sq (xs:List T):tpH (some (.lst xs)) H Q=Q (.tup xs) H:=rfl
theorem Mz (xs:List T):o7 [.tup xs] H Q=Q (.tup xs) H:=rfl
theorem MF (i:Int):zX [.int i] H Q=Q (.int i) H:=rfl
theorem MJ (b:Bool):zX [.bl b] H Q=Q (.int (if b then 1 else 0)) H:=rfl
theorem MK (i:Int):Rx [.int i] H Q=(i.natAbs.log2<1920/\Q (.str (toString i)) H):=rfl
def smH (o:Option O3) (H:Hp3) (Q:VK3):Prop:=match o with
 |some (.lst xs)=>oq (ints3 xs) fun ns=>Q (.int ns.sum) H
 |some (.rol xs)=>oq (ints3 xs) fun ns=>Q (.int ns.sum) H
 |_=>False
theorem MN (a:Addr):Js [.ref a] H Q=smH (H a) H Q:=rfl
theorem Ss (xs:List T):smH (some (.lst xs)) H Q=oq (ints3 xs) fun ns=>Q (.int ns.sum) H:=rfl
theorem q8 (x:T) (n:String):lB [x,.ty n] H Q=((n="str"\/n="int"\/n="bool"\/n="tuple"\/n="list")/\oq (isT n x H) fun b=>Q (.bl b) H):=rfl
theorem Su (Ty:String) (z:Str):ty3 Ty (.str z) H=(Ty="str"):=rfl
def tyH (o:Option O3):Prop:=match o with
 |some (.lst _)=>True
 |some (.rol _)=>True
 |_=>False
theorem Sv (Ty:String) (a:Addr):ty3 Ty (.ref a) H=(Ty="list"/\tyH (H a)):=rfl
theorem Sw (xs:List T):tyH (some (.lst xs))=True:=rfl
def apH (o:Option O3) (a:Addr) (t:T) (H:Hp3) (Q:VK3):Prop:=match o with
 |some (.lst xs)=>xs.length<sizeLine/\Q .non (up3 H a (.lst (xs++[t])))
 |_=>False
theorem Sx (a:Addr) (t:T):Ju (.ref a) [t] H Q=apH (H a) a t H Q:=rfl
theorem Aa (xs:List T) (a:Addr) (t:T):apH (some (.lst xs)) a t H Q=(xs.length<sizeLine/\Q .non (up3 H a (.lst (xs++[t])))):=rfl
def exH (o u:Option O3) (a:Addr) (H:Hp3) (Q:VK3):Prop:=match o,u with
 |some (.lst xs),some (.lst ys)=>xs.length+ys.length<=sizeLine/\Q .non (up3 H a (.lst (xs++ys)))
 |_,_=>False
theorem Sy (a b:Addr):Rz (.ref a) [.ref b] H Q=exH (H a) (H b) a H Q:=rfl
theorem SJ (xs ys:List T) (a:Addr):exH (some (.lst xs)) (some (.lst ys)) a H Q=(xs.length+ys.length<=sizeLine/\Q .non (up3 H a (.lst (xs++ys)))):=rfl
def poH (o:Option O3) (a:Addr) (i:Int) (H:Hp3) (Q:VK3):Prop:=match o with
 |some (.lst xs)=>oq (ixN xs.length i) fun j=>oq (xs[j]?) fun t=>Q t (up3 H a (.lst (xs.eraseIdx j)))
 |_=>False
theorem SM (a:Addr) (i:Int):Ga (.ref a) [.int i] H Q=poH (H a) a i H Q:=rfl
theorem SN (xs:List T) (a:Addr) (i:Int):poH (some (.lst xs)) a i H Q=oq (ixN xs.length i) fun j=>oq (xs[j]?) fun t=>Q t (up3 H a (.lst (xs.eraseIdx j))):=rfl
def joH (o:Option O3) (z:Str) (H:Hp3) (Q:VK3):Prop:=match o with
 |some (.lst xs)=>oq (jN xs) fun ys=>jOk z ys/\Q (.str (Txt.join z ys)) H
 |some (.rol xs)=>oq (jN xs) fun ys=>jOk z ys/\Q (.str (Txt.join z ys)) H
 |_=>False
theorem Gf (z:Str) (a:Addr):zY (.str z) [.ref a] H Q=joH (H a) z H Q:=rfl
theorem SQ (xs:List T) (z:Str):joH (some (.lst xs)) z H Q=oq (jN xs) fun ys=>jOk z ys/\Q (.str (Txt.join z ys)) H:=rfl
theorem Gg (z:Str) (xs:List T):zY (.str z) [.tup xs] H Q=oq (jN xs) fun ys=>jOk z ys/\Q (.str (Txt.join z ys)) H:=rfl
def idH (o:List Nat) (H:Hp3) (Q:VK3):Prop:=match o with
 |i::_=>Q (.int i) H
 |[]=>False
theorem Gh (z y:Str):ww (.str z) [.str y] H Q=idH (Builtin.Str.occurrences z y 0 z.length 1) H Q:=rfl
theorem SX (i:Nat) (r:List Nat):idH (i::r) H Q=Q (.int i) H:=rfl
def rgq (vs:List T) (H:Hp3) (R:List T->(Hp3->Prop)->Hp3->Prop):Prop:=match vs with
 |[.int j]=>-(2^62)<=j/\j<2^62/\R (dH 0 j.toNat) cA H
 |[.int i,.int j]=>(-(2^62)<=i/\i<2^62 /\ -(2^62)<=j/\j<2^62)/\R (dH i (j - i).toNat) cA H
 |_=>False
theorem S5 (ta:TA3) (R:List T->(Hp3->Prop)->Hp3->Prop):zL ta Z H R=ta Z H fun vs H1=>rgq vs H1 R:=rfl
theorem S6 (j:Int) (R:List T->(Hp3->Prop)->Hp3->Prop):rgq [.int j] H R=(-(2^62)<=j/\j<2^62/\R (dH 0 j.toNat) cA H):=rfl
theorem S7 (i j:Int) (R:List T->(Hp3->Prop)->Hp3->Prop):rgq [.int i,.int j] H R=((-(2^62)<=i/\i<2^62 /\ -(2^62)<=j/\j<2^62)/\R (dH i (j - i).toNat) cA H):=rfl
def tuq (x:T) (H:Hp3) (R:List T->(Hp3->Prop)->Hp3->Prop):Prop:=match x with
 |.tup ts=>R ts cA H
 |_=>False
theorem MP (tl:TE3) (R:List T->(Hp3->Prop)->Hp3->Prop):Jp tl Z H R=tl Z H fun x H1=>tuq x H1 R:=rfl
theorem S8 (ts:List T) (R:List T->(Hp3->Prop)->Hp3->Prop):tuq (.tup ts) H R=R ts cA H:=rfl
def liq (x:T) (H:Hp3) (R:List T->(Hp3->Prop)->Hp3->Prop):Prop:=match x with
 |.ref a=>match H a with
  |some (.lst ts)=>R ts (aX a ts) H
  |some (.rol ts)=>R ts (aX a ts) H
  |_=>False
 |_=>False
def liO (o:Option O3) (a:Addr) (H:Hp3) (R:List T->(Hp3->Prop)->Hp3->Prop):Prop:=match o with
 |some (.lst ts)=>R ts (aX a ts) H
 |some (.rol ts)=>R ts (aX a ts) H
 |_=>False
theorem Gi (tl:TE3) (R:List T->(Hp3->Prop)->Hp3->Prop):zJ tl Z H R=tl Z H fun x H1=>liq x H1 R:=rfl
theorem JB (a:Addr) (R:List T->(Hp3->Prop)->Hp3->Prop):liq (.ref a) H R=liO (H a) a H R:=rfl
theorem wz (ts:List T) (a:Addr) (R:List T->(Hp3->Prop)->Hp3->Prop):liO (some (.lst ts)) a H R=R ts (aX a ts) H:=rfl
theorem MT (Q:St3->Hp3->Prop):zG [] Z H Q=Q Z H:=rfl
theorem Gj (t:TG3) (u:lu) (x:T) (r:List T) (Q:St3->Hp3->Prop):oZ t u (x::r) Z H Q=t x Z H fun Z' H'=>u r Z' H' Q:=rfl
theorem M3 (n:Nat) (g:lu) (ts:List T) (Q:St3->Hp3->Prop):vP n g (.tup ts) Z H Q=(ts.length=n/\g ts Z H Q):=rfl
end
theorem o9 {n j:Nat}(h:j<n):ixN n (j:Int)=some j:=by
 unfold ixN;rw[if_pos (YX j),if_pos (by omega),Xi]
theorem Wf (n:Nat):ixN (n+1) 0=some 0:=o9 (j:=0) (Nat.succ_pos n)
theorem at0 {α:Type}(a:α) (r:List α):atI (a::r) 0=some a:=bN (j:=0) rfl
theorem at1 {α:Type}(a b:α) (r:List α):atI (a::b::r) 1=some b:=bN (j:=1) rfl
theorem at2 {α:Type}(a b c:α) (r:List α):atI (a::b::c::r) 2=some c:=bN (j:=2) rfl
theorem at3 {α:Type}(a b c d:α) (r:List α):atI (a::b::c::d::r) 3=some d:=bN (j:=3) rfl
theorem il {g:TG3}{tb:TS3}{D:Ends3}{still:Hp3->Prop}{ts:List T}{Z:St3}{H:Hp3}(I:List T->St3->Hp3->Prop) (h0:I ts Z H) (hn:∀Z H,I [] Z H->still H/\D.nx Z H)
  (hs:∀t r Z H (N:St3->Hp3->Prop),I (t::r) Z H->(∀Z' H',I r Z' H'->N Z' H')->still H/\g t Z H fun Z2 H2=>tb { D with nx:=N,ct:=N,bk:=D.nx} Z2 H2):iter3 g tb D still ts Z H:=by
 induction ts generalizing Z H with
 |nil=>exact hn Z H h0
 |cons t r ih=>exact hs t r Z H (iter3 g tb D still r) h0 fun Z' H' h=>ih h
theorem lC {g:TG3}{tt:TT3}{te:TE3}{still:Hp3->Prop}{fin:List T->Hp3->Prop}{ts ys:List T}{Z:St3}{H:Hp3}(I:List T->List T->St3->Hp3->Prop) (h0:I ts ys Z H) (hn:∀ys Z H,I [] ys Z H->still H/\ys.length<=sizeLine/\fin ys H)
  (hs:∀t r ys Z H (N:List T->St3->Hp3->Prop),I (t::r) ys Z H->(∀ys' Z' H',I r ys' Z' H'->N ys' Z' H') ->
   still H/\g t Z H fun Z2 H2=>tt Z2 H2 fun b H3=>if b=true then te Z2 H3 fun y H4=>ys.length<sizeLine/\N (ys++[y]) Z2 H4 else N ys Z2 H3):cIter3 g tt te still fin ts ys Z H:=by
 induction ts generalizing Z H ys with
 |nil=>exact hn ys Z H h0
 |cons t r ih=>exact hs t r ys Z H (cIter3 g tt te still fin r) h0 fun ys' Z' H' h=>ih h
theorem M4 (Z:St3) (H:Hp3) (Q:List (Str × T)->Hp3->Prop):zV [] Z H Q=Q [] H:=rfl
theorem M5 (k:Str) (tv:TE3) (r:List (Str × TE3)) (Z:St3) (H:Hp3) (Q:List (Str × T)->Hp3->Prop):zV ((k,tv)::r) Z H Q=tv Z H fun y H2=>zV r Z H2 fun ps H3=>Q ((k,y)::ps) H3:=rfl
theorem sx0 (n:Nat):HT.sIx n 0 none=0:=rfl
theorem ph {ts:List T}{k:Nat}:fK ts none (some (k:Int))=ts.take k:=by
 unfold fK;rw[sx0,HT.sIx_nat,Y8,Nat.sub_zero];by_cases h:k<=ts.length
 ·rw[Nat.min_eq_left h]
 rw[Nat.min_eq_right (by omega),List.take_length,YW (by omega)]
theorem q9 {ts:List T}{k:Nat}:fK ts (some (k:Int)) none=ts.drop k:=by
 unfold fK;rw[HT.sIx_none,HT.sIx_nat];by_cases h:k<=ts.length
 ·rw[Nat.min_eq_left h,YW (by simp)]
 rw[Nat.min_eq_right (by omega),Xu (j_ _),Xu (by omega),List.take_nil]
theorem cD {H:Hp3}{a b:Addr}{o:O3}(h:up3 H a o b=none):b≠a/\H b=none:=by
 by_cases e:b=a
 ·subst e;rw[aq] at h;cases h
 rw[aD e] at h;exact⟨e,h⟩
theorem Ab {H:Hp3}{a b:Addr}{o u:O3}(h:a≠b):up3 (up3 H a o) b u=up3 (up3 H b u) a o:=by
 funext c;by_cases h1:c=b
 ·subst h1;rw[aq,aD (Ne.symm h),aq]
 rw[aD h1];by_cases h2:c=a
 ·subst h2;rw[aq,aq]
 rw[aD h2,aD h2,aD h1]
theorem bZ {α:Type}(enc f:α->T) (as:List α) (rest:St3) {te:TE3}{still:Hp3->Prop}{fin:List T->Hp3->Prop}{v:Option T}{H:Hp3}(hst:still H) (hl:as.length<=sizeLine)
  (ht:∀a∈as,∀Q:VK3,Q (f a) H->te (some (enc a)::rest) H Q) (hfin:fin (as.map f) H):cIter3 (gM 0) vU te still fin (as.map enc) [] (v::rest) H:=by
 refine lC (fun r ys Z H'=>∃(rs ds:List α) (v:Option T),Z=v::rest/\r=rs.map enc/\ys=ds.map f/\ds++rs=as/\H'=H) ⟨as,[],v,rfl,rfl,rfl,rfl,rfl⟩ ?_ ?_
 ·rintro ys Z H' ⟨rs,ds,v,rfl,hrs,rfl,hsp,rfl⟩;have hrs':rs=[]:=Zc.mp hrs.symm;subst hrs';rw[WD] at hsp;subst hsp;exact⟨hst,by rw[h_];exact hl,hfin⟩
 rintro x r ys Z H' N ⟨rs,ds,v,rfl,hrs,rfl,hsp,rfl⟩ hN;cases rs with
 |nil=>cases hrs
 |cons t rs =>
 injection hrs with e1 e2;subst e1 e2;refine⟨hst,?_⟩;show te (some (enc t)::rest) H' _;refine ht t (by rw[<- hsp];simp) _ ⟨?_,hN _ _ _ ⟨rs,ds++[t],_,rfl,rfl,by simp,by rw[<- hsp];simp,rfl⟩⟩;have:=WK List.length hsp;simp only[g_,l_] at this;rw[h_];omega
section
variable {X:Cx}
def cg:List T->Option (List Bool)
 |[]=>some []
 |.bl x::r=>(cg r).map (x::·)
 |_=>none
theorem lD:∀(ns:List Bool),cg (ns.map T.bl)=some ns
 |[]=>rfl
 |n::r=>by simp [cg,lD r]
theorem jO {K:Frag}{H:Hp}:∀{ts:List T}{xs:List V}{us:List Value}{bs:List Bool},cg ts=some bs->Reps K H ts xs->Vals xs us->us=bs.map Value.bool
 |[],xs,us,bs,e,r,v=>by
  cases e
  rw[r.inv0] at v
  cases v
  rfl
 |.bl i::l,xs,us,bs,e,r,v=>by
  obtain⟨x,xr,rfl,rx,rr⟩:=r.inv
  cases v with
  |cons a b =>
   rw[rx.bl] at a
   cases hl:cg l with
   |none=>simp [cg,hl] at e
   |some ms =>
    simp [cg,hl] at e
    subst e
    cases a
    rw[jO hl rr b]
    rfl
 |.non::_,_,_,_,e,_,_=>by simp [cg] at e
 |.int _::_,_,_,_,e,_,_=>by simp [cg] at e
 |.str _::_,_,_,_,e,_,_=>by simp [cg] at e
 |.tup _::_,_,_,_,e,_,_=>by simp [cg] at e
 |.ref _::_,_,_,_,e,_,_=>by simp [cg] at e
 |.ty _::_,_,_,_,e,_,_=>by simp [cg] at e
def alH (o:Option O3) (H:Hp3) (Q:VK3):Prop:=match o with
 |some (.lst xs)=>oq (cg xs) fun bs=>Q (.bl (bs.all id)) H
 |some (.rol xs)=>oq (cg xs) fun bs=>Q (.bl (bs.all id)) H
 |_=>False
def S9:List T->Hp3->VK3->Prop:=fun ts H Q=>match ts with
 |[.ref a]=>alH (H a) H Q
 |_=>False
theorem Tc (a:Addr) {H:Hp3}{Q:VK3}:S9 [.ref a] H Q=alH (H a) H Q:=rfl
theorem Td (xs:List T) {H:Hp3}{Q:VK3}:alH (some (.lst xs)) H Q=oq (cg xs) fun bs=>Q (.bl (bs.all id)) H:=rfl
end
def Wg:T->Option Key
 |.int i=>some (.inl i)
 |.str x=>some (.inr x)
 |_=>none
def Ac:List T->Option (List Key)
 |[]=>some []
 |t::r=>match Wg t,Ac r with
  |some k,some ks=>some (k::ks)
  |_,_=>none
def Ad (k:List Key):List (List Key × T)->Option T
 |[]=>none
 | (k',v)::r=>if k'=k then some v else Ad k r
def putP (k:List Key) (v:T) (kvs:List (List Key × T)):List (List Key × T) :=
 if (kvs.any fun kv=>decide (kv.1=k))=true then kvs.map (fun kv=>if kv.1=k then (kv.1,v) else kv) else kvs++[(k,v)]
def M6 (o:Option O3) (ts:List T) (H:Hp3) (Q:VK3):Prop:=match o with
 |some (.dcp kvs)=>oq (Ac ts) fun ks=>oq (Ad ks kvs) fun t=>Q t H
 |_=>False
def dgP (x:T) (ts:List T) (H:Hp3) (Q:VK3):Prop:=match x with
 |.ref a=>M6 (H a) ts H Q
 |_=>False
def Gk (td:TE3) (ta:TA3):TE3:=fun Z H Q=>td Z H fun x H1=>ta Z H1 fun ts H2=>ts.length<=sizeLine/\dgP x ts H2 Q
def M7 (o:Option O3) (a:Addr) (ts:List T) (v:T) (H:Hp3) (Q:Hp3->Prop):Prop:=match o with
 |some (.dcp kvs)=>oq (Ac ts) fun ks=>kvs.length<sizeLine/\Q (up3 H a (.dcp (putP ks v kvs)))
 |_=>False
def dpP (x:T) (ts:List T) (v:T) (H:Hp3) (Q:Hp3->Prop):Prop:=match x with
 |.ref a=>M7 (H a) a ts v H Q
 |_=>False
def Gm (td:TE3) (ta:TA3) (tv:TE3):TS3:=fun D Z H=>tv Z H fun v H1=>td Z H1 fun x H2=>ta Z H2 fun ts H3=>ts.length<=sizeLine/\dpP x ts v H3 fun H4=>D.nx Z H4
section
variable {H:Hp3}{Q:VK3}{Z:St3}
theorem Te (a:Addr) (ts:List T):dgP (.ref a) ts H Q=M6 (H a) ts H Q:=rfl
theorem M8 (kvs:List (List Key × T)) (x y:Str):M6 (some (.dcp kvs)) [.str x,.str y] H Q=oq (Ad [Sum.inr x,Sum.inr y] kvs) fun t=>Q t H:=rfl
theorem Tf (a:Addr) (ts:List T) (v:T) (Q:Hp3->Prop):dpP (.ref a) ts v H Q=M7 (H a) a ts v H Q:=rfl
theorem M9 (kvs:List (List Key × T)) (a:Addr) (x y:Str) (v:T) (Q:Hp3->Prop):M7 (some (.dcp kvs)) a [.str x,.str y] v H Q=(kvs.length<sizeLine/\Q (up3 H a (.dcp (putP [Sum.inr x,Sum.inr y] v kvs)))):=rfl
variable {X:Cx}{o i k value:Expr}{es:List Expr}{td ti tk tv:TE3}{ta:TA3}{pos pos' p2:Pos}{x1:Nat}
def Ae:TE3:=fun _ H Q=>∀p,H p=none->Q (.ref p) (up3 H p (.dct []))
def Gn:TE3:=fun _ H Q=>∀p,H p=none->Q (.ref p) (up3 H p (.dcp []))
theorem SimH.newD {K:Frag}{H:Hp}{H3:Hp3}{p:Addr}(s:SimH K H3 H) (hp:H p=none):SimH K (up3 H3 p (.dct [])) (upd H p (.dK [])):=fun a o e=>by
 by_cases ha:a=p
 ·subst ha;rw[aq] at e;cases e;exact⟨[],bM,.nil⟩
 rw[aD ha] at e;exact s.new hp a o e
theorem wA:PE3 X (.Dict [] [] pos) Ae:=by
 refine PE.imp qH ?_;rintro Z H Q ⟨Z3,H3,Q3,ss,sh,h,k⟩ p hp;exact k _ _ _ _ (aJ hp) (sh.newD hp) .ofRef (h p (sh.fresh hp))
def d1q (y:T) (p:Addr) (v:T) (H:Hp3) (Q:VK3):Prop:=match y with
 |.str k=>H p=some (.dct [])/\Q (.ref p) (up3 H p (.dct [(k,v)]))
 |_=>False
def Af (tk tv:TE3):TE3:=fun Z H Q=>∀p,H p=none->tk Z (up3 H p (.dct [])) fun y H1=>tv Z H1 fun v H2=>d1q y p v H2 Q
theorem Tg (x:Str) (p:Addr) (v:T) {H:Hp3}{Q:VK3}:d1q (.str x) p v H Q=(H p=some (.dct [])/\Q (.ref p) (up3 H p (.dct [(x,v)]))):=rfl
theorem Ag {v:Expr}(hk:PE3 X k tk) (hv:PE3 X v tv):PE3 X (.Dict [some k] [v] pos) (Af tk tv):=by
 refine PE.imp (vM (qI hk hv vL) rfl rfl (by simp) (by show 1<=15;decide)) ?_;rintro Z H Q ⟨Z3,H3,Q3,ss,sh,h,k⟩ p hp;have le0:TupLe X.K H (upd H p (.dK [])):=aJ hp;refine⟨Z3,up3 H3 p (.dct []),_,ss.mono le0,sh.newD hp,h p (sh.fresh hp),fun y H1 ty H31 le1 sh1 ry q1=>?_⟩;refine⟨Z3,H31,_,ss.mono (le0.trans le1),sh1,q1,fun z H2 tz H32 le2 sh2 rz q2=>?_⟩;cases ty with
 |str key =>
  have h':H32 p=some (.dct [])/\Q3 (.ref p) (up3 H32 p (.dct [(key,tz)])):=q2
  obtain⟨ws,hH,r⟩:=sh2 p _ h'.1
  cases r
  refine⟨hH,[(Sum.inr key,z)],by rw[(ry.mono le2).str];rfl,by show 1<=15;decide,?_⟩
  have e:iK [] [((Sum.inr key:Key),z)]=[((Sum.inr key:Key),z)]:=rfl
  rw[e]
  exact k _ _ _ _ (le0.trans (le1.trans (le2.trans (bT (by rw[hH];exact trivial))))) (sh2.wrD hH (.cons ⟨rfl,rz⟩ .nil)) .ofRef h'.2
 |_=>exact q2.elim
def diH (neg:Bool) (y:T) (o:Option O3) (H:Hp3) (Q:VK3):Prop:=match y,o with
 |.str k,some (.dct kvs)=>Q (.bl (if neg then !(aN k kvs).isSome else (aN k kvs).isSome)) H
 |_,_=>False
def diq (neg:Bool) (y x:T) (H:Hp3) (Q:VK3):Prop:=match x with
 |.ref a=>diH neg y (H a) H Q
 |_=>False
def Ah (neg:Bool) (ti to:TE3):TE3:=fun Z H Q=>ti Z H fun y H1=>to Z H1 fun x H2=>diq neg y x H2 Q
theorem Th (neg:Bool) (y:T) (a:Addr) {H:Hp3}{Q:VK3}:diq neg y (.ref a) H Q=diH neg y (H a) H Q:=rfl
theorem Ti (neg:Bool) (k:Str) (kvs:List (Str × T)) {H:Hp3}{Q:VK3}:diH neg (.str k) (some (.dct kvs)) H Q=Q (.bl (if neg then !(aN k kvs).isSome else (aN k kvs).isSome)) H:=rfl
theorem nP {K:Frag}{H:Hp}{k:Str}:∀{kvs:List (Str × T)}{vs:List (Key × V)},RepD K H kvs vs->(eN vs (Sum.inr k:Key)).isSome=(aN k kvs).isSome
 |[],_,.nil=>rfl
 | (k',t')::r,_,.cons (b:=(kk,v')) ⟨e1,rv⟩ rr=>by
  simp only at e1 rv
  subst e1
  unfold aN
  by_cases hk:k'=k
  ·
   rw[if_pos hk,eO (by rw[hk])];rfl
  ·
   rw[if_neg hk,eQ (by intro z;exact hk (Sum.inr.inj z))]
   exact nP rr
theorem wB {neg:Bool}{H:Hp}{H3:Hp3}{x y:V}{tx ty:T}{Q3:VK3}(sh:SimH X.K H3 H) (rx:Rep X.K H tx x) (ry:Rep X.K H ty y) (q:diq neg ty tx H3 Q3) :
  ∃a ov b,x=.ref a/\DGet H a y ov/\(if neg then !ov.isSome else ov.isSome)=b/\Q3 (.bl b) H3:=by
 cases tx with
 |ref a =>
  have h':diH neg ty (H3 a) H3 Q3:=q
  cases ty with
  |str k =>
   cases e:H3 a with
   |none=>rw[e] at h';exact h'.elim
   |some ob =>
    rw[e] at h'
    cases ob with
    |dct kvs =>
     obtain⟨ws,hH,r⟩:=sh a _ e
     refine⟨a,eN ws (Sum.inr k:Key),_,rx.ref,by rw[ry.str];exact DGet.k (k:=Sum.inr k) hH,rfl,?_⟩
     rw[nP r]
     exact h'
    |_=>exact h'.elim
  |_=>exact h'.elim
 |_=>exact q.elim
theorem gF (hu:X.A.units+1<cLine) (hi:PE3 X i ti) (ho:PE3 X o td) (hm:behindInMarks .In o=false:=by rfl):PT3 X (.Compare i [.In] [o] pos) (jy (Ah false ti td)):=by
 refine PT.imp (tL (Lp hu hi ho) hm) ?_;rintro Z H Q ⟨Z3,H3,Q3,ss,sh,h,k⟩;refine⟨Z3,H3,_,ss,sh,h,fun y H1 ty H31 le1 sh1 ry q1=>⟨Z3,H31,_,ss.mono le1,sh1,q1,fun x H2 tx H32 le2 sh2 rx q2=>?_⟩⟩;obtain⟨a,ov,b,e,g,eb,q⟩:=wB sh2 rx (ry.mono le2) q2;exact⟨a,ov,e,g,b,by rw[show ov.isSome=b from eb],k _ _ _ (le1.trans le2) sh2 q⟩
theorem nQ (hu:X.A.units+1<cLine) (hi:PE3 X i ti) (ho:PE3 X o td) (hm:behindInMarks .NotIn o=false:=by rfl):PT3 X (.Compare i [.NotIn] [o] pos) (jy (Ah true ti td)):=by
 refine PT.imp (tL (nA hu hi ho) hm) ?_;rintro Z H Q ⟨Z3,H3,Q3,ss,sh,h,k⟩;refine⟨Z3,H3,_,ss,sh,h,fun y H1 ty H31 le1 sh1 ry q1=>⟨Z3,H31,_,ss.mono le1,sh1,q1,fun x H2 tx H32 le2 sh2 rx q2=>?_⟩⟩;obtain⟨a,ov,b,e,g,eb,q⟩:=wB sh2 rx (ry.mono le2) q2;exact⟨a,ov,e,g,b,by rw[show (!ov.isSome)=b from eb],k _ _ _ (le1.trans le2) sh2 q⟩
end
def yf (x:T) (H:Hp3) (R:List T->(Hp3->Prop)->Hp3->Prop):Prop:=match x with
 |.tup ts=>R ts cA H
 |.ref a=>liO (H a) a H R
 |_=>False
theorem Nb (ts:List T) {H:Hp3}{R:List T->(Hp3->Prop)->Hp3->Prop}:yf (.tup ts) H R=R ts cA H:=rfl
theorem Nf (a:Addr) {H:Hp3}{R:List T->(Hp3->Prop)->Hp3->Prop}:yf (.ref a) H R=liO (H a) a H R:=rfl
def Ai (i:Nat):TI3:=fun Z H R=>vq (Z[i]?) fun x=>yf x H R
theorem Gp (i:Nat) {Z:St3}{H:Hp3}{R:List T->(Hp3->Prop)->Hp3->Prop}:Ai i Z H R=vq (Z[i]?) fun x=>yf x H R:=rfl
theorem Gq {X:Cx}{tg:Expr}(i:Nat) {x:Str}{pos:Pos}(hN:X.N[i]?=some x:=by rfl) (hv:Vis X.env.scope x:=by first | exact Or.inl rfl | exact Or.inr (Or.inl rfl) | exact Or.inr (Or.inr rfl)) (hd:(x==("__debug__":Str))=false:=by decide)
  (hcd:(x==("__classdict__":Str))=false:=by decide):PI3 X tg (.Name x pos) (Ai i):=by
 intro pins s Z H R I q;obtain⟨Z3,H3,R3,ss,sh,h,k⟩:=q;have h':vq (Z3[i]?) fun x=>yf x H3 R3:=h;cases e:Z3[i]? with
 |none=>rw[e] at h';exact h'.elim
 |some o =>
 cases o with
 |none=>rw[e] at h';exact h'.elim
 |some t =>
 rw[e] at h';cases t with
 |tup ts=>exact bY (v3 i hN hv hd hcd) pins s Z H R I ⟨Z3,H3,R3,ss,sh,by show qK i Z3 H3 _;rw[z7,e];exact h',k⟩
 |ref a=>exact cL (v3 i hN hv hd hcd) pins s Z H R I ⟨Z3,H3,R3,ss,sh,by show qK i Z3 H3 _;rw[z7,e];exact h',k⟩
 |_=>exact h'.elim
theorem aW {α:Type}(enc:α->T) (xs:List α) {g:TG3}{tb:TS3}{D:Ends3}{still:Hp3->Prop}{Z:St3}{H:Hp3}(I:List α->St3->Hp3->Prop) (h0:I [] Z H) (hn:∀Z H,I xs Z H->still H/\D.nx Z H)
  (hs:∀A x B Z H (N:St3->Hp3->Prop),xs=A++x::B->I A Z H->(∀Z' H',I (A++[x]) Z' H'->N Z' H')->still H/\g (enc x) Z H fun Z2 H2=>tb { D with nx:=N,ct:=N,bk:=D.nx} Z2 H2):iter3 g tb D still (xs.map enc) Z H:=by
 have:∀(B A:List α) (Z:St3) (H:Hp3),xs=A++B->I A Z H->iter3 g tb D still (B.map enc) Z H:=by
  intro B;induction B with
  |nil=>intro A Z H e h;rw[WD] at e;subst e;exact hn Z H h
  |cons x B ih =>
  intro A Z H e h;exact hs A x B Z H (iter3 g tb D still (B.map enc)) e h fun Z' H' h'=>ih (A++[x]) Z' H' (by rw[e];simp) h'
 exact this xs [] Z H rfl h0
theorem fU {α:Type}(enc:α->T) (xs:List α) {g:TG3}{tt:TT3}{te:TE3}{still:Hp3->Prop}{fin:List T->Hp3->Prop}{Z:St3}{H:Hp3}(I:List α->List T->St3->Hp3->Prop) (h0:I [] [] Z H) (hn:∀ys Z H,I xs ys Z H->still H/\ys.length<=sizeLine/\fin ys H)
  (hs:∀A x B ys Z H (N:List T->St3->Hp3->Prop),xs=A++x::B->I A ys Z H->(∀ys' Z' H',I (A++[x]) ys' Z' H'->N ys' Z' H') ->
   still H/\g (enc x) Z H fun Z2 H2=>tt Z2 H2 fun b H3=>if b=true then te Z2 H3 fun y H4=>ys.length<sizeLine/\N (ys++[y]) Z2 H4 else N ys Z2 H3):cIter3 g tt te still fin (xs.map enc) [] Z H:=by
 have:∀(B A:List α) (ys:List T) (Z:St3) (H:Hp3),xs=A++B->I A ys Z H->cIter3 g tt te still fin (B.map enc) ys Z H:=by
  intro B;induction B with
  |nil=>intro A ys Z H e h;rw[WD] at e;subst e;exact hn ys Z H h
  |cons x B ih =>
  intro A ys Z H e h;exact hs A x B ys Z H (cIter3 g tt te still fin (B.map enc)) e h fun ys' Z' H' h'=>ih (A++[x]) ys' Z' H' (by rw[e];simp) h'
 exact this xs [] [] Z H rfl h0
section
variable {prog:Program}{w:World}{A:Around}{E:Value->Shared->Prop}{s:Shared}
variable {X:Cx}{e:Expr}{te:TE}{p1 p2 pos pos':Pos}
theorem Gr {it t:Addr}{i:Nat}{items:Array Value}{x:Value}{Q:Value->Shared->Prop}(hit:s.heap.IsTupleIter it t i) (ht:s.heap.IsTuple t items) (hx:items[i]?=some x)
  (hQ:∀h',h'.IsTupleIter it t (i+1)->Heap.SameBut it s.heap h'->Q x { s with heap:=h'}):wpAny (model prog w) A (Builtin.SmallTypes.nextOf (.ref it)) Q E s:=by
 obtain⟨o,ho,hc,hd⟩:=id hit;obtain⟨ol,hol,_,nl,hdl⟩:=ht;unfold Builtin.SmallTypes.nextOf;refine b_ (Xl (name:=Str.ofString "__next__") hit.typeIs Yq
  (Xp Yq hit.typeIs F.entry_tuple_iterator_next ?_ (F.args_tuple_iterator_next_1 _)))
 show wpAny _ _ (field (.ref it) 0 >>= _) _ _ s;refine b_ (W_ ho hd (x:=.ref t) rfl ?_);show wpAny _ _ (if (Value.ref t==Value.none)=true then _ else _) _ _ s;rw[if_neg (show ¬((Value.ref t==Value.none)=true) from p_)];show wpAny _ _ (field (.ref it) 1 >>= _) _ _ s;refine b_ (W_ ho hd (x:=.int i 0) rfl ?_);show wpAny _ _ (seqItems? (.ref t) >>= _) _ _ s;refine b_ (Yb hol hdl ?_);simp only[Xi,hx];refine b_ (wpAny_setField ho hd (by simp) (m_ ⟨x,rfl,m_ (hQ _ ?_ (Heap.SameBut.update ..))⟩));refine⟨_,Heap.get?_update_self _ ho (Obj.isFreed_of_fields (Obj.data_mapFields hd _)),(Obj.cls_mapFields ..).trans hc,?_⟩;rw[Obj.data_mapFields hd];simp [rawInt]
theorem Aj {it t:Addr}{i:Nat}{items:Array Value}{Q:Value->Shared->Prop}(hh:A.handled=none) (hit:s.heap.IsTupleIter it t i) (ht:s.heap.IsTuple t items) (hx:items[i]?=none)
  (hE:∀h' e,Heap.ExtBut it s.heap h'->(∃o,h'.get? e=some o/\o.cls=.type "StopIteration")->E (.ref e) { s with heap:=h'}):wpAny (model prog w) A (Builtin.SmallTypes.nextOf (.ref it)) Q E s:=by
 obtain⟨o,ho,hc,hd⟩:=id hit;obtain⟨ol,hol,_,nl,hdl⟩:=ht;unfold Builtin.SmallTypes.nextOf;refine b_ (Xl (name:=Str.ofString "__next__") hit.typeIs Yq
  (Xp Yq hit.typeIs F.entry_tuple_iterator_next ?_ (F.args_tuple_iterator_next_1 _)))
 show wpAny _ _ (field (.ref it) 0 >>= _) _ _ s;refine b_ (W_ ho hd (x:=.ref t) rfl ?_);show wpAny _ _ (if (Value.ref t==Value.none)=true then _ else _) _ _ s;rw[if_neg (show ¬((Value.ref t==Value.none)=true) from p_)];show wpAny _ _ (field (.ref it) 1 >>= _) _ _ s;refine b_ (W_ ho hd (x:=.int i 0) rfl ?_);show wpAny _ _ (seqItems? (.ref t) >>= _) _ _ s;refine b_ (Yb hol hdl ?_);simp only[Xi,hx];refine b_ (wpAny_rule (b_ (wpAny_setField ho hd (by simp) ?_)));show wpAny _ _ (newExc (.type "StopIteration") [] >>= _) _ _ _;refine b_ ?_;simp only[newExc,newTuple];refine b_ (W9 ?_ (by size_fits));refine b_ (m:=firstArgMember _ _) (wpAny_of_eq (a:=Value.none) (by first | rfl | (simp only[firstArgMember];rfl)) ?_);refine W9 ?_ (by size_fits);simp only[raiseNew];refine b_ (wpAny_handled ?_);first | rw[show A.in1.handled=none from hh] | rw[hh]
 refine b_ (m_ (wpAny_throw ?_));exact hE _ _ (((Heap.SameBut.update ..).extBut.push _).push _) ⟨_,u_ _ rfl,rfl⟩
end
theorem ut {prog:Program}{w:World}{A:Around}(hh:A.handled=none) (it t:Addr) (hne:t≠it) (items:Array Value) :
  Draws prog w A it [it,t] items.size (fun i v=>items[i]?=some v) (fun i h=>h.IsTupleIter it t i/\h.IsTuple t items) where
 live:=fun _ _ st=>let ⟨o,ho,_⟩:=st.1;⟨o,ho⟩
 frame:=fun _ _ _ st hk=>⟨st.1.at fun o e=>hk it (by simp) o e,st.2.at fun o e=>hk t (by simp) o e⟩
 item:=fun i s Q E hi st hQ=>by
  refine Gr st.1 st.2 (x:=items[i]) (by simp [hi]) fun h' hit' hs'=>?_
  exact hQ _ h' s.toks (by simp [hi]) ⟨hit',st.2.extBut hs'.extBut hne⟩ hs'
 done:=fun s Q E st hE=>Aj hh st.1 st.2 (by simp) hE
structure ZAp (z ti to i1 i2:Addr) (f1 f2:List Addr):Prop where
 ne:ti≠z/\to≠z/\ti≠to/\i1≠i2
 m1:i1∈f1
 m2:i2∈f2
 n1:z∉f1/\ti∉f1/\to∉f1/\i2∉f1
 n2:z∉f2/\ti∉f2/\to∉f2/\i1∉f2
section
variable {z ti to i1 i2:Addr}{f1 f2:List Addr}
theorem ZAp.i1z (D:ZAp z ti to i1 i2 f1 f2):i1≠z:=fun e=>D.n1.1 (e▸D.m1)
theorem ZAp.i2z (D:ZAp z ti to i1 i2 f1 f2):i2≠z:=fun e=>D.n2.1 (e▸D.m2)
theorem ZAp.i1ti (D:ZAp z ti to i1 i2 f1 f2):i1≠ti:=fun e=>D.n1.2.1 (e▸D.m1)
theorem ZAp.i2ti (D:ZAp z ti to i1 i2 f1 f2):i2≠ti:=fun e=>D.n2.2.1 (e▸D.m2)
theorem ZAp.i1to (D:ZAp z ti to i1 i2 f1 f2):i1≠to:=fun e=>D.n1.2.2.1 (e▸D.m1)
theorem ZAp.i2to (D:ZAp z ti to i1 i2 f1 f2):i2≠to:=fun e=>D.n2.2.2.1 (e▸D.m2)
variable {prog:Program}{w:World}{A:Around}{E:Value->Shared->Prop}{s:Shared}{n1 n2 k:Nat}{P1 P2:Nat->Value->Prop}{S1 S2:Nat->Heap->Prop}
theorem z_item {a b:Value}{Q:Value->Shared->Prop}(D1:Draws prog w A i1 f1 n1 P1 S1) (D2:Draws prog w A i2 f2 n2 P2 S2) (D:ZAp z ti to i1 i2 f1 f2)
  (hz:IsZip s.heap z ti to .none) (hI:IsPair s.heap ti (.ref i1) (.ref i2)) (hO:IsPair s.heap to a b) (h1:S1 k s.heap) (h2:S2 k s.heap) (k1:k<n1) (k2:k<n2)
  (hQ:∀x y h' tk,P1 k x->P2 k y->IsZip h' z ti to (rawInt s.heap.objs.size)->IsPair h' to x y->S1 (k+1) h'->S2 (k+1) h'->IsPair h' s.heap.objs.size x y->h'.objs.size=s.heap.objs.size+1 ->
   (∀c o,c∉[z,to,i1,i2]->s.heap.get? c=some o->h'.get? c=some o)->Q (.ref s.heap.objs.size) { s with heap:=h',toks:=tk}) :
  wpAny (model prog w) A (Builtin.«zip.__next__» ⟨[.ref z],[]⟩) (fun fin s'=>∃v,fin=.done (.ret v)/\Q v s') E s:=by
 show wpAny _ _ (field (.ref z) 2 >>= _) _ _ _;refine b_ (W_ hz rfl (x:=.bool false) rfl ?_);show wpAny _ _ (field (.ref z) 3 >>= _) _ _ _;refine b_ (W_ hz rfl (x:=.ref ti) rfl ?_);refine b_ (Yb hI rfl ?_);show wpAny _ _ (Builtin.SmallTypes.ownedTupleIsFree (.ref z) >>= _) _ _ _;refine b_ ?_;unfold Builtin.SmallTypes.ownedTupleIsFree;refine b_ (W_ hz rfl (x:=.none) rfl (m_ ?_));try simp only[if_true]
 refine b_ (wpAny_rule ?_);refine b_ (W_ hz rfl (x:=.ref to) rfl ?_);refine b_ (Yr hz (by simp) fun ha hza hsa=>?_);replace hza:IsZip ha z ti to .ellipsis:=hza;refine b_ ?_;simp only[List.zipIdx_cons,List.zipIdx_nil,List.forIn_cons,List.forIn_nil];refine b_ (b_ (wpAny_onRaise ?_));show wpAny _ _ (Builtin.SmallTypes.nextOf (.ref i1) >>= _) _ _ _;have fr1:∀{i:Nat} {h h':Heap} {c:Addr},S1 i h->Heap.SameBut c h h'->c∉f1->S1 i h':=fun st sb nc=>D1.frame _ _ _ st fun b hb o e=>(sb.2 b fun q=>nc (q▸hb)).trans e;have fr2:∀{i:Nat} {h h':Heap} {c:Addr},S2 i h->Heap.SameBut c h h'->c∉f2->S2 i h':=fun st sb nc=>D2.frame _ _ _ st fun b hb o e=>(sb.2 b fun q=>nc (q▸hb)).trans e;refine b_ (D1.item k _ _ _ k1 (fr1 h1 hsa D.n1.1) fun x hb tb px sb1 hsb=>m_ ?_);have hOb:IsPair hb to a b:=(hsb.2 to (Ne.symm D.i1to)).trans ((hsa.2 to D.ne.2.1).trans hO);refine b_ (Yb hOb rfl ?_);refine b_ (wpAny_updateSeq_pair hOb fun hc hOc hsc=>?_);replace hOc:IsPair hc to x b:=hOc;refine b_ (wpAny_letGo (m_ ?_));refine b_ (b_ (wpAny_onRaise ?_));show wpAny _ _ (Builtin.SmallTypes.nextOf (.ref i2) >>= _) _ _ _;have s2c:S2 k hc:=fr2 (fr2 (fr2 h2 hsa D.n2.1) hsb D.n2.2.2.2) hsc D.n2.2.2.1;refine b_ (D2.item k _ _ _ k2 s2c fun y hd td py sd2 hsd=>m_ ?_);have hOd:IsPair hd to x b:=(hsd.2 to (Ne.symm D.i2to)).trans hOc;refine b_ (Yb hOd rfl ?_);refine b_ (wpAny_updateSeq_pair hOd fun he hOe hse=>?_);replace hOe:IsPair he to x y:=hOe;refine b_ (wpAny_letGo (m_ (m_ ?_)));refine b_ (Yb hOe rfl ?_);refine b_ (wpAny_newTuple ?_);have hsz:he.objs.size=s.heap.objs.size:=by rw[hse.1,hsd.1,hsc.1,hsb.1,hsa.1]
 have hze:IsZip he z ti to .ellipsis:=(hse.2 z (Ne.symm D.ne.2.1)).trans ((hsd.2 z (Ne.symm D.i2z)).trans ((hsc.2 z (Ne.symm D.ne.2.1)).trans ((hsb.2 z (Ne.symm D.i1z)).trans hza)));have hke:∀c o,c∉[z,to,i1,i2]->s.heap.get? c=some o->he.get? c=some o:=fun c o hc e=>by simp only[n_,P_,Xk,not_or] at hc;exact (hse.2 c hc.2.1).trans ((hsd.2 c hc.2.2.2).trans ((hsc.2 c hc.2.1).trans ((hsb.2 c hc.2.2.1).trans ((hsa.2 c hc.1).trans e))))
 have s1e:S1 (k+1) he:=fr1 (fr1 (fr1 sb1 hsc D.n1.2.2.1) hsd D.n1.2.2.2) hse D.n1.2.2.1;have s2e:S2 (k+1) he:=fr2 sd2 hse D.n2.2.2.1;have hzl:z<he.objs.size:=y_ hze;show wpAny _ _ (Builtin.SmallTypes.ownedTupleHandOut (.ref z) (.ref he.objs.size) >>= _) _ _ _;refine b_ ?_;unfold Builtin.SmallTypes.ownedTupleHandOut;have hzf:IsZip (he.push { cls:=.type "tuple",data:=.seq #[x,y]}) z ti to .ellipsis:=e_ _ hze;refine b_ (Yr hzf (by simp) fun hg hzg hsg=>?_);replace hzg:IsZip hg z ti to (rawInt he.objs.size):=hzg;refine Yr hzg (by simp) fun hh hzh hsh=>?_;replace hzh:IsZip hh z ti to (rawInt he.objs.size):=hzh;have up:∀c o,c≠z->he.get? c=some o->hh.get? c=some o:=fun c o c1 e=>(hsh.2 c c1).trans ((hsg.2 c c1).trans (e_ _ e));have hTh:IsPair hh he.objs.size x y:=(hsh.2 _ (Wx hzl)).trans ((hsg.2 _ (Wx hzl)).trans (u_ _ rfl));have hzz:hh.objs.size=he.objs.size+1:=by rw[hsh.1,hsg.1,XM]
 rw[hsz] at hzh hTh hzz;refine m_ ⟨_,rfl,?_⟩;show Q (.ref he.objs.size) _;rw[hsz];exact hQ x y hh _ px py hzh (up _ _ D.ne.2.1 hOe) (D1.frame _ _ _ s1e fun b hb o e=>up b o (fun q=>D.n1.1 (q▸hb)) e) (D2.frame _ _ _ s2e fun b hb o e=>up b o (fun q=>D.n2.1 (q▸hb)) e) hTh hzz fun c o hc e=>up c o (fun q=>hc (q▸k_)) (hke c o hc e)
theorem z_end {a b:Value}{Q:Fin->Shared->Prop}(D1:Draws prog w A i1 f1 n1 P1 S1) (D2:Draws prog w A i2 f2 n2 P2 S2) (D:ZAp z ti to i1 i2 f1 f2)
  (hz:IsZip s.heap z ti to .none) (hI:IsPair s.heap ti (.ref i1) (.ref i2)) (hO:IsPair s.heap to a b) (h1:S1 k s.heap) (h2:S2 k s.heap) (hk:k=n1\/(k<n1/\k=n2))
  (hE:∀h' e tk,(∀c o,c∉[z,to,i1,i2]->s.heap.get? c=some o->h'.get? c=some o)->(∃o,h'.get? e=some o/\o.cls=.type "StopIteration")->E (.ref e) { s with heap:=h',toks:=tk}) :
  wpAny (model prog w) A (Builtin.«zip.__next__» ⟨[.ref z],[]⟩) Q E s:=by
 show wpAny _ _ (field (.ref z) 2 >>= _) _ _ _;refine b_ (W_ hz rfl (x:=.bool false) rfl ?_);show wpAny _ _ (field (.ref z) 3 >>= _) _ _ _;refine b_ (W_ hz rfl (x:=.ref ti) rfl ?_);refine b_ (Yb hI rfl ?_);show wpAny _ _ (Builtin.SmallTypes.ownedTupleIsFree (.ref z) >>= _) _ _ _;refine b_ ?_;unfold Builtin.SmallTypes.ownedTupleIsFree;refine b_ (W_ hz rfl (x:=.none) rfl (m_ ?_));try simp only[if_true]
 refine b_ (wpAny_rule ?_);refine b_ (W_ hz rfl (x:=.ref to) rfl ?_);refine b_ (Yr hz (by simp) fun ha hza hsa=>?_);replace hza:IsZip ha z ti to .ellipsis:=hza;refine b_ ?_;simp only[List.zipIdx_cons,List.zipIdx_nil,List.forIn_cons,List.forIn_nil];refine b_ (b_ (wpAny_onRaise ?_));show wpAny _ _ (Builtin.SmallTypes.nextOf (.ref i1) >>= _) _ _ _;have fr1:∀{i:Nat} {h h':Heap} {c:Addr},S1 i h->Heap.SameBut c h h'->c∉f1->S1 i h':=fun st sb nc=>D1.frame _ _ _ st fun b hb o e=>(sb.2 b fun q=>nc (q▸hb)).trans e;have fr2:∀{i:Nat} {h h':Heap} {c:Addr},S2 i h->Heap.SameBut c h h'->c∉f2->S2 i h':=fun st sb nc=>D2.frame _ _ _ st fun b hb o e=>(sb.2 b fun q=>nc (q▸hb)).trans e;rcases hk with rfl | ⟨k1,rfl⟩
 ·refine b_ (D1.done _ _ _ (fr1 h1 hsa D.n1.1) fun hb e hsb ⟨oe,hoe,hce⟩=>?_);have hzb:IsZip hb z ti to .ellipsis:=hsb z _ (Ne.symm D.i1z) hza;have hez:e≠z:=fun x=>by subst x;rw[hzb] at hoe;cases hoe;simp at hce
  refine Yr hzb (by simp) fun hc _ hsc=>hE hc e _ (fun c o nc x=>?_) ⟨oe,(hsc.2 e hez).trans hoe,hce⟩;simp only[n_,P_,Xk,not_or] at nc;exact (hsc.2 c nc.1).trans (hsb c _ nc.2.2.1 ((hsa.2 c nc.1).trans x))
 refine b_ (D1.item k _ _ _ k1 (fr1 h1 hsa D.n1.1) fun x hb tb px sb1 hsb=>m_ ?_);have hOb:IsPair hb to a b:=(hsb.2 to (Ne.symm D.i1to)).trans ((hsa.2 to D.ne.2.1).trans hO);refine b_ (Yb hOb rfl ?_);refine b_ (wpAny_updateSeq_pair hOb fun hc hOc hsc=>?_);refine b_ (wpAny_letGo (m_ ?_));refine b_ (b_ (wpAny_onRaise ?_));show wpAny _ _ (Builtin.SmallTypes.nextOf (.ref i2) >>= _) _ _ _;have s2c:S2 k hc:=fr2 (fr2 (fr2 h2 hsa D.n2.1) hsb D.n2.2.2.2) hsc D.n2.2.2.1;refine b_ (D2.done _ _ _ s2c fun hd e hsd ⟨oe,hoe,hce⟩=>?_);have hzd:IsZip hd z ti to .ellipsis:=hsd z _ (Ne.symm D.i2z) ((hsc.2 z (Ne.symm D.ne.2.1)).trans ((hsb.2 z (Ne.symm D.i1z)).trans hza));have hez:e≠z:=fun x=>by subst x;rw[hzd] at hoe;cases hoe;simp at hce
 refine Yr hzd (by simp) fun he _ hse=>hE he e _ (fun c o nc x=>?_) ⟨oe,(hse.2 e hez).trans hoe,hce⟩;simp only[n_,P_,Xk,not_or] at nc;exact (hse.2 c nc.1).trans (hsd c _ nc.2.2.2 ((hsc.2 c nc.2.1).trans ((hsb.2 c nc.2.2.1).trans ((hsa.2 c nc.1).trans x))))
theorem wC {a b:Value}{Q:Option Value->Shared->Prop}(D1:Draws prog w A.in1 i1 f1 n1 P1 S1) (D2:Draws prog w A.in1 i2 f2 n2 P2 S2) (D:ZAp z ti to i1 i2 f1 f2)
  (hz:IsZip s.heap z ti to .none) (hI:IsPair s.heap ti (.ref i1) (.ref i2)) (hO:IsPair s.heap to a b) (h1:S1 k s.heap) (h2:S2 k s.heap) (k1:k<n1) (k2:k<n2)
  (hQ:∀x y h' tk,P1 k x->P2 k y->IsZip h' z ti to (rawInt s.heap.objs.size)->IsPair h' to x y->S1 (k+1) h'->S2 (k+1) h'->IsPair h' s.heap.objs.size x y->h'.objs.size=s.heap.objs.size+1 ->
   (∀c o,c∉[z,to,i1,i2]->s.heap.get? c=some o->h'.get? c=some o)->Q (some (.ref s.heap.objs.size)) { s with heap:=h',toks:=tk}):wpAny (model prog w) A (pyNext (.ref z)) Q E s:=by
 have hT:s.TypeIs (.ref z) "zip":=⟨_,hz,rfl⟩;unfold pyNext;exact b_ (wpAny_attempt (Xl (name:=Str.ofString "__next__") hT F.slot_zip_next
  (Xp F.slot_zip_next hT F.entry_zip_next (z_item D1 D2 D hz hI hO h1 h2 k1 k2 fun x y h' tk a1 a2 a3 a4 a5 a6 a7 a8 a9=>m_ (hQ x y h' tk a1 a2 a3 a4 a5 a6 a7 a8 a9)) (F.args_zip_next_1 _))))
theorem pA {a b:Value}{Q:Option Value->Shared->Prop}(D1:Draws prog w A.in1 i1 f1 n1 P1 S1) (D2:Draws prog w A.in1 i2 f2 n2 P2 S2) (D:ZAp z ti to i1 i2 f1 f2)
  (hz:IsZip s.heap z ti to .none) (hI:IsPair s.heap ti (.ref i1) (.ref i2)) (hO:IsPair s.heap to a b) (h1:S1 k s.heap) (h2:S2 k s.heap) (hk:k=n1\/(k<n1/\k=n2))
  (hQ:∀h' tk,(∀c o,c∉[z,to,i1,i2]->s.heap.get? c=some o->h'.get? c=some o)->Q none { s with heap:=h',toks:=tk}):wpAny (model prog w) A (pyNext (.ref z)) Q E s:=by
 have hT:s.TypeIs (.ref z) "zip":=⟨_,hz,rfl⟩;unfold pyNext;refine b_ (wpAny_attempt (Xl (name:=Str.ofString "__next__") hT F.slot_zip_next
  (Xp F.slot_zip_next hT F.entry_zip_next (z_end D1 D2 D hz hI hO h1 h2 hk fun h' e tk kp ⟨o,ho,hc⟩=>?_) (F.args_zip_next_1 _))))
 refine b_ (wpAny_isInstance (T:="StopIteration") (b:=true) ⟨o,ho,hc⟩ isSubtype_stop ?_);exact m_ (hQ _ _ kp)
end
abbrev JC (t:Addr):Obj:={ cls:=.type "tuple_iterator",data:=.fields #[.ref t,.int 0 0]}
section
variable {prog:Program}{w:World}{A:Around}{E:Value->Shared->Prop}{s:Shared}
end
theorem Ak {prog:Program}{w:World}{A:Around}(hh:A.handled=none) (it t:Addr) (hne:t≠it) (items:Array Value) (k:Nat) (hk:items[k]?=none) :
  Draws prog w A it [it,t] k (fun _ _=>True) (fun i h=>i=k/\h.IsTupleIter it t i/\h.IsTuple t items) where
 live:=fun _ _ st=>let ⟨o,ho,_⟩:=st.2.1;⟨o,ho⟩
 frame:=fun _ _ _ st hk=>⟨st.1,st.2.1.at fun o e=>hk it (by simp) o e,st.2.2.at fun o e=>hk t (by simp) o e⟩
 item:=fun i s Q E hi st hQ=>absurd st.1 (C_ hi)
 done:=fun s Q E st hE=>Aj hh st.2.1 st.2.2 hk hE
section
variable {X:Cx}{pins:List (Addr × Obj)}{Z:L2.St}{H:Hp}{s:Shared}{h':Heap}
theorem fj {ch:List Addr}{t':Nat}(I:Inv X pins Z H s) (k:∀b o,b∉ch->s.heap.get? b=some o->h'.get? b=some o) (hf:∀b∈ch,jW X pins H b):Inv X pins Z H { s with heap:=h',toks:=t'}:=by
 have nit:∀b u,H b=some u->b∉ch:=fun b u e z=>by rw[(hf b z).1] at e;cases e
 refine I.step (g':=s.gens) (d':=s.drawn) (ch:=ch) (fun b hb=>?_) (fun b o _ _ hc e _=>k b o hc e) (fun b o _ _ hc e _=>⟨o.slots,k b o hc e⟩) (fun _ _ _ _ n=>n)
  (fun b o hc e=>⟨o,k b o hc e⟩) (fun _ _ e=>e) (fun _ _ _ e=>e) (fun b ps e=>⟨#[],by rw[e];simp⟩) (fun m hm=>?_) (fun b u e=>?_) I.bare
 ·obtain⟨_,f1,_,f3,f4,f5⟩:=hf b hb;exact⟨f3,f1,f4,f5⟩
 ·obtain⟨o,es,ep,ho,r⟩:=hm;exact⟨o,es,ep,k _ o (fun z=>(hf _ z).2.1 rfl) ho,r⟩
 refine (I.hok b u e).stay (fun c v hc q=>k c v ?_ q) (fun _ q=>q) fun _ _ q=>q;rcases hc with z | z
 ·rw[z];exact nit b u e
 exact nit c _ z
end
theorem nm2 {x p q:Addr}(h1:x≠p) (h2:x≠q):x∉[p,q]:=fun h=>by
 rcases n_.mp h with e | e
 ·exact h1 e
 exact h2 (q_.mp e)
theorem zap {a b z ti to i1 i2:Addr}(l1:a<i1/\b<i1) (l2:i1<i2) (l3:i2<ti) (l4:ti<to) (l5:to<z):ZAp z ti to i1 i2 [i1,a] [i2,b] :=
 have t1:i1<ti:=WF l2 l3
 have t2:i1<to:=WF t1 l4
 have t3:i1<z:=WF t2 l5
 have t4:i2<to:=WF l3 l4
 have t5:i2<z:=WF t4 l5
 have t6:ti<z:=WF l4 l5
 ⟨⟨C_ t6,C_ l5,C_ l4,C_ l2⟩,k_,k_,
  ⟨nm2 (Wx t3) (Wx (WF l1.1 t3)),nm2 (Wx t1) (Wx (WF l1.1 t1)),nm2 (Wx t2) (Wx (WF l1.1 t2)),nm2 (Wx l2) (Wx (WF l1.1 l2))⟩,
  ⟨nm2 (Wx t5) (Wx (WF l1.2 t3)),nm2 (Wx l3) (Wx (WF l1.2 t1)),nm2 (Wx t4) (Wx (WF l1.2 t2)),nm2 (C_ l2) (Wx l1.2)⟩⟩
section
variable {X:Cx}{elts:List Expr}{x1:Nat}{tpos pos p:Pos}{ea eb:Expr}
def eY:List T->List T->List T
 |x::xs,y::ys=>.tup [x,y]::eY xs ys
 |_,_=>[]
theorem lE:∀(xs ys:List T) (i:Nat),(eY xs ys)[i]?=(match xs[i]?,ys[i]? with
  |some x,some y=>some (.tup [x,y])
  |_,_=>none)
 |[],ys,i=>by simp [eY]
 |x::xs,[],i=>by
  simp only[eY,List.getElem?_nil]
  cases (x::xs)[i]? <;> rfl
 |x::xs,y::ys,0=>by simp [eY]
 |x::xs,y::ys,i+1=>by simp only[eY,Xm];exact lE xs ys i
theorem lF:∀(xs ys:List T),(eY xs ys).length=min xs.length ys.length
 |[],ys=>by simp [eY]
 |x::xs,[]=>by simp [eY]
 |x::xs,y::ys=>by simp [eY,lF xs ys]
theorem Al:bootBuiltins "zip"=some (.type "zip"):=by decide +kernel
end
theorem rm {α:Type}(e1 e2 f:α->T) (as:List α) (rest:St3) {te:TE3}{still:Hp3->Prop}{fin:List T->Hp3->Prop}{v u:Option T}{H:Hp3}(hst:still H) (hl:as.length<=sizeLine)
  (ht:∀a∈as,∀Q:VK3,Q (f a) H->te (some (e1 a)::some (e2 a)::rest) H Q) (hfin:fin (as.map f) H) :
  cIter3 (vP 2 (oZ (gM 0) (oZ (gM 1) zG))) vU te still fin (as.map fun a=>.tup [e1 a,e2 a]) [] (v::u::rest) H:=by
 refine lC (fun r ys Z H'=>∃(rs ds:List α) (v u:Option T),Z=v::u::rest/\r=rs.map (fun a=>.tup [e1 a,e2 a])/\ys=ds.map f/\ds++rs=as/\H'=H) ⟨as,[],v,u,rfl,rfl,rfl,rfl,rfl⟩ ?_ ?_
 ·rintro ys Z H' ⟨rs,ds,v,u,rfl,hrs,rfl,hsp,rfl⟩;have hrs':rs=[]:=Zc.mp hrs.symm;subst hrs';rw[WD] at hsp;subst hsp;exact⟨hst,by rw[h_];exact hl,hfin⟩
 rintro x r ys Z H' N ⟨rs,ds,v,u,rfl,hrs,rfl,hsp,rfl⟩ hN;cases rs with
 |nil=>cases hrs
 |cons t rs =>
 injection hrs with a1 a2;subst a1 a2;refine⟨hst,rfl,?_⟩;show te (some (e1 t)::some (e2 t)::rest) H' _;refine ht t (by rw[<- hsp];simp) _ ⟨?_,hN _ _ _ ⟨rs,ds++[t],_,_,rfl,rfl,by simp,by rw[<- hsp];simp,rfl⟩⟩;have:=WK List.length hsp;simp only[g_,l_] at this;rw[h_];omega
theorem nR:∀(ts:List T),eY ts ts=ts.map fun t=>.tup [t,t]
 |[]=>rfl
 |t::r=>by rw[eY,nR r];rfl
section
variable {H:Hp3}{Q:VK3}
theorem Ng (x:T):lB [x,.ty "str"] H Q=oq (isT "str" x H) fun b=>Q (.bl b) H:=by rw[q8];exact propext ⟨fun h=>h.2,fun h=>⟨by simp,h⟩⟩
theorem uv (x:Str):isT "str" (.str x) H=some true:=rfl
theorem uw (x:Int):isT "str" (.int x) H=some false:=rfl
theorem ux (x:List T):isT "str" (.tup x) H=some false:=rfl
theorem yg (x:Bool):isT "str" (.bl x) H=some false:=rfl
theorem uA  : isT "str" (.non) H=some false:=rfl
theorem Nh (x:T):lB [x,.ty "int"] H Q=oq (isT "int" x H) fun b=>Q (.bl b) H:=by rw[q8];exact propext ⟨fun h=>h.2,fun h=>⟨by simp,h⟩⟩
theorem uB (x:Str):isT "int" (.str x) H=some false:=rfl
theorem uC (x:Int):isT "int" (.int x) H=some true:=rfl
theorem uD (x:List T):isT "int" (.tup x) H=some false:=rfl
theorem yh (x:Bool):isT "int" (.bl x) H=some true:=rfl
theorem uE  : isT "int" (.non) H=some false:=rfl
theorem Gs (x:T):lB [x,.ty "bool"] H Q=oq (isT "bool" x H) fun b=>Q (.bl b) H:=by rw[q8];exact propext ⟨fun h=>h.2,fun h=>⟨by simp,h⟩⟩
theorem rA (x:Str):isT "bool" (.str x) H=some false:=rfl
theorem rB (x:Int):isT "bool" (.int x) H=some false:=rfl
theorem rC (x:List T):isT "bool" (.tup x) H=some false:=rfl
theorem uF (x:Bool):isT "bool" (.bl x) H=some true:=rfl
theorem rD  : isT "bool" (.non) H=some false:=rfl
theorem Am (x:T):lB [x,.ty "tuple"] H Q=oq (isT "tuple" x H) fun b=>Q (.bl b) H:=by rw[q8];exact propext ⟨fun h=>h.2,fun h=>⟨by simp,h⟩⟩
theorem pB (x:Str):isT "tuple" (.str x) H=some false:=rfl
theorem pC (x:Int):isT "tuple" (.int x) H=some false:=rfl
theorem pF (x:List T):isT "tuple" (.tup x) H=some true:=rfl
theorem rE (x:Bool):isT "tuple" (.bl x) H=some false:=rfl
theorem pG  : isT "tuple" (.non) H=some false:=rfl
theorem Gu (x:T):lB [x,.ty "list"] H Q=oq (isT "list" x H) fun b=>Q (.bl b) H:=by rw[q8];exact propext ⟨fun h=>h.2,fun h=>⟨by simp,h⟩⟩
theorem rF (x:Str):isT "list" (.str x) H=some false:=rfl
theorem rG (x:Int):isT "list" (.int x) H=some false:=rfl
theorem rH (x:List T):isT "list" (.tup x) H=some false:=rfl
theorem uG (x:Bool):isT "list" (.bl x) H=some false:=rfl
theorem rJ  : isT "list" (.non) H=some false:=rfl
theorem j7 {α:Type} [DecidableEq α] (a:α):decide (a=a)=true:=L_ rfl
end
open L2 PySem.Builtin PySem.Builtin.Str
section
variable {prog:Program}{w:World}{A:Around}{E:Value->Shared->Prop}{s:Shared}{x y:Str}{t u:Tok}{Q:Value->Shared->Prop}
variable {X:Cx}
variable {elts:List Expr}{x1 j:Nat}{tpos pos p cp kp:Pos}{e:Expr}
theorem pH:bootBuiltins "enumerate"=some (.type "enumerate"):=by decide +kernel
variable {tg l:Expr}
variable {te:TE}{p1 p2 pos':Pos}
variable {pins:List (Addr × Obj)}{Z:L2.St}{H:Hp}
variable {a:Expr}{ta:TE3}
def ngq (x:T) (H:Hp3) (Q:VK3):Prop:=match x with
 |.int i=>Q (.int (-i)) H
 |_=>False
def JD (ta:TE3):TE3:=fun Z H Q=>ta Z H fun x H1=>ngq x H1 Q
theorem Tj (ta:TE3) {Z:St3}{H:Hp3}{Q:VK3}:JD ta Z H Q=ta Z H fun x H1=>ngq x H1 Q:=rfl
theorem Tn (i:Int) {H:Hp3}{Q:VK3}:ngq (.int i) H Q=Q (.int (-i)) H:=rfl
theorem uH (ha:PE3 X a ta):PE3 X (.UnaryOp .USub a pos) (JD ta):=by
 refine PE.imp (QJ K9 ha) ?_;rintro Z H Q ⟨Z3,H3,Q3,ss,sh,h,k⟩;refine⟨Z3,H3,_,ss,sh,h,fun v H' t H3' le sh' r q=>?_⟩;cases t with
 |int i=>exact⟨i,r.int,k _ _ _ _ le sh' .ofInt q⟩
 |_=>exact q.elim
def Ni:List T->Hp3->VK3->Prop:=fun ts H Q=>match ts with
 |[.str x]=>x.length<=640/\oq (intText? x) fun n=>Q (.int n) H
 |_=>False
theorem Nj (x:Str) {H:Hp3}{Q:VK3}:Ni [.str x] H Q=(x.length<=640/\oq (intText? x) fun n=>Q (.int n) H):=rfl
def fC (k:Int):List T->List T
 |[]=>[]
 |x::r=>.tup [.int k,x]::fC (k+1) r
theorem nT:∀(k:Int) (xs:List T) (i:Nat),(fC k xs)[i]?=xs[i]?.map fun x=>.tup [.int (k+i),x]
 |_,[],i=>by simp [fC]
 |k,x::xs,0=>by simp [fC]
 |k,x::xs,i+1=>by
  simp only[fC,Xm]
  rw[nT (k+1) xs i]
  have:k+1+(i:Int)=k+((i+1:Nat):Int):=by omega
  rw[this]
theorem nU:∀(k:Int) (xs:List T),(fC k xs).length=xs.length
 |_,[]=>rfl
 |k,x::xs=>by simp [fC,nU (k+1) xs]
def Nk (o:Option O3) (a:Addr) (H:Hp3) (R:List T->(Hp3->Prop)->Hp3->Prop):Prop:=match o with
 |some (.lst ts)=>R (fC 0 ts) (aX a ts) H
 |_=>False
def Nm (x:T) (H:Hp3) (R:List T->(Hp3->Prop)->Hp3->Prop):Prop:=match x with
 |.ref a=>Nk (H a) a H R
 |_=>False
def Gv (te:TE3):TI3:=fun Z H R=>te Z H fun x H1=>Nm x H1 R
theorem An (te:TE3) {Z:St3}{H:Hp3}{R:List T->(Hp3->Prop)->Hp3->Prop}:Gv te Z H R=te Z H fun x H1=>Nm x H1 R:=rfl
theorem Np (a:Addr) {H:Hp3}{R:List T->(Hp3->Prop)->Hp3->Prop}:Nm (.ref a) H R=Nk (H a) a H R:=rfl
theorem Nq (ts:List T) (a:Addr) {H:Hp3}{R:List T->(Hp3->Prop)->Hp3->Prop}:Nk (some (.lst ts)) a H R=R (fC 0 ts) (aX a ts) H:=rfl
end
theorem rK (l:Addr) (items:Array Value) (n:Nat) (dct:Option Addr) (sl:Array (Option Value)) :
  Meets (Builtin.«enumerate.__new__» ⟨[.type "enumerate",.ref l],[]⟩) (fun _ R s=>s.heap.get? l=some { cls:=.type "tuple",dict:=dct,data:=.seq items n,slots:=sl} /\
   R (.ok (.ret (.ref (s.heap.push { cls:=.type "tuple_iterator",data:=.fields #[.ref l,.int 0 0]}).objs.size)))
    { s with heap:=(s.heap.push { cls:=.type "tuple_iterator",data:=.fields #[.ref l,.int 0 0]}).push { cls:=.type "enumerate",data:=.fields #[.none,.bool false,.ref s.heap.objs.size,rawInt 0,.none,.none]}}) :=
 .of_wp fun prog w A R s h=>by
  obtain⟨hp,g,d,tk,os⟩:=s;obtain⟨hl,h⟩:=h;have hsub:=sub_enumerate;have hL:Heap.IsTuple (Shared.heap ⟨hp,g,d,tk,os⟩) l items:=⟨_,hl,rfl,n,rfl⟩
  wp_walk using O_ hl
  refine wpAny_stack_any fun st=>m_ ?_;split
  ·rename_i c _ _ _ _ _;cases (c==Value.type "enumerate")
   ·wp_walk using O_ hl,YQ hL
    exact⟨_,rfl,h⟩
   wp_walk using O_ hl,YQ hL
   exact⟨_,rfl,h⟩
  wp_walk using O_ hl,YQ hL
  exact⟨_,rfl,h⟩
theorem iV {prog:Program}{w:World}{A:Around}{E:Value->Shared->Prop}{s:Shared}{l:Addr}{items:Array Value}{Q:Value->Shared->Prop}(hL:s.heap.IsTuple l items)
  (h:∀h',IsEnum h' (s.heap.objs.size+1) s.heap.objs.size 0 .none->h'.IsTupleIter s.heap.objs.size l 0->h'.objs.size=s.heap.objs.size+2 ->
   (∀b o,s.heap.get? b=some o->h'.get? b=some o)->Q (.ref (s.heap.objs.size+1)) { s with heap:=h'}) :
  wpAny (model prog w) A (call (.type "enumerate") [.ref l]) Q E s:=by
 obtain⟨⟨c,dct,dt,sl⟩,hl,hc,n,hd⟩:=hL;replace hc:c=.type "tuple":=hc;replace hd:dt=.seq items n:=hd;subst hc hd;refine callType_new F.called_enumerate (by decide) (F.typeCall_enumerate_1 _) (F.newCall_enumerate_1 _) (fun obj=>F.args_object_init_2 obj _) F.entry_enumerate_new
  (rK l items n dct sl) ⟨hl,?_⟩
 have hz:(s.heap.push { cls:=.type "tuple_iterator",data:=.fields #[.ref l,.int 0 0]}).objs.size=s.heap.objs.size+1:=XM ..;show _/\_;rw[hz];have he:IsEnum ((s.heap.push { cls:=.type "tuple_iterator",data:=.fields #[.ref l,.int 0 0]}).push
   { cls:=.type "enumerate",data:=.fields #[.none,.bool false,.ref s.heap.objs.size,rawInt 0,.none,.none]}) (s.heap.objs.size+1) s.heap.objs.size 0 .none:=by
  have:=u_ (s.heap.push { cls:=.type "tuple_iterator",data:=.fields #[.ref l,.int 0 0]})
   (o:={ cls:=.type "enumerate",data:=.fields #[.none,.bool false,.ref s.heap.objs.size,rawInt 0,.none,.none]}) rfl
  rw[hz] at this;exact this
 refine⟨⟨_,he,rfl⟩,h _ he ⟨_,e_ _ (u_ _ rfl),rfl,rfl⟩ (by rw[XM,hz]) fun b o x=>e_ _ (e_ _ x)⟩
def Nr (K:Frag) (a:Addr):It :=
 ⟨fun i H=>∃xs x,SqT K H a xs/\xs[i]?=some x,
  fun i H v H'=>∃p x,v=.ref p/\H p=none/\H'=upd H p (.tup [.int (i:Int),x])/\∀xs,SqT K H a xs->xs[i]?=some x,
  fun i H=>∃xs,SqT K H a xs/\xs.length<=i⟩
theorem uI {P:Program}{w:World}{K:Frag}{elts:List Expr}{x1:Nat}{pos:Pos}(a it e:Addr) (l1:a<it) (l2:it<e) :
  Turn P w K (.Tuple elts x1 pos) (Nr K a) [e,it] e (fun i h=>(∃old,IsEnum h e it (i:Int) old)/\h.IsTupleIter it a i) where
 mem:=k_
 obj:=fun i h st c hc=>by
  obtain⟨⟨old,he⟩,⟨o1,e1,_,d1⟩⟩:=st
  simp only[n_,P_,Xk] at hc
  rcases hc with rfl | rfl
  ·
   exact⟨_,he,fun v z=>by cases z⟩
  ·
   exact⟨_,e1,fun v z=>by rw[d1] at z;cases z⟩
 keep:=fun i h h' st k=>by
  obtain⟨⟨old,he⟩,h1⟩:=st
  exact⟨⟨old,k e (by simp) _ he⟩,h1.at fun o q=>k it (by simp) o q⟩
 item:=by
  intro X hP hw hK hc i pins s Z H E I hf st hg
  subst hP hw hK
  obtain⟨xs,x,hq,hx⟩:=hg
  obtain⟨its,rv,p,hz⟩:=I.tuple hq
  obtain⟨u,hu,ru⟩:=rv.get hx
  obtain⟨⟨old,he⟩,h1⟩:=st
  have hu':its.toArray[i]?=some u:=by simpa using hu
  have hai:a≠it:=C_ l1
  have hei:e≠it:=Wx l2
  have hea:e≠a:=Wx (WF l1 l2)
  have hef:e∉[it,a]:=by simp [hei,hea]
  have D:=ut (prog:=X.prog) (w:=X.w) (A:=X.A.in1) (I.ok.hd hc) it a hai its.toArray
  refine wpAny_pyNext_enum_itemD (i:=i) D he ⟨h1,p⟩ (XR.mp hu').1 hei hef fun x' h' tk px ho hs' hT hsz kp=>?_
  have e1:x'=u:=K_ (px.symm.trans hu')
  subst e1
  obtain⟨hs1,hs2⟩:=hs'
  refine⟨_,rfl,wpAny_letOwnedTupleGo_enum ho fun h2' hz2' sb=>?_⟩
  have kp2:∀c o,c∉[e,it]->s.heap.get? c=some o->h2'.get? c=some o:=fun c o nc q=>(sb.2 c fun z=>nc (z▸k_)).trans (kp c o (fun z=>nc (z▸k_)) (fun z=>nc (by simp [z])) q)
  have lt:∀{c o},s.heap.get? c=some o->s.heap.objs.size≠c:=fun q=>Wx (y_ q)
  have lt1:∀{c:Addr},c∈[e,it]->c≠s.heap.objs.size:=fun {c} hc=>by
   simp only[n_,P_,Xk] at hc
   rcases hc with q | q <;> subst q
   ·
    exact Ne.symm (lt he)
   ·
    obtain⟨o,q,_⟩:=h1;exact Ne.symm (lt q)
  have hTe:s.heap.objs.size≠e:=lt he
  have I1:Inv X pins Z (upd H s.heap.objs.size (.tup [.int (i:Int),x])) { s with heap:=s.heap.push { cls:=.type "tuple",data:=.seq #[.int (i:Int) tk,x']},toks:=tk+1} :=
   I.laid (t':=tk+1) (fun b o q=>e_ _ q) (j_ _) (show ObjOk X.prog X.w _ _ _ (.tup [.int (i:Int),x]) from ⟨by show 2<=sizeLine;decide,[.int (i:Int) tk,x'],.cons ⟨tk,rfl⟩ (.cons ru .nil),Tup0.new _ _⟩)
  have I2:Inv X pins Z (upd H s.heap.objs.size (.tup [.int (i:Int),x])) { s with heap:=h2',toks:=tk+1}:=fj (s:={ s with heap:=s.heap.push { cls:=.type "tuple",data:=.seq #[.int (i:Int) tk,x']},toks:=tk+1}) (ch:=[e,it]) (t':=tk+1) I1 (fun c o nc q=>by
   by_cases z:c=s.heap.objs.size
   ·
    subst z
    have q':(s.heap.push { cls:=.type "tuple",data:=.seq #[.int (i:Int) tk,x']}).get? s.heap.objs.size=some o:=q
    rw[u_ _ rfl] at q'
    cases q'
    exact (sb.2 _ hTe).trans hT
   ·
    have q':(s.heap.push { cls:=.type "tuple",data:=.seq #[.int (i:Int) tk,x']}).get? c=some o:=q
    rw[Zo _ _ _ z] at q'
    exact kp2 c o nc q') fun c hc=>⟨by rw[aO (lt1 hc)];exact (hf c hc).1,(hf c hc).2⟩
  refine⟨.ref s.heap.objs.size,_,I2,rfl,⟨s.heap.objs.size,x,rfl,I.hok.fresh (j_ _),rfl,fun zs hq'=>by rw[I.tuple_inj hq' hq];exact hx⟩,⟨⟨x',?_⟩,hs1.at fun o q=>(sb.2 it (Ne.symm hei)).trans q⟩,fun c hc=>by rw[aO (lt1 hc)];exact (hf c hc).1⟩
  exact hz2'
 done:=by
  intro X hP hw hK hc i pins s Z H E I hf st hg
  subst hP hw hK
  obtain⟨xs,hq,hx⟩:=hg
  obtain⟨its,rv,p,hz⟩:=I.tuple hq
  obtain⟨⟨old,he⟩,h1⟩:=st
  have hl:=rv.length
  have hai:a≠it:=C_ l1
  have D:=Ak (prog:=X.prog) (w:=X.w) (A:=X.A.in1) (I.ok.hd hc) it a hai its.toArray i (by simp;omega)
  exact wpAny_pyNext_enum_endD D he ⟨rfl,h1,p⟩ fun h' eb=>⟨rfl,fj (ch:=[e,it]) (t':=s.toks) I (fun b o nb q=>eb b o (fun z=>nb (by simp [z])) q) hf⟩
 self:=fun _ _ _ _ _ st h=>wpAny_pyIter_enum st.1.choose_spec h
section
variable {X:Cx}{elts:List Expr}{x1:Nat}{tpos pos p:Pos}{e:Expr}
def Nt (K:Frag) (te:TE):TI:=fun Z H R=>te Z H fun x H1=>∃a,x=.ref a/\(∃xs,SqT K H1 a xs)/\R (Nr K a) H1
theorem Ao {te:TE}(hg:Gl X "enumerate") (hm:X.mg "enumerate"=none) (he:PE X e te)
  (hs:starEach [e] X.env=(false,eval e X.env)::starEach [] X.env:=by rfl) (hpl:(backTo pos (starEach [] X.env)).any (·.1)=false:=by rfl) :
  PI X (.Tuple elts x1 tpos) (.Call (.Name "enumerate" p) [e] [] pos) (Nt X.K te):=by
 intro pins s Z H R I h;refine Xz (d9 I hg hm pH ?_ (by decide) (by decide));refine WP ?_ hs hpl;rw[hs];show wpAny _ _ (spliced ((false,eval e X.env)::backTo pos (starEach [] X.env))) _ _ s;refine X5 (thn (he pins s Z H _ I h) fun u s2 ⟨x,H2,I2,r1,a,ea,⟨xs,hl⟩,q⟩=>?_);subst ea;cases r1;refine Yz ?_;obtain⟨its,rv,ho,_⟩:=I2.tuple hl;have la:a<s2.heap.objs.size:=let ⟨o,e,_⟩:=ho;y_ e;refine iV ho fun h' hE hL l1 kp=>wpAny_pyIter_enum hE ?_;refine⟨s2.heap.objs.size+1,[s2.heap.objs.size+1,s2.heap.objs.size],_,_,H2,rfl,I2.kept (t':=s2.toks) kp,uI a s2.heap.objs.size (s2.heap.objs.size+1) la (Xc _),⟨⟨.none,hE⟩,hL⟩,fun c hc=>?_,q⟩;have hc':s2.heap.objs.size<=c:=by
  simp only[n_,P_,Xk] at hc;rcases hc with z | z <;> subst z
  ·exact Zm _
  exact j_ _
 exact I2.fpOk hc' (I2.hok.fresh hc')
def Nu (x:T) (H:Hp3) (R:List T->(Hp3->Prop)->Hp3->Prop):Prop:=match x with
 |.tup ts=>R (fC 0 ts) cA H
 |_=>False
def wD (te:TE3):TI3:=fun Z H R=>te Z H fun x H1=>Nu x H1 R
theorem Aq (te:TE3) {Z:St3}{H:Hp3}{R:List T->(Hp3->Prop)->Hp3->Prop}:wD te Z H R=te Z H fun x H1=>Nu x H1 R:=rfl
theorem Nv (ts:List T) {H:Hp3}{R:List T->(Hp3->Prop)->Hp3->Prop}:Nu (.tup ts) H R=R (fC 0 ts) cA H:=rfl
theorem uJ {K:Frag}{H:Hp}{a:Addr}{ts:List T}{xs:List V}(sq:SqT K H a xs) (rs:Reps K H ts xs):iD K (Nr K a) (fC 0 ts) cA H:=fun H' H3' le sh st=>by
 have hl:=rs.length;have sq':=le _ _ sq;refine⟨fun i hi=>⟨xs,sq',by rw[nU] at hi;omega⟩,fun i t e=>?_⟩;rw[nT] at e;cases q:ts[i]? with
 |none=>rw[q] at e;cases e
 |some x =>
 rw[q] at e;cases e;obtain⟨v,ev,rv⟩:=rs.get q;refine⟨⟨xs,v,sq',ev⟩,fun z H'' y=>?_⟩;obtain⟨p,x',rfl,hp,rfl,q1⟩:=y;have:=(q1 xs sq').symm.trans ev;cases this;refine⟨aJ hp,sh.new hp,?_⟩;rw[show (0:Int)+(i:Int)=(i:Int) from by omega];exact SimH.newTup (H3:=H3') hp (.cons .ofInt (.cons (rv.mono le) .nil))
theorem Ar {te:TE3}(hg:Gl X "enumerate") (hm:X.mg "enumerate"=none) (he:PE3 X e te) (hs:starEach [e] X.env=(false,eval e X.env)::starEach [] X.env:=by rfl) (hpl:(backTo pos (starEach [] X.env)).any (·.1)=false:=by rfl) :
  PI3 X (.Tuple elts x1 tpos) (.Call (.Name "enumerate" p) [e] [] pos) (wD te):=by
 refine PI.imp (Ao hg hm he hs hpl) ?_;rintro Z H R ⟨Z3,H3,R3,ss,sh,h,k⟩;refine⟨Z3,H3,_,ss,sh,h,fun v H' t H3' le sh' r q=>?_⟩;cases t with
 |tup ts=>obtain⟨a,xs,rfl,sq,rs⟩:=r.tup;exact⟨a,rfl,⟨xs,sq⟩,k _ _ cA H' H3' le sh' (uJ sq rs) q⟩
 |_=>exact q.elim
def anH (o:Option O3) (H:Hp3) (Q:VK3):Prop:=match o with
 |some (.lst xs)=>oq (cg xs) fun bs=>Q (.bl (bs.any id)) H
 |some (.rol xs)=>oq (cg xs) fun bs=>Q (.bl (bs.any id)) H
 |_=>False
def JF:List T->Hp3->VK3->Prop:=fun ts H Q=>match ts with
 |[.ref a]=>anH (H a) H Q
 |_=>False
theorem Tp (a:Addr) {H:Hp3}{Q:VK3}:JF [.ref a] H Q=anH (H a) H Q:=rfl
theorem Tq (xs:List T) {H:Hp3}{Q:VK3}:anH (some (.lst xs)) H Q=oq (cg xs) fun bs=>Q (.bl (bs.any id)) H:=rfl
theorem any_range (bs:List Bool):(List.range bs.length).any (fun i=>bs.getD i true)=bs.any id:=by
 rw[Wz,XC,XC];constructor
 ·rintro⟨i,hi,h⟩;have hi':=Wu.mp hi;refine⟨bs[i],W4 hi',?_⟩;simpa [List.getD,hi'] using h
 rintro⟨b,hb,h⟩;obtain⟨i,hi,rfl⟩:=List.mem_iff_getElem.mp hb;refine⟨i,Wu.mpr hi,?_⟩;simpa [List.getD,hi] using h
theorem Nx (hc:X.calm=true):cZ X (.builtin "any") JF:=by
 intro pins s Z H xs us Q I rv h;obtain⟨ts,H3,Q3,r,sh,h,k⟩:=h
 match ts,h,r with
 |[.ref a],h,r =>
 obtain⟨v,rfl,rv'⟩:=r.one';obtain⟨u,rfl,ru⟩:=vals1 rv;rw[rv'.ref] at ru;cases ru;have main:∀{ls:List T} {ys:List V},SqL X.K H a ys->Reps X.K H ls ys->oq (cg ls) (fun bs=>Q3 (.bl (bs.any id)) H3)->wpAny (model X.prog X.w) X.A (call (.builtin "any") [.ref a]) (EP X pins Z Q) X.xe s:=by
  intro ls ys sq rs q;cases e:cg ls with
  |none=>rw[e] at q;exact q.elim
  |some bs =>
  rw[e] at q;obtain⟨its,rvs,hl,_⟩:=I.list sq;have hi:=jO e rs rvs;subst hi;have hlI:a≠s.heap.objs.size:=fun z=>by obtain⟨o,n,eo,_⟩:=hl;have:=y_ eo;rw[z] at this;exact WQ _ this
  refine call_any_walk (wpAny_pyIter_list hl.isList ?_);refine⟨s.heap.objs.size,_,_,_,_,_,fun i=>bs.getD i true,rfl,Walks.list (A:=X.A.in1) (I.ok.hd hc) s.heap.objs.size a hlI (bs.map Value.bool).toArray,⟨⟨_,u_ _ rfl,rfl,rfl⟩,hl.isList.push _⟩,fun i v s' Q' E' hv hq=>?_,fun h' tk hk=>?_⟩
  ·have hv':(bs.map Value.bool)[i]?=some v:=by simpa using hv
   rw[o_] at hv';cases eb:bs[i]? with
   |none=>rw[eb] at hv';cases hv'
   |some b =>
   rw[eb] at hv';cases hv';have:bs.getD i true=b:=by simp [List.getD,eb]
   dsimp only at hq;rw[this] at hq;exact Yy hq
  have hn:(bs.map Value.bool).toArray.size=bs.length:=by simp
  rw[hn,any_range];refine⟨.bl (bs.any id),H,I.kept fun b o e=>hk b o (fun z=>?_) (e_ _ e),rfl,k _ _ _ _ .refl sh .ofBl q⟩;have:=y_ e;rw[q_.mp z] at this;exact WQ _ this
 have h':anH (H3 a) H3 Q3:=h;cases eo:H3 a with
 |none=>rw[eo] at h';exact h'.elim
 |some o =>
 rw[eo] at h';cases o with
 |lst ls=>obtain⟨ys,sq,rs⟩:=sh.sqL (.inl eo);exact main sq rs h'
 |rol ls=>obtain⟨ys,sq,rs⟩:=sh.sqL (.inr eo);exact main sq rs h'
 |_=>exact h'.elim
def Av:List T->Hp3->VK3->Prop:=fun ts H Q=>match ts with
 |[.int i,.int j]=>Q (.int (if j>i then j else i)) H
 |_=>False
def Aw:List T->Hp3->VK3->Prop:=fun ts H Q=>match ts with
 |[.int i,.int j]=>Q (.int (if j<i then j else i)) H
 |_=>False
theorem Ny (i j:Int) {H:Hp3}{Q:VK3}:Av [.int i,.int j] H Q=Q (.int (if j>i then j else i)) H:=rfl
theorem Nz (i j:Int) {H:Hp3}{Q:VK3}:Aw [.int i,.int j] H Q=Q (.int (if j<i then j else i)) H:=rfl
theorem Gw (hc:X.calm=true):cZ X (.builtin "max") Av:=by
 intro pins s Z H xs us Q I rv h;obtain⟨ts,H3,Q3,r,sh,h,k⟩:=h
 match ts,h,r with
 |[.int i,.int j],h,r =>
 obtain⟨v,v2,rfl,r1,r2⟩:=r.two';obtain⟨u1,u2,rfl,q1,q2⟩:=vals2 rv;rw[r1.int] at q1;rw[r2.int] at q2;obtain⟨t1,rfl⟩:=q1;obtain⟨t2,rfl⟩:=q2;refine max_two_ints (I.ok.hd hc) fun h' tk hk=>?_;refine⟨.int (if j>i then j else i),H,I.kept hk,?_,k _ _ _ _ .refl sh .ofInt h⟩;by_cases z:j>i
 ·rw[if_pos z,if_pos z];exact⟨_,rfl⟩
 rw[if_neg z,if_neg z];exact⟨_,rfl⟩
theorem Gx (hc:X.calm=true):cZ X (.builtin "min") Aw:=by
 intro pins s Z H xs us Q I rv h;obtain⟨ts,H3,Q3,r,sh,h,k⟩:=h
 match ts,h,r with
 |[.int i,.int j],h,r =>
 obtain⟨v,v2,rfl,r1,r2⟩:=r.two';obtain⟨u1,u2,rfl,q1,q2⟩:=vals2 rv;rw[r1.int] at q1;rw[r2.int] at q2;obtain⟨t1,rfl⟩:=q1;obtain⟨t2,rfl⟩:=q2;refine min_two_ints (I.ok.hd hc) fun h' tk hk=>?_;refine⟨.int (if j<i then j else i),H,I.kept hk,?_,k _ _ _ _ .refl sh .ofInt h⟩;by_cases z:j<i
 ·rw[if_pos z,if_pos z];exact⟨_,rfl⟩
 rw[if_neg z,if_neg z];exact⟨_,rfl⟩
theorem Ax:eU X (binaryOp .BitAnd) (qQ fun i j=>.int (Builtin.bitAnd i j)):=nJ K8 fun _ _ _=>.ofInt
theorem Tr:eU X (binaryOp .BitOr) (qQ fun i j=>.int (Builtin.bitOr i j)):=nJ QL fun _ _ _=>.ofInt
theorem lG:bootBuiltins "max"=some (.builtin "max"):=by decide +kernel
theorem NB:bootBuiltins "min"=some (.builtin "min"):=by decide +kernel
end
theorem bj {N P:List Str}{sc:Scope}(a:sc.kind=.function:=by rfl) (b:sc.isCoroutine=false:=by rfl) (c:sc.isGenerator=false:=by rfl) (d:N.Nodup:=by decide +kernel) (e:N.take P.length=P:=by rfl)
 (f:∀x∈P,sc.names.lookup x=some .local\/sc.names.lookup x=some .cell:=by decide +kernel) (g:∀y∈sc.names,y.2≠.free:=by decide +kernel):FnScope N P sc:=⟨a,b,c,d,e,f,g⟩
theorem jA {p:Prop} [Decidable p] (h:¬p):¬(decide p=true) := fun e=>h (XN e)
theorem upa {H:Hp3}{a q:Addr}{o u:O3}(h:H a=some u) (hq:H q=none):up3 H q o a=some u := by rw[aD (bw h hq)];exact h
structure Cal (P:Program) (w:World) (K:Frag) (mg:Str->Option Value) (base:Heap) (k:Nat) (x:Str) (st:Stmt) (ps:List Str) (sp:Sp3):Prop where
 ex:∃(f:Addr) (fd:FuncData),G3 K mg x st ps f fd/\FnOk3 P w K mg base k f fd ps sp
theorem Ay {X:Cx}{k:Nat}{ps:List Str}{sp:Sp3}{st:Stmt}{x:Str}{p pos:Pos}{e:Expr}{es:List Expr}{t:TA3}(D:Cal X.prog X.w X.K X.mg X.base k x st ps sp) (hr:Room k X.A) (hg:Gl X x)
  (ha:PA3 X (e::es) t) (hdb:(x==("__debug__":Str))=false:=by decide) (he:starEach (e::es) X.env=(false,eval e X.env)::starEach es X.env:=by rfl) (hpl:(backTo pos (starEach es X.env)).any (·.1)=false:=by rfl) :
  PE3 X (.Call (.Name x p) (e::es) [] pos) (o5 sp t):=by
 obtain⟨f,fd,g,F⟩:=D.ex;exact FP F hr hg g.m g.fn.kp g.b ha hdb he hpl
theorem aQ {X:Cx}{k j:Nat}{ps:List Str}{sp:Sp3}{st:Stmt}{x:Str}{p pos:Pos}{e:Expr}{es:List Expr}{t:TA3}(D:Cal X.prog X.w X.K X.mg X.base k x st ps sp) (hr:Room j X.A) (hg:Gl X x) (ha:PA3 X (e::es) t) (hk:k<=j:=by decide) (hdb:(x==("__debug__":Str))=false:=by decide) (he:starEach (e::es) X.env=(false,eval e X.env)::starEach es X.env:=by rfl) (hpl:(backTo pos (starEach es X.env)).any (·.1)=false:=by rfl):PE3 X (.Call (.Name x p) (e::es) [] pos) (o5 sp t):=Ay D (hr.mono hk) hg ha hdb he hpl
section
variable {X:Cx}{pins:List (Addr × Obj)}{Z:L2.St}{H:Hp}{s:Shared}
theorem NK {c:Nat}:∀{xs:List Nat},(∀x∈xs,x<=c)->xs.sum<=xs.length*c
 |[],_=>by simp
 |x::xs,h=>by
  have a:=h x k_
  have b:=NK (xs:=xs) fun y hy=>h y (t_ _ hy)
  simp only[XH,l_,Nat.succ_mul]
  omega
def rpH (o:Option O3) (k:Int) (H:Hp3) (Q:VK3):Prop:=match o with
 |some (.lst xs)=>(-(2^63)<=k/\k<2^63/\xs.length*k.toNat<=sizeLine)/\∀p,H p=none->Q (.ref p) (up3 H p (.lst (List.replicate k.toNat xs).flatten))
 |_=>False
def JG:R3:=fun x y H Q=>match x,y with
 |.ref a,.int k=>rpH (H a) k H Q
 |_,_=>False
theorem JH (a:Addr) (k:Int) (H:Hp3) (Q:VK3):JG (.ref a) (.int k) H Q=rpH (H a) k H Q:=rfl
theorem JK (xs:List T) (k:Int) (H:Hp3) (Q:VK3):rpH (some (.lst xs)) k H Q=((-(2^63)<=k/\k<2^63/\xs.length*k.toNat<=sizeLine)/\∀p,H p=none->Q (.ref p) (up3 H p (.lst (List.replicate k.toNat xs).flatten))):=rfl
theorem Reps.rep {K:Frag}{H:Hp}{ts:List T}{vs:List V}(r:Reps K H ts vs):∀k:Nat,Reps K H (List.replicate k ts).flatten (List.replicate k vs).flatten
 |0=>.nil
 |k+1=>by rw[W7,W7,Xj,Xj];exact r.append (Reps.rep r k)
theorem uK:eU X (binaryOp .Mult) JG:=by
 refine OpR.imp Ln ?_;rintro x y H Q ⟨tx,ty,H3,Q3,rx,ry,sh,h,k⟩;cases tx with
 |ref a =>
  cases ty with
  |int n =>
   rw[JH] at h;cases e:H3 a with
   |none=>rw[e] at h;exact h.elim
   |some o =>
   rw[e] at h;cases o with
   |lst xs=>rw[JK] at h;obtain⟨vs,g1,r1⟩:=sh a _ e;obtain⟨⟨h1,h2,h3⟩,h'⟩:=h;refine⟨a,n,vs,rx.ref,ry.int,g1,h1,h2,by rw[<- r1.length];exact h3,fun p hp=>?_⟩;exact k _ _ _ _ (aJ hp) (sh.newLst hp (r1.rep n.toNat)) .ofRef (h' p (sh.fresh hp))
   |_=>exact h.elim
  |_=>exact h.elim
 |_=>exact h.elim
end
theorem lr_hint:Slot "list_reverseiterator" "__length_hint__" "list_reverseiterator.__length_hint__":=.of (owner:="list_reverseiterator") (n:="__length_hint__") (by rw[typeLookup_type,builtinLookup_eq_fast];kernel_rfl) (by decide +kernel) (by decide +kernel) (by decide +kernel)
 (by first | exact .inr (by decide +kernel) | exact .inl (by decide +kernel)) (by rw[isSubtype_type];kernel_rfl)
theorem Az:typeLookup (.type "list_reverseiterator") "__len__"=pure none:=by rw[typeLookup_type,builtinLookup_eq_fast];kernel_rfl
theorem NP:isSubtype (.type "list_reverseiterator") (.type "list_reverseiterator")=pure true:=by rw[isSubtype_type];kernel_rfl
theorem Ba {items acc:Array Value}(h:ItemsOf (fun i v=>items[items.size - 1 - i]?=some v) acc items.size):acc=items.reverse:=by
 refine Array.ext (by rw[h.1];simp) fun j h1 h2=>?_;have q:items[items.size - 1 - j]?=some acc[j]:=h.2 j acc[j] (Yu h1);have hj:j<items.size:=by rw[<- h.1];exact h1
 rw[Yu (by omega)] at q;rw[Array.getElem_reverse];exact (K_ q).symm
section
variable {prog:Program}{w:World}{A:Around}{E:Value->Shared->Prop}{s:Shared}
theorem yj {R:Result->Shared->Prop}{I l S:Addr}{items:Array Value}{res:Value}{c₀:Nat}(hh:A.handled=none) (hne:l≠I) (hsz:items.size<=sizeLine) (hSf:S∉[I,l]) (hit:s.heap.IsRevIter I l ((items.size:Int) - 1)) (hl:s.heap.IsList l items)
  (hS:s.heap.get? S=some { cls:=.type "list",data:=.seq #[] c₀})
  (hR:∀s' acc' c',Moved (S::[I]) (fun a b=>b=a) s s'->s'.heap.get? S=some { cls:=.type "list",dict:=none,data:=.seq acc' c',slots:=#[]}->ItemsOf (fun i v=>items[items.size - 1 - i]?=some v) acc' items.size->R (.ok (.ret res)) s') :
  wpAny (model prog w) A.in1 (Builtin.List.listExtendWith (.ref S) (.ref I) res)
   (fun fin s'=>match fin with | .done f=>R (.ok f) s' | .again c'=>c'.quiet=true/\codeAny (model prog w) A c' R s') (fun e s'=>R (.error e) s') s:=by
 have W:=(Walks.listRev (prog:=prog) (w:=w) (A:=A.in1) hh I l hne items).toS;have hSI:S≠I:=fun e=>hSf (e▸k_);have st:(fun (i:Nat) (s:Shared)=>i<=items.size/\s.heap.IsRevIter I l ((items.size:Int) - 1 - (i:Int))/\s.heap.IsList l items) 0 s:=⟨WR _,by simpa using hit,hl⟩;have hty:s.TypeIs (.ref I) "list_reverseiterator":=hit.typeIs;unfold Builtin.List.listExtendWith;refine b_ (wpAny_typeOf hty ?_);have n1:Builtin.List.listSameRef (.ref S) (.ref I)=false:=by simp [Builtin.List.listSameRef,hSI]
 have n2:(Value.type "list_reverseiterator"==Value.type "list")=false:=by decide
 have n3:(Value.type "list_reverseiterator"==Value.type "tuple")=false:=by decide
 simp only[n1,n2,n3,Bool.or_false,x_,Wt];refine b_ (wpAny_pyIter_revIter hit ?_);refine b_ (X8 ?_);unfold Builtin.List.listLengthHint;refine b_ (wpAny_specialOf hty Az ?_);show wpAny _ A.in1 (specialOf (Value.ref I) (Str.ofString "__length_hint__") >>= _) _ _ _;refine b_ (wpAny_specialOf hty lr_hint.lookup ?_);generalize hid:("list_reverseiterator.__length_hint__":String)=id0
 (fail_if_success (clear hid id0))
 wp_delta
 rw[show splitId id0=some ("list_reverseiterator","__length_hint__") from by subst hid;decide +kernel];subst hid;refine b_ (wpAny_isInstance (b:=true) hty NP ?_);rw[if_neg (show ¬(!true)=true from p_)];dsimp only;rw[if_pos (by decide +kernel)];rw[if_neg (show ¬((Value.builtin "list_reverseiterator.__length_hint__"==Value.builtin "range_iterator.__length_hint__")=true) from by decide)];refine m_ ?_;try rw[if_neg p_]
 refine m_ ⟨plainId_quiet F.plain_extend_loop _,?_⟩;exact codeAny_extend_loopS W hsz _ hSf _ items.size 0 _ _ _ rfl (WR _) st hS (ItemsOf.nil _) fun s' acc' c' hm hS' hacc=>hR s' acc' c' hm hS' hacc
theorem Gy {R:Result->Shared->Prop}{I l S:Addr}{items:Array Value}(hh:A.handled=none) (hne:l≠I) (hsz:items.size<=sizeLine) (hSf:S∉[I,l]) (hit:s.heap.IsRevIter I l ((items.size:Int) - 1)) (hl:s.heap.IsList l items)
  (hS:s.heap.get? S=some { cls:=.type "list",data:=.seq #[]})
  (hR:∀s' acc' c',Moved (S::[I]) (fun a b=>b=a) s s'->s'.heap.get? S=some { cls:=.type "list",dict:=none,data:=.seq acc' c',slots:=#[]}->ItemsOf (fun i v=>items[items.size - 1 - i]?=some v) acc' items.size->R (.ok (.ret .none)) s') :
  wpAny (model prog w) A.in1 (Builtin.«list.__init__» ⟨[.ref S,.ref I],[]⟩)
   (fun fin s'=>match fin with | .done f=>R (.ok f) s' | .again c'=>c'.quiet=true/\codeAny (model prog w) A c' R s') (fun e s'=>R (.error e) s') s:=by
 show wpAny _ A.in1 (do let old <- Builtin.List.listItems (.ref S);Builtin.List.listUpdate (.ref S) (fun _=>#[]);letGo old.toList.reverse;Builtin.List.listExtendWith (.ref S) (.ref I) .none) _ _ s;refine b_ ?_;unfold Builtin.List.listItems;refine b_ (Yb hS rfl (m_ ?_));show wpAny _ A.in1 (updateSeq S (fun _=>#[]) >>= fun _=>letGo (#[]:Array Value).toList.reverse >>= fun _=>Builtin.List.listExtendWith (.ref S) (.ref I) .none) _ _ s;refine b_ (wpAny_updateSeq hS rfl ?_);have hS₂:=Heap.get?_update_self (Obj.mapSeq (fun _=>(#[]:Array Value))) hS rfl;have oth:∀b o,b≠S->s.heap.get? b=some o->(s.heap.update S (Obj.mapSeq (fun _=>(#[]:Array Value)))).get? b=some o :=
  fun b o hb e=>(YS _ _ (Ne.symm hb)).trans e
 refine b_ (wpAny_letGo ?_);have nI:I≠S:=fun e=>hSf (by simp [e]);have nl:l≠S:=fun e=>hSf (by simp [e]);refine yj hh hne hsz hSf (hit.at fun o e=>oth _ o nI e) (hl.at fun o e=>oth _ o nl e) hS₂ fun s' acc' c' hm hS' hacc=>?_;exact hR s' acc' c' (Moved.trans (G:=fun a b=>b=a) (fun a b c h1 h2=>h2.trans h1) ((Moved.refl (G:=fun a b=>b=a) fun _=>rfl).then_heap (j_ _) fun b o hb e=>oth b o (fun h=>hb (h▸k_)) e) hm) hS' hacc
theorem mL {Q:Value->Shared->Prop}{I l:Addr}{items:Array Value}(hh:A.handled=none) (hne:l≠I) (hsz:items.size<=sizeLine) (hit:s.heap.IsRevIter I l ((items.size:Int) - 1)) (hl:s.heap.IsList l items)
  (hQ:∀s' c',Moved (s.heap.objs.size::[I]) (fun a b=>b=a) { s with heap:=s.heap.push { cls:=.type "list",data:=.seq #[]}} s' ->
   s'.heap.get? s.heap.objs.size=some { cls:=.type "list",dict:=none,data:=.seq items.reverse c',slots:=#[]}->Q (.ref s.heap.objs.size) s') :
  wpAny (model prog w) A (call (.type "list") [.ref I]) Q E s:=by
 have hIl:I<s.heap.objs.size:=by obtain⟨o,ho,_⟩:=hit;exact y_ ho
 have htl:l<s.heap.objs.size:=by obtain⟨o,ho,_⟩:=hl;exact y_ ho
 have hSf:s.heap.objs.size∉[I,l]:=fun hm=>by
  rcases n_.mp hm with e | e
  ·rw[<- e] at hIl;exact WQ _ hIl
  rw[<- q_.mp e] at htl;exact WQ _ htl
 refine callType_codes (Q₁:=fun obj s₁=>obj=.ref s.heap.objs.size/\s₁={ s with heap:=s.heap.push { cls:=.type "list",data:=.seq #[]}}) F.called_list (F.typeCall_list_1 _) F.entry_list_init
  (code_list_new _ ⟨rfl,rfl⟩) fun obj s₁ h₁=>?_
 obtain⟨rfl,rfl⟩:=h₁;have hS:(s.heap.push { cls:=.type "list",data:=.seq #[]}).get? s.heap.objs.size=some { cls:=.type "list",data:=.seq #[]}:=u_ _ rfl;refine⟨⟨_,hS,rfl⟩,F.args_list_init_2 _ _,Gy (A:=A.in1) hh hne hsz hSf (hit.at fun o e=>e_ _ e) (hl.at fun o e=>e_ _ e) hS fun s' acc' c' hm hS' hacc=>?_⟩;refine⟨rfl,hQ s' c' hm ?_⟩;rw[<- Ba hacc];exact hS'
end
def Itv (K:Frag) (a:Addr) (n:Nat):It :=
 ⟨fun i H=>∃xs x,SqL K H a xs/\xs.length=n/\i<n/\xs[n - 1 - i]?=some x,fun i H x H'=>H'=H/\∀xs,SqL K H a xs->xs[n - 1 - i]?=some x,fun i _=>n<=i⟩
theorem Bb {P:Program}{w:World}{K:Frag}{tg:Expr}(a it:Addr) (n:Nat):Turn P w K tg (Itv K a n) [it] it (fun i h=>i<=n/\h.IsRevIter it a ((n:Int) - 1 - (i:Int))) where
 mem:=by simp
 obj:=fun i h st b hb=>by
  have e:b=it:=by simpa using hb
  subst e
  obtain⟨_,o,e,c,d⟩:=st
  exact⟨o,e,fun v z=>by rw[d] at z;cases z⟩
 keep:=fun i h h' st k=>⟨st.1,st.2.at fun o e=>k it (by simp) o e⟩
 item:=by
  intro X hP hw hK hc i pins s Z H E I hf st hg
  subst hP hw hK
  obtain⟨xs,x,hq,hn,hi,hx⟩:=hg
  obtain⟨its,rv,p,hz⟩:=I.list hq
  obtain⟨u,hu,ru⟩:=rv.get hx
  obtain⟨f0,f1,f2,f3,f4,f5⟩:=hf it (by simp)
  have e:(n:Int) - 1 - (i:Int)=((n - 1 - i:Nat):Int):=by omega
  obtain⟨_,st⟩:=st
  rw[e] at st
  refine wpAny_pyNext_rev_item st p.isList (x:=u) (by simpa using hu) fun h' st' sb=>?_
  have I1:Inv X pins Z H { s with heap:=h'}:=I.turned (t':=s.toks) (fun b o hb e=>(sb.2 b hb).trans e) f0 f1 f3 f4 f5
  obtain⟨o,e',c,d⟩:=id st'
  have e2:((n - 1 - i:Nat):Int) - 1=(n:Int) - 1 - ((i+1:Nat):Int):=by omega
  rw[e2] at st'
  exact⟨u,rfl,vB (s:={ s with heap:=h'}) e' c d (by decide) ⟨x,H,I1,ru,⟨rfl,fun ys hy=>by rw[I.list_inj hy hq];exact hx⟩,⟨hi,st'⟩,fun b hb=>(hf b hb).1⟩⟩
 done:=by
  intro X hP hw hK hc i pins s Z H E I hf st hg
  subst hP hw hK
  obtain⟨f0,f1,f2,f3,f4,f5⟩:=hf it (by simp)
  obtain⟨hle,st⟩:=st
  have hge:n<=i:=hg
  have e:(n:Int) - 1 - (i:Int) = -1:=by omega
  rw[e] at st
  exact wpAny_pyNext_rev_end (I.ok.hd hc) st fun h' eb=>⟨rfl,I.turned (t':=s.toks) (fun b o hb e=>eb b o hb e) f0 f1 f3 f4 f5⟩
 self:=fun _ _ _ _ _ st h=>wpAny_pyIter_revIter st.2 h
theorem jP:bootBuiltins "reversed"=some (.type "reversed"):=by decide +kernel
section
variable {X:Cx}{tg e:Expr}{p p1 p2 pos pos':Pos}
def Wh (K:Frag) (te:TE):TI:=fun Z H R=>te Z H fun x H1=>∃a xs,x=.ref a/\SqL K H1 a xs/\R (Itv K a xs.length) H1
theorem NQ {te:TE}(hg:Gl X "reversed") (hm:X.mg "reversed"=none) (he:PE X e te)
  (hs:starEach [e] X.env=(false,eval e X.env)::starEach [] X.env:=by rfl) (hpl:(backTo pos (starEach [] X.env)).any (·.1)=false:=by rfl) :
  PI X tg (.Call (.Name "reversed" p) [e] [] pos) (Wh X.K te):=by
 intro pins s Z H R I h;refine Xz (d9 I hg hm jP ?_ (by decide) (by decide));refine WP ?_ hs hpl;rw[hs];show wpAny _ _ (spliced ((false,eval e X.env)::backTo pos (starEach [] X.env))) _ _ s;refine X5 (thn (he pins s Z H _ I h) fun u s2 ⟨x,H2,I2,r1,a,xs,ea,hq,q⟩=>?_);subst ea;cases r1;refine Yz ?_;obtain⟨its,rv,hl,hz⟩:=I2.list hq;have hlen:=rv.length;refine call_reversed_list hl.isList ?_;have eI:((its.toArray.size:Nat):Int) - 1=(xs.length:Int) - 1:=by simp [hlen]
 rw[eI];have hI:(s2.heap.push (revObj a ((xs.length:Int) - 1))).IsRevIter s2.heap.objs.size a ((xs.length:Int) - 1):=⟨_,u_ _ rfl,rfl,rfl⟩;refine wpAny_pyIter_revIter hI ?_;refine⟨s2.heap.objs.size,[s2.heap.objs.size],_,_,H2,rfl,I2.kept (t':=s2.toks) fun b o e=>e_ _ e,Bb a s2.heap.objs.size xs.length,⟨WR _,by simpa using hI⟩,fun b hb=>?_,q⟩;have e:b=s2.heap.objs.size:=by simpa using hb
 subst e;exact I2.fpOk (j_ _) (I2.hok.fresh (j_ _))
def reO (o:Option O3) (a:Addr) (H:Hp3) (R:List T->(Hp3->Prop)->Hp3->Prop):Prop:=match o with
 |some (.lst ts)=>R ts.reverse (aX a ts) H
 |_=>False
def JL (te:TE3):TI3:=fun Z H R=>te Z H fun x H1=>match x with
 |.ref a=>reO (H1 a) a H1 R
 |_=>False
theorem Bc {K:Frag}{H:Hp}{a:Addr}{ts:List T}{xs:List V}(rs:xs.length=ts.length):iD K (Itv K a xs.length) ts.reverse (aX a ts) H:=fun H' H3' le sh st=>by
 obtain⟨ys,sq,rs'⟩:=sh.sqL st;have hl:=rs'.length;rw[rs];refine⟨fun i hi=>by rw[Xg] at hi;exact hi,fun i t e=>?_⟩;have hi:i<ts.length:=by have:=(Xa.mp e).1;rw[Xg] at this;exact this
 rw[List.getElem?_reverse hi] at e;obtain⟨v,ev,rv⟩:=rs'.get e;refine⟨⟨ys,v,sq,hl.symm,hi,ev⟩,fun x H'' y=>?_⟩;obtain⟨e1,y⟩:=y;subst e1;have:=y ys sq;rw[ev] at this;cases this;exact⟨.refl,sh,rv⟩
theorem NT {te:TE3}(hg:Gl X "reversed") (hm:X.mg "reversed"=none) (he:PE3 X e te)
  (hs:starEach [e] X.env=(false,eval e X.env)::starEach [] X.env:=by rfl) (hpl:(backTo pos (starEach [] X.env)).any (·.1)=false:=by rfl) :
  PI3 X tg (.Call (.Name "reversed" p) [e] [] pos) (JL te):=by
 refine PI.imp (NQ hg hm he hs hpl) ?_;rintro Z H R ⟨Z3,H3,R3,ss,sh,h,k⟩;refine⟨Z3,H3,_,ss,sh,h,fun v H' t H3' le sh' r q=>?_⟩;cases t with
 |ref a =>
  have q':reO (H3' a) a H3' R3:=q
  cases e:H3' a with
  |none=>rw[e] at q';exact q'.elim
  |some o =>
   rw[e] at q'
   cases o with
   |lst ts =>
    obtain⟨xs,sq,rs⟩:=sh'.sqL (.inl e)
    exact⟨a,xs,r.ref,sq,k _ _ (aX a ts) H' H3' le sh' (Bc rs.length.symm) q'⟩
   |_=>exact q'.elim
 |_=>exact q.elim
theorem NZ (te:TE3) {Z:St3}{H:Hp3}{R:List T->(Hp3->Prop)->Hp3->Prop}:JL te Z H R=te Z H fun x H1=>match x with
 |.ref a=>reO (H1 a) a H1 R
 |_=>False:=rfl
theorem Tt (ts:List T) (a:Addr) (H:Hp3) (R:List T->(Hp3->Prop)->Hp3->Prop):reO (some (.lst ts)) a H R=R ts.reverse (aX a ts) H:=rfl
def N5 (te:TE):TE:=fun Z H Q=>te Z H fun x H1=>∃p ys,x=.ref p/\SqL X.K H1 p ys/\∀l,H1 l=none->Q (.ref l) (upd H1 l (.lst ys.reverse))
theorem Bd {te:TE}(hc:X.calm=true) (hgt:Gl X "list") (hmt:X.mg "list"=none) (hgr:Gl X "reversed") (hmr:X.mg "reversed"=none) (ha:PE X e te)
  (he:starEach [e] X.env=(false,eval e X.env)::starEach [] X.env:=by rfl) (hpl:(backTo pos (starEach [] X.env)).any (·.1)=false:=by rfl) (hpl':(backTo pos' (starEach [] X.env)).any (·.1)=false:=by rfl) :
  PE X (.Call (.Name "list" p1) [.Call (.Name "reversed" p2) [e] [] pos'] [] pos) (N5 (X:=X) te):=by
 intro pins s Z H Q I h;refine Xz (d9 I hgt hmt o8 ?_ (by decide) (by decide));refine WP ?_ rfl hpl;show wpAny _ _ (spliced ((false,eval (.Call (.Name "reversed" p2) [e] [] pos') X.env)::backTo pos (starEach [] X.env))) _ _ s;refine X5 ?_;refine Xz (d9 I hgr hmr jP ?_ (by decide) (by decide));refine WP ?_ he hpl';rw[he];show wpAny _ _ (spliced ((false,eval e X.env)::backTo pos' (starEach [] X.env))) _ _ s;refine X5 (thn (ha pins s Z H _ I h) fun u s1 ⟨x,H1,I1,r1,p,ys,hx,sq,q⟩=>?_);subst hx;cases r1;obtain⟨its,rv,hl,hz⟩:=I1.list sq;have hlen:=rv.length;have hsz:its.toArray.size<=sizeLine:=by simp only[i_];omega
 refine Yz ?_;refine call_reversed_list hl.isList ?_;refine Yz ?_;have hpl:p<s1.heap.objs.size:=by obtain⟨o,eo,_⟩:=hl.isList;exact y_ eo
 have hI0:(s1.heap.push (revObj p ((its.toArray.size:Int) - 1))).IsRevIter s1.heap.objs.size p ((its.toArray.size:Int) - 1):=⟨_,u_ _ rfl,rfl,rfl⟩;refine mL (s:={ s1 with heap:=s1.heap.push (revObj p ((its.toArray.size:Int) - 1))}) (I1.ok.hd hc) (C_ hpl) hsz hI0 (hl.isList.at fun o e=>e_ _ e) fun s' c' hm hS=>?_;generalize hz0:(s1.heap.push (revObj p ((its.toArray.size:Int) - 1))).objs.size=z at hm hS;have hz1:s1.heap.objs.size<z:=by rw[<- hz0];simp [Heap.push]
 have kp:∀b u,s1.heap.get? b=some u->s'.heap.get? b=some u:=fun b u eb=>hm.heap b u (fun hb=>by
  have:=y_ eb
  rcases n_.mp hb with e | e
  ·
   rw[e] at this;exact absurd (WF this hz1) (WQ _)
  ·
   rw[q_.mp e] at this;exact WQ _ this) (e_ _ (e_ _ eb))
 have e1:s'={ s1 with heap:=s'.heap,toks:=s'.toks}:=by
  obtain⟨a1,a2,a3,a4,a5⟩:=s';have:=hm.gens;have:=hm.drawn;have:=hm.os
  simp_all
 have I3:Inv X pins Z (upd H1 z (.lst ys.reverse)) { s1 with heap:=s'.heap,toks:=s'.toks} :=
  I1.laid (t':=s'.toks) kp (Xx hz1) ⟨by rw[Xg];exact hz,its.reverse,c',rv.reverse,by simpa using hS⟩
 rw[e1];exact⟨.ref z,_,I3,rfl,q _ (I1.hok.fresh (Xx hz1))⟩
def lrO (o:Option O3) (H:Hp3) (Q:VK3):Prop:=match o with
 |some (.lst xs)=>∀p,H p=none->Q (.ref p) (up3 H p (.lst xs.reverse))
 |_=>False
def wF (te:TE3):TE3:=fun Z H Q=>te Z H fun x H1=>match x with
 |.ref a=>lrO (H1 a) H1 Q
 |_=>False
theorem Be {te:TE3}(hc:X.calm=true) (hgt:Gl X "list") (hmt:X.mg "list"=none) (hgr:Gl X "reversed") (hmr:X.mg "reversed"=none) (ha:PE3 X e te)
  (he:starEach [e] X.env=(false,eval e X.env)::starEach [] X.env:=by rfl) (hpl:(backTo pos (starEach [] X.env)).any (·.1)=false:=by rfl) (hpl':(backTo pos' (starEach [] X.env)).any (·.1)=false:=by rfl) :
  PE3 X (.Call (.Name "list" p1) [.Call (.Name "reversed" p2) [e] [] pos'] [] pos) (wF te):=by
 refine PE.imp (Bd hc hgt hmt hgr hmr ha he hpl hpl') ?_;rintro Z H Q ⟨Z3,H3,Q3,ss,sh,h,k⟩;refine⟨Z3,H3,_,ss,sh,h,fun v H' t H3' le sh' r q=>?_⟩;cases t with
 |ref a =>
  have q':lrO (H3' a) H3' Q3:=q
  cases e:H3' a with
  |none=>rw[e] at q';exact q'.elim
  |some o =>
   rw[e] at q'
   cases o with
   |lst ts =>
    obtain⟨xs,sq,rs⟩:=sh'.sqL (.inl e)
    exact⟨a,xs,r.ref,sq,fun l hl=>k _ _ _ _ (le.trans (aJ hl)) (sh'.newLst hl rs.reverse) .ofRef (q' l (sh'.fresh hl))⟩
   |_=>exact q'.elim
 |_=>exact q.elim
theorem Gz (te:TE3) {Z:St3}{H:Hp3}{Q:VK3}:wF te Z H Q=te Z H fun x H1=>match x with
 |.ref a=>lrO (H1 a) H1 Q
 |_=>False:=rfl
theorem Tu (xs:List T) (H:Hp3) (Q:VK3):lrO (some (.lst xs)) H Q=∀p,H p=none->Q (.ref p) (up3 H p (.lst xs.reverse)):=rfl
variable {o:Expr}{to:TE3}{name:Str}{apos cpos:Pos}{m:T->List T->Hp3->VK3->Prop}{Ty id:String}
def JM (Ty:String) (m:T->List T->Hp3->VK3->Prop) (to:TE3):TE3:=fun Z H Q=>to Z H fun x H1=>ty3 Ty x H1/\m x [] H1 Q
theorem Bf (pa:PlainAttrs Ty) (slot:Slot Ty name id) (hty:typeOf (.builtin id)=pure (.type "method_descriptor")) (hm:zz X id m) (ho:PE3 X o to)
  (hbase:attributeBase o name X.env (eval o X.env)=eval o X.env:=by rfl) (hline:(apos.endLine==cpos.line)=true:=by rfl) :
  PE3 X (.Call (.Attribute o name apos) [] [] cpos) (JM Ty m to):=by
 refine PE.imp (Lk pa slot hty hm ho hbase hline) ?_;rintro Z H Q ⟨Z3,H3,Q3,ss,sh,h,k⟩;exact⟨Z3,H3,_,ss,sh,h,fun x H1 tx H31 le1 sh1 rx q1=>⟨Jt sh1 rx q1.1,tx,[],H31,Q3,rx,.nil,sh1,q1.2,k.at le1⟩⟩
def clO (o:Option O3) (a:Addr) (H:Hp3) (Q:VK3):Prop:=match o with
 |some (.lst _)=>Q .non (up3 H a (.lst []))
 |_=>False
def Tv:T->List T->Hp3->VK3->Prop:=fun x ts H Q=>match x,ts with
 |.ref a,[]=>clO (H a) a H Q
 |_,_=>False
theorem Tw (a:Addr) (H:Hp3) (Q:VK3):Tv (.ref a) [] H Q=clO (H a) a H Q:=rfl
theorem Tz (xs:List T) (a:Addr) (H:Hp3) (Q:VK3):clO (some (.lst xs)) a H Q=Q .non (up3 H a (.lst [])):=rfl
def N6 (o:Option O3) (a:Addr) (i:Int) (t:T) (H:Hp3) (Q:VK3):Prop:=match o with
 |some (.lst xs)=>(0<=i/\i<=xs.length/\xs.length<sizeLine)/\Q .non (up3 H a (.lst (xs.take i.toNat++t::xs.drop i.toNat)))
 |_=>False
def TF:T->List T->Hp3->VK3->Prop:=fun x ts H Q=>match x,ts with
 |.ref a,[.int i,t]=>N6 (H a) a i t H Q
 |_,_=>False
theorem TJ (a:Addr) (i:Int) (t:T) (H:Hp3) (Q:VK3):TF (.ref a) [.int i,t] H Q=N6 (H a) a i t H Q:=rfl
theorem N7 (xs:List T) (a:Addr) (i:Int) (t:T) (H:Hp3) (Q:VK3):N6 (some (.lst xs)) a i t H Q=((0<=i/\i<=xs.length/\xs.length<sizeLine)/\Q .non (up3 H a (.lst (xs.take i.toNat++t::xs.drop i.toNat)))):=rfl
def mxH (o:Option O3) (H:Hp3) (Q:VK3):Prop:=match o with
 |some (.lst xs)=>oq (ints3 xs) fun ns=>ns≠[]/\∀M,M∈ns->(∀a∈ns,a<=M)->Q (.int M) H
 |_=>False
def Bg:List T->Hp3->VK3->Prop:=fun ts H Q=>match ts with
 |[.ref a]=>mxH (H a) H Q
 |_=>False
theorem Bh (a:Addr) (H:Hp3) (Q:VK3):Bg [.ref a] H Q=mxH (H a) H Q:=rfl
theorem JN (xs:List T) (H:Hp3) (Q:VK3):mxH (some (.lst xs)) H Q=oq (ints3 xs) fun ns=>ns≠[]/\∀M,M∈ns->(∀a∈ns,a<=M)->Q (.int M) H:=rfl
theorem j8 (hc:X.calm=true):cZ X (.builtin "max") Bg:=by
 intro pins s Z H xs us Q I rv h;obtain⟨ts,H3,Q3,r,sh,h,k⟩:=h;cases ts with
 |nil=>exact h.elim
 |cons t ts =>
 cases ts with
 |cons _ _=>cases t <;> exact h.elim
 |nil =>
 cases t with
 |ref a =>
  rw[Bh] at h;obtain⟨v,rfl,rv'⟩:=r.one';obtain⟨u,rfl,ru⟩:=vals1 rv;rw[rv'.ref] at ru;cases ru;cases e:H3 a with
  |none=>rw[e] at h;exact h.elim
  |some o =>
  rw[e] at h;cases o with
  |lst ls =>
   rw[JN] at h;obtain⟨ys,sq,rs⟩:=sh.sqL (.inl e);cases e2:ints3 ls with
   |none=>rw[e2] at h;exact h.elim
   |some ns =>
   rw[e2,gK] at h;obtain⟨hne,h⟩:=h;obtain⟨its,rvs,hl,_⟩:=I.list sq;have hi:=iR e2 rs rvs;have hall:AllInts its.toArray:=hi.allInts;obtain⟨zs,ez⟩:=hall.items;have hls:s.heap.IsList a (intItems zs):=by rw[<- ez];exact hl.isList
   have e1:=nums_intItems zs;rw[<- ez,show its.toArray.toList=its from rfl,hi.numsOf] at e1;have hz:0<zs.size:=by have:=WK List.length e1;simp at this;have:=List.length_pos_iff.mpr hne;omega
   refine max_intList (I.ok.hd hc) hls hz fun v h' tk hv hk=>?_;obtain⟨t,rfl⟩:=intItems_at hv;obtain⟨h1,h2⟩:=argBest_gt (numAt zs) (zs.size - 1);refine⟨.int _,H,I.kept hk,⟨t,rfl⟩,k _ _ _ _ .refl sh .ofInt (h _ ?_ fun a ha=>?_)⟩
   ·rw[e1,numAt_eq];exact getD_mem (by rw[h_,Ym];omega)
   rw[e1] at ha;obtain⟨j,hj,rfl⟩:=mem_getD ha;rw[h_,Ym] at hj;rw[<- numAt_eq];exact h2 j (by omega)
  |_=>exact h.elim
 |_=>cases h
end
open L2 HT
section
variable {prog:Program}{w:World}{A:Around}{E:Value->Shared->Prop}{s:Shared}
theorem iW {t sl:Addr}{items:Array Value}{vl vu:Value}{lo hi:Option Int}{Q:Value->Shared->Prop}(ht:IsTup s.heap t items) (hs:s.heap.IsSliceOf sl vl vu .none) (pl:IsPart vl lo) (pu:IsPart vu hi)
  (hw:sIx items.size 0 lo=0/\sIx items.size items.size hi=items.size) (h:Q (.ref t) s):wpAny (model prog w) A (getItem (.ref t) (.ref sl)) Q E s:=by
 obtain⟨os,hos,hcs,hds⟩:=id hs;have hTs:s.TypeIs (.ref sl) "slice":=⟨os,hos,hcs⟩;unfold getItem;try with_reducible refine X8 ?_
 first | refine b_ (m_ ?_) | skip
 refine b_ (wpAny_sequenceKey ht.typeIs (by decide) ?_);refine b_ (Xl (name:=Str.ofString "__getitem__") ht.typeIs Ww
  (Xp Ww ht.typeIs entry_tuple_getitem ?_ (args_tuple_getitem _ _)))
 show wpAny _ _ (Builtin.Tuple.tupleItemsOf (.ref t) >>= _) _ _ s;refine b_ (tupleItemsOf_ ht ?_);refine b_ (wpAny_typeOf hTs ?_);rw[if_pos (by decide)];refine b_ (fP hs pl pu ?_);show wpAny _ _ (if (((sIx items.size 0 lo:Nat):Int)==0&&(1:Int)==1&&(sIx items.size items.size hi - sIx items.size 0 lo)==items.size)=true then _ else _) _ _ s;rw[if_pos (by rw[hw.1,hw.2];simp)];have hT:=ht.typeIs
 wp_walk
 exact⟨_,rfl,m_ h⟩
variable {X:Cx}
theorem GC:SlR X (fun x lo hi H Q=>∃a xs,x=.ref a/\SqT X.K H a xs/\(HT.sIx xs.length 0 lo=0/\HT.sIx xs.length xs.length hi=xs.length)/\Q (.ref a) H):=by
 intro pins s Z H x v vl vu lo hi sl Q I rx hs pl pu h;obtain⟨a,xs,rfl,hx,hw,q⟩:=h;cases rx;obtain⟨its,r,ht,hz⟩:=I.tuple hx;have hlen:its.toArray.size=xs.length:=by rw[i_];exact r.length.symm
 refine⟨"tuple",_,Ww.lookup,ht.typeIs,?_⟩;exact iW ht hs pl pu (by rw[hlen];exact hw) ⟨.ref a,H,I,rfl,q⟩
def Bj:T->Option Int->Option Int->Hp3->VK3->Prop:=fun x lo hi H Q=>match x with
 |.tup ts=>Q (.tup (fK ts lo hi)) H
 |_=>False
def JP (te:TE3) (tl th:TO3):TE3:=fun Z H Q=>te Z H fun x H1=>tl Z H1 fun l H2=>th Z H2 fun u H3=>Bj x l u H3 Q
theorem uL (ts:List T) (lo hi:Option Int) (H:Hp3) (Q:VK3):Bj (.tup ts) lo hi H Q=Q (.tup (fK ts lo hi)) H:=rfl
theorem Bk (te:TE3) (tl th:TO3) (Z:St3) (H:Hp3) (Q:VK3):JP te tl th Z H Q=te Z H fun x H1=>tl Z H1 fun l H2=>th Z H2 fun u H3=>Bj x l u H3 Q:=rfl
theorem jB {e:Expr}{lo hi:Option Expr}{te:TE3}{tl th:TO3}{p2 pos:Pos}(he:PE3 X e te) (hl:PO3 X lo tl) (hu:PO3 X hi th):PE3 X (.Subscript e (.Slice lo hi none p2) pos) (JP te tl th):=by
 refine PE.imp (qw (sl_tup.or GC) he hl hu) ?_;rintro Z H Q ⟨Z3,H3,Q3,ss,sh,h,k⟩;refine⟨Z3,H3,_,ss,sh,h,fun x H1 tx H31 le1 sh1 rx q1=>⟨Z3,H31,_,ss.mono le1,sh1,q1,fun l H2 H32 le2 sh2 q2=>⟨Z3,H32,_,ss.mono (le1.trans le2),sh2,q2,fun u H4 H34 le4 sh4 q4=>?_⟩⟩⟩;have k':=k.at (le1.trans (le2.trans le4));have rx':=rx.mono (le2.trans le4);cases tx with
 |tup ts =>
  rw[uL] at q4;obtain⟨a,xs,rfl,sq,r⟩:=rx'.tup;by_cases hw:HT.sIx xs.length 0 l=0/\HT.sIx xs.length xs.length u=xs.length
  ·refine .inr ⟨a,xs,rfl,sq,hw,k' _ _ _ _ .refl sh4 (.ofTup sq r) ?_⟩;have e:fK ts l u=ts:=by unfold fK;rw[r.length,hw.1,hw.2,Nat.sub_zero,Y8,<- r.length,List.take_length]
   rw[e] at q4;exact q4
  exact .inl ⟨a,xs,rfl,sq,hw,fun p hp=>k' _ _ _ _ (aJ hp) (sh4.new hp) (SimH.newTup (H3:=H34) hp (j5 r l u)) q4⟩
 |_=>exact q4.elim
end
theorem Bm (l : List Value) : ((List.range l.length).filterMap fun (k : Nat) => l.toArray[((l.length : Int) - 1 + (k : Int) * (-1)).toNat]?) = l.reverse:=by
 have e:(List.range l.length).map (fun (k:Nat)=>l.toArray[((l.length:Int) - 1+(k:Int)*(-1)).toNat]?)=l.reverse.map some:=by
  apply Yd;intro i;rw[o_,o_];by_cases h:i<l.length
  ·rw[Wv h,List.getElem?_reverse h];have e1:((l.length:Int) - 1+(i:Int)*(-1)).toNat=l.length - 1 - i:=by omega
   have h2:l.length - 1 - i<l.length:=by omega
   simp only[Yw,e1,List.getElem?_toArray];rw[a_ h2];rfl
  rw[J_ (by simp;omega),J_ (by simp;omega)];rfl
 have e2:=WK (List.filterMap id) e;rw [List.filterMap_map,List.filterMap_map] at e2;have e3 : List.filterMap (id ∘ some) l.reverse = l.reverse:=List.filterMap_some;rw [e3] at e2;exact e2
section
variable {prog:Program}{w:World}{A:Around}{E:Value->Shared->Prop}{s:Shared}
theorem GD (n:Nat):Builtin.Slice.sliceAdjust none none (-1) (n:Int)=((n:Int) - 1,-1):=by
 unfold Builtin.Slice.sliceAdjust;simp
theorem uM (n:Nat):Builtin.Slice.slicePlaces ((n:Int) - 1) (-1) (-1)=n:=by
 unfold Builtin.Slice.slicePlaces;have h1:¬((-1:Int)>0):=by omega
 simp only[h1,Wt,Int.neg_neg,Int.ediv_one];split <;> omega
theorem jC {sl:Addr}{vs:Value}{n:Nat}{Q:Int × Int × Nat->Shared->Prop}(hs:s.heap.IsSliceOf sl .none .none vs) (ps:IsPart vs (some (-1)))
  (h:Q ((n:Int) - 1,-1,n) s):wpAny (model prog w) A (Builtin.Slice.sliceApplied (.ref sl) (pure (n:Int))) Q E s:=by
 obtain⟨os,hos,hcs,hds⟩:=id hs;unfold Builtin.Slice.sliceApplied Builtin.Slice.sliceFields;refine b_ (b_ (W_ hos hds (x:=.none) rfl (b_ (W_ hos hds (x:=.none) rfl (b_ (W_ hos hds (x:=vs) rfl (m_ ?_)))))));refine b_ (iJ ps ?_);show wpAny _ _ (if ((-1:Int)==0)=true then _ else _) _ _ s;rw[if_neg (by decide)];refine b_ (slicePart_none (b_ (slicePart_none (b_ (m_ ?_)))));show wpAny _ _ (match Builtin.Slice.sliceAdjust none none (-1) (n:Int) with | (lo,hi)=>pure (lo,(-1:Int),Builtin.Slice.slicePlaces lo hi (-1))) _ _ s;rw[GD n];show wpAny _ _ (pure ((n:Int) - 1,(-1:Int),Builtin.Slice.slicePlaces ((n:Int) - 1) (-1) (-1))) _ _ s;rw[uM];exact m_ h
theorem ji {t sl:Addr}{its:List Value}{vs:Value}{Q:Value->Shared->Prop}(ht:IsTup s.heap t its.toArray) (hs:s.heap.IsSliceOf sl .none .none vs) (ps:IsPart vs (some (-1)))
  (h:Q (.ref s.heap.objs.size) { s with heap:=s.heap.push { cls:=.type "tuple",data:=.seq its.reverse.toArray}}) (hsz:its.length<=sizeLine):wpAny (model prog w) A (getItem (.ref t) (.ref sl)) Q E s:=by
 obtain⟨os,hos,hcs,hds⟩:=id hs;have hTs:s.TypeIs (.ref sl) "slice":=⟨os,hos,hcs⟩;have htake:sizeOk (.seq its.reverse.toArray):=by show its.reverse.toArray.size<=sizeLine;rw[i_,Xg];exact hsz
 unfold getItem;try with_reducible refine X8 ?_
 first | refine b_ (m_ ?_) | skip
 refine b_ (wpAny_sequenceKey ht.typeIs (by decide) ?_);refine b_ (Xl (name:=Str.ofString "__getitem__") ht.typeIs Ww
  (Xp Ww ht.typeIs entry_tuple_getitem ?_ (args_tuple_getitem _ _)))
 show wpAny _ _ (Builtin.Tuple.tupleItemsOf (.ref t) >>= _) _ _ s;refine b_ (tupleItemsOf_ ht ?_);refine b_ (wpAny_typeOf hTs ?_);rw[if_pos (by decide)];refine b_ (jC hs ps ?_);rw[i_];show wpAny _ _ (if (((its.length:Int) - 1)==0&&(-1:Int)==1&&its.length==its.toArray.size)=true then _ else _) _ _ s;rw[if_neg (by simp),Bm];first
  |exact b_ (m:=Builtin.Tuple.tupleExact _) (W9 (m_ ⟨_,rfl,m_ h⟩) htake)
  |exact b_ (m:=Builtin.Tuple.tupleExact _) (W9 (b_ (m_ (m_ ⟨_,rfl,m_ h⟩))) htake)
  |exact b_ (b_ (m:=Builtin.Tuple.tupleExact _) (W9 (m_ (m_ ⟨_,rfl,m_ h⟩)) htake))
  |exact b_ (b_ (m:=Builtin.Tuple.tupleExact _) (W9 (m_ ⟨_,rfl,m_ h⟩) htake))
variable {X:Cx}{e st:Expr}{p2 pos:Pos}
def TQ (K:Frag) (te:TE) (ts:TO):TE:=fun Z H Q=>te Z H fun x H1=>ts Z H1 fun o H2=>o=some (-1)/\∃a xs,x=.ref a/\SqT K H2 a xs/\∀p,H2 p=none->Q (.ref p) (upd H2 p (.tup xs.reverse))
theorem GF {te:TE}{ts:TO}(he:PE X e te) (hs:PO X (some st) ts):PE X (.Subscript e (.Slice none none (some st) p2) pos) (TQ X.K te ts):=by
 intro pins s Z H Q I h;refine Subscript_ (thn (he pins s Z H _ I h) fun v s1 ⟨x,H1,I1,r1,q1⟩=>?_);refine wpAny_Slice ?_;rw[evalPart_none];refine m_ (m_ (thn (hs pins s1 Z H1 _ I1 q1) fun vs s3 ⟨o,H3,I3,ps,eo,a,xs,ex,hx,q⟩=>?_));subst eo ex;cases r1;have I4:Inv X pins Z H3 { s3 with heap:=s3.heap.push { cls:=.type "slice",data:=.fields #[.none,.none,vs]}}:=I3.kept (t':=s3.toks) fun b ob q=>e_ _ q;obtain⟨its,r,ht,hz⟩:=I4.tuple hx;have hlen:=r.length;show wpAny (model X.prog X.w) X.A (subscriptTail e (.Slice none none (some st) p2) (.ref a) (.ref s3.heap.objs.size)) (EP X pins Z Q) X.xe { s3 with heap:=s3.heap.push { cls:=.type "slice",data:=.fields #[.none,.none,vs]}};refine tail_any (T:="tuple") (ops:=[.ref a,.ref s3.heap.objs.size]) ht.typeIs Ww.lookup ?_ (by with_unfolding_all rfl);refine ji ht (Heap.IsSliceOf.new ..) ps ?_ (by omega);refine⟨.ref (s3.heap.push { cls:=.type "slice",data:=.fields #[.none,.none,vs]}).objs.size,_,I4.laid (t':=s3.toks) (o:=.tup xs.reverse) (fun b ob q=>e_ _ q) (j_ _) ?_,rfl,q _ (I4.hok.fresh (j_ _))⟩;exact⟨by simpa using hz,its.reverse,r.reverse,Tup0.new _ _⟩
def rvT (x:T) (o:Option Int) (H:Hp3) (Q:VK3):Prop:=match x with
 |.tup ts=>o=some (-1)/\Q (.tup ts.reverse) H
 |_=>False
def Bo (te:TE3) (ts:TO3):TE3:=fun Z H Q=>te Z H fun x H1=>ts Z H1 fun o H2=>rvT x o H2 Q
theorem Bp (te:TE3) (ts:TO3) {Z:St3}{H:Hp3}{Q:VK3}:Bo te ts Z H Q=te Z H fun x H1=>ts Z H1 fun o H2=>rvT x o H2 Q:=rfl
theorem Bq (xs:List T) (o:Option Int) {H:Hp3}{Q:VK3}:rvT (.tup xs) o H Q=(o=some (-1)/\Q (.tup xs.reverse) H):=rfl
theorem GJ {te:TE3}{ts:TO3}(he:PE3 X e te) (hs:PO3 X (some st) ts):PE3 X (.Subscript e (.Slice none none (some st) p2) pos) (Bo te ts):=by
 refine PE.imp (GF he hs) ?_;rintro Z H Q ⟨Z3,H3,Q3,ss,sh,h,k⟩;refine⟨Z3,H3,_,ss,sh,h,fun x H1 tx H31 le1 sh1 rx q1=>⟨Z3,H31,_,ss.mono le1,sh1,q1,fun o H2 H32 le2 sh2 q2=>?_⟩⟩;cases tx with
 |tup ts=>rw[Bq] at q2;obtain⟨a,xs,rfl,sq,r⟩:=(rx.mono le2).tup;exact⟨q2.1,a,xs,rfl,sq,fun p hp=>k _ _ _ _ (le1.trans (le2.trans (aJ hp))) (sh2.new hp) (SimH.newTup (H3:=H32) hp r.reverse) q2.2⟩
 |_=>exact q2.elim
variable {p1 pos':Pos}
variable {l:Addr}{xs:Array (Int × Tok)}
def N8:List T->Hp3->VK3->Prop:=fun ts H Q=>match ts with
 |[.tup xs]=>oq (ints3 xs) fun ns=>Q (.int ns.sum) H
 |_=>False
theorem Oa (xs:List T) (H:Hp3) (Q:VK3):N8 [.tup xs] H Q=oq (ints3 xs) fun ns=>Q (.int ns.sum) H:=rfl
def isN:T->Bool
 |.non=>true
 |_=>false
def TV:R3:=fun x y H Q=>match y with
 |.non=>Q (.bl (isN x)) H
 |_=>False
theorem Wi (x:T) (H:Hp3) (Q:VK3):TV x .non H Q=Q (.bl (isN x)) H:=rfl
theorem GK:isN .non=true:=rfl
theorem GP (i:Int):isN (.int i)=false:=rfl
theorem GQ (x:Str):isN (.str x)=false:=rfl
theorem GR (ts:List T):isN (.tup ts)=false:=rfl
theorem Ob (b:Bool):isN (.bl b)=false:=rfl
theorem TX:eU X (compareOp .Is) TV:=by
 refine OpR.imp La ?_;rintro x y H Q ⟨tx,ty,H3,Q3,rx,ry,sh,h,k⟩;cases ty with
 |non =>
  refine⟨ry.non,?_⟩;have e:decide (x=.non)=isN tx:=by
   cases tx with
   |non=>rw[rx.non];rfl
   |int i=>rw[rx.int];rfl
   |str i=>rw[rx.str];rfl
   |bl i=>rw[rx.bl];rfl
   |ref a=>rw[rx.ref];rfl
   |tup ts=>obtain⟨a,vs,rfl,_⟩:=rx.tup;rfl
   |ty n=>rw[rx.ty];rfl
  rw[e];exact k _ _ _ _ .refl sh .ofBl h
 |_=>exact h.elim
end
end L3
namespace L2
section
variable {X:Cx}{a b:Expr}{rest:List Expr}{ta tb:TE}{pos:Pos}
end
end L2
namespace L3
open L2
section
variable {X:Cx}{a b:Expr}{rest:List Expr}{ta tb:TE3}{pos:Pos}
end
end L3
namespace L2
section
variable {prog:Program}{w:World}{K:Type} [DecidableEq K] {knd:KeyKind prog w K}
end
end L2
namespace L3
open L2
section
variable {X:Cx}
def Oc:R3:=fun x y H Q=>match x,y with
 |.non,.non=>Q (.bl false) H
 |_,_=>False
theorem Od (H:Hp3) (Q:VK3):Oc .non .non H Q=Q (.bl false) H:=rfl
variable {pins:List (Addr × Obj)}{Z:L2.St}{H:Hp}{s:Shared}{a:Addr}
theorem Inv.freeze {kvs:List (Key × V)}(I:Inv X pins Z H s) (e:H a=some (.dK kvs)):∃o,s.heap.get? a=some o/\Inv X pins Z (upd H a (.frz o (.dK kvs))) s:=by
 have z:=I.hok a _ e;obtain⟨z1,z2,vs,rel,o,es,ep,ho,ex,r⟩:=id (show ObjOk X.prog X.w H s.heap a (.dK kvs) from z);have ne:∀b u,H b=some u->(∀ks,u≠.dK ks)->b≠a:=fun b u q n w=>by subst w;rw[e] at q;cases q;exact n _ rfl
 refine⟨o,ho,?_⟩;have:=I.step (h':=s.heap) (g':=s.gens) (d':=s.drawn) (t':=s.toks) (H':=upd H a (.frz o (.dK kvs))) (ch:=[]) (fun _ z=>nomatch z) (fun b o _ _ _ q _=>q) (fun b o _ _ _ q _=>⟨_,q⟩)
  (fun b o _ _ n=>by rw[aO (fun w=>by subst w;rw[e] at n;cases n)];exact n) (fun b o _ q=>⟨_,q⟩)
  (fun b xs q=>by rw[aO (ne b _ q fun _=>nofun)];exact q) (fun b o u q=>by rw[aO (ne b _ q fun _=>nofun)];exact q)
  (fun b ps q=>⟨#[],by rw[aO (ne b _ q fun _=>nofun),Array.append_empty];exact q⟩) (fun _ q=>q) (fun b u q=>?_) I.bare
 ·exact this
 by_cases hb:b=a
 ·subst hb;rw[bM] at q;cases q;exact⟨ho,z1,z2,vs,rel,o,es,ep,ho,ex,r⟩
 rw[aO hb] at q;exact (I.hok b u q).stay (fun _ _ _ r=>r) (fun c r=>by rw[aO (ne c _ r fun _=>nofun)];exact r) fun c xs r=>by rw[aO (ne c _ r fun _=>nofun)];exact r
end
theorem TY {P:Program}{w:World}{k:Key}{u:Value}(h:(bx P w).is k u=true):RelV (kV k) u:=by
 rcases bB h with ⟨i,t,e1,e2⟩ | ⟨y,t,e1,e2⟩
 ·subst e1 e2;exact⟨t,rfl⟩
 subst e1 e2;exact⟨t,rfl⟩
theorem iY {α β:Type}{F:α->β->Prop}:∀{l₁:List α}{l₂:List β}{i:Nat}{x:α},Paired F l₁ l₂->l₁[i]?=some x->∃y,l₂[i]?=some y/\F x y
 |_,_,i,x,.nil,e=>by simp at e
 |_,_,0,x,.cons (b:=b) h t,e=>by simp at e;subst e;exact⟨b,rfl,h⟩
 |_,_,i+1,x,.cons h t,e=>by simpa using iY t (by simpa using e)
def Iti (d:Addr) (o:Obj):It :=
 ⟨fun i H=>∃kvs kv,H d=some (.frz o (.dK kvs))/\kvs[i]?=some kv,
  fun i H v H'=>∃p k x,v=.ref p/\H p=none/\H'=upd H p (.tup [kV k,x])/\∀kvs,H d=some (.frz o (.dK kvs))->kvs[i]?=some (k,x),
  fun i H=>∃kvs,H d=some (.frz o (.dK kvs))/\kvs.length<=i⟩
theorem ym:entryFor table "dict_itemiterator.__iter__"=some Builtin.«dict_keyiterator.__iter__» :=
 entryFor_alias (id':="dict_keyiterator.__iter__") (by kernel_rfl) rfl (by decide +kernel) (by kernel_rfl)
theorem Br {X:Cx}{pins:List (Addr × Obj)}{Z:L2.St}{H:Hp}{s:Shared}{d:Addr}{o:Obj}{kvs:List (Key × V)}{es:Array DictEntry}{ep:Nat}(I:Inv X pins Z H s) (e:H d=some (.frz o (.dK kvs))) (hd:o.data=.dict es ep) :
  ∃vs,KV kvs vs/\s.heap.DictAt (bx X.prog X.w) d vs ep/\vs.length=es.size:=by
 obtain⟨ho,_,_,vs,rel,o',es',ep',ho',ex,hd',hk,hp,hn⟩:=(show ObjOk X.prog X.w H s.heap d (.frz o (.dK kvs)) from I.hok d _ e);rw[ho] at ho';cases ho';rw[hd] at hd';cases hd';exact⟨vs,rel,⟨o,es,ho,ex,hd,hk,hp,hn⟩,by rw[<- hp.length];simp⟩
theorem uN {P:Program}{w:World}{K:Frag}{elts:List Expr}{x1:Nat}{pos:Pos}(d it:Addr) (o:Obj) (es:Array DictEntry) (ep:Nat) (hd:o.data=.dict es ep) :
  Turn P w K (.Tuple elts x1 pos) (Iti d o) [it] it (fun i h=>∃ok ov,IsItemIter h it d i es.size ep ok ov) where
 mem:=k_
 obj:=fun i h st c hc=>by
  obtain⟨ok,ov,he⟩:=st
  rw[q_.mp hc]
  exact⟨_,he,fun v z=>by cases z⟩
 keep:=fun i h h' st k=>by
  obtain⟨ok,ov,he⟩:=st
  exact⟨ok,ov,k it (by simp) _ he⟩
 item:=by
  intro X hP hw hK hc i pins s Z H E I hf st hg
  subst hP hw hK
  obtain⟨kvs,⟨k,x⟩,hq,hx⟩:=hg
  obtain⟨ok,ov,he⟩:=st
  obtain⟨vs,rel,hm,hsz0⟩:=Br I hq hd
  obtain⟨⟨k',u⟩,hu,ek,ru⟩:∃q,vs[i]?=some q/\k=q.1/\RelV x q.2:=iY rel hx
  subst ek
  rw[<- hsz0] at he
  refine wpAny_pyNext_items_item he hm hu fun key h' hk ho hT hsz kp=>?_
  refine⟨_,rfl,wpAny_letOwnedTupleGo_items ho fun h2' hz2' sb=>?_⟩
  have lt:∀{c o},s.heap.get? c=some o->s.heap.objs.size≠c:=fun q=>Wx (y_ q)
  have hTe:s.heap.objs.size≠it:=lt he
  have lt1:∀{c:Addr},c∈[it]->c≠s.heap.objs.size:=fun {c} hc=>by rw[q_.mp hc];exact Ne.symm hTe
  have kp2:∀c o,c∉[it]->s.heap.get? c=some o->h2'.get? c=some o:=fun c o nc q=>(sb.2 c fun z=>nc (z▸k_)).trans (kp c o (fun z=>nc (z▸k_)) q)
  have I1:Inv X pins Z (upd H s.heap.objs.size (.tup [kV k,x])) { s with heap:=s.heap.push { cls:=.type "tuple",data:=.seq #[key,u]},toks:=s.toks} :=
   I.laid (t':=s.toks) (fun b o q=>e_ _ q) (j_ _) (show ObjOk X.prog X.w _ _ _ (.tup [kV k,x]) from ⟨by show 2<=sizeLine;decide,[key,u],.cons (TY hk) (.cons ru .nil),Tup0.new _ _⟩)
  have I2:Inv X pins Z (upd H s.heap.objs.size (.tup [kV k,x])) { s with heap:=h2'}:=fj (s:={ s with heap:=s.heap.push { cls:=.type "tuple",data:=.seq #[key,u]}}) (ch:=[it]) (t':=s.toks) I1 (fun c o nc q=>by
   by_cases z:c=s.heap.objs.size
   ·
    subst z
    have q':(s.heap.push { cls:=.type "tuple",data:=.seq #[key,u]}).get? s.heap.objs.size=some o:=q
    rw[u_ _ rfl] at q'
    cases q'
    exact (sb.2 _ hTe).trans hT
   ·
    have q':(s.heap.push { cls:=.type "tuple",data:=.seq #[key,u]}).get? c=some o:=q
    rw[Zo _ _ _ z] at q'
    exact kp2 c o nc q') fun c hc=>⟨by rw[aO (lt1 hc)];exact (hf c hc).1,(hf c hc).2⟩
  refine⟨.ref s.heap.objs.size,_,I2,rfl,⟨s.heap.objs.size,k,x,rfl,I.hok.fresh (j_ _),rfl,fun zs hq'=>by rw[hq] at hq';cases hq';exact hx⟩,⟨key,u,?_⟩,fun c hc=>by rw[aO (lt1 hc)];exact (hf c hc).1⟩
  rw[<- hsz0]
  exact hz2'
 done:=by
  intro X hP hw hK hc i pins s Z H E I hf st hg
  subst hP hw hK
  obtain⟨kvs,hq,hx⟩:=hg
  obtain⟨ok,ov,he⟩:=st
  obtain⟨vs,rel,hm,hsz0⟩:=Br I hq hd
  have hl:=rel.length
  rw[<- hsz0] at he
  exact wpAny_pyNext_items_end (I.ok.hd hc) he hm (J_ (by omega)) fun h' eb=>⟨rfl,fj (ch:=[it]) (t':=s.toks) I (fun b o nb q=>eb b o (fun z=>nb (by simp [z])) q) hf⟩
 self:=fun A i s Q E st h=>by
  obtain⟨ok,ov,he⟩:=st
  have hT:s.TypeIs (.ref it) "dict_itemiterator":=⟨_,he,rfl⟩
  refine wpAny_pyIter_slot hT PySem.F.slot_dict_itemiterator_iter (Xp PySem.F.slot_dict_itemiterator_iter hT ym ?_ (PySem.F.args_dict_itemiterator_iter_1 _))
  show wpAny _ _ (ret (.ref it)) _ _ s
  exact m_ ⟨_,rfl,"dict_itemiterator",_,hT,PySem.F.slot_dict_itemiterator_next.lookup,h⟩
section
variable {X:Cx}{elts:List Expr}{x1:Nat}{tpos pos apos cpos:Pos}{e:Expr}
def Oe (te:TE):TI:=fun Z H R=>te Z H fun x H1=>∃a kvs,x=.ref a/\H1 a=some (.dK kvs)/\∀o,R (Iti a o) (upd H1 a (.frz o (.dK kvs)))
theorem Bs {te:TE}(he:PE X e te) (hbase:attributeBase e "items" X.env (eval e X.env)=eval e X.env:=by rfl) (hline:(apos.endLine==cpos.line)=true:=by rfl) :
  PI X (.Tuple elts x1 tpos) (.Call (.Attribute e "items" apos) [] [] cpos) (Oe te):=by
 intro pins s Z H R I h;refine wpAny_Call_method0_late hbase hline (thn (he pins s Z H _ I h) fun v s1 ⟨x,H1,I1,r1,a,kvs,ea,hl,q⟩=>?_);subst ea;cases r1;obtain⟨z,hsys,vs,rel,dd⟩:=qD I1.hok hl;obtain⟨o,ho,I2⟩:=Inv.freeze I1 hl;obtain⟨t1,t2,_⟩:=zq I1 (a:=a) (.inl ⟨kvs,.inl hl⟩);refine⟨"dict","dict.items",PySem.F.plainAttrs_dict,PySem.F.slot_dict_items,PySem.F.type_dict_items,t1,t2,YT rfl (PySem.evalArgs_none (call_meetsIn PySem.F.slot_dict_items t1 PySem.F.entry_dict_items (PySem.F.args_dict_items_1 _) (meets_dict_items (bx X.prog X.w) a hsys) ⟨⟨vs,dd⟩,?_⟩))⟩;obtain⟨o',es,ep,ho',ex,hd',hk,hp,hn⟩:=id dd;rw[ho] at ho';cases ho';have hsz:es.size=vs.length:=by rw[<- hp.length];simp
 have I3:Inv X pins Z (upd H1 a (.frz o (.dK kvs))) { s1 with heap:=s1.heap.push { cls:=.type "dict_items",data:=.fields #[.ref a]}}:=I2.kept (t':=s1.toks) fun b o q=>e_ _ q;refine wpAny_pyIter_items (knd:=bx X.prog X.w) (d:=a) (kvs:=vs) (ep:=ep) ⟨_,u_ _ rfl,rfl,rfl⟩ ⟨o,es,e_ _ ho,ex,hd',hk,hp,hn⟩ ?_;refine⟨_,[_],_,Iti a o,_,rfl,I3.kept (t':=s1.toks) fun b o q=>e_ _ q,uN a _ o es ep hd',⟨.none,.none,?_⟩,fun c hc=>?_,q o⟩
 ·rw[hsz];exact u_ _ rfl
 rw[q_.mp hc];exact I3.fpOk (j_ _) (I3.hok.fresh (j_ _))
variable {o f:Expr}{td ty tx:TE}
def T3 (td ty tx:TE):TE:=fun Z H Q=>td Z H fun x H1=>∃a,x=.ref a/\IsD H1 a/\ty Z H1 fun y H2=>tx Z H2 fun z H3=>∃kvs k,H3 a=some (.dK kvs)/\y=kV k/\kvs.length<sizeLine /\
 (∀v,eN kvs k=some v->Q v H3)/\(eN kvs k=none->Q z (upd H3 a (.dK (putK kvs k z))))
theorem GX (ho:PE X o td) (he:PE X e ty) (hf:PE X f tx) (m:M2 X o "setdefault" apos e f cpos):PE X (.Call (.Attribute o "setdefault" apos) [e,f] [] cpos) (T3 td ty tx):=by
 intro pins s Z H Q I h;refine wpAny_Call_method m.base m.few m.line PySem.F.plainAttrs_dict PySem.F.slot_dict_setdefault PySem.F.type_dict_setdefault (thn (ho pins s Z H _ I h) fun u s1 ⟨x,H1,I1,rx,a,ex,d,q1⟩=>?_);subst ex;obtain rfl:u=Value.ref a:=rx;obtain⟨t1,t2,_⟩:=zq I1 d;refine⟨t1,t2,?_⟩;rw[m.trees];refine YT rfl (Calls.evalArgs_plain (X5 (thn (he pins s1 Z H1 _ I1 q1) fun iv s2 ⟨y,H2,I2,ry,q2⟩ =>
  X5 (thn (hf pins s2 Z H2 _ I2 q2) fun fv s3 ⟨z,H3,I3,rz,kvs,k,ea,ey,l,q3,q4⟩=>Yz ?_))))
 subst ey;obtain⟨zl,hd,vs,rel,dd⟩:=qD I3.hok ea;have rv:=rel.val k;refine call_meetsIn PySem.F.slot_dict_setdefault dd.typeIs PySem.F.entry_dict_setdefault (PySem.F.args_dict_setdefault_3 _ _ _) (kt_meets_setdefault (bx X.prog X.w) a (kW ry) hd fv) ⟨vs,dd,by rw[<- rel.length];exact zl,fun v hv=>?_,fun hn h' dd' hs=>?_⟩
 ·cases hvv:eN kvs k with
  |none=>rw[hvv,hv] at rv;exact (show False from rv).elim
  |some w =>
  rw[hvv,hv] at rv;exact⟨w,H3,I3.tok _,rv,q3 w hvv⟩
 have hvv:eN kvs k=none:=by
  cases hvv:eN kvs k with
  |none=>rfl
  |some w=>rw[hvv,hn] at rv;exact (show False from rv).elim
 have he:∃q,h'.get? a=some q:=let ⟨q,_,_,hq,_⟩:=dd';⟨q,hq⟩;have hl:(putK kvs k z).length<=sizeLine:=by have:=eZ kvs k z;omega
 exact⟨z,_,j4 I3 (by rw[ea];exact True.intro) hs he (uf hl hd (rel.put k rz) dd'),rz,q4 hvv⟩
end
def cU (k:Int):List (Int × T)->Option T
 |[]=>none
 | (k',v)::r=>if k'=k then some v else cU k r
def pI (k:Int) (v:T) (kvs:List (Int × T)):List (Int × T) :=
 if (kvs.any fun kv=>decide (kv.1=k))=true then kvs.map (fun kv=>if kv.1=k then (kv.1,v) else kv) else kvs++[(k,v)]
theorem ir {K:Frag}{H:Hp}{k:Int}:∀{kvs:List (Int × T)}{vs:List (Key × V)}{t:T},RepI K H kvs vs->cU k kvs=some t->∃v,eN vs (Sum.inl k:Key)=some v/\Rep K H t v
 |[],_,_,_,e=>by cases e
 | (k',t')::r,_,t,.cons (b:=(kk,v')) ⟨e1,rv⟩ rr,e=>by
  simp only at e1 rv
  subst e1
  unfold cU at e
  by_cases hk:k'=k
  ·
   rw[if_pos hk] at e
   cases e
   exact⟨v',by rw[eO (by rw[hk])],rv⟩
  ·
   rw[if_neg hk] at e
   obtain⟨v,ev,q⟩:=ir rr e
   exact⟨v,by rw[eQ (by intro z;exact hk (Sum.inl.inj z))];exact ev,q⟩
theorem gG {K:Frag}{H:Hp}{k:Int}:∀{kvs:List (Int × T)}{vs:List (Key × V)},RepI K H kvs vs->(eN vs (Sum.inl k:Key)).isSome=(cU k kvs).isSome
 |[],_,.nil=>rfl
 | (k',t')::r,_,.cons (b:=(kk,v')) ⟨e1,rv⟩ rr=>by
  simp only at e1 rv
  subst e1
  unfold cU
  by_cases hk:k'=k
  ·
   rw[if_pos hk,eO (by rw[hk])];rfl
  ·
   rw[if_neg hk,eQ (by intro z;exact hk (Sum.inl.inj z))]
   exact gG rr
theorem Bt {K:Frag}{H:Hp}{k:Int}{t:T}{v:V}(rv:Rep K H t v) {kvs:List (Int × T)}{vs:List (Key × V)}(r:RepI K H kvs vs):RepI K H (pI k t kvs) (putK vs (Sum.inl k:Key) v):=by
 have e:∀{kvs:List (Int × T)} {vs:List (Key × V)},RepI K H kvs vs->(kvs.any fun kv=>decide (kv.1=k))=(vs.any fun kv=>decide (kv.1=(Sum.inl k:Key)))/\RepI K H (kvs.map (fun kv=>if kv.1=k then (kv.1,t) else kv)) (vs.map (fun kv=>if kv.1=(Sum.inl k:Key) then (kv.1,v) else kv)):=by
  intro kvs;induction kvs with
  |nil=>intro vs r;cases r;exact⟨rfl,.nil⟩
  |cons p l ih =>
  intro vs r;cases r with
  |cons q rr =>
  rename_i b l2;obtain⟨e1,e2⟩:=ih rr;obtain⟨q1,q2⟩:=q;obtain⟨bk,bv⟩:=b;simp only at q1 q2;subst q1;by_cases hk:p.1=k
  ·refine⟨by simp [hk],?_⟩;simp only[I_,hk,if_true];exact .cons ⟨rfl,rv⟩ e2
  have hk':¬(Sum.inl p.1:Key)=Sum.inl k:=fun z=>hk (Sum.inl.inj z);refine⟨by simp only[Ze,hk,hk',XQ,Bool.false_or];exact e1,?_⟩;simp only[I_,hk,hk',Wt];exact .cons ⟨rfl,q2⟩ e2
 obtain⟨e1,e2⟩:=e r;unfold pI putK;rw[e1];split
 ·exact e2
 exact Paired.snoc r ⟨rfl,rv⟩
section
variable {K:Frag}{H:Hp}{H3:Hp3}{a p:Addr}
theorem SimH.wrI {kv kv':List (Key × V)}{kvs:List (Int × T)}(s:SimH K H3 H) (hH:H a=some (.dK kv)) (r:RepI K H kvs kv'):SimH K (up3 H3 a (.dci kvs)) (upd H a (.dK kv')):=fun b o e=>by
 have le:TupLe K H (upd H a (.dK kv')):=bT (by rw[hH];exact trivial);by_cases hb:b=a
 ·subst hb;rw[aq] at e;cases e;exact⟨kv',bM,r.mono le⟩
 rw[aD hb] at e;exact (s b o e).stay le fun u q=>by rw[aO hb];exact q
theorem SimH.newI (s:SimH K H3 H) (hp:H p=none):SimH K (up3 H3 p (.dci [])) (upd H p (.dK [])):=fun a o e=>by
 by_cases ha:a=p
 ·subst ha;rw[aq] at e;cases e;exact⟨[],bM,.nil⟩
 rw[aD ha] at e;exact s.new hp a o e
theorem SimH.frzI {kv:List (Key × V)}{kvs:List (Int × T)}{o:Obj}(s:SimH K H3 H) (hH:H a=some (.dK kv)) (r:RepI K H kvs kv):SimH K (up3 H3 a (.dif o kvs)) (upd H a (.frz o (.dK kv))):=fun b u e=>by
 have le:TupLe K H (upd H a (.frz o (.dK kv))):=bT (by rw[hH];exact trivial);by_cases hb:b=a
 ·subst hb;rw[aq] at e;cases e;exact⟨kv,bM,r.mono le⟩
 rw[aD hb] at e;exact (s b u e).stay le fun u q=>by rw[aO hb];exact q
end
section
variable {X:Cx}{o i e f value k v:Expr}{td ty tv tx ti tk:TE3}{pos pos' apos cpos tpos:Pos}{elts:List Expr}{x1:Nat}{Z:St3}{H:Hp3}{Q:VK3}
def wG:TE3:=fun _ H Q=>∀p,H p=none->Q (.ref p) (up3 H p (.dci []))
theorem Bu:PE3 X (.Dict [] [] pos) wG:=by
 refine PE.imp qH ?_;rintro Z H Q ⟨Z3,H3,Q3,ss,sh,h,k⟩ p hp;exact k _ _ _ _ (aJ hp) (sh.newI hp) .ofRef (h p (sh.fresh hp))
def d1i (y:T) (p:Addr) (v:T) (H:Hp3) (Q:VK3):Prop:=match y with
 |.int k=>H p=some (.dci [])/\Q (.ref p) (up3 H p (.dci [(k,v)]))
 |_=>False
def pJ (tk tv:TE3):TE3:=fun Z H Q=>∀p,H p=none->tk Z (up3 H p (.dci [])) fun y H1=>tv Z H1 fun v H2=>d1i y p v H2 Q
theorem T4 (x:Int) (p:Addr) (v:T):d1i (.int x) p v H Q=(H p=some (.dci [])/\Q (.ref p) (up3 H p (.dci [(x,v)]))):=rfl
theorem yo (hk:PE3 X k tk) (hv:PE3 X v tv):PE3 X (.Dict [some k] [v] pos) (pJ tk tv):=by
 refine PE.imp (vM (qI hk hv vL) rfl rfl (by simp) (by show 1<=15;decide)) ?_;rintro Z H Q ⟨Z3,H3,Q3,ss,sh,h,k⟩ p hp;have le0:TupLe X.K H (upd H p (.dK [])):=aJ hp;refine⟨Z3,up3 H3 p (.dci []),_,ss.mono le0,sh.newI hp,h p (sh.fresh hp),fun y H1 ty H31 le1 sh1 ry q1=>?_⟩;refine⟨Z3,H31,_,ss.mono (le0.trans le1),sh1,q1,fun z H2 tz H32 le2 sh2 rz q2=>?_⟩;cases ty with
 |int key =>
  have h':H32 p=some (.dci [])/\Q3 (.ref p) (up3 H32 p (.dci [(key,tz)])):=q2
  obtain⟨ws,hH,r⟩:=sh2 p _ h'.1
  cases r
  refine⟨hH,[(Sum.inl key,z)],by rw[(ry.mono le2).int];rfl,by show 1<=15;decide,?_⟩
  have e:iK [] [((Sum.inl key:Key),z)]=[((Sum.inl key:Key),z)]:=rfl
  rw[e]
  exact k _ _ _ _ (le0.trans (le1.trans (le2.trans (bT (by rw[hH];exact trivial))))) (sh2.wrI hH (.cons ⟨rfl,rz⟩ .nil)) .ofRef h'.2
 |_=>exact q2.elim
def dgI (o:Option O3) (k:Int) (H:Hp3) (Q:VK3):Prop:=match o with
 |some (.dci kvs)=>oq (cU k kvs) fun t=>Q t H
 |some (.dif _ kvs)=>oq (cU k kvs) fun t=>Q t H
 |_=>False
def T5:R3:=fun x y H Q=>match x,y with
 |.ref a,.int k=>dgI (H a) k H Q
 |_,_=>False
theorem Wj (a:Addr) (k:Int):T5 (.ref a) (.int k) H Q=dgI (H a) k H Q:=rfl
theorem JQ (kvs:List (Int × T)) (k:Int):dgI (some (.dci kvs)) k H Q=oq (cU k kvs) fun t=>Q t H:=rfl
theorem Bv (o:Obj) (kvs:List (Int × T)) (k:Int):dgI (some (.dif o kvs)) k H Q=oq (cU k kvs) fun t=>Q t H:=rfl
theorem Bw {to:TE3}(hu:X.A.units+1<cLine) (ho:PE3 X o to) (hi:PE3 X i ti) (hs:Fj i:=by exact fun _ _=>rfl):PE3 X (.Subscript o i pos) (qL T5 to ti):=by
 refine PE.imp (vK hu ho hi hs) ?_;rintro Z H Q ⟨Z3,H3,Q3,ss,sh,h,k⟩;refine⟨Z3,H3,_,ss,sh,h,fun x H1 tx H31 le1 sh1 rx q1=>⟨Z3,H31,_,ss.mono le1,sh1,q1,fun y H2 ty H32 le2 sh2 ry q2=>?_⟩⟩;cases tx with
 |ref a =>
  cases ty with
  |int key =>
   have h':dgI (H32 a) key H32 Q3:=q2
   cases e:H32 a with
   |none=>rw[e] at h';exact h'.elim
   |some ob =>
    rw[e] at h'
    cases ob with
    |dci kvs =>
     rw[JQ] at h'
     obtain⟨vs,hH,r⟩:=sh2 a _ e
     cases el:cU key kvs with
     |none=>rw[el] at h';exact h'.elim
     |some t =>
      rw[el] at h'
      obtain⟨v,ev,rv⟩:=ir r el
      refine⟨a,v,rx.ref,?_,k.at (le1.trans le2) _ _ _ _ .refl sh2 rv h'⟩
      rw[ry.int,<- ev]
      exact DGet.k (k:=Sum.inl key) hH
    |dif oo kvs =>
     rw[Bv] at h'
     obtain⟨vs,hH,r⟩:=sh2 a _ e
     cases el:cU key kvs with
     |none=>rw[el] at h';exact h'.elim
     |some t =>
      rw[el] at h'
      obtain⟨v,ev,rv⟩:=ir r el
      refine⟨a,v,rx.ref,?_,k.at (le1.trans le2) _ _ _ _ .refl sh2 rv h'⟩
      rw[ry.int,<- ev]
      exact .inl ⟨vs,Sum.inl key,.inr ⟨_,hH⟩,rfl,rfl⟩
    |_=>exact h'.elim
  |_=>exact q2.elim
 |_=>exact q2.elim
def dpI (x y v:T) (H:Hp3) (Q:Hp3->Prop):Prop:=match x,y with
 |.ref a,.int k=>match H a with
  |some (.dci kvs)=>kvs.length<sizeLine/\Q (up3 H a (.dci (pI k v kvs)))
  |_=>False
 |_,_=>False
def T6 (o:Option O3) (a:Addr) (k:Int) (v:T) (H:Hp3) (Q:Hp3->Prop):Prop:=match o with
 |some (.dci kvs)=>kvs.length<sizeLine/\Q (up3 H a (.dci (pI k v kvs)))
 |_=>False
def GZ (td ty tv:TE3):TS3:=fun D Z H=>tv Z H fun v H1=>td Z H1 fun x H2=>ty Z H2 fun y H3=>dpI x y v H3 fun H4=>D.nx Z H4
theorem T7 (a:Addr) (k:Int) (v:T) (Q:Hp3->Prop):dpI (.ref a) (.int k) v H Q=T6 (H a) a k v H Q:=rfl
theorem Og (kvs:List (Int × T)) (a:Addr) (k:Int) (v:T) (Q:Hp3->Prop):T6 (some (.dci kvs)) a k v H Q=(kvs.length<sizeLine/\Q (up3 H a (.dci (pI k v kvs)))):=rfl
def diI (neg:Bool) (y:T) (o:Option O3) (H:Hp3) (Q:VK3):Prop:=match y,o with
 |.int k,some (.dci kvs)=>Q (.bl (if neg then !(cU k kvs).isSome else (cU k kvs).isSome)) H
 |_,_=>False
def Oh (neg:Bool) (y x:T) (H:Hp3) (Q:VK3):Prop:=match x with
 |.ref a=>diI neg y (H a) H Q
 |_=>False
def Bx (neg:Bool) (ti to:TE3):TE3:=fun Z H Q=>ti Z H fun y H1=>to Z H1 fun x H2=>Oh neg y x H2 Q
theorem Oi (neg:Bool) (y:T) (a:Addr):Oh neg y (.ref a) H Q=diI neg y (H a) H Q:=rfl
theorem T8 (neg:Bool) (k:Int) (kvs:List (Int × T)):diI neg (.int k) (some (.dci kvs)) H Q=Q (.bl (if neg then !(cU k kvs).isSome else (cU k kvs).isSome)) H:=rfl
theorem By {neg:Bool}{H:Hp}{H3:Hp3}{x y:V}{tx ty:T}{Q3:VK3}(sh:SimH X.K H3 H) (rx:Rep X.K H tx x) (ry:Rep X.K H ty y) (q:Oh neg ty tx H3 Q3) :
  ∃a ov b,x=.ref a/\DGet H a y ov/\(if neg then !ov.isSome else ov.isSome)=b/\Q3 (.bl b) H3:=by
 cases tx with
 |ref a =>
  have h':diI neg ty (H3 a) H3 Q3:=q
  cases ty with
  |int k =>
   cases e:H3 a with
   |none=>rw[e] at h';exact h'.elim
   |some ob =>
    rw[e] at h'
    cases ob with
    |dci kvs =>
     obtain⟨ws,hH,r⟩:=sh a _ e
     refine⟨a,eN ws (Sum.inl k:Key),_,rx.ref,by rw[ry.int];exact DGet.k (k:=Sum.inl k) hH,rfl,?_⟩
     rw[gG r]
     exact h'
    |_=>exact h'.elim
  |_=>exact h'.elim
 |_=>exact q.elim
theorem uO (hu:X.A.units+1<cLine) (hi:PE3 X i ti) (ho:PE3 X o td) (hm:behindInMarks .NotIn o=false:=by rfl):PT3 X (.Compare i [.NotIn] [o] pos) (jy (Bx true ti td)):=by
 refine PT.imp (tL (nA hu hi ho) hm) ?_;rintro Z H Q ⟨Z3,H3,Q3,ss,sh,h,k⟩;refine⟨Z3,H3,_,ss,sh,h,fun y H1 ty H31 le1 sh1 ry q1=>⟨Z3,H31,_,ss.mono le1,sh1,q1,fun x H2 tx H32 le2 sh2 rx q2=>?_⟩⟩;obtain⟨a,ov,b,e,g,eb,q⟩:=By sh2 rx (ry.mono le2) q2;exact⟨a,ov,e,g,by rw[show (!ov.isSome)=b from eb];exact⟨b,rfl,k _ _ _ (le1.trans le2) sh2 q⟩⟩
def sdO (o:Option O3) (a:Addr) (k:Int) (v:T) (H:Hp3) (Q:VK3):Prop:=match o with
 |some (.dci kvs)=>kvs.length<sizeLine/\match cU k kvs with
  |some t=>Q t H
  |none=>Q v (up3 H a (.dci (pI k v kvs)))
 |_=>False
def sdq (x y v:T) (H:Hp3) (Q:VK3):Prop:=match x,y with
 |.ref a,.int k=>sdO (H a) a k v H Q
 |_,_=>False
def Oj (o:Option O3):Prop:=match o with
 |some (.dci _)=>True
 |_=>False
def T9 (x:T) (H:Hp3):Prop:=match x with
 |.ref a=>Oj (H a)
 |_=>False
def BJ (td ty tv:TE3):TE3:=fun Z H Q=>td Z H fun x H1=>T9 x H1/\ty Z H1 fun y H2=>tv Z H2 fun v H3=>sdq x y v H3 Q
theorem uP (a:Addr):T9 (.ref a) H=Oj (H a):=rfl
theorem Ol (kvs:List (Int × T)):Oj (some (.dci kvs))=True:=rfl
theorem JR (a:Addr) (k:Int) (v:T):sdq (.ref a) (.int k) v H Q=sdO (H a) a k v H Q:=rfl
theorem JS (kvs:List (Int × T)) (a:Addr) (k:Int) (v:T):sdO (some (.dci kvs)) a k v H Q=(kvs.length<sizeLine/\match cU k kvs with
  |some t=>Q t H
  |none=>Q v (up3 H a (.dci (pI k v kvs)))):=rfl
theorem G4 (ho:PE3 X o td) (he:PE3 X e ty) (hf:PE3 X f tv) (m:M2 X o "setdefault" apos e f cpos:=by exact⟨rfl,rfl,rfl,rfl⟩):PE3 X (.Call (.Attribute o "setdefault" apos) [e,f] [] cpos) (BJ td ty tv):=by
 refine PE.imp (GX ho he hf m) ?_;rintro Z H Q ⟨Z3,H3,Q3,ss,sh,h,k⟩;refine⟨Z3,H3,_,ss,sh,h,fun x H1 tx H31 le1 sh1 rx q1=>?_⟩;obtain⟨d1,q1⟩:=q1;cases tx with
 |ref a =>
  cases e1:H31 a with
  |none=>rw[uP,e1] at d1;exact d1.elim
  |some ob =>
  rw[uP,e1] at d1;cases ob with
  |dci kvs0 =>
   obtain⟨vs0,hH0,_⟩:=sh1 a _ e1;refine⟨a,rx.ref,.inl ⟨vs0,.inl hH0⟩,Z3,H31,_,ss.mono le1,sh1,q1,fun y H2 ty H32 le2 sh2 ry q2=>⟨Z3,H32,_,ss.mono (le1.trans le2),sh2,q2,fun z H4 tz H34 le4 sh4 rz q4=>?_⟩⟩;cases ty with
   |int key =>
    rw[JR] at q4;cases e:H34 a with
    |none=>rw[e] at q4;exact q4.elim
    |some ob =>
    rw[e] at q4;cases ob with
    |dci kvs =>
     rw[JS] at q4;obtain⟨vs,hH,r⟩:=sh4 a _ e;have le:=le1.trans (le2.trans le4);refine⟨vs,Sum.inl key,hH,(ry.mono le4).int,by rw[<- YC r];exact q4.1,fun v hv=>?_,fun hn=>?_⟩
     ·have h0:=gG (k:=key) r;cases el:cU key kvs with
      |none=>rw[el,hv] at h0;cases h0
      |some t =>
      rw[el] at q4;obtain⟨v',ev,rv⟩:=ir r el;rw[hv] at ev;cases ev;exact k _ _ _ _ le sh4 rv q4.2
     have h0:=gG (k:=key) r;cases el:cU key kvs with
     |some t=>rw[el,hn] at h0;cases h0
     |none =>
     rw[el] at q4;have le5:TupLe X.K H4 (upd H4 a (.dK (putK vs (Sum.inl key:Key) z))):=bT (by rw[hH];exact trivial);exact k _ _ _ _ (le.trans le5) (sh4.wrI hH (Bt rz r)) (rz.mono le5) q4.2
    |_=>exact q4.elim
   |_=>exact q4.elim
  |_=>exact d1.elim
 |_=>exact d1.elim
def itT (kv:Int × T):T:=.tup [.int kv.1,kv.2]
def uQ (a:Addr) (o:Obj) (kvs:List (Int × T)):Hp3->Prop:=fun H=>H a=some (.dif o kvs)
def itO (u:Option O3) (a:Addr) (H:Hp3) (R:List T->(Hp3->Prop)->Hp3->Prop):Prop:=match u with
 |some (.dci kvs)=>∀o,R (kvs.map itT) (uQ a o kvs) (up3 H a (.dif o kvs))
 |_=>False
def itq (x:T) (H:Hp3) (R:List T->(Hp3->Prop)->Hp3->Prop):Prop:=match x with
 |.ref a=>itO (H a) a H R
 |_=>False
def wH (te:TE3):TI3:=fun Z H R=>te Z H fun x H1=>itq x H1 R
theorem BK (te:TE3) {R:List T->(Hp3->Prop)->Hp3->Prop}:wH te Z H R=te Z H fun x H1=>itq x H1 R:=rfl
theorem JT (a:Addr) {R:List T->(Hp3->Prop)->Hp3->Prop}:itq (.ref a) H R=itO (H a) a H R:=rfl
theorem JV (kvs:List (Int × T)) (a:Addr) {R:List T->(Hp3->Prop)->Hp3->Prop}:itO (some (.dci kvs)) a H R=∀o,R (kvs.map itT) (uQ a o kvs) (up3 H a (.dif o kvs)):=rfl
theorem uR {K:Frag}{H:Hp}{a:Addr}{o:Obj}{kvs:List (Int × T)}:iD K (Iti a o) (kvs.map itT) (uQ a o kvs) H:=fun H' H3' le sh st=>by
 obtain⟨vs,hH,r⟩:=sh a _ st;have hl:=YC r;refine⟨fun i hi=>⟨vs,hH,by rw[h_] at hi;omega⟩,fun i t e=>?_⟩;rw[o_] at e;cases q:kvs[i]? with
 |none=>rw[q] at e;cases e
 |some kv =>
 rw[q] at e;cases e;obtain⟨⟨kk,v⟩,ev,e1,rv⟩:=iY r q;simp only at e1 rv;subst e1;refine⟨⟨vs,_,hH,ev⟩,fun z H'' y=>?_⟩;obtain⟨p,k',x',rfl,hp,rfl,q1⟩:=y;have:=(q1 vs hH).symm.trans ev;cases this;exact⟨aJ hp,sh.new hp,SimH.newTup (H3:=H3') hp (.cons .ofInt (.cons rv .nil))⟩
theorem BL {te:TE3}(he:PE3 X e te) (hbase:attributeBase e "items" X.env (eval e X.env)=eval e X.env:=by rfl) (hline:(apos.endLine==cpos.line)=true:=by rfl) :
  PI3 X (.Tuple elts x1 tpos) (.Call (.Attribute e "items" apos) [] [] cpos) (wH te):=by
 refine PI.imp (Bs he hbase hline) ?_;rintro Z H R ⟨Z3,H3,R3,ss,sh,h,k⟩;refine⟨Z3,H3,_,ss,sh,h,fun v H' t H3' le sh' r q=>?_⟩;cases t with
 |ref a =>
  rw[JT] at q;cases eo:H3' a with
  |none=>rw[eo] at q;exact q.elim
  |some ob =>
  rw[eo] at q;cases ob with
  |dci kvs=>rw[JV] at q;obtain⟨vs,hH,rs⟩:=sh' a _ eo;exact⟨a,vs,r.ref,hH,fun o=>k _ _ _ _ _ (le.trans (bT (by rw[hH];exact trivial))) (sh'.frzI hH rs) uR (q o)⟩
  |_=>exact q.elim
 |_=>exact q.elim
end
theorem nW {K:Frag}{H:Hp}{f:Str}:∀{fs:List (Str × T)}{vs:List (Str × V)}{t:T},RepF K H fs vs->aN f fs=some t->∃v,vs.lookup f=some v/\Rep K H t v
 |[],_,_,_,e=>by cases e
 | (g,t')::r,_,t,.cons (b:=(g',v')) ⟨e1,rv⟩ rr,e=>by
  simp only at e1 rv
  subst e1
  unfold aN at e
  by_cases hk:g'=f
  ·
   rw[if_pos hk] at e
   cases e
   exact⟨v',by rw[Xr,show (f==g')=true from Yp.mpr hk.symm],rv⟩
  ·
   rw[if_neg hk] at e
   obtain⟨v,ev,q⟩:=nW rr e
   exact⟨v,by rw[Xr,show (f==g')=false from W0.mpr (Ne.symm hk)];exact ev,q⟩
theorem lH {K:Frag}{H:Hp}{f:Str}:∀{fs:List (Str × T)}{vs:List (Str × V)},RepF K H fs vs->aN f fs=none->vs.lookup f=none
 |[],_,.nil,_=>rfl
 | (g,t')::r,_,.cons (b:=(g',v')) ⟨e1,rv⟩ rr,e=>by
  simp only at e1 rv
  subst e1
  unfold aN at e
  by_cases hk:g'=f
  ·
   rw[if_pos hk] at e;cases e
  ·
   rw[if_neg hk] at e
   rw[Xr,show (f==g')=false from W0.mpr (Ne.symm hk)]
   exact lH rr e
def dw (f:Str) (v:T):List (Str × T)->List (Str × T)
 |[]=>[(f,v)]
 | (g,x)::r=>if g=f then (g,v)::r else (g,x)::dw f v r
theorem rM {K:Frag}{H:Hp}{f:Str}{t:T}{v:V}(rv:Rep K H t v):∀{fs:List (Str × T)}{vs:List (Str × V)},RepF K H fs vs->RepF K H (dw f t fs) (gh f v vs)
 |[],_,.nil=>.cons ⟨rfl,rv⟩ .nil
 | (g,t')::r,_,.cons (b:=(g',v')) ⟨e1,r1⟩ rr=>by
  simp only at e1 r1
  subst e1
  unfold dw gh
  by_cases hk:g'=f
  ·
   rw[if_pos hk,if_pos hk];exact .cons ⟨rfl,rv⟩ rr
  ·
   rw[if_neg hk,if_neg hk];exact .cons ⟨rfl,r1⟩ (rM rv rr)
structure InsC (K:Frag) (C:Addr) (ns:List Str):Prop where
 cls:Cls K C
 no:∀n∈ns,NoAttr K C n
structure MtC (P:Program) (w:World) (K:Frag) (mg:Str->Option Value) (base:Heap) (C:Addr) (k:Nat) (m:Str) (ps:List Str) (sp:Sp3):Prop where
 cls:Cls K C
 ex:∃(f:Addr) (fd:FuncData),Meth K C m f/\Binds K fd ps []/\FnOk3 P w K mg base k f fd ps sp
structure MkC (P:Program) (w:World) (K:Frag) (mg:Str->Option Value) (base:Heap) (C:Addr) (k:Nat) (x:Str) (ps:List Str) (sp:Sp3):Prop where
 at_:mg x=some (.ref C)
 ex:∃(f:Addr) (fd:FuncData),Mk K C f/\Binds K fd ps []/\FnOk3 P w K mg base k f fd ps sp
structure GM (K:Frag) (C:Addr) (m qual:Str) (st:Stmt) (ps:List Str) (f:Addr) (fd:FuncData):Prop where
 cls:Cls K C
 fn:Fun K m qual st f fd
 b:Binds K fd ps []
 mt:Meth K C m f
structure GI (K:Frag) (mg:Str->Option Value) (C:Addr) (x qual:Str) (st:Stmt) (ps:List Str) (f:Addr) (fd:FuncData):Prop where
 mk_:Mk K C f
 fn:Fun K "__init__" qual st f fd
 b:Binds K fd ps []
 at_:mg x=some (.ref C)
theorem SimH.wrO {K:Frag}{H:Hp}{H3:Hp3}{a C dx:Addr}{fs:List (Str × T)}{vs vs':List (Str × V)}(s:SimH K H3 H) (hH:H a=some (.ins C dx vs)) (r:RepF K H fs vs'):SimH K (up3 H3 a (.ins C fs)) (upd H a (.ins C dx vs')):=fun b o e=>by
 have le:TupLe K H (upd H a (.ins C dx vs')):=bT (by rw[hH];exact trivial);by_cases hb:b=a
 ·subst hb;rw[aq] at e;cases e;exact⟨dx,vs',bM,r.mono le⟩
 rw[aD hb] at e;exact (s b o e).stay le fun u q=>by rw[aO hb];exact q
section
variable {X:Cx}{o e value:Expr}{es:List Expr}{ta tv:TE3}{t:TA3}{C:Addr}{f m x:Str}{ns ps:List Str}{sp:Sp3}{n:Nat}{pos pos' apos p:Pos}{H:Hp3}{Q:VK3}
def Om (C:Addr) (f:Str) (u:Option O3) (H:Hp3) (Q:VK3):Prop:=match u with
 |some (.ins C' fs)=>C'=C/\oq (aN f fs) fun t=>Q t H
 |_=>False
def Ua (C:Addr) (f:Str) (x:T) (H:Hp3) (Q:VK3):Prop:=match x with
 |.ref a=>Om C f (H a) H Q
 |_=>False
def JW (C:Addr) (f:Str) (ta:TE3):TE3:=fun Z H Q=>ta Z H fun x H1=>Ua C f x H1 Q
theorem BP (a:Addr):Ua C f (.ref a) H Q=Om C f (H a) H Q:=rfl
theorem Oo (fs:List (Str × T)):Om C f (some (.ins C fs)) H Q=oq (aN f fs) fun t=>Q t H:=propext ⟨fun h=>h.2,fun h=>⟨rfl,h⟩⟩
theorem gP (c:InsC X.K C ns) (he:PE3 X e ta) (hf:f∈ns:=by simp) (hb:attributeBase e f X.env (eval e X.env)=eval e X.env:=by rfl):PE3 X (.Attribute e f pos) (JW C f ta):=by
 refine PE.imp (Lb he hb) ?_;rintro Z H Q ⟨Z3,H3,Q3,ss,sh,h,k⟩;refine⟨Z3,H3,_,ss,sh,h,fun v H' t H3' le sh' r q=>?_⟩;cases t with
 |ref a =>
  rw[BP] at q;cases eo:H3' a with
  |none=>rw[eo] at q;exact q.elim
  |some ob =>
  rw[eo] at q;cases ob with
  |ins C' fs =>
   obtain⟨rfl,q1⟩:=(show C'=C/\oq (aN f fs) fun t=>Q3 t H3' from q);clear q;obtain⟨dx,vs,hH,rs⟩:=sh' a _ eo;cases el:aN f fs with
   |none=>rw[el] at q1;exact q1.elim
   |some t =>
   rw[el,gK] at q1;obtain⟨v',ev,rv⟩:=nW rs el;exact⟨a,C',dx,vs,v',r.ref,hH,c.cls,c.no f hf,ev,k _ _ _ _ le sh' rv q1⟩
  |_=>exact q.elim
 |_=>exact q.elim
def sfO (C:Addr) (f:Str) (a:Addr) (y:T) (u:Option O3) (H:Hp3) (Q:Hp3->Prop):Prop:=match u with
 |some (.ins C' fs)=>C'=C/\fs.length<1000/\Q (up3 H a (.ins C (dw f y fs)))
 |_=>False
def sfq (C:Addr) (f:Str) (x y:T) (H:Hp3) (Q:Hp3->Prop):Prop:=match x with
 |.ref a=>sfO C f a y (H a) H Q
 |_=>False
def JX (C:Addr) (f:Str) (ta tv:TE3):TS3:=fun D Z H=>tv Z H fun y H1=>ta Z H1 fun x H2=>sfq C f x y H2 fun H3=>D.nx Z H3
theorem JZ (a:Addr) (y:T) (Q:Hp3->Prop):sfq C f (.ref a) y H Q=sfO C f a y (H a) H Q:=rfl
theorem Ub (a:Addr) (y:T) (fs:List (Str × T)) (Q:Hp3->Prop):sfO C f a y (some (.ins C fs)) H Q=(fs.length<1000/\Q (up3 H a (.ins C (dw f y fs)))):=propext ⟨fun h=>h.2,fun h=>⟨rfl,h⟩⟩
theorem pK (c:InsC X.K C ns) (ha:PE3 X o ta) (hv:PE3 X value tv) (hf:f∈ns:=by simp) (hs:swapsWith value (some (.Attribute o f pos')) pos.line X.env=pure false:=by rfl):PS3 X (.Assign [.Attribute o f pos'] value pos) (JX C f ta tv):=by
 refine PS.imp (Ld ha hv hs) ?_;rintro D Z H ⟨Z3,H3,D3,ss,sh,h,k1,_⟩;refine⟨Z3,H3,_,ss,sh,h,fun y H1 ty H31 le1 sh1 ry q1=>⟨Z3,H31,_,ss.mono le1,sh1,q1,fun x H2 tx H32 le2 sh2 rx q2=>?_⟩⟩;cases tx with
 |ref a =>
  rw[JZ] at q2;cases eo:H32 a with
  |none=>rw[eo] at q2;exact q2.elim
  |some ob =>
  rw[eo] at q2;cases ob with
  |ins C' fs=>obtain⟨rfl,hl,q⟩:=(show C'=C/\fs.length<1000/\D3.nx Z3 (up3 H32 a (.ins C (dw f ty fs))) from q2);obtain⟨dx,vs,hH,rs⟩:=sh2 a _ eo;have le5:TupLe X.K H2 (upd H2 a (.ins C' dx (gh f y vs))):=bT (by rw[hH];exact trivial);exact⟨a,C',dx,vs,rx.ref,hH,c.cls,c.no f hf,by rw[<- YC rs];exact hl,k1 _ _ _ _ (le1.trans (le2.trans le5)) (ss.mono (le1.trans (le2.trans le5))) (sh2.wrO hH (rM (ry.mono le2) rs)) q⟩
  |_=>exact q2.elim
 |_=>exact q2.elim
def mtO (C:Addr) (m:Str) (u:Option O3) (q:Prop):Prop:=match u with
 |some (.ins C' fs)=>C'=C/\aN m fs=none/\q
 |_=>False
def mtq (C:Addr) (m:Str) (x:T) (H:Hp3) (q:Prop):Prop:=match x with
 |.ref a=>mtO C m (H a) q
 |_=>False
def BR (C:Addr) (m:Str) (sp:Sp3) (ta:TE3) (t:TA3):TE3:=fun Z H Q=>ta Z H fun x H1=>mtq C m x H1 (t Z H1 fun vs H2=>sp (x::vs) H2 Q)
theorem J0 (a:Addr) (q:Prop):mtq C m (.ref a) H q=mtO C m (H a) q:=rfl
theorem J1 (fs:List (Str × T)) (q:Prop):mtO C m (some (.ins C fs)) q=(aN m fs=none/\q):=propext ⟨fun h=>h.2,fun h=>⟨rfl,h⟩⟩
theorem pL {pl:Sem Bool}(M:MtC X.prog X.w X.K X.mg X.base C n m ps sp) (hr:Room n X.A) (he:PE3 X o ta) (ha:PA3 X (e::es) t)
  (hst:starEach (e::es) X.env=(false,eval e X.env)::starEach es X.env:=by rfl) (hpl:(backTo pos (starEach es X.env)).any (·.1)=false:=by rfl)
  (ht:eval (.Call (.Attribute o m apos) (e::es) [] pos) X.env=(do
   let ov <- eval o X.env
   standAt apos.atName
   let (f,first) <- holding [ov] (getMethod ov m pl)
   callWith pos f first (backTo pos (starEach (e::es) X.env)) (backToKw pos (keywordEach [] X.env))):=by rfl) :
  PE3 X (.Call (.Attribute o m apos) (e::es) [] pos) (BR C m sp ta t):=by
 obtain⟨f,fd,hm,hb,F⟩:=M.ex;refine PE.imp (EY (dvs:=[]) (E:=E0) he M.cls hm F hr hb .nil zu ha hst hpl ht) ?_;rintro Z H Q ⟨Z3,H3,Q3,ss,sh,h,k⟩;refine⟨Z3,H3,_,ss,sh,h,fun v H' t H3' le sh' r q=>?_⟩;cases t with
 |ref a =>
  rw[J0] at q;cases eo:H3' a with
  |none=>rw[eo] at q;exact q.elim
  |some ob =>
  rw[eo] at q;cases ob with
  |ins C' fs=>obtain⟨rfl,hl,q⟩:=q;obtain⟨dx,vs,hH,rs⟩:=sh' a _ eo;refine⟨a,dx,vs,r.ref,hH,lH rs hl,Z3,H3',_,ss.mono le,sh',q,fun us H2 ts H32 le2 sh2 rr q2=>?_⟩;show qP X.K sp (v::(us++[])) H2 Q E0;rw[WD];exact⟨_,H32,Q3,.cons (r.mono le2) rr,sh2,q2,k.at (le.trans le2)⟩
  |_=>exact q.elim
 |_=>exact q.elim
def BV (C:Addr) (sp:Sp3) (t:TA3):TE3:=fun Z H Q=>t Z H fun vs H1=>∀a,H1 a=none->sp (.ref a::vs) (up3 H1 a (.ins C [])) fun v H2=>v=.non/\Q (.ref a) H2
theorem G5 (M:MkC X.prog X.w X.K X.mg X.base C n x ps sp) (hr:Room (n+1) X.A) (hg:Gl X x) (ha:PA3 X (e::es) t) (hdb:(x==("__debug__":Str))=false:=by decide)
  (he:starEach (e::es) X.env=(false,eval e X.env)::starEach es X.env:=by rfl) (hpl:(backTo pos (starEach es X.env)).any (·.1)=false:=by rfl):PE3 X (.Call (.Name x p) (e::es) [] pos) (BV C sp t):=by
 obtain⟨f,fd,hm,hb,F⟩:=M.ex;refine PE.imp (Fb (dvs:=[]) (E:=E0) hm F hr hg M.at_ hb .nil zu ha hdb he hpl) ?_;rintro Z H Q ⟨Z3,H3,Q3,ss,sh,h,k⟩;refine⟨Z3,H3,_,ss,sh,h,fun us H' ts H3' le sh' rr q=>fun a dx ha hdx hne=>?_⟩;show qP X.K sp (V.ref a::(us++[])) _ _ E0;rw[WD];have hp:upd H' dx (.own a) a=none:=by rw[aO (Ne.symm hne)];exact ha
 have le1:TupLe X.K H' (upd H' dx (.own a)):=aJ hdx;have le2:TupLe X.K (upd H' dx (.own a)) (upd (upd H' dx (.own a)) a (.ins C dx [])):=aJ hp;refine⟨T.ref a::ts,up3 H3' a (.ins C []),_,.cons .ofRef (rr.mono (le1.trans le2)),fun b ob eb=>?_,q a (sh'.fresh ha),fun v H2 t2 H32 le3 sh2 r2 q2=>⟨?_,?_⟩⟩
 ·by_cases hb:b=a
  ·subst hb;rw[aq] at eb;cases eb;exact⟨dx,[],bM,.nil⟩
  rw[aD hb] at eb;exact ((sh'.new hdx).new hp) b ob eb
 ·obtain⟨rfl,_⟩:=q2;exact r2.non
 exact k _ _ _ _ (le.trans (le1.trans (le2.trans le3))) sh2 .ofRef q2.2
def Uc:R3:=fun x y H Q=>match y with
 |.non=>Q (.bl (!isN x)) H
 |_=>False
theorem Ud (x:T) (H:Hp3) (Q:VK3):Uc x .non H Q=Q (.bl (!isN x)) H:=rfl
def mnI (o:Option O3) (H:Hp3) (Q:VK3):Prop:=match o with
 |some (.lst xs)=>oq (ints3 xs) fun ns=>ns≠[]/\∀M,M∈ns->(∀a∈ns,M<=a)->Q (.int M) H
 |_=>False
def Oq:List T->Hp3->VK3->Prop:=fun ts H Q=>match ts with
 |[.ref a]=>mnI (H a) H Q
 |_=>False
theorem Ot (a:Addr) (H:Hp3) (Q:VK3):Oq [.ref a] H Q=mnI (H a) H Q:=rfl
theorem Ue (xs:List T) (H:Hp3) (Q:VK3):mnI (some (.lst xs)) H Q=oq (ints3 xs) fun ns=>ns≠[]/\∀M,M∈ns->(∀a∈ns,M<=a)->Q (.int M) H:=rfl
end
open L2 PySem.W
section
variable {O:KeyOrd}{key:Nat->O.α}{n:Nat}
def Kw (O:KeyOrd) (key:Nat->O.α) (n:Nat) {α:Type}:KasT α->(α->Prop)->Prop
 |.ret a,Q=>Q a
 |.ask i j k,Q=>i<n/\j<n/\Kw O key n (k (O.blt (key i) (key j))) Q
theorem Kw.mono {α:Type}{Q Q':α->Prop}(hq:∀a,Q a->Q' a):∀{t:KasT α},Kw O key n t Q->Kw O key n t Q'
 |.ret a,h=>hq a h
 |.ask i j k,h=>⟨h.1,h.2.1,Kw.mono hq h.2.2⟩
theorem Kw.bind {α β:Type}{f:α->KasT β}{Q:β->Prop}:∀{t:KasT α},Kw O key n t (fun a=>Kw O key n (f a) Q)->Kw O key n (t.bind f) Q
 |.ret a,h=>h
 |.ask i j k,h=>⟨h.1,h.2.1,Kw.bind h.2.2⟩
theorem Kw.wp {α:Type}{cmp:Nat->Nat->(Bool->Shared->Prop)->Shared->Prop}{s:Shared}(hc:∀i j (C:Bool->Shared->Prop),i<n->j<n->C (O.blt (key i) (key j)) s->cmp i j C s) {Q:α->Prop}{R:α->Shared->Prop}(hq:∀a,Q a->R a s) :
  ∀{t:KasT α},Kw O key n t Q->t.kasWp cmp R s
 |.ret a,h=>hq a h
 |.ask i j k,h=>hc i j _ h.1 h.2.1 (Kw.wp hc hq h.2.2)
structure Pm (n:Nat) (p:Array Nat):Prop where
 pm:p.toList.Perm (List.range n)
 n1:1<=n
theorem Pm.sz {p:Array Nat}(h:Pm n p):p.size=n:=by
 have:=h.pm.length_eq;rw[A_] at this;simpa using this
theorem Pm.lt {p:Array Nat}(h:Pm n p) (i:Nat):p.getD i 0<n:=by
 rw[XF];by_cases hi:i<p.size
 ·rw[Yu hi];exact Wu.mp (h.pm.mem_iff.mp (by simp))
 rw[Array.getElem?_eq_none (by omega)];exact h.n1
theorem Pm.by {p q:Array Nat}(h:Pm n p) (e:q.Perm p):Pm n q:=⟨(Array.perm_iff_toList_perm.mp e).trans h.pm,h.n1⟩
def Ky (O:KeyOrd) (key:Nat->O.α) (p:Array Nat) (i:Nat):O.α:=key (p.getD i 0)
def Up (O:KeyOrd) (key:Nat->O.α) (p:Array Nat) (k:Nat):Prop:=∀i j,i<=j->j<k->O.kle (Ky O key p i) (Ky O key p j)
def Dn (O:KeyOrd) (key:Nat->O.α) (p:Array Nat) (k:Nat):Prop:=∀i j,i<=j->j<k->O.kle (Ky O key p j) (Ky O key p i)
theorem Ky.congr {p q:Array Nat}{i j:Nat}(h:p[i]?=q[j]?):Ky O key p i=Ky O key q j:=by unfold Ky;rw[XF,XF,h]
theorem Ky.mir {p:Array Nat}{i j:Nat}(hj:j<=p.size) (k:Nat):Ky O key (kas_rev p i j) k=if i<=k/\k<j then Ky O key p (i+j - 1 - k) else Ky O key p k:=by
 have e:=getElem?_mirror_all (i:=i) hj k;split at e <;> rename_i h
 ·rw[if_pos h];exact Ky.congr e
 rw[if_neg h];exact Ky.congr e
theorem Ky.mirEq {p:Array Nat}{i j:Nat}(hj:j<=p.size) (he:∀k,i<=k->k<j->Ky O key p k=Ky O key p (j - 1)) (k:Nat):Ky O key (kas_rev p i j) k=Ky O key p k:=by
 rw[Ky.mir hj];split
 ·rw[he _ (by omega) (by omega),he k (by omega) (by omega)]
 rfl
theorem Ky.bub {p:Array Nat}{s d:Nat}(hs:s<p.size) (hd:d<=s) (k:Nat):Ky O key (bubble p s d) k=if k=s - d then Ky O key p s else if s - d<k/\k<=s then Ky O key p (k - 1) else Ky O key p k:=by
 have e:=getElem?_bubble hs d hd k;by_cases h1:k=s - d
 ·rw[if_pos h1] at e ⊢;exact Ky.congr e
 rw[if_neg h1] at e ⊢;by_cases h2:s - d<k/\k<=s
 ·rw[if_pos h2] at e ⊢;exact Ky.congr e
 rw[if_neg h2] at e ⊢;exact Ky.congr e
theorem Pm.rev {p:Array Nat}(h:Pm n p) (i j:Nat):Pm n (kas_rev p i j):=h.by (mirror_perm _ _ _ _)
theorem Up.one {p:Array Nat}:Up O key p 1:=fun i j h1 h2=>by
 obtain rfl:i=j:=by omega
 exact Yk _
theorem Up.more {p:Array Nat}{k:Nat}(hk:1<=k) (h:Up O key p k) (e:O.kle (Ky O key p (k - 1)) (Ky O key p k)):Up O key p (k+1):=fun i j h1 h2=>by
 by_cases hj:j<k
 ·exact h i j h1 hj
 obtain rfl:j=k:=by omega
 by_cases hi:i=j
 ·subst hi;exact Yk _
 exact KeyOrd.kle_trans (h i (j - 1) (by omega) (by omega)) e
theorem Dn.more {p:Array Nat}{k:Nat}(hk:1<=k) (h:Dn O key p k) (e:O.kle (Ky O key p k) (Ky O key p (k - 1))):Dn O key p (k+1):=fun i j h1 h2=>by
 by_cases hj:j<k
 ·exact h i j h1 hj
 obtain rfl:j=k:=by omega
 by_cases hi:i=j
 ·subst hi;exact Yk _
 exact KeyOrd.kle_trans e (h i (j - 1) (by omega) (by omega))
theorem uT {p:Array Nat}{Q:Nat->Prop}(hp:Pm n p):∀(f a:Nat),1<=a->Up O key p a->(∀m,a<=m->m<=a+f->Up O key p m->m=a+f\/O.klt (Ky O key p m) (Ky O key p (m - 1))->Q m)->Kw O key n (kas_asc p f a) Q
 |0,a,_,h,k=>k a (j_ _) (j_ _) h (.inl rfl)
 |f+1,a,ha,h,k=>by
  refine⟨hp.lt _,hp.lt _,?_⟩
  cases e:O.blt (key (p.getD a 0)) (key (p.getD (a - 1) 0)) with
  |true=>exact k a (j_ _) (by omega) h (.inr e)
  |false=>exact uT hp f (a+1) (by omega) (h.more ha e) fun m h1 h2 h3 h4=>k m (by omega) (by omega) h3 (h4.imp (fun q=>by omega) id)
theorem j9 {Q:Array Nat × Nat × Nat->Prop}:∀(f:Nat) (p:Array Nat) (a q:Nat),Pm n p->1<=a->a+f<=n->Dn O key p a->q+1<=a->(∀i,a - (q+1)<=i->i<a->Ky O key p i=Ky O key p (a - 1)) ->
  (∀p' m r,Pm n p'->a<=m->m<=a+f->Dn O key p' m->r+1<=m->(∀i,m - (r+1)<=i->i<m->Ky O key p' i=Ky O key p' (m - 1))->Q (p',m,r))->Kw O key n (kas_desc f p a q) Q
 |0,p,a,q,hp,_,_,h,hq,he,k=>k p a q hp (j_ _) (j_ _) h hq he
 |f+1,p,a,q,hp,ha,hn,h,hq,he,k=>by
  refine⟨hp.lt _,hp.lt _,?_⟩
  cases e:O.blt (key (p.getD a 0)) (key (p.getD (a - 1) 0)) with
  |true =>
   have sz:a<=p.size:=by rw[hp.sz];omega
   have one:∀p':Array Nat,∀i,a+1 - (0+1)<=i->i<a+1->Ky O key p' i=Ky O key p' (a+1 - 1):=fun p' i h1 h2=>by rw[show i=a+1 - 1 by omega]
   dsimp only
   rw[if_pos rfl]
   by_cases hq0:q>0
   ·
    rw[if_pos hq0]
    have ke:=Ky.mirEq (O:=O) (key:=key) (i:=a - (q+1)) sz he
    refine j9 f _ (a+1) 0 (hp.rev _ _) (by omega) (by omega) (Dn.more ha (fun i j h1 h2=>by rw[ke,ke];exact h i j h1 h2) (by rw[ke,ke];exact Y6 e)) (by omega) (one _) fun p' m r a1 a2 a3 a4 a5 a6=>k p' m r a1 (by omega) (by omega) a4 a5 a6
   ·
    rw[if_neg hq0]
    exact j9 f p (a+1) 0 hp (by omega) (by omega) (h.more ha (Y6 e)) (by omega) (one _) fun p' m r a1 a2 a3 a4 a5 a6=>k p' m r a1 (by omega) (by omega) a4 a5 a6
  |false =>
   dsimp only
   rw[if_neg p_]
   refine⟨hp.lt _,hp.lt _,?_⟩
   cases e2:O.blt (key (p.getD (a - 1) 0)) (key (p.getD a 0)) with
   |true=>exact k p a q hp (j_ _) (by omega) h hq he
   |false =>
    dsimp only
    rw[if_neg p_]
    have eq:Ky O key p a=Ky O key p (a - 1):=KeyOrd.kle_antisymm e2 e
    refine j9 f p (a+1) (q+1) hp (by omega) (by omega) (h.more ha (by rw[eq];exact Yk _)) (by omega) (fun i h1 h2=>?_) fun p' m r a1 a2 a3 a4 a5 a6=>k p' m r a1 (by omega) (by omega) a4 a5 a6
    rw[show a+1 - 1=a by omega]
    by_cases hi:i=a
    ·
     rw[hi]
    ·
     rw[eq];exact he i (by omega) (by omega)
theorem wI {p:Array Nat}{a:Nat}{Q:Nat × Array Nat->Prop}(hp:Pm n p) (ha:1<=a) (hn:a<=n) (h:Dn O key p a) (k:∀m p',Pm n p'->1<=m->m<=n->Up O key p' m->Q (m,p')):Kw O key n (kas_tail3 a n p) Q:=by
 refine Kw.bind (uT (hp.rev 0 a) _ a ha (fun i j h1 h2=>?_) fun m h1 h2 h3 _=>k m _ (hp.rev 0 a) (by omega) (by omega) h3);have sz:a<=p.size:=by rw[hp.sz];exact hn
 rw[Ky.mir sz,Ky.mir sz,if_pos (by omega),if_pos (by omega)];exact h _ _ (by omega) (by omega)
theorem jQ {p:Array Nat}{a:Nat}{Q:Nat × Array Nat->Prop}(hp:Pm n p) (hn:a+1<=n) (h:Dn O key p (a+1)) (k:∀m p',Pm n p'->1<=m->m<=n->Up O key p' m->Q (m,p')):Kw O key n (kas_descPart a n p) Q:=by
 refine Kw.bind (j9 _ p (a+1) 0 hp (by omega) (by omega) h (by omega) (fun i h1 h2=>by rw[show i=a+1 - 1 by omega]) fun p' m r a1 a2 a3 a4 a5 a6=>?_);dsimp only;have sz:m<=p'.size:=by rw[a1.sz];omega
 by_cases hr:r>0
 ·rw[if_pos hr];have ke:=Ky.mirEq (O:=O) (key:=key) (i:=m - (r+1)) sz a6;exact wI (a1.rev _ _) (by omega) (by omega) (fun i j h1 h2=>by rw[ke,ke];exact a4 i j h1 h2) k
 rw[if_neg hr];exact wI a1 (by omega) (by omega) a4 k
theorem BW {p:Array Nat}{Q:Nat × Array Nat->Prop}(hp:Pm n p) (k:∀m p',Pm n p'->1<=m->m<=n->Up O key p' m->Q (m,p')):Kw O key n (kas_count n p) Q:=by
 have n1:=hp.n1;refine Kw.bind (uT hp _ 1 (j_ _) Up.one fun m h1 h2 h3 h4=>?_);by_cases hm:m=n
 ·rw[if_pos (by simpa using hm)];exact k m p hp h1 (by omega) h3
 rw[if_neg (by simpa using hm)];have hlt:O.klt (Ky O key p m) (Ky O key p (m - 1)):=h4.resolve_left (by omega);by_cases h5:m>1
 ·rw[if_pos h5];refine⟨hp.lt _,hp.lt _,?_⟩;cases e:O.blt (key (p.getD 0 0)) (key (p.getD (m - 1) 0)) with
  |true=>exact k m p hp h1 (by omega) h3
  |false =>
  dsimp only;rw[if_neg p_];have sz:m<=p.size:=by rw[hp.sz];omega
  have all:∀i,0<=i->i<m->Ky O key p i=Ky O key p (m - 1):=fun i _ hi=>KeyOrd.kle_antisymm (h3 i (m - 1) (by omega) (by omega)) (KeyOrd.kle_trans e (h3 0 i (by omega) hi));have ke:=Ky.mirEq (O:=O) (key:=key) (i:=0) sz all;refine jQ (hp.rev _ _) (by omega) (Dn.more h1 (fun i j q1 q2=>?_) ?_) k
  ·rw[ke,ke,all i (by omega) (by omega),all j (by omega) (by omega)];exact Yk _
  rw[ke,ke];exact Y6 hlt
 rw[if_neg h5];obtain rfl:m=1:=by omega
 refine jQ hp (by omega) (Dn.more (j_ _) (fun i j q1 q2=>?_) (Y6 hlt)) k;obtain rfl:i=j:=by omega
 exact Yk _
theorem lJ {p:Array Nat}{k:Nat}{Q:Nat->Prop}(hp:Pm n p):∀(f l r:Nat),l<=r->r<=k->r - l<=f->(∀i,i<l->O.kle (Ky O key p i) (Ky O key p k))->(∀i,r<=i->i<k->O.klt (Ky O key p k) (Ky O key p i))->Up O key p k ->
  (∀l,l<=k->(∀i,i<l->O.kle (Ky O key p i) (Ky O key p k))->(∀i,l<=i->i<k->O.klt (Ky O key p k) (Ky O key p i))->Q l)->Kw O key n (kas_place p k f l r) Q
 |0,l,r,h1,h2,h3,lo,hi,_,q=>by
  obtain rfl:l=r:=by omega
  exact q l h2 lo hi
 |f+1,l,r,h1,h2,h3,lo,hi,hu,q=>by
  unfold kas_place
  by_cases h:l ≥ r
  ·
   obtain rfl:l=r:=by omega
   rw[if_pos h]
   exact q l h2 lo hi
  ·
   rw[if_neg h]
   refine⟨hp.lt _,hp.lt _,?_⟩
   cases e:O.blt (key (p.getD k 0)) (key (p.getD ((l+r) / 2) 0)) with
   |true=>exact lJ hp f l ((l+r) / 2) (by omega) (by omega) (by omega) lo (fun i a1 a2=>KeyOrd.klt_of_klt_of_kle e (hu _ i a1 a2)) hu q
   |false=>exact lJ hp f ((l+r) / 2+1) r (by omega) h2 (by omega) (fun i a1=>KeyOrd.kle_trans (hu i ((l+r) / 2) (by omega) (by omega)) e) hi hu q
theorem BX {Q:Array Nat->Prop}:∀(f:Nat) (p:Array Nat) (k:Nat),Pm n p->k+f=n->Up O key p k->(∀p',Pm n p'->Up O key p' n->Q p')->Kw O key n (kas_bin f p k) Q
 |0,p,k,hp,e,h,q=>by
  obtain rfl:k=n:=by omega
  exact q p hp h
 |f+1,p,k,hp,e,h,q=>by
  have sz:k<p.size:=by rw[hp.sz];omega
  refine Kw.bind (lJ hp k 0 k (WR _) (j_ _) (by omega) (fun _ z=>absurd z (Nat.not_lt_zero _)) (fun _ z1 z2=>absurd z2 (by omega)) h fun l hl lo hi=>?_)
  refine BX f _ (k+1) (hp.by (bubble_perm _ _ _)) (by omega) (fun i j h1 h2=>?_) q
  rw[Ky.bub sz (by omega),Ky.bub sz (by omega),show k - (k - l)=l by omega]
  by_cases i1:i=l
  ·
   rw[if_pos i1]
   by_cases j1:j=l
   ·
    rw[if_pos j1];exact Yk _
   ·
    rw[if_neg j1,if_pos (by omega)];exact Y6 (hi _ (by omega) (by omega))
  ·
   rw[if_neg i1]
   by_cases i2:l<i/\i<=k
   ·
    rw[if_pos i2,if_neg (by omega),if_pos (by omega)];exact h _ _ (by omega) (by omega)
   ·
    rw[if_neg i2]
    by_cases j1:j=l
    ·
     rw[if_pos j1];exact lo i (by omega)
    ·
     rw[if_neg j1]
     by_cases j2:l<j/\j<=k
     ·
      rw[if_pos j2];exact h _ _ (by omega) (by omega)
     ·
      rw[if_neg j2];exact h _ _ h1 (by omega)
theorem G6 (n1:1<=n):Kw O key n (kas_sort n) fun p=>Pm n p/\Up O key p n:=by
 have p0:Pm n (List.toArray (List.range n)):=⟨.refl _,n1⟩;refine Kw.bind (BW p0 fun m p hp h1 h2 h3=>?_);dsimp only;by_cases h:m<n
 ·rw[if_pos h,show max m 1=m by omega];exact BX _ p m hp (by omega) h3 fun p' a b=>⟨a,b⟩
 rw[if_neg h];obtain rfl:m=n:=by omega
 exact⟨hp,h3⟩
end
def LtAt (A:Around) (s:Shared) (y x:Value) (b:Bool):Prop :=
 ∀(P:Program) (w:World) (E Q:Value->Shared->Prop),Q (.bool b) s->wpAny (model P w) A (richCompare .Lt y x) Q E s
def uU (e l:Nat->Bool) (fin:Bool):List Nat->Bool
 |[]=>fin
 |i::r=>if e i=true then uU e l fin r else l i
theorem range_drop {n i:Nat}(h:i<n):(List.range n).drop i=i::(List.range n).drop (i+1):=by
 rw[Xb (by simpa using h)];simp
section
variable {A:Around}{s:Shared}
theorem LtAt.strs (i j:Str) (t u:Tok):LtAt A s (.str i t) (.str j u) (decide (i.cps.toList<j.cps.toList)):=fun P w E Q h=>(PyProof.Rows.lt_str h:wpAny (model P w) A (compareOp .Lt _ _) Q E s)
variable {X:Cx}{pins:List (Addr × Obj)}{Z:L2.St}{H:Hp}
variable {P:Program}{w:World}{R:Result->Shared->Prop}{I S:Addr}{fp wr:List Addr}{n:Nat}{V:Nat->Value->Prop}{St:Nat->Heap->Prop}{bt:Nat->Nat->Bool}{s0:Shared}
def Kpt (h h':Heap):Prop:=∀b o,h.get? b=some o->h'.get? b=some o
end
theorem jD:bootBuiltins "sorted"=some (.builtin "sorted"):=by decide +kernel
def Srt (O:KeyOrd) (key:Nat->O.α) (n:Nat) (ps:List Nat):Prop:=ps.Perm (List.range n)/\∀i j,i<=j->j<n->O.kle (key (ps.getD i 0)) (key (ps.getD j 0))
theorem Srt.of {O:KeyOrd}{key:Nat->O.α}{n:Nat}{p:Array Nat}(h:Pm n p) (u:Up O key p n):Srt O key n p.toList:=⟨h.pm,fun i j h1 h2=>by
 have:=u i j h1 h2;unfold Ky at this;rw[XF,XF] at this;rw[d_,d_,Array.getElem?_toList,Array.getElem?_toList];exact this⟩
section
variable {P:Program}{w:World}{A:Around}{E:Value->Shared->Prop}{s:Shared}{O:KeyOrd}{key:Nat->O.α}
theorem lK {a:Addr}{vs:List Value}{c:Nat}{R:PySem.Fin->Shared->Prop}(ho:s.heap.get? a=some (seqObj "list" vs.toArray c)) (h64:vs.length<64)
  (hk:2<=vs.length->∀h',(∀b o,b≠a->s.heap.get? b=some o->h'.get? b=some o)->wpAny (model P w) A (keyKind' vs.toArray) (fun κ s'=>s'={ s with heap:=h'}/\∀i j (C:Bool->Shared->Prop),i<vs.length->j<vs.length->C (O.blt (key i) (key j)) { s with heap:=h'}->kas_ask P w A κ vs i j C { s with heap:=h'}) (fun _ _=>False) { s with heap:=h'})
  (h:∀ps,Srt O key vs.length ps->R (.done (.ret .none)) { s with heap:=sortedHeap s.heap a vs (ps.map fun i=>vs.getD i Value.none).toArray}):wpAny (model P w) A (Builtin.«list.sort» ⟨[.ref a],[]⟩) R E s:=by
 have ha:a<s.heap.objs.size:=y_ ho;have hz:vs.length<=sizeLine:=by rw[Zk];omega
 rw[list_sort_plain];refine b_ (listItems_at ho rfl ?_);refine b_ (listUpdate_at ho rfl ?_ (by rw[i_];omega) (WR _));obtain⟨e1,ho1⟩:∃e1,(s.heap.update a (Obj.mapSeq fun _=>(#[]:Array Value))).get? a=some (seqObj "list" #[] e1):=⟨_,Y4 ho fun _=>#[]⟩;refine b_ (seqEpoch_at ho1 rfl ?_);refine b_ (wpAny_newTuple ?_ hz);refine b_ (Zv ?_ (WR _));refine X8 ?_;have ho6:(((s.heap.update a (Obj.mapSeq fun _=>(#[]:Array Value))).push (seqObj "tuple" vs.toArray 0)).push (seqObj "list" #[] 0)).get? a=some (seqObj "list" #[] e1):=e_ _ (e_ _ ho1);show wpAny (model P w) A _ R E { s with heap:=((s.heap.update a (Obj.mapSeq fun _=>(#[]:Array Value))).push (seqObj "tuple" vs.toArray 0)).push (seqObj "list" #[] 0)};dsimp only;by_cases h2:vs.toArray.size<2
 ·rw[if_pos h2,if_pos h2];refine b_ (m_ ?_);rw[StateT.run_pure];refine b_ (m_ ?_);dsimp only;rw[i_] at h2;refine b_ (seqEpoch_at ho6 rfl ?_);have e:((vs.toArray.zip vs.toArray).map (·.2))=((List.range vs.length).map fun i=>vs.getD i Value.none).toArray:=by
   match vs,h2 with
   |[],_=>simp
   |[v],_=>simp [List.range_succ]
  show wpAny (model P w) A (Builtin.List.listUpdate (.ref a) (fun _=>(vs.toArray.zip vs.toArray).map (·.2)) >>= _) R E _;rw[e];refine b_ (listUpdate_at ho6 rfl ?_ (WR _) (by rw[i_,h_,A_];omega));simp only[bne_self_eq_false,x_,Wt];refine m_ (h (List.range vs.length) ⟨.refl _,fun i j h1 h3=>?_⟩);obtain rfl:i=j:=by omega
  exact Yk _
 rw[if_neg h2,if_neg h2];rw[i_] at h2;refine b_ (Xh (hk (by omega) _ fun b o hb e=>e_ _ (e_ _ ((XX _ _ _ _ hb).trans e))) (fun κ s' hs=>?_) fun _ _ x=>x.elim);obtain⟨rfl,hc⟩:=hs;have kw:=G6 (O:=O) (key:=key) (n:=vs.length) (by omega);refine b_ (Xh (kat_run (G:=fun p s'=>(Pm vs.length p/\Up O key p vs.length)/\s'={ s with heap:=((s.heap.update a (Obj.mapSeq fun _=>(#[]:Array Value))).push (seqObj "tuple" vs.toArray 0)).push (seqObj "list" #[] 0)}) (Q:=fun st' s'=>∃p:Array Nat,arrOf st'=p.map (kas_item (vs.toArray.zip vs.toArray))/\failedOf st'=none/\(Pm vs.length p/\Up O key p vs.length)/\s'={ s with heap:=((s.heap.update a (Obj.mapSeq fun _=>(#[]:Array Value))).push (seqObj "tuple" vs.toArray 0)).push (seqObj "list" #[] 0)}) rfl (by omega) h64 (fun p' st' s' a1 a2 a3 a4=>⟨p',a2,a3,a4.1,a4.2⟩) (kw.wp hc fun p hp=>⟨hp,rfl⟩)) ?_ fun _ _ e=>e);rintro⟨⟨⟩,st'⟩ s' ⟨p,har,hf,⟨hp,hu⟩,rfl⟩;dsimp only;rw[kat_snds rfl har];refine b_ (seqEpoch_at ho6 rfl ?_);refine b_ (listUpdate_at ho6 rfl ?_ (WR _) (by rw[i_,h_,hp.pm.length_eq,A_];omega));rw[hf];simp only[bne_self_eq_false,x_,Wt];exact m_ (h _ (.of hp hu))
theorem uV {h:Heap}{vs:List Value}{out:Array Value}:Kpt h (sortedAll h vs out)/\∃c,(sortedAll h vs out).get? (h.objs.size+1)=some (seqObj "list" out c):=by
 have sz:((h.push (seqObj "list" #[] 0)).update h.objs.size (Obj.mapSeq (·++vs.toArray))).objs.size=h.objs.size+1:=by rw[Heap.size_update,size_push']
 have hoL:(((h.push (seqObj "list" #[] 0)).update h.objs.size (Obj.mapSeq (·++vs.toArray))).push (seqObj "list" vs.toArray 0)).get? (h.objs.size+1)=some (seqObj "list" vs.toArray 0):=by rw[<- sz];exact u_ _ rfl
 refine⟨fun b o e=>?_,?_⟩
 ·have hb:b<h.objs.size:=y_ e;unfold sortedAll sortedHeap;rw[XX _ _ _ _ (C_ (Xw hb))];refine e_ _ (e_ _ ?_);rw[XX _ _ _ _ (C_ (Xw hb))];refine e_ _ ?_;rw[XX _ _ _ _ (C_ hb)];exact e_ _ e
 unfold sortedAll sortedHeap;exact⟨_,Y4 (e_ _ (e_ _ (Y4 hoL fun _=>#[]))) fun _=>out⟩
theorem rN {l:Addr}{vs:List Value}{Q:List Value->Shared->Prop}(hl:s.heap.IsTuple l vs.toArray) (hz:vs.length<=sizeLine)
  (h:Q vs { s with heap:=(s.heap.push (seqObj "list" #[] 0)).update s.heap.objs.size (Obj.mapSeq (·++vs.toArray))}):wpAny (model P w) A (collect (.ref l)) Q E s:=by
 obtain⟨o,ho,hc,n,hd⟩:=id hl;unfold collect;refine b_ (wpAny_runValue (Y5 entry_proto_collect' ?_));refine b_ (m:=newList []) (Zv (m_ ⟨Code.quiet_builtin _ (by decide +kernel),Y5 entry_list_iadd' ?_⟩));show wpAny _ _ (Builtin.List.listExtendWith (.ref s.heap.objs.size) (.ref l) (.ref s.heap.objs.size)) _ _ { s with heap:=s.heap.push (seqObj "list" #[] 0)};unfold Builtin.List.listExtendWith;have hl2:(s.heap.push (seqObj "list" #[] 0)).get? l=some o:=e_ _ ho;refine b_ (wpAny_typeOf (T:="tuple") ⟨o,hl2,hc⟩ ?_);rw[if_pos (by rw[show (Value.type "tuple"==Value.type "tuple")=true from rfl,Bool.or_true])];refine b_ (listItems_at hl2 hd (b_ (listItems_at (xs:=#[]) (n:=0) (u_ _ rfl) rfl ?_)));rw[if_neg (by simp)];refine b_ (listUpdate_at (xs:=#[]) (n:=0) (u_ _ rfl) rfl ?_ (WR _) (by show (#[]++vs.toArray).size<=sizeLine+1;simp only[Array.size_append,i_,W3];omega));refine m_ ?_;refine b_ (m:=load s.heap.objs.size) (wpAny_load (Y4 (u_ _ rfl) _) ?_);show wpAny _ _ (pure ((#[]:Array Value)++vs.toArray).toList) Q E _;rw[show ((#[]:Array Value)++vs.toArray).toList=vs by simp];exact m_ h
theorem rO {l:Addr}{vs:List Value}{Q:List Value->Shared->Prop}(hl:s.heap.IsList l vs.toArray\/s.heap.IsTuple l vs.toArray) (hz:vs.length<=sizeLine)
  (h:Q vs { s with heap:=(s.heap.push (seqObj "list" #[] 0)).update s.heap.objs.size (Obj.mapSeq (·++vs.toArray))}):wpAny (model P w) A (collect (.ref l)) Q E s:=by
 rcases hl with hl | hl
 ·exact collect_list hl h hz
 exact rN hl hz h
theorem sortedK {l:Addr}{vs:List Value}{Q:Value->Shared->Prop}(hl:s.heap.IsList l vs.toArray\/s.heap.IsTuple l vs.toArray) (h64:vs.length<64)
  (hk:2<=vs.length->∀h',Kpt s.heap h'->wpAny (model P w) A.in1.in1 (keyKind' vs.toArray) (fun κ s'=>s'={ s with heap:=h'}/\∀i j (C:Bool->Shared->Prop),i<vs.length->j<vs.length->C (O.blt (key i) (key j)) { s with heap:=h'}->kas_ask P w A.in1.in1 κ vs i j C { s with heap:=h'}) (fun _ _=>False) { s with heap:=h'})
  (h:∀ps h' c,Srt O key vs.length ps->Kpt s.heap h'->h'.get? (s.heap.objs.size+1)=some (seqObj "list" (ps.map fun i=>vs.getD i Value.none).toArray c)->Q (.ref (s.heap.objs.size+1)) { s with heap:=h'}):wpAny (model P w) A (call (.builtin "sorted") [.ref l]) Q E s:=by
 refine Calls.call_function_entry kind_sorted plain_sorted entry_sorted (args_sorted1 _) ?_;unfold Builtin.«sorted»;refine b_ (m:=checkCount "sorted" 1 1 _) (m_ ?_);refine b_ (rO hl (by rw[Zk];omega) ?_);refine b_ (Zv ?_ (by rw[Zk];omega));have sz:((s.heap.push (seqObj "list" #[] 0)).update s.heap.objs.size (Obj.mapSeq (·++vs.toArray))).objs.size=s.heap.objs.size+1:=by rw[Heap.size_update,size_push']
 have hoL:(((s.heap.push (seqObj "list" #[] 0)).update s.heap.objs.size (Obj.mapSeq (·++vs.toArray))).push (seqObj "list" vs.toArray 0)).get? (s.heap.objs.size+1)=some (seqObj "list" vs.toArray 0):=by rw[<- sz];exact u_ _ rfl
 show wpAny _ _ _ _ _ { s with heap:=((s.heap.push (seqObj "list" #[] 0)).update s.heap.objs.size (Obj.mapSeq (·++vs.toArray))).push (seqObj "list" vs.toArray 0)};rw[sz];refine b_ (X8 (Xp slot_list_sort ⟨_,hoL,rfl⟩ entry_list_sort (lK (O:=O) (key:=key) hoL h64 (fun h2 h' kp=>hk h2 h' fun b o e=>kp b o ?_ ?_) fun ps hs=>⟨_,rfl,?_⟩) (args_list_sort _)))
 ·exact C_ (Xw (y_ e))
 ·have hb:b<s.heap.objs.size:=y_ e;refine e_ _ ?_;rw[XX _ _ _ _ (C_ hb)];exact e_ _ e
 obtain⟨kp,c,hc⟩:=uV (h:=s.heap) (vs:=vs) (out:=(ps.map fun i=>vs.getD i Value.none).toArray);exact m_ ⟨_,rfl,h ps _ c hs kp hc⟩
end
open L2 PySem.W M
theorem Ou {x y:Str}:(x==y)=decide (x.cps.toList=y.cps.toList):=by
 by_cases h:x=y
 ·subst h;simp
 have:¬x.cps.toList=y.cps.toList:=fun e=>h (by cases x;cases y;simp at e;simp [e]);simp [h,this]
section
variable {X:Cx}{pins:List (Addr × Obj)}{Z:L2.St}{H:Hp}{s:Shared}
end
theorem yp (a b:Addr) (xs ys:Array Value) (n k:Nat) (da db:Option Addr) (sa sb:Array (Option Value)) (e l:Nat->Bool) (m:Nat):∀i:Nat,min xs.size ys.size - i=m->i<=min xs.size ys.size->Meets (Builtin.«list.__eq__.loop» ⟨[.ref a,.ref b,rawInt i,rawInt 0],[]⟩) fun A R s =>
  s.heap.get? a=some ⟨.type "list",da,.seq xs n,sa⟩/\s.heap.get? b=some ⟨.type "list",db,.seq ys k,sb⟩/\(∀j (h1:j<xs.size) (h2:j<ys.size),SeqAt.EqAt A.in1 s xs[j] ys[j] (e j)) /\
  (∀j (h1:j<xs.size) (h2:j<ys.size),e j=false->LtAt A.in1 s xs[j] ys[j] (l j))/\R (.ok (.ret (.bool (uU e l (decide (xs.size<ys.size)) ((List.range (min xs.size ys.size)).drop i))))) s:=by
 induction m with
 |zero =>
  intro i hm hi P w A R s h;obtain⟨hp,g,d,tk,os⟩:=s;obtain⟨ha,hb,he,hl,h⟩:=h;rw[Xu (by simp;omega)] at h;have out:∀(u v:Option Value),xs[((i:Nat):Int).toNat]?=u->ys[((i:Nat):Int).toNat]?=v->u=none\/v=none:=fun u v h1 h2=>by
   by_cases q:i<xs.size
   ·right;rw[<- h2];simp;omega
   left;rw[<- h1];simp;omega
  wp_walk using O_ ha,O_ hb
  cases e1:xs[((i:Nat):Int).toNat]? with
  |none =>
   wp_walk using O_ ha,O_ hb
   exact h
  |some u =>
  cases e2:ys[((i:Nat):Int).toNat]? with
  |none =>
   wp_walk using O_ ha,O_ hb
   exact h
  |some v=>exact absurd (out _ _ e1 e2) (by simp)
 |succ m ih =>
 intro i hm hi P w A R s h;obtain⟨hp,g,d,tk,os⟩:=s;obtain⟨ha,hb,he,hl,h⟩:=h;have i1:i<xs.size:=by omega
 have i2:i<ys.size:=by omega
 have e1:xs[((i:Nat):Int).toNat]?=some xs[i]:=by simp [i1]
 have e2:ys[((i:Nat):Int).toNat]?=some ys[i]:=by simp [i2]
 have ei:((i:Int)+1)=((i+1:Nat):Int):=by push_cast;rfl
 rw[range_drop (by omega)] at h
 wp_walk using O_ ha,O_ hb
 rw[e1,e2];refine b_ (he i i1 i2 P w _ _ ?_);unfold uU at h;cases hy:e i with
 |true =>
  rw[if_pos hy] at h
  wp_walk
  rw[ei];refine⟨plainId_quiet YJ _,Y5 MeetsSeq3.entry_eq_loop ?_⟩;rw[Around.under_plainId YJ _];exact ih (i+1) (by omega) (by omega) P w A R _ ⟨ha,hb,he,hl,h⟩
 |false =>
 rw[if_neg (by rw[hy];decide)] at h;have hL:=hl i i1 i2 hy;have hL':∀{E Q:Value->Shared->Prop},Q (.bool (l i)) ⟨hp,g,d,tk,os⟩->wpAny (model P w) A.in1 (richCompare .Lt xs[i] ys[i]) Q E ⟨hp,g,d,tk,os⟩:=fun {E Q}=>hL P w E Q
 wp_walk using O_ ha,O_ hb
 rw[e1,e2]
 wp_walk using hL'
 exact h
theorem Ov (a b:Addr) (xs ys:Array Value) (n k:Nat) (da db:Option Addr) (sa sb:Array (Option Value)) (e l:Nat->Bool):Meets (Builtin.«list.__lt__» ⟨[.ref a,.ref b],[]⟩) fun A R s =>
  s.heap.get? a=some ⟨.type "list",da,.seq xs n,sa⟩/\s.heap.get? b=some ⟨.type "list",db,.seq ys k,sb⟩/\(∀j (h1:j<xs.size) (h2:j<ys.size),SeqAt.EqAt A.in1 s xs[j] ys[j] (e j)) /\
  (∀j (h1:j<xs.size) (h2:j<ys.size),e j=false->LtAt A.in1 s xs[j] ys[j] (l j))/\R (.ok (.ret (.bool (uU e l (decide (xs.size<ys.size)) (List.range (min xs.size ys.size)))))) s:=by
 intro P w A R s h;obtain⟨hp,g,d,tk,os⟩:=s;obtain⟨ha,hb,he,hl,h⟩:=h;have sub:=AutoSeq1.sub_list_list
 wp_walk using O_ ha,O_ hb
 refine⟨plainId_quiet YJ _,Y5 MeetsSeq3.entry_eq_loop ?_⟩;rw[Around.under_plainId YJ _];exact yp a b xs ys n k da db sa sb e l _ 0 rfl (WR _) P w A R _ ⟨ha,hb,he,hl,by simpa using h⟩
section
variable (O:KeyOrd)
def dO:List O.α->List O.α->Bool
 |[],[]=>false
 |[],_::_=>true
 |_::_,[]=>false
 |x::xs,y::ys=>O.blt x y||(!O.blt y x&&dO xs ys)
variable {O}
theorem nY:∀a:List O.α,dO O a a=false
 |[]=>rfl
 |x::xs=>by unfold dO;rw[O.irrefl,nY xs];rfl
theorem jR:∀a b c:List O.α,dO O a b=true->dO O b c=true->dO O a c=true
 |[],[],_,h,_=>by cases h
 |[],_::_,[],_,h=>by cases h
 |[],_::_,_::_,_,_=>rfl
 |_::_,[],_,h,_=>by cases h
 |_::_,_::_,[],_,h=>by cases h
 |x::xs,y::ys,z::zs,h1,h2=>by
  unfold dO at h1 h2 ⊢
  simp only[Bool.or_eq_true,WL,Y7] at h1 h2 ⊢
  rcases h1 with h1 | ⟨h1,r1⟩ <;> rcases h2 with h2 | ⟨h2,r2⟩
  ·
   exact .inl (O.trans _ _ _ h1 h2)
  ·
   rcases O.negTrans _ z _ h1 with q | q
   ·
    exact .inl q
   ·
    rw[h2] at q;cases q
  ·
   rcases O.negTrans _ x _ h2 with q | q
   ·
    rw[h1] at q;cases q
   ·
    exact .inl q
  ·
   refine .inr ⟨?_,jR xs ys zs r1 r2⟩
   cases e:O.blt z x with
   |false=>rfl
   |true =>
    rcases O.negTrans _ y _ e with q | q
    ·
     rw[h2] at q;cases q
    ·
     rw[h1] at q;cases q
theorem nZ:∀a b c:List O.α,dO O a c=true->dO O a b=true\/dO O b c=true
 |[],_,[],h=>by cases h
 |[],[],_::_,_=>.inr rfl
 |[],_::_,_::_,_=>.inl rfl
 |_::_,_,[],h=>by cases h
 |_::_,[],_::_,_=>.inr rfl
 |x::xs,y::ys,z::zs,h=>by
  unfold dO at h ⊢
  simp only[Bool.or_eq_true,WL,Y7] at h ⊢
  rcases h with h | ⟨h,r⟩
  ·
   rcases O.negTrans _ y _ h with q | q
   ·
    exact .inl (.inl q)
   ·
    exact .inr (.inl q)
  ·
   cases e1:O.blt x y with
   |true=>exact .inl (.inl rfl)
   |false =>
    cases e2:O.blt y z with
    |true=>exact .inr (.inl rfl)
    |false =>
     cases e3:O.blt y x with
     |true =>
      rcases O.negTrans _ z _ e3 with q | q
      ·
       rw[e2] at q;cases q
      ·
       rw[h] at q;cases q
     |false =>
      cases e4:O.blt z y with
      |true =>
       rcases O.negTrans _ x _ e4 with q | q
       ·
        rw[h] at q;cases q
       ·
        rw[e1] at q;cases q
      |false =>
       rcases nZ xs ys zs r with q | q
       ·
        exact .inl (.inr ⟨rfl,q⟩)
       ·
        exact .inr (.inr ⟨rfl,q⟩)
theorem n6:∀a b:List O.α,dO O a b=false->dO O b a=false->a=b
 |[],[],_,_=>rfl
 |[],_::_,h,_=>by cases h
 |_::_,[],_,h=>by cases h
 |x::xs,y::ys,h1,h2=>by
  unfold dO at h1 h2
  simp only[Bool.or_eq_false_iff,Bool.and_eq_false_iff,Bool.not_eq_false'] at h1 h2
  have e:=O.total x y h1.1 h2.1
  rcases h1.2 with q | q
  ·
   rw[h2.1] at q;cases q
  ·
   rcases h2.2 with r | r
   ·
    rw[h1.1] at r;cases r
   ·
    rw[e,n6 xs ys q r]
@[reducible] def lL (O:KeyOrd):KeyOrd:=⟨List O.α,dO O,nY,jR,nZ,n6⟩
end
@[reducible] def strOrd:KeyOrd:=strKind.toKeyOrd
def dU (x:Str):strOrd.α:=x.cps.toList
def rKey (xs:List Str):(lL strOrd).α:=xs.map dU
theorem G7 (xs ys:List Str):∀(m i:Nat),min xs.length ys.length - i=m->i<=min xs.length ys.length ->
  uU (fun j=>decide (xs[j]?=ys[j]?)) (fun j=>decide (dU (xs.getD j default)<dU (ys.getD j default))) (decide (xs.length<ys.length)) ((List.range (min xs.length ys.length)).drop i)=dO strOrd (rKey (xs.drop i)) (rKey (ys.drop i)):=by
 intro m;induction m with
 |zero =>
  intro i hm hi;rw[Xu (by simp;omega)];unfold uU;by_cases h1:xs.length<=i
  ·rw[Xu h1];by_cases h2:ys.length<=i
   ·rw[Xu h2];exact E_ (by omega)
   rw[Xb (by omega)];exact L_ (by omega)
  rw[Xu (show ys.length<=i by omega),Xb (by omega)];exact E_ (by omega)
 |succ m ih =>
 intro i hm hi;have h1:i<xs.length:=by omega
 have h2:i<ys.length:=by omega
 rw[range_drop (by omega),Xb h1,Xb h2];unfold uU rKey;rw[I_,I_];unfold dO;dsimp only;rw[a_ h1,a_ h2,d_,a_ h1,d_,a_ h2];dsimp only[Option.getD_some];by_cases he:xs[i]=ys[i]
 ·have irr:decide (dU ys[i]<dU ys[i])=false:=strOrd.irrefl _;rw[if_pos (L_ (WK some he)),he,irr];exact ih (i+1) (by omega) (by omega)
 rw[if_neg (by simp [he])];have hk:¬dU xs[i]=dU ys[i]:=fun q=>he (by
  have:=Ou (x:=xs[i]) (y:=ys[i])
  rw[L_ (show xs[i].cps.toList=ys[i].cps.toList from q)] at this
  exact eq_of_beq this)
 show decide (dU xs[i]<dU ys[i])=(strOrd.blt (dU xs[i]) (dU ys[i])||_);cases e:strOrd.blt (dU xs[i]) (dU ys[i]) with
 |true=>exact e
 |false =>
 cases e2:strOrd.blt (dU ys[i]) (dU xs[i]) with
 |true =>
  have e2':decide (dU ys[i]<dU xs[i])=true:=e2
  rw[e2']
  exact e
 |false=>exact absurd (strOrd.total _ _ e e2) hk
section
variable {X:Cx}{pins:List (Addr × Obj)}{Z:L2.St}{H:Hp}{s:Shared}{H3:Hp3}{Q3:VK3}{Q:VK}
theorem BZ (I:Inv X pins Z H s) (sh:SimH X.K H3 H) (k:KV3 X.K H Q3 Q) {α:Type}(O:KeyOrd) (key:α->O.α) (enc:α->T) (d0:α) {as:List α}{a:Addr}{ys:List V}{its:List Value}(rs:Reps X.K H (as.map enc) ys) (rvs:Vals ys its)
  (hl:s.heap.IsList a its.toArray\/s.heap.IsTuple a its.toArray) (h64:as.length<64)
  (hk:2<=its.length->∀h',Kpt s.heap h'->wpAny (model X.prog X.w) X.A.in1.in1 (keyKind' its.toArray) (fun κ s'=>s'={ s with heap:=h'}/\∀i j (C:Bool->Shared->Prop),i<its.length->j<its.length->C (O.blt (key (as.getD i d0)) (key (as.getD j d0))) { s with heap:=h'}->kas_ask X.prog X.w X.A.in1.in1 κ its i j C { s with heap:=h'}) (fun _ _=>False) { s with heap:=h'})
  (h:∀us:List α,us.Perm as->us.Pairwise (fun x y=>O.kle (key x) (key y))->∀p,H3 p=none->Q3 (.ref p) (up3 H3 p (.lst (us.map enc)))):wpAny (model X.prog X.w) X.A (call (.builtin "sorted") [.ref a]) (EP X pins Z Q) X.xe s:=by
 have l1:=rs.length;rw[h_] at l1;have l2:=rvs.length;have hz:sizeLine=16777216:=rfl;refine sortedK (O:=O) (key:=fun i=>key (as.getD i d0)) hl (by omega) hk fun q h' c hs kp hc=>?_;obtain⟨hp,hu⟩:=hs;have hlt:∀i∈q,i<as.length:=fun i hi=>by have:=Wu.mp (hp.mem_iff.mp hi);omega
 have hql:q.length=as.length:=by rw[hp.length_eq,A_];omega
 have ry:Reps X.K H ((q.map fun i=>as.getD i d0).map enc) (q.map fun i=>ys.getD i .non):=by
  clear hu hp hql hc;induction q with
  |nil=>exact .nil
  |cons i q ih =>
  refine .cons ?_ (ih fun j hj=>hlt j (.tail _ hj));have hi:=hlt i (.head _);obtain⟨y,e1,r1⟩:=rs.get (i:=i) (t:=enc as[i]) (by rw[o_,a_ hi];rfl);dsimp only;rw[d_,a_ hi,d_,e1];exact r1
 have rz:Vals (q.map fun i=>ys.getD i .non) (q.map fun i=>its.getD i Value.none):=by
  clear hu hp hql ry hc;induction q with
  |nil=>exact .nil
  |cons i q ih =>
  refine .cons ?_ (ih fun j hj=>hlt j (.tail _ hj));have hi:i<ys.length:=by have:=hlt i (.head _);omega
  obtain⟨z,e1,r1⟩:=rvs.get (i:=i) (a_ hi);dsimp only;rw[d_,a_ hi,d_,e1];exact r1
 have hf:H (s.heap.objs.size+1)=none:=I.hok.fresh (Zm _);refine⟨.ref (s.heap.objs.size+1),upd H (s.heap.objs.size+1) (.lst (q.map fun i=>ys.getD i .non)),I.laid (t':=s.toks) kp (Zm _) ⟨by rw[h_];omega,_,c,rz,hc⟩,rfl,?_⟩;refine k _ _ _ _ (aJ hf) (sh.newLst hf ry) .ofRef (h _ ?_ ?_ _ (sh.fresh hf))
 ·have hm:=hp.map fun i=>as.getD i d0;rw[show its.length=as.length by omega] at hm;have e2:(List.range as.length).map (fun i=>as.getD i d0)=as:=by
   apply Yd;intro i;rw[o_];by_cases hi:i<as.length
   ·rw[Wv hi,a_ hi];simp [d_,hi]
   rw[J_ (by simpa using hi),J_ (by omega)];rfl
  rw[e2] at hm;exact hm
 rw[X4];intro i j hi hj hij;rw[h_] at hi hj;have:=hu i j (by omega) (by omega);rw[d_,a_ hi,d_,a_ hj] at this;rw[X7,X7];exact this
theorem kh:∀{ss:List Str}{ys:List V}{its:List Value},Reps X.K H (ss.map T.str) ys->Vals ys its->StrsAre its ss
 |[],_,_,r,rv=>by rw[r.inv0] at rv;cases rv;exact .nil
 |x::ss,_,_,r,rv=>by
  obtain⟨v,r',rfl,q,b⟩:=r.inv
  cases rv with
  |cons ru rv =>
   cases q.str
   obtain⟨t,rfl⟩:=ru
   exact .cons x t (kh b rv)
theorem StrsAre.get {its:List Value}{ss:List Str}(h:StrsAre its ss):∀i,i<its.length->∃t,its.getD i Value.none=Value.str (ss.getD i default) t:=by
 induction h with
 |nil=>intro i hi;exact absurd hi (Nat.not_lt_zero _)
 |cons x t _ ih =>
 intro i hi;cases i with
 |zero=>exact⟨t,rfl⟩
 |succ i=>exact ih i (by simpa using hi)
theorem StrsAre.len {its:List Value}{ss:List Str}(h:StrsAre its ss):its.length=ss.length:=by
 induction h with
 |nil=>rfl
 |cons x t _ ih=>rw[l_,l_,ih]
theorem rP (I:Inv X pins Z H s) (sh:SimH X.K H3 H) (k:KV3 X.K H Q3 Q) {ss:List Str}{a:Addr}{ys:List V}{its:List Value}(rs:Reps X.K H (ss.map T.str) ys) (rvs:Vals ys its) (hl:s.heap.IsList a its.toArray\/s.heap.IsTuple a its.toArray) (h64:ss.length<64)
  (h:∀us:List Str,us.Perm ss->us.Pairwise (fun x y=>strOrd.kle (dU x) (dU y))->∀p,H3 p=none->Q3 (.ref p) (up3 H3 p (.lst (us.map T.str)))):wpAny (model X.prog X.w) X.A (call (.builtin "sorted") [.ref a]) (EP X pins Z Q) X.xe s:=by
 have hS:=kh rs rvs;refine BZ I sh k strOrd dU T.str default rs rvs hl h64 (fun h2 h' kp=>?_) h;refine kas_kind (T:=.type "str") (s:={ s with heap:=h'}) h2 (fun v hv=>?_) rfl rfl ⟨rfl,fun i j C hi hj hC=>?_⟩
 ·obtain⟨x,t,rfl⟩:=hS.all v hv;exact Looks.of_pure rfl
 obtain⟨t,e1⟩:=StrsAre.get hS i hi;obtain⟨u,e2⟩:=StrsAre.get hS j hj;unfold kas_ask;rw[e1,e2];exact kas_lt_str hC
def G8 (h:Heap) (xs:List Str) (v:Value):Prop:=∃a o n its,v=.ref a/\h.get? a=some o/\o.cls=.type "list"/\o.data=.seq its n/\StrsAre its.toList xs
theorem wJ (I:Inv X pins Z H s) (sh:SimH X.K H3 H) {h':Heap}(kp:Kpt s.heap h'):∀{zs:List (Addr × List Str)}{ys:List V}{its:List Value},(∀z∈zs,H3 z.1=some (.lst (z.2.map T.str)))->Reps X.K H (zs.map fun z=>T.ref z.1) ys->Vals ys its ->
  its.length=zs.length/\∀(i:Nat) (z:Addr × List Str),zs[i]?=some z->∃v,its[i]?=some v/\G8 h' z.2 v
 |[],_,_,_,r,rv=>by
  rw[r.inv0] at rv
  cases rv
  exact⟨rfl,(fun _ _ z=>nomatch z)⟩
 |z::zs,_,_,hz,r,rv=>by
  obtain⟨v,r',rfl,q,b⟩:=r.inv
  cases rv with
  |cons ru rv =>
   obtain⟨h1,h2⟩:=wJ I sh kp (fun y hy=>hz y (.tail _ hy)) b rv
   cases q.ref
   cases ru
   obtain⟨ys2,sq,rs2⟩:=sh.sqL (.inl (hz z (.head _)))
   obtain⟨its2,rv2,⟨o,n,e,hc,_,hd⟩,_⟩:=I.list sq
   refine⟨by simp [h1],fun i y hy=>?_⟩
   cases i with
   |zero=>cases hy;exact⟨_,rfl,z.1,o,n,its2.toArray,rfl,kp _ _ e,hc,hd,kh rs2 rv2⟩
   |succ i=>exact h2 i y hy
theorem G9 {A:Around}{s':Shared}{xs ys:List Str}{us vs:List Value}(h1:StrsAre us xs) (h2:StrsAre vs ys) (j:Nat) (g1:j<us.toArray.size) (g2:j<vs.toArray.size):SeqAt.EqAt A s' us.toArray[j] vs.toArray[j] (decide (xs[j]?=ys[j]?)):=by
 rw[i_] at g1 g2;obtain⟨t,e1⟩:=StrsAre.get h1 j g1;obtain⟨u,e2⟩:=StrsAre.get h2 j g2;have l1:=StrsAre.len h1;have l2:=StrsAre.len h2;rw[d_,a_ g1] at e1;rw[d_,a_ g2] at e2;rw[Y9,Y9,show us[j]=_ from e1,show vs[j]=_ from e2];rw[a_ (show j<xs.length by omega),a_ (show j<ys.length by omega),d_,a_ (show j<xs.length by omega),d_,a_ (show j<ys.length by omega)];rw[show decide (some xs[j]=some ys[j])=(xs[j]==ys[j]) by by_cases h:xs[j]=ys[j] <;> simp [h]];exact SeqAt.EqAt.str_str _ _ _ _
theorem Ow {P:Program}{w:World}{A:Around}{s':Shared}(hu:A.units<cLine) {xs ys:List Str}{u v:Value}(hx:G8 s'.heap xs u) (hy:G8 s'.heap ys v) {C:Bool->Shared->Prop}{E:Value->Shared->Prop}(h:C ((lL strOrd).blt (rKey xs) (rKey ys)) s') :
  wpAny (model P w) A (keyLt' oneType' u v) C E s':=by
 obtain⟨a,⟨c1,d1,q1,z1⟩,n1,⟨us⟩,rfl,o1,k1,e1,s1⟩:=hx;obtain⟨b,⟨c2,d2,q2,z2⟩,n2,⟨vs⟩,rfl,o2,k2,e2,s2⟩:=hy;dsimp only at k1 e1 k2 e2;subst k1 e1 k2 e2;have l1:=StrsAre.len s1;have l2:=StrsAre.len s2;rw[keyLt'_oneType,oneLt'_eq];try simp only[if_true]
 refine b_ (wpAny_cRoomFor hu ?_);refine b_ (wpAny_callSpecialIfBound?_slot ⟨_,o1,rfl⟩ F.slot_list_lt ?_);refine call_meets F.slot_list_lt ⟨_,o1,rfl⟩ F.entry_list_lt (F.args_list_lt_2 _ _) (Ov a b us.toArray vs.toArray n1 n2 d1 d2 z1 z2 (fun j=>decide (xs[j]?=ys[j]?)) (fun j=>decide (dU (xs.getD j default)<dU (ys.getD j default)))) ⟨o1,o2,G9 s1 s2,fun j g1 g2 _=>?_,?_⟩
 ·rw[i_] at g1 g2;obtain⟨t,f1⟩:=StrsAre.get s1 j g1;obtain⟨t',f2⟩:=StrsAre.get s2 j g2;rw[d_,a_ g1] at f1;rw[d_,a_ g2] at f2;rw[Y9,Y9,show us[j]=_ from f1,show vs[j]=_ from f2];exact LtAt.strs _ _ _ _
 have e:=G7 xs ys _ 0 rfl (WR _);rw[Y8,Y8,Y8] at e;rw[i_,i_,show us.length=xs.length from l1,show vs.length=ys.length from l2,e];exact Yy h
theorem Ca (I:Inv X pins Z H s) (hu:X.A.units+16<cLine) (sh:SimH X.K H3 H) (k:KV3 X.K H Q3 Q) {zs:List (Addr × List Str)}{a:Addr}{ys:List V}{its:List Value}(hz:∀z∈zs,H3 z.1=some (.lst (z.2.map T.str))) (rs:Reps X.K H (zs.map fun z=>T.ref z.1) ys) (rvs:Vals ys its) (hl:s.heap.IsList a its.toArray\/s.heap.IsTuple a its.toArray) (h64:zs.length<64)
  (h:∀us:List (Addr × List Str),us.Perm zs->us.Pairwise (fun x y=>(lL strOrd).kle (rKey x.2) (rKey y.2))->∀p,H3 p=none->Q3 (.ref p) (up3 H3 p (.lst (us.map fun z=>T.ref z.1)))):wpAny (model X.prog X.w) X.A (call (.builtin "sorted") [.ref a]) (EP X pins Z Q) X.xe s:=by
 refine BZ I sh k (lL strOrd) (fun z:Addr × List Str=>rKey z.2) (fun z=>T.ref z.1) default rs rvs hl h64 (fun h2 h' kp=>?_) h;obtain⟨hll,hat⟩:=wJ I sh kp hz rs rvs;have g:∀i,i<its.length->∃v,its[i]?=some v/\G8 h' (zs.getD i default).2 v:=fun i hi=>hat i _ (by rw[d_,a_ (by omega)];rfl);refine kas_kind (T:=.type "list") (s:={ s with heap:=h'}) h2 (fun v hv=>?_) rfl rfl ⟨rfl,fun i j C hi hj hC=>?_⟩
 ·obtain⟨i,hi⟩:=W5 hv;obtain⟨v',e1,a1,o,n,it,rfl,ho,hc,hd,_⟩:=g i (Xa.mp hi).1;rw[hi] at e1;cases e1;have:=show Looks (model X.prog X.w) h' (typeOf (.ref a1)) o.cls from (Looks.ld ho).andThen .now;rw[hc] at this;exact this
 obtain⟨u,e1,r1⟩:=g i hi;obtain⟨v,e2,r2⟩:=g j hj;unfold kas_ask;rw[d_,d_,e1,e2];exact Ow (s':={ s with heap:=h'}) (by rw[units_in1,units_in1];omega) r1 r2 hC
end
def leS (x y:Str):Prop:=strOrd.kle (dU x) (dU y)
def leR (x y:Addr × List Str):Prop:=(lL strOrd).kle (rKey x.2) (rKey y.2)
def srS (x:T) (H:Hp3) (Q:VK3):Prop :=
 (∃ss:List Str,(x=.tup (ss.map T.str)\/∃a,x=.ref a/\H a=some (.lst (ss.map T.str)))/\ss.length<64/\∀us:List Str,us.Perm ss->us.Pairwise leS->∀p,H p=none->Q (.ref p) (up3 H p (.lst (us.map T.str)))) \/
 ∃(a:Addr) (zs:List (Addr × List Str)),x=.ref a/\H a=some (.lst (zs.map fun z=>T.ref z.1))/\zs.length<64/\(∀z∈zs,H z.1=some (.lst (z.2.map T.str)))/\∀us:List (Addr × List Str),us.Perm zs->us.Pairwise leR->∀p,H p=none->Q (.ref p) (up3 H p (.lst (us.map fun z=>T.ref z.1)))
def Cd:List T->Hp3->VK3->Prop:=fun ts H Q=>match ts with
 |[x]=>srS x H Q
 |_=>False
theorem Ox (x:T) (H:Hp3) (Q:VK3):Cd [x] H Q=srS x H Q:=rfl
section
variable {X:Cx}
theorem Ha (hu:X.A.units+30<cLine):cZ X (.builtin "sorted") Cd:=by
 intro pins s Z H xs us Q I rv h;obtain⟨ts,H3,Q3,r,sh,h,k⟩:=h;cases ts with
 |nil=>exact h.elim
 |cons t ts =>
 cases ts with
 |cons _ _=>exact h.elim
 |nil =>
 obtain⟨v,rfl,rv'⟩:=r.one';obtain⟨u,rfl,ru⟩:=vals1 rv;rcases h with ⟨ss,hx,h64,h⟩ | ⟨a,zs,rfl,ha,h64,hz,h⟩
 ·rcases hx with rfl | ⟨a,rfl,ha⟩
  ·obtain⟨a,ys,rfl,sq,rs⟩:=Rep.tup rv';cases ru;obtain⟨its,rvs,hl,_⟩:=I.tuple sq;exact rP I sh k rs rvs (.inr hl) h64 h
  rw[rv'.ref] at ru;cases ru;obtain⟨ys,sq,rs⟩:=sh.sqL (.inl ha);obtain⟨its,rvs,hl,_⟩:=I.list sq;exact rP I sh k rs rvs (.inl hl.isList) h64 h
 rw[rv'.ref] at ru;cases ru;obtain⟨ys,sq,rs⟩:=sh.sqL (.inl ha);obtain⟨its,rvs,hl,_⟩:=I.list sq;exact Ca I (by omega) sh k hz rs rvs (.inl hl.isList) h64 h
theorem yq {P:Program}{w:World}{kvs:List (Key × V)}{vs:List (Key × Value)}(r:KV kvs vs):∀(us:List Value),us.length=vs.length->(∀(j:Nat) (v:Value),us[j]?=some v->∃k x,vs[j]?=some (k,x)/\(bx P w).is k v=true)->Vals (kvs.map fun q=>kV q.1) us:=by
 induction r with
 |nil=>intro us h _;rw[X_ h];exact .nil
 |cons h1 h2 ih =>
 intro us hl hus;cases us with
 |nil=>cases hl
 |cons u us =>
 refine .cons ?_ (ih us (Nat.succ.inj hl) fun j v e=>hus (j+1) v e);obtain⟨k,x,e,hk⟩:=hus 0 u rfl;cases e;obtain⟨hq,_⟩:=h1;dsimp only at hq ⊢;rw[hq];rcases bB hk with ⟨i,t,e1,e2⟩ | ⟨y,t,e1,e2⟩
 ·rw[e1,e2];exact⟨t,rfl⟩
 rw[e1,e2];exact⟨t,rfl⟩
theorem yr {K:Frag}{H:Hp}{kvs:List (Str × T)}{vs:List (Key × V)}(r:RepD K H kvs vs):Reps K H (kvs.map fun q=>T.str q.1) (vs.map fun q=>kV q.1):=by
 induction r with
 |nil=>exact .nil
 |cons h _ ih =>
 refine .cons ?_ ih;dsimp only;rw[h.1];exact .ofStr
end
theorem Hf {h:Heap}{vs:List Value}{out:Array Value}:Kpt h (sortedHeap (h.push (seqObj "list" vs.toArray 0)) h.objs.size vs out)/\∃c,(sortedHeap (h.push (seqObj "list" vs.toArray 0)) h.objs.size vs out).get? h.objs.size=some (seqObj "list" out c):=by
 have hoL:(h.push (seqObj "list" vs.toArray 0)).get? h.objs.size=some (seqObj "list" vs.toArray 0):=u_ _ rfl;refine⟨fun b o e=>?_,?_⟩
 ·have hb:b<h.objs.size:=y_ e;unfold sortedHeap;rw[XX _ _ _ _ (C_ hb)];refine e_ _ (e_ _ ?_);rw[XX _ _ _ _ (C_ hb)];exact e_ _ e
 unfold sortedHeap;exact⟨_,Y4 (e_ _ (e_ _ (Y4 hoL fun _=>#[]))) fun _=>out⟩
section
variable {P:Program}{w:World}{A:Around}{E:Value->Shared->Prop}{s:Shared}{O:KeyOrd}{key:Nat->O.α}
theorem Hg {x:Value}{Q:Value->Shared->Prop}(hx:∀A' E',A'.handled=A.handled->wpAny (model P w) A' (collect x) (fun vs s1=>vs.length<64 /\
   (2<=vs.length->∀h',Kpt s1.heap h'->wpAny (model P w) A.in1.in1 (keyKind' vs.toArray) (fun κ s'=>s'={ s1 with heap:=h'}/\∀i j (C:Bool->Shared->Prop),i<vs.length->j<vs.length->C (O.blt (key i) (key j)) { s1 with heap:=h'}->kas_ask P w A.in1.in1 κ vs i j C { s1 with heap:=h'}) (fun _ _=>False) { s1 with heap:=h'}) /\
   ∀ps h' c,Srt O key vs.length ps->Kpt s1.heap h'->h'.get? s1.heap.objs.size=some (seqObj "list" (ps.map fun i=>vs.getD i Value.none).toArray c)->Q (.ref s1.heap.objs.size) { s1 with heap:=h'}) E' s):wpAny (model P w) A (call (.builtin "sorted") [x]) Q E s:=by
 refine Calls.call_function_entry kind_sorted plain_sorted entry_sorted (args_sorted1 _) ?_;unfold Builtin.«sorted»;refine b_ (m:=checkCount "sorted" 1 1 _) (m_ ?_);refine b_ (Xh (hx _ _ rfl) (fun vs s1 hv=>?_) fun _ _ e=>e);obtain⟨h64,hk,h⟩:=hv;refine b_ (Zv ?_ (by rw[Zk];omega));have hoL:(s1.heap.push (seqObj "list" vs.toArray 0)).get? s1.heap.objs.size=some (seqObj "list" vs.toArray 0):=u_ _ rfl;refine b_ (X8 (Xp slot_list_sort ⟨_,hoL,rfl⟩ entry_list_sort (lK (O:=O) (key:=key) hoL h64 (fun h2 h' kp=>hk h2 h' fun b o e=>kp b o ?_ ?_) fun ps hs=>⟨_,rfl,?_⟩) (args_list_sort _)))
 ·exact C_ (y_ e)
 ·exact e_ _ e
 obtain⟨kp,c,hc⟩:=Hf (h:=s1.heap) (vs:=vs) (out:=(ps.map fun i=>vs.getD i Value.none).toArray);exact m_ ⟨_,rfl,h ps _ c hs kp hc⟩
theorem rQ {T:String}{r d:Addr}{n:Nat}{Pr:Nat->Value->Prop}{OK:Heap->Prop}{Q:List Value->Shared->Prop}(K:KdlSrc P w T r d n Pr OK) (hh:A.handled=none) (hok:OK s.heap) (hn:n<=sizeLine)
  (h:∀h' tk acc,Kpt s.heap h'->s.heap.objs.size<h'.objs.size->ItemsOf Pr acc n->Q acc.toList { s with heap:=h',toks:=tk}):wpAny (model P w) A (collect (.ref r)) Q E s:=by
 have hlt:=K.there _ hok;unfold collect;refine b_ (wpAny_runValue (Y5 entry_proto_collect' ?_));refine b_ (m:=newList []) (Zv (m_ ⟨Code.quiet_builtin _ (by decide +kernel),Y5 entry_list_iadd' ?_⟩))
 let st:Shared:={ s with heap:=s.heap.push (seqObj "list" #[] 0)}
 let G:Result->Shared->Prop:=fun q t=>∃h' tk acc c,q=.ok (.ret (.ref s.heap.objs.size))/\t={ s with heap:=h',toks:=tk}/\Kpt s.heap h'/\h'.get? s.heap.objs.size=some (seqObj "list" acc c)/\ItemsOf Pr acc n
 have key:=kdl_extend (A:=A) (s:=st) (R:=G) K hh (K.keep _ _ hok fun b _ o e=>e_ _ e) s.heap.objs.size (Wx hlt.1) (Wx hlt.2) (.ref s.heap.objs.size) 0 (u_ _ rfl) (fun h' tk acc c hk hS hacc=>⟨h',tk,acc,c,rfl,rfl,fun b o e=>hk b o (C_ (y_ e)) (e_ _ e),hS,hacc⟩) hn;have fin:∀q t,G q t->∃h' tk acc c,q=.ok (.ret (.ref s.heap.objs.size))/\h'.get? s.heap.objs.size=some (seqObj "list" acc c)/\t={ s with heap:=h',toks:=tk}/\Q acc.toList t:=by rintro q t ⟨h',tk,acc,c,e1,rfl,kp,hS,hacc⟩;exact⟨h',tk,acc,c,e1,hS,rfl,h h' tk acc kp (y_ hS) hacc⟩
 refine Xh (A:=A.in1) key (fun f t x=>?_) fun e t x=>?_
 ·cases f with
  |done f=>obtain⟨h',tk,acc,c,e1,hS,rfl,hq⟩:=fin _ _ x;cases e1;exact b_ (m:=load s.heap.objs.size) (wpAny_load hS (m_ hq))
  |again c0 =>
  refine⟨x.1,codeAny_mono x.2 fun q t y=>?_⟩;obtain⟨h',tk,acc,c,rfl,hS,rfl,hq⟩:=fin _ _ y;exact b_ (m:=load s.heap.objs.size) (wpAny_load hS (m_ hq))
 obtain⟨_,_,_,_,e1,_⟩:=fin _ _ x;cases e1
variable {X:Cx}{pins:List (Addr × Obj)}{Z:L2.St}{H:Hp}{H3:Hp3}{Q3:VK3}{Q:VK}
theorem Ce (I:Inv X pins Z H s) (sh:SimH X.K H3 H) (k:KV3 X.K H Q3 Q) (hh:X.A.handled=none) {kvs:List (Str × T)}{a:Addr}(ha:H3 a=some (.dct kvs)) (h64:kvs.length<64)
  (h:∀us:List Str,us.Perm (kvs.map (·.1))->us.Pairwise leS->∀p,H3 p=none->Q3 (.ref p) (up3 H3 p (.lst (us.map T.str)))):wpAny (model X.prog X.w) X.A (call (.builtin "sorted") [.ref a]) (EP X pins Z Q) X.xe s:=by
 obtain⟨vs,e2,rd⟩:=sh a _ ha;obtain⟨z,hd,vs',rel,dd⟩:=qD I.hok e2;obtain⟨o,es,ep,h1,h2,h3,h4,h5,h6⟩:=dd;have hl:=rel.length;have hl2:=YC rd;refine Hg (O:=strOrd) (key:=fun i=>dU ((kvs.map (·.1)).getD i default)) fun A' E' hA=>?_;refine rQ (kdl_dict (knd:=bx X.prog X.w) (kvs:=vs') (ep:=ep) hd) (hA.trans hh) ⟨o,es,h1,h2,h3,h4,h5,h6⟩ (by omega) fun h' tk acc kp hge' hacc=>?_;have rvs:=yq (P:=X.prog) (w:=X.w) rel acc.toList (by rw[Ym];exact hacc.1) fun j v e=>hacc.2 j v (by rw[<- Array.getElem?_toList];exact e);have rs:=yr rd;have rs':Reps X.K H ((kvs.map (·.1)).map T.str) (vs.map fun q=>kV q.1):=by rw[WN];exact rs
 have hS:=kh rs' rvs;have l3:=StrsAre.len hS;rw[h_] at l3;generalize hys:(vs.map fun q=>kV q.1)=ys at rvs rs';generalize acc.toList=its at *;have l1:=rs'.length;rw[h_,h_] at l1;have l2:=rvs.length;have hz:sizeLine=16777216:=rfl;refine⟨by omega,fun g2 g' kq=>?_,fun q g' c hs kq hc=>?_⟩
 ·refine kas_kind (T:=.type "str") (s:={ s with heap:=g',toks:=tk}) g2 (fun v hv=>?_) rfl rfl ⟨rfl,fun i j C hi hj hC=>?_⟩
  ·obtain⟨x,t,rfl⟩:=hS.all v hv;exact Looks.of_pure rfl
  obtain⟨t,e1⟩:=StrsAre.get hS i hi;obtain⟨u,e2⟩:=StrsAre.get hS j hj;unfold kas_ask;rw[e1,e2];exact kas_lt_str hC
 obtain⟨hp,hu⟩:=hs;have hlt:∀i∈q,i<kvs.length:=fun i hi=>by have:=Wu.mp (hp.mem_iff.mp hi);omega
 have hql:q.length=kvs.length:=by rw[hp.length_eq,A_];omega
 have ry:Reps X.K H ((q.map fun i=>(kvs.map (·.1)).getD i default).map T.str) (q.map fun i=>ys.getD i .non):=by
  clear hu hp hql hc;induction q with
  |nil=>exact .nil
  |cons i q ih =>
  refine .cons ?_ (ih fun j hj=>hlt j (.tail _ hj));have hi:=hlt i (.head _);have hi':i<(kvs.map (·.1)).length:=by rw[h_];exact hi
  obtain⟨y,e1,r1⟩:=rs'.get (i:=i) (t:=T.str ((kvs.map (·.1))[i])) (by rw[o_,a_ hi'];rfl);dsimp only;rw[d_,a_ hi',d_,e1];exact r1
 have rz:Vals (q.map fun i=>ys.getD i .non) (q.map fun i=>its.getD i Value.none):=by
  clear hu hp hql ry hc;induction q with
  |nil=>exact .nil
  |cons i q ih =>
  refine .cons ?_ (ih fun j hj=>hlt j (.tail _ hj));have hi:i<ys.length:=by have:=hlt i (.head _);omega
  obtain⟨z,e1,r1⟩:=rvs.get (i:=i) (a_ hi);dsimp only;rw[d_,a_ hi,d_,e1];exact r1
 have hge:s.heap.objs.size<=h'.objs.size:=Xx hge';have hf:H h'.objs.size=none:=I.hok.fresh hge;refine⟨.ref h'.objs.size,upd H h'.objs.size (.lst (q.map fun i=>ys.getD i .non)),I.laid (t':=tk) (fun b o e=>kq b o (kp b o e)) hge ⟨by rw[h_];omega,_,c,rz,hc⟩,rfl,?_⟩;refine k _ _ _ _ (aJ hf) (sh.newLst hf ry) .ofRef (h _ ?_ ?_ _ (sh.fresh hf))
 ·have hm:=hp.map fun i=>(kvs.map (·.1)).getD i default;rw[show its.length=(kvs.map (·.1)).length by rw[h_];omega] at hm;have e2:(List.range (kvs.map (·.1)).length).map (fun i=>(kvs.map (·.1)).getD i default)=kvs.map (·.1):=by
   apply Yd;intro i;rw[o_];by_cases hi:i<(kvs.map (·.1)).length
   ·rw[Wv hi,a_ hi,Yw,d_,a_ hi];rfl
   rw[J_ (by simpa using hi),J_ (by omega)];rfl
  rw[e2] at hm;exact hm
 rw[X4];intro i j hi hj hij;rw[h_] at hi hj;have:=hu i j (by omega) (by omega);rw[d_,a_ hi,d_,a_ hj] at this;rw[X7,X7];exact this
def sdD (o:Option O3) (H:Hp3) (Q:VK3):Prop:=match o with
 |some (.dct kvs)=>kvs.length<64/\∀us:List Str,us.Perm (kvs.map (·.1))->us.Pairwise leS->∀p,H p=none->Q (.ref p) (up3 H p (.lst (us.map T.str)))
 |_=>False
def Cg:List T->Hp3->VK3->Prop:=fun ts H Q=>match ts with
 |[.ref a]=>sdD (H a) H Q
 |_=>False
theorem Oz (a:Addr) (H:Hp3) (Q:VK3):Cg [.ref a] H Q=sdD (H a) H Q:=rfl
theorem Ug (kvs:List (Str × T)) (H:Hp3) (Q:VK3):sdD (some (.dct kvs)) H Q=(kvs.length<64/\∀us:List Str,us.Perm (kvs.map (·.1))->us.Pairwise leS->∀p,H p=none->Q (.ref p) (up3 H p (.lst (us.map T.str)))):=rfl
theorem Hh {n:Nat}(hr:Room n X.A):cZ X (.builtin "sorted") Cg:=by
 intro pins s Z H xs us Q I rv h;obtain⟨ts,H3,Q3,r,sh,h,k⟩:=h
 match ts,h,r with
 |[.ref a],h,r =>
 obtain⟨v,rfl,rv'⟩:=r.one';obtain⟨u,rfl,ru⟩:=vals1 rv;rw[rv'.ref] at ru;cases ru;have h':sdD (H3 a) H3 Q3:=h;unfold sdD at h';split at h'
 ·rename_i kvs e;exact Ce I sh k hr.hd e h'.1 h'.2
 exact h'.elim
end
@[reducible] def trOrd:KeyOrd where
 α:=Int × Int × Int
 blt x y:=decide (x.1<y.1\/(x.1=y.1/\(x.2.1<y.2.1\/(x.2.1=y.2.1/\x.2.2<y.2.2))))
 irrefl a:=by rw[Ye];omega
 trans a b c h1 h2:=by rw[Zq] at *;omega
 negTrans a b c h:=by rw[Zq] at h;rw[Zq,Zq];omega
 total a b h1 h2:=by
  rw[Ye] at h1 h2;obtain⟨a1,a2,a3⟩:=a;obtain⟨b1,b2,b3⟩:=b;dsimp only at h1 h2;have e1:a1=b1:=by omega
  have e2:a2=b2:=by omega
  have e3:a3=b3:=by omega
  rw[e1,e2,e3]
def Hi (x y:Int × Int × Int):Prop:=trOrd.kle x y
def trT (p:Int × Int × Int):T:=.tup [.int p.1,.int p.2.1,.int p.2.2]
section
variable {X:Cx}{pins:List (Addr × Obj)}{Z:L2.St}{H:Hp}{s:Shared}
def OD (h:Heap) (p:Int × Int × Int) (v:Value):Prop:=∃a o n t u z,v=.ref a/\h.get? a=some o/\o.cls=.type "tuple"/\o.data=.seq #[.int p.1 t,.int p.2.1 u,.int p.2.2 z] n
theorem uW (I:Inv X pins Z H s) {h':Heap}(kp:Kpt s.heap h'):∀{ps:List (Int × Int × Int)}{ys:List V}{its:List Value},Reps X.K H (ps.map trT) ys->Vals ys its ->
  its.length=ps.length/\(∃fs,KatTups h' its fs/\fs.length=its.length/\∀v∈fs,∃x t,v=Value.int x t)/\∀(i:Nat) (p:Int × Int × Int),ps[i]?=some p->∃v,its[i]?=some v/\OD h' p v
 |[],_,_,r,rv=>by
  rw[r.inv0] at rv
  cases rv
  exact⟨rfl,⟨[],.nil,rfl,(fun _ z=>nomatch z)⟩,(fun _ _ z=>nomatch z)⟩
 |p::ps,_,_,r,rv=>by
  obtain⟨v,r',rfl,q,b⟩:=r.inv
  cases rv with
  |cons ru rv =>
   rename_i u us
   obtain⟨h1,⟨fs,h2,h3,h4⟩,h5⟩:=uW I kp b rv
   obtain⟨a,xs,rfl,sq,rs⟩:=Rep.tup q
   cases ru
   obtain⟨its2,rv2,⟨o,ho,hc,n,hd⟩,_⟩:=I.tuple sq
   obtain⟨v1,r1,rfl,q1,b1⟩:=rs.inv
   obtain⟨v2,r2,rfl,q2,b2⟩:=b1.inv
   obtain⟨v3,r3,rfl,q3,b3⟩:=b2.inv
   rw[b3.inv0] at rv2
   cases q1.int
   cases q2.int
   cases q3.int
   cases rv2 with
   |cons x1 rv2 =>
   cases rv2 with
   |cons x2 rv2 =>
   cases rv2 with
   |cons x3 rv2 =>
   cases rv2
   obtain⟨t,rfl⟩:=x1
   obtain⟨t',rfl⟩:=x2
   obtain⟨t'',rfl⟩:=x3
   have ho':=kp a o ho
   refine⟨by simp [h1],⟨.int p.1 t::fs,.cons ho' hc hd rfl h2,by simp [h3],fun z hz=>?_⟩,fun i z hz=>?_⟩
   ·
    rcases n_.mp hz with e | e
    ·
     exact⟨_,_,e⟩
    ·
     exact h4 z e
   ·
    cases i with
    |zero=>cases hz;exact⟨_,rfl,a,o,n,t,t',t'',rfl,ho',hc,hd⟩
    |succ i=>exact h5 i z hz
theorem Uh {P:Program}{w:World}{A:Around}{h':Heap}{s':Shared}(e:s'.heap=h') {x y:Int × Int × Int}{u v:Value}(hx:OD h' x u) (hy:OD h' y v) {C:Bool->Shared->Prop}{E:Value->Shared->Prop}(h:C (trOrd.blt x y) s') :
  wpAny (model P w) A (keyLt' (tuples' true) u v) C E s':=by
 obtain⟨a,o,n,t1,t2,t3,rfl,ho,hc,hd⟩:=hx;obtain⟨b,o',n',t4,t5,t6,rfl,ho',hc',hd'⟩:=hy;subst e;refine kat_lt ho hd ho' hd' ?_;dsimp only[trOrd] at h;refine kat_cons (Zi _ _ _ _ P w _ _ ?_);by_cases q1:x.1=y.1
 ·rw[show (x.1==y.1)=true from Yp.mpr q1];refine kat_yes (kat_cons (Zi _ _ _ _ P w _ _ ?_));by_cases q2:x.2.1=y.2.1
  ·rw[show (x.2.1==y.2.1)=true from Yp.mpr q2];refine kat_yes (kat_cons (Zi _ _ _ _ P w _ _ ?_));by_cases q3:x.2.2=y.2.2
   ·rw[show (x.2.2==y.2.2)=true from Yp.mpr q3];refine kat_yes (kat_nil ?_);rw[E_ (by omega)] at h;exact h
   rw[show (x.2.2==y.2.2)=false from W0.mpr q3];refine kat_no (kat_one _ _ (wpAny_lt_int ?_));rw[show decide (x.1<y.1\/(x.1=y.1/\(x.2.1<y.2.1\/(x.2.1=y.2.1/\x.2.2<y.2.2))))=decide (x.2.2<y.2.2) from XD.mpr (by omega)] at h;exact h
  rw[show (x.2.1==y.2.1)=false from W0.mpr q2];refine kat_no (kat_one _ _ (wpAny_lt_int ?_));rw[show decide (x.1<y.1\/(x.1=y.1/\(x.2.1<y.2.1\/(x.2.1=y.2.1/\x.2.2<y.2.2))))=decide (x.2.1<y.2.1) from XD.mpr (by omega)] at h;exact h
 rw[show (x.1==y.1)=false from W0.mpr q1];refine kat_no (oneLt_int ?_);rw[show decide (x.1<y.1\/(x.1=y.1/\(x.2.1<y.2.1\/(x.2.1=y.2.1/\x.2.2<y.2.2))))=decide (x.1<y.1) from XD.mpr (by omega)] at h;exact h
end
def srT (o:Option O3) (H:Hp3) (Q:VK3):Prop:=match o with
 |some (.lst ts)=>∃ps:List (Int × Int × Int),ts=ps.map trT/\ps.length<64/\∀us:List (Int × Int × Int),us.Perm ps->us.Pairwise Hi->∀p,H p=none->Q (.ref p) (up3 H p (.lst (us.map trT)))
 |_=>False
def Ci:List T->Hp3->VK3->Prop:=fun ts H Q=>match ts with
 |[.ref a]=>srT (H a) H Q
 |_=>False
theorem Cj (a:Addr) (H:Hp3) (Q:VK3):Ci [.ref a] H Q=srT (H a) H Q:=rfl
theorem Ui (ts:List T) (H:Hp3) (Q:VK3):srT (some (.lst ts)) H Q=(∃ps:List (Int × Int × Int),ts=ps.map trT/\ps.length<64/\∀us:List (Int × Int × Int),us.Perm ps->us.Pairwise Hi->∀p,H p=none->Q (.ref p) (up3 H p (.lst (us.map trT)))):=rfl
theorem Hj {X:Cx}:cZ X (.builtin "sorted") Ci:=by
 intro pins s Z H xs us Q I rv h;obtain⟨ts,H3,Q3,r,sh,h,k⟩:=h;cases ts with
 |nil=>exact h.elim
 |cons t ts =>
 cases ts with
 |cons _ _=>cases t <;> exact h.elim
 |nil =>
 cases t with
 |ref a =>
  rw[Cj] at h;obtain⟨v,rfl,rv'⟩:=r.one';obtain⟨u,rfl,ru⟩:=vals1 rv;rw[rv'.ref] at ru;cases ru;cases e:H3 a with
  |none=>rw[e] at h;exact h.elim
  |some o =>
  rw[e] at h;cases o with
  |lst ls =>
   obtain⟨ps,rfl,h64,h⟩:=h;obtain⟨ys,sq,rs⟩:=sh.sqL (.inl e);obtain⟨its,rvs,hl,_⟩:=I.list sq;have l2:=(uW I (fun _ _ q=>q) rs rvs).1
   let key:Nat->trOrd.α:=fun i=>ps.getD i default
   refine sortedK (O:=trOrd) (key:=key) (.inl hl.isList) (by omega) (fun h2 h' kp=>?_) fun q h' c hs kp hc=>?_
   ·obtain⟨_,⟨fs,kt,hfl,hfs⟩,hat⟩:=uW I kp rs rvs;refine kat_kind (T:=.type "int") (s:={ s with heap:=h'}) kt (by omega) (fun v hv=>?_) rfl ⟨rfl,fun i j C hi hj hC=>?_⟩
    ·obtain⟨x,t,rfl⟩:=hfs v hv;exact Looks.of_pure rfl
    have gi:ps[i]?=some (ps.getD i default):=by rw[d_,a_ (by omega)];rfl
    have gj:ps[j]?=some (ps.getD j default):=by rw[d_,a_ (by omega)];rfl
    obtain⟨vi,e1,p1⟩:=hat i _ gi;obtain⟨vj,e2,p2⟩:=hat j _ gj;unfold kas_ask;rw[d_,d_,e1,e2];exact Uh rfl p1 p2 hC
   obtain⟨hp,hu⟩:=hs;have hlt:∀i∈q,i<ps.length:=fun i hi=>by rw[<- l2];exact Wu.mp (hp.mem_iff.mp hi)
   have l1:=rs.length;rw[h_] at l1;have hql:q.length=ps.length:=by rw[hp.length_eq,A_,l2]
   have hz:sizeLine=16777216:=rfl;have ry:Reps X.K H ((q.map fun i=>ps.getD i default).map trT) (q.map fun i=>ys.getD i .non):=by
    clear hu hp hql hc;induction q with
    |nil=>exact .nil
    |cons i q ih =>
    refine .cons ?_ (ih fun j hj=>hlt j (.tail _ hj));have hi:=hlt i (.head _);obtain⟨y,e1,r1⟩:=rs.get (i:=i) (t:=trT ps[i]) (by rw[o_,a_ hi];rfl);dsimp only;rw[d_,a_ hi,d_,e1];exact r1
   have rz:Vals (q.map fun i=>ys.getD i .non) (q.map fun i=>its.getD i Value.none):=by
    clear hu hp hql ry hc;induction q with
    |nil=>exact .nil
    |cons i q ih =>
    refine .cons ?_ (ih fun j hj=>hlt j (.tail _ hj));have hi:=hlt i (.head _);obtain⟨z,e1,r1⟩:=rvs.get (i:=i) (a_ (show i<ys.length by omega));dsimp only;rw[d_,a_ (show i<ys.length by omega),d_,e1];exact r1
   have hf:H (s.heap.objs.size+1)=none:=I.hok.fresh (Zm _);refine⟨.ref (s.heap.objs.size+1),upd H (s.heap.objs.size+1) (.lst (q.map fun i=>ys.getD i .non)),I.laid (t':=s.toks) kp (Zm _) ⟨by rw[h_];omega,_,c,rz,hc⟩,rfl,?_⟩;refine k _ _ _ _ (aJ hf) (sh.newLst hf ry) .ofRef (h _ ?_ ?_ _ (sh.fresh hf))
   ·have hm:=hp.map fun i=>ps.getD i default;rw[l2] at hm;have e2:(List.range ps.length).map (fun i=>ps.getD i default)=ps:=by
     apply Yd;intro i;rw[o_];by_cases hi:i<ps.length
     ·rw[Wv hi,a_ hi];simp [d_,hi]
     rw[J_ (by simpa using hi),J_ (by omega)];rfl
    rw[e2] at hm;exact hm
   rw[X4];intro i j hi hj hij;rw[h_] at hi hj;have:=hu i j (by omega) (by omega);rw[d_,a_ hi,d_,a_ hj] at this;rw[X7,X7];exact this
  |_=>exact h.elim
 |_=>cases h
theorem pM {prog:Program}{w:World}{A:Around}(hh:A.handled=none) (it t:Addr) (hne:t≠it) (items:Array Value) (k:Nat) (hk:items[k]?=none) :
  Draws prog w A it [it,t] k (fun _ _=>True) (fun i h=>i=k/\h.IsListIter it t i/\h.IsList t items) where
 live:=fun _ _ st=>let ⟨o,ho,_⟩:=st.2.1;⟨o,ho⟩
 frame:=fun _ _ _ st hk=>⟨st.1,st.2.1.at fun o e=>hk it (by simp) o e,st.2.2.at fun o e=>hk t (by simp) o e⟩
 item:=fun i s Q E hi st hQ=>absurd st.1 (C_ hi)
 done:=fun s Q E st hE=>wpAny_nextOf_list_end hh st.2.1 st.2.2 hk hE
def OJ (K:Frag) (a b:Addr):It :=
 ⟨fun i H=>∃xs ys x y,SqL K H a xs/\SqL K H b ys/\xs[i]?=some x/\ys[i]?=some y,
  fun i H v H'=>∃p x y,v=.ref p/\H p=none/\H'=upd H p (.tup [x,y])/\(∀xs,SqL K H a xs->xs[i]?=some x)/\∀ys,SqL K H b ys->ys[i]?=some y,
  fun i H=>∃xs ys,SqL K H a xs/\SqL K H b ys/\(xs.length<=i\/ys.length<=i)⟩
def Wl (a b z ti to i1 i2:Addr) (i:Nat) (h:Heap):Prop:=IsZip h z ti to .none/\IsPair h ti (.ref i1) (.ref i2)/\(∃u v,IsPair h to u v)/\h.IsListIter i1 a i/\h.IsListIter i2 b i
theorem yt {P:Program}{w:World}{K:Frag}{elts:List Expr}{x1:Nat}{pos:Pos}(a b z ti to i1 i2:Addr) (l1:a<i1/\b<i1) (l2:i1<i2) (l3:i2<ti) (l4:ti<to) (l5:to<z) :
  Turn P w K (.Tuple elts x1 pos) (OJ K a b) [z,ti,to,i1,i2] z (Wl a b z ti to i1 i2) where
 mem:=k_
 obj:=fun i h st c hc=>by
  obtain⟨hz,hI,⟨u,v,hO⟩,⟨o1,e1,_,d1⟩,⟨o2,e2,_,d2⟩⟩:=st
  simp only[n_,P_,Xk] at hc
  rcases hc with rfl | rfl | rfl | rfl | rfl
  ·
   exact⟨_,hz,fun v z=>by cases z⟩
  ·
   exact⟨_,hI,fun v z=>by cases z⟩
  ·
   exact⟨_,hO,fun v z=>by cases z⟩
  ·
   exact⟨_,e1,fun v z=>by rw[d1] at z;cases z⟩
  ·
   exact⟨_,e2,fun v z=>by rw[d2] at z;cases z⟩
 keep:=fun i h h' st k=>by
  obtain⟨hz,hI,⟨u,v,hO⟩,h1,h2⟩:=st
  exact⟨k z (by simp) _ hz,k ti (by simp) _ hI,⟨u,v,k to (by simp) _ hO⟩,h1.at fun o e=>k i1 (by simp) o e,h2.at fun o e=>k i2 (by simp) o e⟩
 item:=by
  intro X hP hw hK hc i pins s Z H E I hf st hg
  subst hP hw hK
  obtain⟨xs,ys,x,y,qx,qy,ex,ey⟩:=hg
  obtain⟨its,rv,p1_,hz1⟩:=I.list qx
  have p1:=p1_.isList
  obtain⟨jts,rw',p2_,hz2⟩:=I.list qy
  have p2:=p2_.isList
  obtain⟨u,hu,ru⟩:=rv.get ex
  obtain⟨v,hv,rv'⟩:=rw'.get ey
  have hz:=st.1
  have hI:=st.2.1
  obtain⟨a0,b0,hO⟩:=st.2.2.1
  have h1:=st.2.2.2.1
  have h2:=st.2.2.2.2
  have hu':its.toArray[i]?=some u:=by simpa using hu
  have hv':jts.toArray[i]?=some v:=by simpa using hv
  have D:ZAp z ti to i1 i2 [i1,a] [i2,b]:=zap l1 l2 l3 l4 l5
  have d1:=Draws.list (prog:=X.prog) (w:=X.w) (A:=X.A.in1) (I.ok.hd hc) i1 a (C_ l1.1) its.toArray
  have d2:=Draws.list (prog:=X.prog) (w:=X.w) (A:=X.A.in1) (I.ok.hd hc) i2 b (C_ (WF l1.2 l2)) jts.toArray
  refine wC d1 d2 D hz hI hO ⟨h1,p1⟩ ⟨h2,p2⟩ (XR.mp hu').1 (XR.mp hv').1 fun x' y' h' tk px py hz' hO' s1 s2 hT hsz kp=>?_
  have e1:x'=u:=K_ (px.symm.trans hu')
  have e2:y'=v:=K_ (py.symm.trans hv')
  subst e1 e2
  refine⟨_,rfl,wpAny_letOwnedTupleGo_zip hz' fun h2' hz2' sb=>?_⟩
  have kp2:∀c o,c∉[z,to,i1,i2]->s.heap.get? c=some o->h2'.get? c=some o:=fun c o nc e=>(sb.2 c fun q=>nc (q▸k_)).trans (kp c o nc e)
  have hsub:∀c∈[z,to,i1,i2],c∈[z,ti,to,i1,i2]:=fun c hc=>by simp only[n_,P_,Xk] at hc ⊢;rcases hc with q | q | q | q <;> simp [q]
  have lt:∀{c o},s.heap.get? c=some o->s.heap.objs.size≠c:=fun e=>Wx (y_ e)
  have lt1:∀{c:Addr},c∈[z,ti,to,i1,i2]->c≠s.heap.objs.size:=fun {c} hc=>by
   simp only[n_,P_,Xk] at hc
   rcases hc with q | q | q | q | q <;> subst q
   ·
    exact Ne.symm (lt hz)
   ·
    exact Ne.symm (lt hI)
   ·
    exact Ne.symm (lt hO)
   ·
    obtain⟨o,e,_⟩:=h1;exact Ne.symm (lt e)
   ·
    obtain⟨o,e,_⟩:=h2;exact Ne.symm (lt e)
  have hTz:s.heap.objs.size≠z:=lt hz
  have I1:Inv X pins Z (upd H s.heap.objs.size (.tup [x,y])) { s with heap:=s.heap.push { cls:=.type "tuple",data:=.seq #[x',y']},toks:=tk} :=
   I.laid (t':=tk) (fun b o e=>e_ _ e) (j_ _) (show ObjOk X.prog X.w _ _ _ (.tup [x,y]) from ⟨by show 2<=sizeLine;decide,[x',y'],.cons ru (.cons rv' .nil),Tup0.new _ _⟩)
  have I2:Inv X pins Z (upd H s.heap.objs.size (.tup [x,y])) { s with heap:=h2',toks:=tk}:=fj (s:={ s with heap:=s.heap.push { cls:=.type "tuple",data:=.seq #[x',y']},toks:=tk}) (ch:=[z,to,i1,i2]) (t':=tk) I1 (fun c o nc e=>by
   by_cases q:c=s.heap.objs.size
   ·
    subst q
    have e':(s.heap.push { cls:=.type "tuple",data:=.seq #[x',y']}).get? s.heap.objs.size=some o:=e
    rw[u_ _ rfl] at e'
    cases e'
    exact (sb.2 _ hTz).trans hT
   ·
    have e':(s.heap.push { cls:=.type "tuple",data:=.seq #[x',y']}).get? c=some o:=e
    rw[Zo _ _ _ q] at e'
    exact kp2 c o nc e') fun c hc=>⟨by rw[aO (lt1 (hsub c hc))];exact (hf c (hsub c hc)).1,(hf c (hsub c hc)).2⟩
  refine⟨.ref s.heap.objs.size,_,I2,rfl,⟨s.heap.objs.size,x,y,rfl,I.hok.fresh (j_ _),rfl,fun zs hq=>by rw[I.list_inj hq qx];exact ex,fun zs hq=>by rw[I.list_inj hq qy];exact ey⟩,?_,fun c hc=>by rw[aO (lt1 hc)];exact (hf c hc).1⟩
  have n1:ti≠z:=D.ne.1
  refine⟨hz2',?_,⟨x',y',(sb.2 to D.ne.2.1).trans hO'⟩,s1.1.at fun o e=>(sb.2 i1 D.i1z).trans e,s2.1.at fun o e=>(sb.2 i2 D.i2z).trans e⟩
  refine kp2 ti _ ?_ hI
  simp only[n_,P_,Xk,not_or]
  exact⟨D.ne.1,D.ne.2.2.1,Ne.symm D.i1ti,Ne.symm D.i2ti⟩
 done:=by
  intro X hP hw hK hc i pins s Z H E I hf st hg
  subst hP hw hK
  obtain⟨xs,ys,qx,qy,hg⟩:=hg
  obtain⟨its,rv,p1_,hz1⟩:=I.list qx
  have p1:=p1_.isList
  obtain⟨jts,rw',p2_,hz2⟩:=I.list qy
  have p2:=p2_.isList
  have hz:=st.1
  have hI:=st.2.1
  obtain⟨a0,b0,hO⟩:=st.2.2.1
  have h1:=st.2.2.2.1
  have h2:=st.2.2.2.2
  have n1:=rv.length
  have n2:=rw'.length
  have D:ZAp z ti to i1 i2 [i1,a] [i2,b]:=zap l1 l2 l3 l4 l5
  have fin:∀(h':Heap) (tk:Nat),(∀c o,c∉[z,to,i1,i2]->s.heap.get? c=some o->h'.get? c=some o)->(none:Option Value)=none/\Inv X pins Z H { s with heap:=h',toks:=tk}:=fun h' tk kp=>⟨rfl,fj I kp fun c hc=>hf c (by
   simp only[n_,P_,Xk] at hc ⊢;rcases hc with q | q | q | q <;> simp [q])⟩
  have d1:=Draws.list (prog:=X.prog) (w:=X.w) (A:=X.A.in1) (I.ok.hd hc) i1 a (C_ l1.1) its.toArray
  have d2:=Draws.list (prog:=X.prog) (w:=X.w) (A:=X.A.in1) (I.ok.hd hc) i2 b (C_ (WF l1.2 l2)) jts.toArray
  by_cases hi:xs.length<=i
  ·
   have e1:=pM (prog:=X.prog) (w:=X.w) (A:=X.A.in1) (I.ok.hd hc) i1 a (C_ l1.1) its.toArray i (by simp;omega)
   exact pA (k:=i) e1 d2 D hz hI hO ⟨rfl,h1,p1⟩ ⟨h2,p2⟩ (.inl rfl) fin
  ·
   have hy:ys.length<=i:=hg.resolve_left hi
   have e2:=pM (prog:=X.prog) (w:=X.w) (A:=X.A.in1) (I.ok.hd hc) i2 b (C_ (WF l1.2 l2)) jts.toArray i (by simp;omega)
   exact pA (k:=i) d1 e2 D hz hI hO ⟨h1,p1⟩ ⟨rfl,h2,p2⟩ (.inr ⟨by simp;omega,rfl⟩) fin
 self:=fun _ _ _ _ _ st h=>wpAny_pyIter_zip st.1 h
section
variable {X:Cx}{elts:List Expr}{x1:Nat}{tpos pos p:Pos}{ea eb:Expr}
def Uj (K:Frag) (t:TA):TI:=fun Z H R=>t Z H fun vs H1=>∃a b,vs=[.ref a,.ref b]/\(∃xs,SqL K H1 a xs)/\(∃ys,SqL K H1 b ys)/\R (OJ K a b) H1
theorem Hk {t:TA}(hg:Gl X "zip") (hm:X.mg "zip"=none) (hv:bootBuiltins "zip"=some (.type "zip")) (ha:PA X [ea,eb] t)
  (hs:starEach [ea,eb] X.env=[(false,eval ea X.env),(false,eval eb X.env)]:=by rfl) (hs2:starEach [eb] X.env=[(false,eval eb X.env)]:=by rfl) :
  PI X (.Tuple elts x1 tpos) (.Call (.Name "zip" p) [ea,eb] [] pos) (Uj X.K t):=by
 intro pins s Z H R I h;refine Call_ (d9 I hg hm hv (WP (thn (ha pos pins s Z H _ I h) fun us s1 ⟨vs,H1,I1,r1,q1⟩=>?_) (by rw[hs,hs2]) (by rw[hs2];rfl)));obtain⟨a,b,e,⟨xs,sa⟩,⟨ys,sb⟩,q⟩:=q1;subst e;cases r1 with
 |cons r rr =>
 cases rr with
 |cons r' rr =>
 cases rr;cases r;cases r';obtain⟨its,rv,p1_,hz1⟩:=I1.list sa;have p1:=p1_.isList;obtain⟨jts,rw',p2_,hz2⟩:=I1.list sb;have p2:=p2_.isList;have la:a<s1.heap.objs.size:=by obtain⟨o,e,_⟩:=p1;exact y_ e
 have lb:b<s1.heap.objs.size:=by obtain⟨o,e,_⟩:=p2;exact y_ e
 refine call_zip_2 p1 p2 fun h' hz hI hO h1 h2 hsz kp=>wpAny_pyIter_zip hz ?_;have fr:∀c,s1.heap.objs.size<=c->jW X pins H1 c:=fun c hc=>I1.fpOk hc (I1.hok.fresh hc);refine⟨s1.heap.objs.size+4,[s1.heap.objs.size+4,s1.heap.objs.size+2,s1.heap.objs.size+3,s1.heap.objs.size,s1.heap.objs.size+1],_,_,H1,rfl,I1.kept (t':=s1.toks) kp,yt a b (s1.heap.objs.size+4) (s1.heap.objs.size+2) (s1.heap.objs.size+3) s1.heap.objs.size (s1.heap.objs.size+1) ⟨la,lb⟩ (Xc _) (Xc _) (Xc _) (Xc _),⟨hz,hI,⟨_,_,hO⟩,h1,h2⟩,fun c hc=>fr c ?_,q⟩;simp only[n_,P_,Xk] at hc;simp only[Addr] at *;omega
def zlO (o u:Option O3) (a b:Addr) (H:Hp3) (R:List T->(Hp3->Prop)->Hp3->Prop):Prop:=match o,u with
 |some (.lst xs),some (.lst ys)=>R (eY xs ys) (fun H'=>aX a xs H'/\aX b ys H') H
 |_,_=>False
def Ck (ta:TA3):TI3:=fun Z H R=>ta Z H fun vs H1=>match vs with
 |[.ref a,.ref b]=>zlO (H1 a) (H1 b) a b H1 R
 |_=>False
theorem yu {K:Frag}{H:Hp}{a b:Addr}{ts us:List T}:iD K (OJ K a b) (eY ts us) (fun H'=>aX a ts H'/\aX b us H') H:=fun H' H3' le sh st=>by
 obtain⟨xs,sa,ra⟩:=sh.sqL st.1;obtain⟨ys,sb,rb⟩:=sh.sqL st.2;have hla:=ra.length;have hlb:=rb.length;refine⟨fun i hi=>⟨xs,ys,sa,sb,by rw[lF] at hi;omega⟩,fun i t e=>?_⟩;rw[lE] at e;cases e1:ts[i]? with
 |none=>rw[e1] at e;cases e
 |some x =>
 cases e2:us[i]? with
 |none=>rw[e1,e2] at e;cases e
 |some y =>
 rw[e1,e2] at e;cases e;obtain⟨v,ev,rv⟩:=ra.get e1;obtain⟨v',ev',rv'⟩:=rb.get e2;refine⟨⟨xs,ys,v,v',sa,sb,ev,ev'⟩,fun z H'' yl=>?_⟩;obtain⟨p,x',y',rfl,hp,rfl,q1,q2⟩:=yl;have:=(q1 xs sa).symm.trans ev;cases this;have:=(q2 ys sb).symm.trans ev';cases this;exact⟨aJ hp,sh.new hp,SimH.newTup (H3:=H3') hp (.cons rv (.cons rv' .nil))⟩
theorem Hl {ta:TA3}(hg:Gl X "zip") (hm:X.mg "zip"=none) (ha:PA3 X [ea,eb] ta)
  (hs:starEach [ea,eb] X.env=[(false,eval ea X.env),(false,eval eb X.env)]:=by rfl) (hs2:starEach [eb] X.env=[(false,eval eb X.env)]:=by rfl) :
  PI3 X (.Tuple elts x1 tpos) (.Call (.Name "zip" p) [ea,eb] [] pos) (Ck ta):=by
 refine PI.imp (Hk hg hm Al ha hs hs2) ?_;rintro Z H R ⟨Z3,H3,R3,ss,sh,h,k⟩;refine⟨Z3,H3,_,ss,sh,h,fun vs H' ts H3' le sh' r q=>?_⟩
 match ts,q,r with
 |[.ref a,.ref b],q,r =>
  have q':(match H3' a,H3' b with
   |some (.lst xs),some (.lst ys)=>R3 (eY xs ys) (fun H'=>aX a xs H'/\aX b ys H') H3'
   |_,_=>False):=q
  obtain⟨v,w,rfl,r1,r2⟩:=r.two'
  split at q'
  ·
   rename_i xs ys e1 e2
   obtain⟨us,sa,ra⟩:=sh'.sqL (.inl e1)
   obtain⟨us',sb,rb⟩:=sh'.sqL (.inl e2)
   exact⟨a,b,by rw[r1.ref,r2.ref],⟨_,sa⟩,⟨_,sb⟩,k _ _ _ H' H3' le sh' yu q'⟩
  ·
   exact q'.elim
theorem Hm (ta:TA3) {Z:St3}{H:Hp3}{R:List T->(Hp3->Prop)->Hp3->Prop}:Ck ta Z H R=ta Z H fun vs H1=>match vs with
 |[.ref a,.ref b]=>zlO (H1 a) (H1 b) a b H1 R
 |_=>False:=rfl
theorem Uk (xs ys:List T) (a b:Addr) (H:Hp3) (R:List T->(Hp3->Prop)->Hp3->Prop):zlO (some (.lst xs)) (some (.lst ys)) a b H R=R (eY xs ys) (fun H'=>aX a xs H'/\aX b ys H') H:=rfl
end
abbrev Cm (t:Addr):Obj:={ cls:=.type "list_iterator",data:=.fields #[.ref t,.int 0 0]}
theorem uX (t1 t2:Addr) (xs ys:Array Value) :
  Meets (Builtin.«zip.__new__» ⟨[.type "zip",.ref t1,.ref t2],[]⟩) (fun _ R s=>s.heap.IsTuple t1 xs/\s.heap.IsList t2 ys/\∀h1 h2 h3 h4,h1=s.heap.push (JC t1)->h2=h1.push (Cm t2)->h3=h2.push { cls:=.type "tuple",data:=.seq #[.ref s.heap.objs.size,.ref h1.objs.size]}->h4=h3.push { cls:=.type "tuple",data:=.seq #[.none,.none]} ->
   R (.ok (.ret (.ref h4.objs.size))) { s with heap:=h4.push { cls:=.type "zip",data:=.fields #[.none,.bool false,.bool false,.ref h2.objs.size,.ref h3.objs.size]}}) :=
 .of_wp fun prog w A R s h=>by
  obtain⟨hp,g,d,tk,os⟩:=s;obtain⟨hl1,hl2,h⟩:=h;have hsub:=sub_zip;have hL1:Heap.IsTuple (Shared.heap ⟨hp,g,d,tk,os⟩) t1 xs:=hl1;have hL2:Heap.IsList (Shared.heap ⟨hp.push { cls:=.type "tuple_iterator",data:=.fields #[.ref t1,.int 0 0]},g,d,tk,os⟩) t2 ys:=Heap.IsList.push hl2 _
  wp_walk using YQ hL1,wpAny_pyIter_list hL2
  exact⟨_,rfl,h _ _ _ _ rfl rfl rfl rfl⟩
section
variable {prog:Program}{w:World}{A:Around}{E:Value->Shared->Prop}{s:Shared}
theorem yw {t1 t2:Addr}{xs ys:Array Value}{Q:Value->Shared->Prop}(hl1:s.heap.IsTuple t1 xs) (hl2:s.heap.IsList t2 ys)
  (h:∀h' i1 i2 ti to z,IsZip h' z ti to .none->IsPair h' ti (.ref i1) (.ref i2)->IsPair h' to .none .none->h'.IsTupleIter i1 t1 0->h'.IsListIter i2 t2 0 ->
   s.heap.objs.size<=i1->i1<i2->i2<ti->ti<to->to<z->(∀c o,s.heap.get? c=some o->h'.get? c=some o)->Q (.ref z) { s with heap:=h'}) :
  wpAny (model prog w) A (call (.type "zip") [.ref t1,.ref t2]) Q E s:=by
 refine callType_new F.called_zip (by decide) (F.typeCall_zip_2 _ _) (F.newCall_zip_2 _ _) (fun obj=>F.args_object_init_3 obj _ _) F.entry_zip_new
  (uX t1 t2 xs ys) ⟨hl1,hl2,fun h1 h2 h3 h4 e1 e2 e3 e4=>?_⟩
 have p:∀(h:Heap) (o:Obj),h.objs.size<(h.push o).objs.size:=fun h o=>by rw[XM];exact Xc _
 have g5:=u_ h4 (o:={ cls:=.type "zip",data:=.fields #[.none,.bool false,.bool false,.ref h2.objs.size,.ref h3.objs.size]}) rfl;have g4:h4.get? h3.objs.size=some { cls:=.type "tuple",data:=.seq #[.none,.none]}:=by rw[e4];exact u_ _ rfl
 have g3:h3.get? h2.objs.size=some { cls:=.type "tuple",data:=.seq #[.ref s.heap.objs.size,.ref h1.objs.size]}:=by rw[e3];exact u_ _ rfl
 have g2:h2.get? h1.objs.size=some (Cm t2):=by rw[e2];exact u_ _ rfl
 have g1:h1.get? s.heap.objs.size=some (JC t1):=by rw[e1];exact u_ _ rfl
 have u1:∀c o,s.heap.get? c=some o->h1.get? c=some o:=fun c o q=>by rw[e1];exact e_ _ q
 have u2:∀c o,h1.get? c=some o->h2.get? c=some o:=fun c o q=>by rw[e2];exact e_ _ q
 have u3:∀c o,h2.get? c=some o->h3.get? c=some o:=fun c o q=>by rw[e3];exact e_ _ q
 have u4:∀c o,h3.get? c=some o->h4.get? c=some o:=fun c o q=>by rw[e4];exact e_ _ q
 refine⟨⟨_,g5,rfl⟩,h _ s.heap.objs.size h1.objs.size h2.objs.size h3.objs.size h4.objs.size g5 (e_ _ (u4 _ _ g3)) (e_ _ g4) ⟨_,e_ _ (u4 _ _ (u3 _ _ (u2 _ _ g1))),rfl,rfl⟩ ⟨_,e_ _ (u4 _ _ (u3 _ _ g2)),rfl,rfl⟩
  (j_ _) ?_ ?_ ?_ ?_ fun c o q=>e_ _ (u4 _ _ (u3 _ _ (u2 _ _ (u1 _ _ q))))⟩
 ·rw[e1];exact p _ _
 ·rw[e2];exact p _ _
 ·rw[e3];exact p _ _
 rw[e4];exact p _ _
end
def O1 (K:Frag) (a b:Addr):It :=
 ⟨fun i H=>∃xs ys x y,SqT K H a xs/\SqL K H b ys/\xs[i]?=some x/\ys[i]?=some y,
  fun i H v H'=>∃p x y,v=.ref p/\H p=none/\H'=upd H p (.tup [x,y])/\(∀xs,SqT K H a xs->xs[i]?=some x)/\∀ys,SqL K H b ys->ys[i]?=some y,
  fun i H=>∃xs ys,SqT K H a xs/\SqL K H b ys/\(xs.length<=i\/ys.length<=i)⟩
def Wm (a b z ti to i1 i2:Addr) (i:Nat) (h:Heap):Prop:=IsZip h z ti to .none/\IsPair h ti (.ref i1) (.ref i2)/\(∃u v,IsPair h to u v)/\h.IsTupleIter i1 a i/\h.IsListIter i2 b i
theorem yx {P:Program}{w:World}{K:Frag}{elts:List Expr}{x1:Nat}{pos:Pos}(a b z ti to i1 i2:Addr) (l1:a<i1/\b<i1) (l2:i1<i2) (l3:i2<ti) (l4:ti<to) (l5:to<z) :
  Turn P w K (.Tuple elts x1 pos) (O1 K a b) [z,ti,to,i1,i2] z (Wm a b z ti to i1 i2) where
 mem:=k_
 obj:=fun i h st c hc=>by
  obtain⟨hz,hI,⟨u,v,hO⟩,⟨o1,e1,_,d1⟩,⟨o2,e2,_,d2⟩⟩:=st
  simp only[n_,P_,Xk] at hc
  rcases hc with rfl | rfl | rfl | rfl | rfl
  ·
   exact⟨_,hz,fun v z=>by cases z⟩
  ·
   exact⟨_,hI,fun v z=>by cases z⟩
  ·
   exact⟨_,hO,fun v z=>by cases z⟩
  ·
   exact⟨_,e1,fun v z=>by rw[d1] at z;cases z⟩
  ·
   exact⟨_,e2,fun v z=>by rw[d2] at z;cases z⟩
 keep:=fun i h h' st k=>by
  obtain⟨hz,hI,⟨u,v,hO⟩,h1,h2⟩:=st
  exact⟨k z (by simp) _ hz,k ti (by simp) _ hI,⟨u,v,k to (by simp) _ hO⟩,h1.at fun o e=>k i1 (by simp) o e,h2.at fun o e=>k i2 (by simp) o e⟩
 item:=by
  intro X hP hw hK hc i pins s Z H E I hf st hg
  subst hP hw hK
  obtain⟨xs,ys,x,y,qx,qy,ex,ey⟩:=hg
  obtain⟨its,rv,p1,hz1⟩:=I.tuple qx
  obtain⟨jts,rw',p2_,hz2⟩:=I.list qy
  have p2:=p2_.isList
  obtain⟨u,hu,ru⟩:=rv.get ex
  obtain⟨v,hv,rv'⟩:=rw'.get ey
  have hz:=st.1
  have hI:=st.2.1
  obtain⟨a0,b0,hO⟩:=st.2.2.1
  have h1:=st.2.2.2.1
  have h2:=st.2.2.2.2
  have hu':its.toArray[i]?=some u:=by simpa using hu
  have hv':jts.toArray[i]?=some v:=by simpa using hv
  have D:ZAp z ti to i1 i2 [i1,a] [i2,b]:=zap l1 l2 l3 l4 l5
  have d1:=ut (prog:=X.prog) (w:=X.w) (A:=X.A.in1) (I.ok.hd hc) i1 a (C_ l1.1) its.toArray
  have d2:=Draws.list (prog:=X.prog) (w:=X.w) (A:=X.A.in1) (I.ok.hd hc) i2 b (C_ (WF l1.2 l2)) jts.toArray
  refine wC d1 d2 D hz hI hO ⟨h1,p1⟩ ⟨h2,p2⟩ (XR.mp hu').1 (XR.mp hv').1 fun x' y' h' tk px py hz' hO' s1 s2 hT hsz kp=>?_
  have e1:x'=u:=K_ (px.symm.trans hu')
  have e2:y'=v:=K_ (py.symm.trans hv')
  subst e1 e2
  refine⟨_,rfl,wpAny_letOwnedTupleGo_zip hz' fun h2' hz2' sb=>?_⟩
  have kp2:∀c o,c∉[z,to,i1,i2]->s.heap.get? c=some o->h2'.get? c=some o:=fun c o nc e=>(sb.2 c fun q=>nc (q▸k_)).trans (kp c o nc e)
  have hsub:∀c∈[z,to,i1,i2],c∈[z,ti,to,i1,i2]:=fun c hc=>by simp only[n_,P_,Xk] at hc ⊢;rcases hc with q | q | q | q <;> simp [q]
  have lt:∀{c o},s.heap.get? c=some o->s.heap.objs.size≠c:=fun e=>Wx (y_ e)
  have lt1:∀{c:Addr},c∈[z,ti,to,i1,i2]->c≠s.heap.objs.size:=fun {c} hc=>by
   simp only[n_,P_,Xk] at hc
   rcases hc with q | q | q | q | q <;> subst q
   ·
    exact Ne.symm (lt hz)
   ·
    exact Ne.symm (lt hI)
   ·
    exact Ne.symm (lt hO)
   ·
    obtain⟨o,e,_⟩:=h1;exact Ne.symm (lt e)
   ·
    obtain⟨o,e,_⟩:=h2;exact Ne.symm (lt e)
  have hTz:s.heap.objs.size≠z:=lt hz
  have I1:Inv X pins Z (upd H s.heap.objs.size (.tup [x,y])) { s with heap:=s.heap.push { cls:=.type "tuple",data:=.seq #[x',y']},toks:=tk} :=
   I.laid (t':=tk) (fun b o e=>e_ _ e) (j_ _) (show ObjOk X.prog X.w _ _ _ (.tup [x,y]) from ⟨by show 2<=sizeLine;decide,[x',y'],.cons ru (.cons rv' .nil),Tup0.new _ _⟩)
  have I2:Inv X pins Z (upd H s.heap.objs.size (.tup [x,y])) { s with heap:=h2',toks:=tk}:=fj (s:={ s with heap:=s.heap.push { cls:=.type "tuple",data:=.seq #[x',y']},toks:=tk}) (ch:=[z,to,i1,i2]) (t':=tk) I1 (fun c o nc e=>by
   by_cases q:c=s.heap.objs.size
   ·
    subst q
    have e':(s.heap.push { cls:=.type "tuple",data:=.seq #[x',y']}).get? s.heap.objs.size=some o:=e
    rw[u_ _ rfl] at e'
    cases e'
    exact (sb.2 _ hTz).trans hT
   ·
    have e':(s.heap.push { cls:=.type "tuple",data:=.seq #[x',y']}).get? c=some o:=e
    rw[Zo _ _ _ q] at e'
    exact kp2 c o nc e') fun c hc=>⟨by rw[aO (lt1 (hsub c hc))];exact (hf c (hsub c hc)).1,(hf c (hsub c hc)).2⟩
  refine⟨.ref s.heap.objs.size,_,I2,rfl,⟨s.heap.objs.size,x,y,rfl,I.hok.fresh (j_ _),rfl,fun zs hq=>by rw[I.tuple_inj hq qx];exact ex,fun zs hq=>by rw[I.list_inj hq qy];exact ey⟩,?_,fun c hc=>by rw[aO (lt1 hc)];exact (hf c hc).1⟩
  have n1:ti≠z:=D.ne.1
  refine⟨hz2',?_,⟨x',y',(sb.2 to D.ne.2.1).trans hO'⟩,s1.1.at fun o e=>(sb.2 i1 D.i1z).trans e,s2.1.at fun o e=>(sb.2 i2 D.i2z).trans e⟩
  refine kp2 ti _ ?_ hI
  simp only[n_,P_,Xk,not_or]
  exact⟨D.ne.1,D.ne.2.2.1,Ne.symm D.i1ti,Ne.symm D.i2ti⟩
 done:=by
  intro X hP hw hK hc i pins s Z H E I hf st hg
  subst hP hw hK
  obtain⟨xs,ys,qx,qy,hg⟩:=hg
  obtain⟨its,rv,p1,hz1⟩:=I.tuple qx
  obtain⟨jts,rw',p2_,hz2⟩:=I.list qy
  have p2:=p2_.isList
  have hz:=st.1
  have hI:=st.2.1
  obtain⟨a0,b0,hO⟩:=st.2.2.1
  have h1:=st.2.2.2.1
  have h2:=st.2.2.2.2
  have n1:=rv.length
  have n2:=rw'.length
  have D:ZAp z ti to i1 i2 [i1,a] [i2,b]:=zap l1 l2 l3 l4 l5
  have fin:∀(h':Heap) (tk:Nat),(∀c o,c∉[z,to,i1,i2]->s.heap.get? c=some o->h'.get? c=some o)->(none:Option Value)=none/\Inv X pins Z H { s with heap:=h',toks:=tk}:=fun h' tk kp=>⟨rfl,fj I kp fun c hc=>hf c (by
   simp only[n_,P_,Xk] at hc ⊢;rcases hc with q | q | q | q <;> simp [q])⟩
  have d1:=ut (prog:=X.prog) (w:=X.w) (A:=X.A.in1) (I.ok.hd hc) i1 a (C_ l1.1) its.toArray
  have d2:=Draws.list (prog:=X.prog) (w:=X.w) (A:=X.A.in1) (I.ok.hd hc) i2 b (C_ (WF l1.2 l2)) jts.toArray
  by_cases hi:xs.length<=i
  ·
   have e1:=Ak (prog:=X.prog) (w:=X.w) (A:=X.A.in1) (I.ok.hd hc) i1 a (C_ l1.1) its.toArray i (by simp;omega)
   exact pA (k:=i) e1 d2 D hz hI hO ⟨rfl,h1,p1⟩ ⟨h2,p2⟩ (.inl rfl) fin
  ·
   have hy:ys.length<=i:=hg.resolve_left hi
   have e2:=pM (prog:=X.prog) (w:=X.w) (A:=X.A.in1) (I.ok.hd hc) i2 b (C_ (WF l1.2 l2)) jts.toArray i (by simp;omega)
   exact pA (k:=i) d1 e2 D hz hI hO ⟨h1,p1⟩ ⟨rfl,h2,p2⟩ (.inr ⟨by simp;omega,rfl⟩) fin
 self:=fun _ _ _ _ _ st h=>wpAny_pyIter_zip st.1 h
section
variable {X:Cx}{elts:List Expr}{x1:Nat}{tpos pos p:Pos}{ea eb:Expr}
def Ul (K:Frag) (t:TA):TI:=fun Z H R=>t Z H fun vs H1=>∃a b,vs=[.ref a,.ref b]/\(∃xs,SqT K H1 a xs)/\(∃ys,SqL K H1 b ys)/\R (O1 K a b) H1
theorem Hn {t:TA}(hg:Gl X "zip") (hm:X.mg "zip"=none) (hv:bootBuiltins "zip"=some (.type "zip")) (ha:PA X [ea,eb] t)
  (hs:starEach [ea,eb] X.env=[(false,eval ea X.env),(false,eval eb X.env)]:=by rfl) (hs2:starEach [eb] X.env=[(false,eval eb X.env)]:=by rfl) :
  PI X (.Tuple elts x1 tpos) (.Call (.Name "zip" p) [ea,eb] [] pos) (Ul X.K t):=by
 intro pins s Z H R I h;refine Call_ (d9 I hg hm hv (WP (thn (ha pos pins s Z H _ I h) fun us s1 ⟨vs,H1,I1,r1,q1⟩=>?_) (by rw[hs,hs2]) (by rw[hs2];rfl)));obtain⟨a,b,e,⟨xs,sa⟩,⟨ys,sb⟩,q⟩:=q1;subst e;cases r1 with
 |cons r rr =>
 cases rr with
 |cons r' rr =>
 cases rr;cases r;cases r';obtain⟨its,rv,p1,hz1⟩:=I1.tuple sa;obtain⟨jts,rw',p2_,hz2⟩:=I1.list sb;have p2:=p2_.isList;have la:a<s1.heap.objs.size:=by obtain⟨o,e,_⟩:=p1;exact y_ e
 have lb:b<s1.heap.objs.size:=by obtain⟨o,e,_⟩:=p2;exact y_ e
 refine yw p1 p2 fun h' i1 i2 ti to z hz hI hO h1 h2 l0 l1 l2 l3 l4 kp=>wpAny_pyIter_zip hz ?_;have fr:∀c,i1<=c->jW X pins H1 c:=fun c hc=>I1.fpOk (U_ l0 hc) (I1.hok.fresh (U_ l0 hc));refine⟨z,[z,ti,to,i1,i2],_,_,H1,rfl,I1.kept (t':=s1.toks) kp,yx a b z ti to i1 i2 ⟨S_ la l0,S_ lb l0⟩ l1 l2 l3 l4,⟨hz,hI,⟨_,_,hO⟩,h1,h2⟩,fun c hc=>fr c ?_,q⟩;simp only[n_,P_,Xk] at hc;simp only[Addr] at *;omega
def zmO (xs:List T) (u:Option O3) (b:Addr) (H:Hp3) (R:List T->(Hp3->Prop)->Hp3->Prop):Prop:=match u with
 |some (.lst ys)=>R (eY xs ys) (aX b ys) H
 |_=>False
def Cp (ta:TA3):TI3:=fun Z H R=>ta Z H fun vs H1=>match vs with
 |[.tup xs,.ref b]=>zmO xs (H1 b) b H1 R
 |_=>False
theorem yz {K:Frag}{H:Hp}{a b:Addr}{ts us:List T}{xs:List V}(sa0:SqT K H a xs) (ra:Reps K H ts xs):iD K (O1 K a b) (eY ts us) (aX b us) H:=fun H' H3' le sh st=>by
 have sa:=le _ _ sa0;obtain⟨ys,sb,rb⟩:=sh.sqL st;have hla:=ra.length;have hlb:=rb.length;refine⟨fun i hi=>⟨xs,ys,sa,sb,by rw[lF] at hi;omega⟩,fun i t e=>?_⟩;rw[lE] at e;cases e1:ts[i]? with
 |none=>rw[e1] at e;cases e
 |some x =>
 cases e2:us[i]? with
 |none=>rw[e1,e2] at e;cases e
 |some y =>
 rw[e1,e2] at e;cases e;obtain⟨v,ev,rv⟩:=ra.get e1;obtain⟨v',ev',rv'⟩:=rb.get e2;refine⟨⟨xs,ys,v,v',sa,sb,ev,ev'⟩,fun z H'' yl=>?_⟩;obtain⟨p,x',y',rfl,hp,rfl,q1,q2⟩:=yl;have:=(q1 xs sa).symm.trans ev;cases this;have:=(q2 ys sb).symm.trans ev';cases this;exact⟨aJ hp,sh.new hp,SimH.newTup (H3:=H3') hp (.cons (rv.mono le) (.cons rv' .nil))⟩
theorem Ho {ta:TA3}(hg:Gl X "zip") (hm:X.mg "zip"=none) (ha:PA3 X [ea,eb] ta)
  (hs:starEach [ea,eb] X.env=[(false,eval ea X.env),(false,eval eb X.env)]:=by rfl) (hs2:starEach [eb] X.env=[(false,eval eb X.env)]:=by rfl) :
  PI3 X (.Tuple elts x1 tpos) (.Call (.Name "zip" p) [ea,eb] [] pos) (Cp ta):=by
 refine PI.imp (Hn hg hm Al ha hs hs2) ?_;rintro Z H R ⟨Z3,H3,R3,ss,sh,h,k⟩;refine⟨Z3,H3,_,ss,sh,h,fun vs H' ts H3' le sh' r q=>?_⟩
 match ts,q,r with
 |[.tup xs,.ref b],q,r =>
  have q':(match H3' b with
   |some (.lst ys)=>R3 (eY xs ys) (aX b ys) H3'
   |_=>False):=q
  obtain⟨v,w,rfl,r1,r2⟩:=r.two'
  obtain⟨a,us,rfl,sa,ra⟩:=r1.tup
  split at q'
  ·
   rename_i ys e2
   obtain⟨us',sb,rb⟩:=sh'.sqL (.inl e2)
   exact⟨a,b,by rw[r2.ref],⟨_,sa⟩,⟨_,sb⟩,k _ _ _ H' H3' le sh' (yz sa ra) q'⟩
  ·
   exact q'.elim
theorem Hq (ta:TA3) {Z:St3}{H:Hp3}{R:List T->(Hp3->Prop)->Hp3->Prop}:Cp ta Z H R=ta Z H fun vs H1=>match vs with
 |[.tup xs,.ref b]=>zmO xs (H1 b) b H1 R
 |_=>False:=rfl
theorem Um (xs ys:List T) (b:Addr) (H:Hp3) (R:List T->(Hp3->Prop)->Hp3->Prop):zmO xs (some (.lst ys)) b H R=R (eY xs ys) (aX b ys) H:=rfl
end
end L3
namespace M
open L2 L3
local macro_rules | `(tactic| walk_at "c") => `(tactic| try dsimp only [o4,List.replicate,I_,Xy,YG,Yj,Xn,Xm,Option.getD_some])
local macro_rules | `(tactic| walk_at "n") => `(tactic| (obtain ⟨e⟩:=‹Shut (_ = _)›; subst e; try dsimp only))
def nm0 : String := "ne_eq not_false_eq_true aD vO vQ tC3 gM Jq zB Jh Jk Ly qL Jl Je Rt Jf LQ Ry zF zE Jo o5 Ji Jj V8 Rw qX vU Wc z7 dM Mh Gb Mi RB Mj gK q_I Wd Ml Mm Mp z8 iU RD RG RJ RK Jv qZ Jw RL Jx Jy z9 wy RM RN Mq RP We Mr RQ Jz Ms RV RW q_D RX Mt RZ Sd Mu Sg Mv Mw Gd Sh Ge Mx Sq Mz MF MJ MK MN Ss Su Sv Sw Sx Aa Sy SJ SM SN Gf SQ Gg Gh SX S5 S6 S7 MP S8 Gi JB wz MT Gj M3 aq LK zN nH Tc Td nR Ng uv uw ux yg uA Nh uB uC uD yh uE Gs rA rB rC uF rD Am pB pC pF rE pG Gu rF rG rH uG rJ j7 decide_true decide_false Bool.not_true Bool.not_false M4 M5 Wf at0 at1 at2 at3 List.eraseIdx_cons_zero Int.toNat_natCast oW List.length_map List.length_cons List.length_nil Nat.zero_add Bool.false_eq_true if_false if_true List.getElem?_cons_zero List.getElem?_cons_succ List.set_cons_zero List.set_cons_succ Tj Tn Nj List.map_cons List.map_nil An Np Nq Aq Nv Tp Tq Ny Nz JH JK TJ N7 Bh JN JM O2 O4 O5 O6 Wi GK GP GQ GR Ob Oa Bp Bq Bk uL Th Ti Ah PB Od JW BP Oo JX JZ Ub BR J0 J1 BV wG pJ T4 Wj JQ Bv GZ T7 Og Bx Oi T8 BJ uP Ol JR JS BK JT JV Ud Ot Ue Oz Ug Ox Bk uL Bp Bq Qk PP Dj PQ PX Cj Ui UL UT Hm Uk Hq Um Te M8 Tf M9 Gk Gm Ae Gn Af Tg Gp NZ Tt Gz Tu Tw Tz"
local macro_rules | `(tactic| walk_at "") => do
 let ls <- ((nm0.splitOn " ").toArray.map String.toName).filterM fun n => do return !(<- Lean.Macro.resolveGlobalName n).isEmpty
 let ls <- ls.mapM fun n => let i:=Lean.mkIdent n; `(Lean.Parser.Tactic.simpLemma| $i:ident)
 `(tactic| ((try dsimp only [$[$ls:simpLemma],*]); try simp only [*,$[$ls:simpLemma],*]))
structure isNm (x:Str):Prop where
 lo:1<=x.length
 hi:x.length<=8
 az:∀c∈x.cps.toList,97<=c/\c<=122
structure Nms (ws:List Str):Prop where
 nm:∀x∈ws,isNm x
 nd:ws.Nodup
theorem Nms.nil:Nms []:=⟨fun _ h=>(nomatch h),YK⟩
theorem Nms.snoc {ws:List Str}{x:Str}(n:Nms ws) (h:isNm x) (hx:x∉ws):Nms (ws++[x]) :=
 ⟨fun y hy=>(G_.mp hy).elim (n.nm y) fun z=>by rw[q_.mp z];exact h,gm n.nd hx⟩
structure Wk where
 tasks:List (Str × Int × List Str)
 orders:List (Str × Str)
 pairs:List (Str × Str × Str)
 row:List Str
def sT (xs:List Str):T:=.tup (xs.map T.str)
def tkT (t:Str × Int × List Str):T:=.tup [.str t.1,.int t.2.1,sT t.2.2]
def orT (o:Str × Str):T:=.tup [.str o.1,.str o.2]
def prT (p:Str × Str × Str):T:=.tup [.str p.1,.str p.2.1,.str p.2.2]
def Wk.enc (W:Wk):T:=.tup [.tup (W.tasks.map tkT),.tup (W.orders.map orT),.tup (W.pairs.map prT),sT W.row]
structure tkOk (t:Str × Int × List Str):Prop where
 nm:isNm t.1
 lo:1<=t.2.1
 hi:t.2.1<10^60
 ks:Nms t.2.2
 kl:t.2.2.length<=4
structure WkOk (W:Wk):Prop where
 t1:1<=W.tasks.length
 t8:W.tasks.length<=8
 tk:∀t∈W.tasks,tkOk t
 nd:(W.tasks.map (·.1)).Nodup
 os:W.orders.length<=28
 od:W.orders.Nodup
 oo:∀o∈W.orders,o.1≠o.2/\o.1∈W.tasks.map (·.1)/\o.2∈W.tasks.map (·.1)
 ps:W.pairs.length<=12
 pd:W.pairs.Nodup
 pp:∀p∈W.pairs,(p.1="with"\/p.1="apart")/\p.2.1≠p.2.2/\p.2.1∈W.tasks.map (·.1)/\p.2.2∈W.tasks.map (·.1)
 r1:1<=W.row.length
 r8:W.row.length<=8
 rn:∀x∈W.row,isNm x
theorem fG {α:Type}{f:α->T}(hf:∀{a b},f a=f b->a=b) {x:α}{xs:List α}:f x∈xs.map f↔x∈xs:=by
 rw[z_];exact⟨fun ⟨y,hy,e⟩=>hf e▸hy,fun h=>⟨x,h,rfl⟩⟩
theorem jj {a b:Str}(h:T.str a=T.str b):a=b:=by injection h
theorem Uo {α:Type}{f:α->T}(hf:∀{a b},f a=f b->a=b) {x:α}{xs:List α}:dB true (f x) (xs.map f)=true↔x∉xs:=by
 unfold dB;simp [fG hf]
theorem Wn {α:Type}{f:α->T}(hf:∀{a b},f a=f b->a=b) {x:α}{xs:List α}:dB false (f x) (xs.map f)=true↔x∈xs:=by
 unfold dB;simp [fG hf]
theorem dD (xs:List Str):(xs.map T.str).all (pl 20)=true:=by rw[Xe];intro t ht;obtain⟨x,_,rfl⟩:=z_.mp ht;rfl
theorem O2 (W:Wk) (H:Hp3) (Q:VK3):qW W.enc (.int 0) H Q=Q (.tup (W.tasks.map tkT)) H:=rfl
theorem O4 (W:Wk) (H:Hp3) (Q:VK3):qW W.enc (.int 1) H Q=Q (.tup (W.orders.map orT)) H:=rfl
theorem O5 (W:Wk) (H:Hp3) (Q:VK3):qW W.enc (.int 2) H Q=Q (.tup (W.pairs.map prT)) H:=rfl
theorem O6 (W:Wk) (H:Hp3) (Q:VK3):qW W.enc (.int 3) H Q=Q (.tup (W.row.map T.str)) H:=rfl
def pick:List Str->Int->List Str
 |[],_=>[]
 |x::r,b=>if b%2=1 then x::pick r (b / 2) else pick r (b / 2)
def tot:List Str->Int->Int
 |[],_=>0
 |_::r,b=>(if b%2=1 then 1 else 0)+2*tot r (b / 2)
def numOf:List Str->List Str->Int
 |[],_=>0
 |x::r,ss=>(if x∈ss then 1 else 0)+2*numOf r ss
theorem jk:∀(ws:List Str) (b:Int),∀x∈pick ws b,x∈ws
 |[],_,x,h=>by cases h
 |y::r,b,x,h=>by
  unfold pick at h
  split at h
  ·
   rcases n_.mp h with rfl | h
   ·
    exact k_
   ·
    exact t_ _ (jk r _ x h)
  ·
   exact t_ _ (jk r _ x h)
theorem jT:∀(ws ss ss':List Str),(∀x∈ws,x∈ss↔x∈ss')->numOf ws ss=numOf ws ss'
 |[],_,_,_=>rfl
 |y::r,ss,ss',h=>by
  have h1:=h y k_
  have h2:=jT r ss ss' fun x hx=>h x (t_ _ hx)
  simp only[numOf,h2,h1]
theorem lM:∀(ws:List Str) (b:Int),ws.Nodup->numOf ws (pick ws b)=tot ws b
 |[],_,_=>rfl
 |y::r,b,nd=>by
  rw[W8] at nd
  have ih:=lM r (b / 2) nd.2
  have hy:y∉pick r (b / 2):=fun h=>nd.1 (jk r _ y h)
  by_cases hb:b%2=1
  ·
   have e:numOf r (y::pick r (b / 2))=numOf r (pick r (b / 2)):=jT r _ _ fun x hx=>by
    have:x≠y:=fun e=>nd.1 (e▸hx)
    simp [this]
   simp only[numOf,tot,pick,hb,if_true,e,ih,n_,true_or]
  ·
   simp only[numOf,tot,pick,hb,Wt,hy,ih]
theorem Cq:∀(ws:List Str) (b:Int),0<=b->b<2^ws.length->tot ws b=b
 |[],b,h0,h1=>by simp at h1;simp only[tot];omega
 |y::r,b,h0,h1=>by
  have h2:b / 2<2^r.length:=by
   rw[l_,Zr] at h1
   omega
  have ih:=Cq r (b / 2) (by omega) h2
  simp only[tot,ih]
  split <;> omega
theorem lN:∀(A:List Str) (y:Str) (ss:List Str),numOf (A++[y]) ss=numOf A ss+2^A.length*(if y∈ss then 1 else 0)
 |[],y,ss=>by simp [numOf]
 |x::A,y,ss=>by
  have ih:=lN A y ss
  simp only[YG,numOf,l_,ih,Zr]
  generalize (2:Int)^A.length=w
  generalize (if y∈ss then (1:Int) else 0)=z
  rw[Int.mul_add,<- Int.mul_assoc,Int.mul_comm 2 w]
  omega
theorem rR:∀(A B:List Str) (b:Int),pick (A++B) b=pick A b++pick B (b / 2^A.length)
 |[],B,b=>by simp [pick]
 |y::A,B,b=>by
  have ih:=rR A B (b / 2)
  have e:b / 2 / 2^A.length=b / 2^(A.length+1):=by
   rw[Zr,Int.mul_comm,Int.ediv_ediv_of_nonneg (by decide)]
  simp only[YG,pick,l_,ih,e]
  split <;> simp
theorem pN (m n:Nat):Builtin.bitAnd (m:Int) (n:Int)=((m &&& n:Nat):Int):=by
 unfold Builtin.bitAnd;rfl
theorem O7 (m n:Nat):Builtin.bitOr (m:Int) (n:Int)=((m ||| n:Nat):Int):=by
 have h:∀z:Nat,decide ((0:Int)<=Builtin.bitNot (z:Int))=false:=fun z=>E_ (by unfold Builtin.bitNot;omega);have g:∀z:Int,Builtin.bitNot (Builtin.bitNot z)=z:=fun z=>by unfold Builtin.bitNot;omega
 unfold Builtin.bitOr Builtin.bitAnd;rw[h,h];simp only[g,Xi]
def bK:List Str->List Str->Nat
 |[],_=>0
 |x::r,ss=>(if x∈ss then 1 else 0)+2*bK r ss
theorem cu:∀(ns ss:List Str),numOf ns ss=((bK ns ss:Nat):Int)
 |[],_=>rfl
 |x::r,ss=>by
  have:=cu r ss
  simp only[numOf,bK,this]
  by_cases h:x∈ss <;> simp [h]
theorem Hr (b c a d:Nat) (hb:b<2) (hc:c<2):(b+2*a) &&& (c+2*d)=(if b=1/\c=1 then 1 else 0)+2*(a &&& d):=by
 have h1:((b+2*a) &&& (c+2*d)) / 2=(b+2*a) / 2 &&& (c+2*d) / 2:=Nat.and_div_two;have e1:(b+2*a) / 2=a:=by omega
 have e2:(c+2*d) / 2=d:=by omega
 rw[e1,e2] at h1;have h2:((b+2*a) &&& (c+2*d))%2=1↔(b+2*a)%2=1/\(c+2*d)%2=1:=Nat.and_mod_two_eq_one;by_cases h:b=1/\c=1
 ·rw[if_pos h];have:=h2.mpr ⟨by omega,by omega⟩;omega
 rw[if_neg h];have:¬((b+2*a) &&& (c+2*d))%2=1:=fun z=>h (by have:=h2.mp z;omega);omega
theorem O8 (b c a d:Nat) (hb:b<2) (hc:c<2):(b+2*a) ||| (c+2*d)=(if b=1\/c=1 then 1 else 0)+2*(a ||| d):=by
 have h1:((b+2*a) ||| (c+2*d)) / 2=(b+2*a) / 2 ||| (c+2*d) / 2:=Nat.or_div_two;have e1:(b+2*a) / 2=a:=by omega
 have e2:(c+2*d) / 2=d:=by omega
 rw[e1,e2] at h1;have h2:((b+2*a) ||| (c+2*d))%2=1↔(b+2*a)%2=1\/(c+2*d)%2=1:=Nat.or_mod_two_eq_one;by_cases h:b=1\/c=1
 ·rw[if_pos h];have:=h2.mpr (by omega);omega
 rw[if_neg h];have:¬((b+2*a) ||| (c+2*d))%2=1:=fun z=>h (by have:=h2.mp z;omega);omega
theorem kj (p:Prop) [Decidable p]:(if p then 1 else 0)<2:=by split <;> decide
theorem lO:∀(ns A B:List Str),bK ns A &&& bK ns B=bK ns (A.filter fun x=>decide (x∈B))
 |[],_,_=>by simp [bK]
 |x::r,A,B=>by
  simp only[bK]
  rw[Hr _ _ _ _ (kj _) (kj _),lO r A B]
  by_cases h1:x∈A <;> by_cases h2:x∈B <;> simp [h1,h2]
theorem wK:∀(ns A B:List Str),bK ns A ||| bK ns B=bK ns (A++B)
 |[],_,_=>by simp [bK]
 |x::r,A,B=>by
  simp only[bK]
  rw[O8 _ _ _ _ (kj _) (kj _),wK r A B]
  by_cases h1:x∈A <;> by_cases h2:x∈B <;> simp [h1,h2]
theorem jl:∀(ns A B:List Str),bK ns A=bK ns B↔∀x∈ns,x∈A↔x∈B
 |[],_,_=>by simp [bK]
 |y::r,A,B=>by
  have ih:=jl r A B
  simp only[bK,n_,forall_eq_or_imp]
  rw[<- ih]
  by_cases h1:y∈A <;> by_cases h2:y∈B <;> simp only[h1,h2,if_true,Wt,iff_true,iff_false,true_iff,false_iff,true_and,not_true,not_false_eq_true,false_and] <;> omega
theorem gQ:∀ns:List Str,bK ns []=0
 |[]=>rfl
 |x::r=>by simp only[bK,P_,Wt,gQ r]
theorem yC (ns A:List Str):bK ns A=0↔∀x∈ns,x∉A:=by
 have:=jl ns A [];rw[gQ] at this;rw[this];simp
theorem fH (ns A B:List Str):(Builtin.bitAnd (numOf ns A) (numOf ns B)=numOf ns B)↔∀x∈ns,x∈B->x∈A:=by
 rw[cu,cu,pN,lO];constructor
 ·intro h x hx hB;have:=(jl ns _ _).mp (Int.ofNat.inj h) x hx;exact (F_.mp (this.mpr hB)).1
 intro h;refine WK Int.ofNat ((jl ns _ _).mpr fun x hx=>?_);rw[F_,v_];exact⟨fun z=>z.2,fun z=>⟨h x hx z,z⟩⟩
theorem pQ (ns A B:List Str):(Builtin.bitAnd (numOf ns A) (numOf ns B)=0)↔∀x∈ns,¬(x∈A/\x∈B):=by
 rw[cu,cu,pN,lO];have e:((bK ns (A.filter fun x=>decide (x∈B)):Nat):Int)=0↔bK ns (A.filter fun x=>decide (x∈B))=0:=by omega
 rw[e,yC];constructor
 ·intro h x hx z;exact h x hx (F_.mpr ⟨z.1,L_ z.2⟩)
 intro h x hx z;have:=F_.mp z;exact h x hx ⟨this.1,XN this.2⟩
theorem O9 (ns A B:List Str):Builtin.bitOr (numOf ns A) (numOf ns B)=numOf ns (A++B):=by
 rw[cu,cu,cu,O7,wK]
theorem Cr (ns A:List Str):0<=numOf ns A:=by rw[cu];exact YX _
theorem rT:∀(ns A:List Str),numOf ns A<2^ns.length
 |[],_=>by simp [numOf]
 |x::r,A=>by
  have:=rT r A
  simp only[numOf,l_,Zr]
  split <;> omega
theorem rW:∀(ns:List Str) (A:List Str),ns.Nodup->pick ns (numOf ns A)=ns.filter fun x=>decide (x∈A)
 |[],_,_=>rfl
 |x::r,A,nd=>by
  rw[W8] at nd
  have ih:=rW r A nd.2
  have n0:=Cr r A
  by_cases h:x∈A
  ·
   have e1:(1+2*numOf r A)%2=1:=by omega
   have e2:(1+2*numOf r A) / 2=numOf r A:=by omega
   simp only[numOf,h,if_true,pick,e1,e2,ih,Xq,Yo]
  ·
   have e1:¬(0+2*numOf r A)%2=1:=by omega
   have e2:(0+2*numOf r A) / 2=numOf r A:=by omega
   simp only[numOf,h,Wt,pick,e1,e2,ih,Xq,XQ,x_]
theorem Cu {ns:List Str}{n:Int}(nd:ns.Nodup) (h0:0<=n) (h1:n<2^ns.length):numOf ns (pick ns n)=n:=by rw[lM ns n nd,Cq ns n h0 h1]
universe u
variable {α:Type u}
inductive RT (R:α->α->Prop):α->α->Prop
 |refl {a:α}:RT R a a
 |step {a b c:α}:RT R a b->R b c->RT R a c
theorem RT.trans {R:α->α->Prop}{a b c:α}(h:RT R a b) (g:RT R b c):RT R a c:=by
 induction g with
 |refl=>exact h
 |step _ r ih=>exact .step ih r
theorem RT.flip {R:α->α->Prop}{a b:α}(h:RT R a b):RT (fun x y=>R y x) b a:=by
 induction h with
 |refl=>exact .refl
 |step _ r ih=>exact (RT.step (R:=fun x y=>R y x) .refl r).trans ih
theorem Hs {R:α->α->Prop}{a b:α}:RT (fun x y=>R y x) a b↔RT R b a:=⟨fun h=>h.flip,fun h=>h.flip⟩
theorem RT.mono {R S:α->α->Prop}(hs:∀a b,R a b->S a b) {a b:α}(h:RT R a b):RT S a b:=by
 induction h with
 |refl=>exact .refl
 |step _ r ih=>exact .step ih (hs _ _ r)
theorem Uq {L:List (α × α)}{F:List α}{s x:α}(hs:s∈F) (hc:∀a b,(a,b)∈L->a∈F->b∈F) (h:RT (fun a b=>(a,b)∈L) s x):x∈F:=by
 induction h with
 |refl=>exact hs
 |step _ r ih=>exact hc _ _ r ih
theorem pR [DecidableEq α]:∀{l m:List α},l.Nodup->(∀x∈l,x∈m)->l.length<=m.length:=by
 intro l;induction l with
 |nil=>intro m _ _;exact WR _
 |cons a l ih =>
 intro m nd hs;rw[W8] at nd;have ha:=hs a k_;have h:=ih (m:=m.erase a) nd.2 fun x hx=>by have hx':=hs x (t_ _ hx);have hne:x≠a:=fun e=>nd.1 (e▸hx);exact (List.mem_erase_of_ne hne).mpr hx'
 have e:=List.length_erase_of_mem ha;have p:0<m.length:=List.length_pos_of_mem ha;simp only[l_];omega
def mkS (l:List Nat):Str:=⟨l.toArray⟩
theorem iu (l:List Nat):(mkS l).cps.toList=l:=rfl
theorem cY (l:List Nat):(mkS l).length=l.length:=by show (l.toArray).size=_;simp
theorem Pa (x:Str):∃l,x=mkS l:=⟨x.cps.toList,by cases x;rfl⟩
theorem Ht {a b:List Nat}(h:mkS a=mkS b):a=b:=by have:=WK (fun x=>x.cps.toList) h;exact this
theorem wL (a b:List Nat):mkS a++mkS b=mkS (a++b):=by
 show (⟨a.toArray++b.toArray⟩:Str)=⟨(a++b).toArray⟩;simp
theorem Ur (l:List Nat) (k:Nat) (h:k<=l.length):Txt.slice (mkS l) none (some (k:Int))=mkS (l.take k):=by
 have e:=StrLaws.sliceText_to (x:=mkS l) (j:=(k:Int)) ⟨YX k,by rw[iu];omega⟩;rw[iu,Y8,Int.sub_zero,Xi] at e;exact e
def lQ:List Nat:=[97,98,99,100,101,102,103,104,105,106,107,108,109,110,111,112,113,114,115,116,117,118,119,120,121,122]
theorem Cv:("abcdefghijklmnopqrstuvwxyz":Str)=mkS lQ:=by decide +kernel
theorem Hu:∀i:_root_.Fin 26,lQ[i.val]?=some (97+i.val):=by decide
theorem Cw (i:Int) (h0:0<=i) (h1:i<26):atI lQ i=some (97+i.toNat):=by
 obtain⟨j,rfl⟩:=Int.eq_ofNat_of_zero_le h0;have hj:j<26:=by omega
 have:=Hu ⟨j,hj⟩;exact bN (by simpa using this)
theorem Hv:∀i:_root_.Fin 26,Builtin.Str.occurrences (mkS lQ) (mkS [97+i.val]) 0 26 1=[i.val]:=by decide +kernel
theorem Pb (c:Nat) (h0:97<=c) (h1:c<=122):Builtin.Str.occurrences (mkS lQ) (mkS [c]) 0 (mkS lQ).length 1=[c - 97]:=by
 have:=Hv ⟨c - 97,by omega⟩;rw[show 97+(c - 97)=c by omega] at this;exact this
theorem J2 {l:List Nat}(h1:1<=l.length) (h8:l.length<=8) (h:∀c∈l,97<=c/\c<=122):isNm (mkS l):=⟨by rw[cY];exact h1,by rw[cY];exact h8,by rw[iu];exact h⟩
end M
namespace L3
open L2
structure Shut (p:Prop):Prop where
 out:p
theorem aA {t u:TS3}{D:Ends3}{Z:St3}{H:Hp3}(h:∀R,Shut (R=u)->(vO t R) D Z H):(vO t u) D Z H:=h u ⟨rfl⟩
theorem yD {c:TT3}{tb:TS3}{D:Ends3}{Z:St3}{H:Hp3}(W:Nat->St3->Hp3->Prop) (h0:∃m,W m Z H) (h1:∀m Z H,W m Z H->∀(WI:Nat->St3->Hp3->Prop) (TB:TS3) (NX:St3->Hp3->Prop),Shut (WI=W)->Shut (TB=tb)->Shut (NX=D.nx) ->
  c Z H fun b H1=>if b=true then TB { D with nx:=fun Z' H'=>∃m',m'<m/\WI m' Z' H',ct:=fun Z' H'=>∃m',m'<m/\WI m' Z' H',bk:=D.nx} Z H1 else NX Z H1):vR c tb D Z H :=
 ⟨W,h0,fun m Z H w=>h1 m Z H w W tb D.nx ⟨rfl⟩ ⟨rfl⟩ ⟨rfl⟩⟩
theorem iZ {α:Type}(enc f:α->T) (p:α->Bool) (as:List α) (rest:St3) {tt:TT3}{te:TE3}{still:Hp3->Prop}{fin:List T->Hp3->Prop}{v:Option T}{H:Hp3}(hst:still H) (hl:as.length<=sizeLine)
  (hc:∀a∈as,∀Q:Bool->Hp3->Prop,Q (p a) H->tt (some (enc a)::rest) H Q)
  (ht:∀a∈as,p a=true->∀Q:VK3,Q (f a) H->te (some (enc a)::rest) H Q) (hfin:fin ((as.filter p).map f) H):cIter3 (gM 0) tt te still fin (as.map enc) [] (v::rest) H:=by
 refine lC (fun r ys Z H'=>∃(rs ds:List α) (v:Option T),Z=v::rest/\r=rs.map enc/\ys=(ds.filter p).map f/\ds++rs=as/\H'=H) ⟨as,[],v,rfl,rfl,rfl,rfl,rfl⟩ ?_ ?_
 ·rintro ys Z H' ⟨rs,ds,v,rfl,hrs,rfl,hsp,rfl⟩;have hrs':rs=[]:=Zc.mp hrs.symm;subst hrs';rw[WD] at hsp;subst hsp;exact⟨hst,by rw[h_];exact U_ (WY _ _) hl,hfin⟩
 rintro x r ys Z H' N ⟨rs,ds,v,rfl,hrs,rfl,hsp,rfl⟩ hN;cases rs with
 |nil=>cases hrs
 |cons t rs =>
 injection hrs with e1 e2;subst e1 e2;refine⟨hst,?_⟩;show tt (some (enc t)::rest) H' _;refine hc t (by rw[<- hsp];simp) _ ?_;cases hp:p t with
 |true=>rw[if_pos rfl];refine ht t (by rw[<- hsp];simp) hp _ ⟨?_,hN _ _ _ ⟨rs,ds++[t],_,rfl,rfl,by simp [hp],by rw[<- hsp];simp,rfl⟩⟩;have:=WK List.length hsp;simp only[g_,l_] at this;rw[h_];have:=WY p ds;omega
 |false =>
 rw[if_neg p_];exact hN _ _ _ ⟨rs,ds++[t],_,rfl,rfl,by simp [hp],by rw[<- hsp];simp,rfl⟩
end L3
namespace M
open L2 L3
local macro_rules | `(tactic| walk_at "c") => `(tactic| try dsimp only [o4,List.replicate,I_,Xy,YG,Yj,Xn,Xm,Option.getD_some])
local macro_rules | `(tactic| walk_at "n") => `(tactic| (obtain ⟨e⟩:=‹Shut (_ = _)›; subst e; try dsimp only))
local macro_rules | `(tactic| walk_at "") => do
 let ls <- ((nm0.splitOn " ").toArray.map String.toName).filterM fun n => do return !(<- Lean.Macro.resolveGlobalName n).isEmpty
 let ls <- ls.mapM fun n => let i:=Lean.mkIdent n; `(Lean.Parser.Tactic.simpLemma| $i:ident)
 `(tactic| ((try dsimp only [$[$ls:simpLemma],*]); try simp only [*,$[$ls:simpLemma],*]))
def lkP (ws:List Str) (p:Str × Str × Str):List (Str × Str):=if p.1∈ws then [(p.2.1,p.2.2),(p.2.2,p.2.1)] else []
def lkW (ws:List Str) (W:Wk):List (Str × Str):=W.orders++W.pairs.flatMap (lkP ws)
def lkR (ws:List Str) (W:Wk) (a b:Str):Prop:=(a,b)∈lkW ws W
theorem Hw (ws:List Str) (p:Str × Str × Str):(lkP ws p).length<=2:=by unfold lkP;split <;> simp
theorem pU (ws:List Str):∀ps:List (Str × Str × Str),(ps.flatMap (lkP ws)).length<=2*ps.length
 |[]=>j_ _
 |p::r=>by
  have h1:=Hw ws p
  have h2:=pU ws r
  simp only[List.flatMap_cons,g_,l_]
  omega
theorem wM {ws:List Str}{W:Wk}(h:WkOk W):(lkW ws W).length<=52:=by
 have h1:=pU ws W.pairs;have h2:=h.os;have h3:=h.ps;unfold lkW;rw[g_];omega
def dF (F:List Str):List (Str × T):=F.map fun z=>(z,T.bl true)
theorem km (z:Str):∀F:List Str,(aN z (dF F)).isSome=decide (z∈F)
 |[]=>rfl
 |y::r=>by
  have ih:=km z r
  unfold dF at ih ⊢
  simp only[I_,aN]
  by_cases h:y=z
  ·
   simp [h]
  ·
   rw[if_neg h,ih]
   have h':¬z=y:=fun e=>h e.symm
   simp [h']
theorem Pg (z:Str) (F:List Str):((dF F).any fun kv=>decide (kv.1=z))=decide (z∈F):=by
 unfold dF;rw[List.any_map];induction F with
 |nil=>rfl
 |cons y r ih =>
 simp only[Ze,Function.comp_apply,ih];by_cases h:y=z
 ·simp [h]
 have h':¬z=y:=fun e=>h e.symm;simp [h,h']
theorem Ph {z:Str}{F:List Str}(h:z∉F):put3 z (T.bl true) (dF F)=dF (F++[z]):=by
 unfold put3;rw[Pg,E_ h,if_neg p_];unfold dF;rw[B_];rfl
theorem Pj (F:List Str):(dF F).length=F.length:=h_ _
theorem Pk (z:Str):[(z,T.bl true)]=dF [z]:=rfl
theorem Cy {x:T}{ts:List T}{H:Hp3}{R:List T->(Hp3->Prop)->Hp3->Prop}(hx:(∃a,x=.ref a/\H a=some (.lst ts))\/x=.tup ts)
  (h:∀still:Hp3->Prop,(still=cA\/∃a,still=aX a ts/\H a=some (.lst ts))->R ts still H):yf x H R:=by
 rcases hx with ⟨a,rfl,e⟩ | rfl
 ·rw[Nf,e,wz];exact h _ (.inr ⟨a,rfl,e⟩)
 rw[Nb];exact h _ (.inl rfl)
def fV (W:Wk) (t:Str):List Str:=(W.tasks.map (·.1)).filter fun x=>@decide (RT (lkR ["with"] W) t x/\RT (lkR ["with"] W) x t) (Classical.propDecidable _)
def jb (W:Wk) (t:Str):List Str:=(W.tasks.map (·.1)).filter fun x=>@decide (RT (lkR ["with"] W) x t/\¬RT (lkR ["with"] W) t x) (Classical.propDecidable _)
def swp (o:Str × Str):Str × Str:=(o.2,o.1)
theorem Pn {L:List (Str × Str)}{a b:Str}:RT (fun x y=>(x,y)∈L.map swp) a b↔RT (fun x y=>(x,y)∈L) b a:=by
 have e:(fun x y=>(x,y)∈L.map swp)=fun x y:Str=>(y,x)∈L:=by funext x y;refine propext ⟨fun h=>?_,fun h=>z_.mpr ⟨(y,x),h,rfl⟩⟩;obtain⟨o,ho,eo⟩:=z_.mp h;obtain⟨o1,o2⟩:=o;cases eo;exact ho
 rw[e];exact Hs
def SeqS (H:Hp3) (x:T) (ss:List Str):Prop:=x=sT ss\/∃a,x=.ref a/\H a=some (.lst (ss.map T.str))
theorem Hy {neg:Bool}{y:Str}{x:T}{ss:List Str}{H:Hp3}{Q:VK3}(h:SeqS H x ss) (q:Q (.bl (if neg then !decide (y∈ss) else decide (y∈ss))) H):um neg (.str y) x H Q:=by
 have e:dB neg (T.str y) (ss.map T.str)=(if neg then !decide (y∈ss) else decide (y∈ss)):=by unfold dB;have:(T.str y∈ss.map T.str)↔y∈ss:=fG jj;simp only[this]
 rcases h with rfl | ⟨a,rfl,ha⟩
 ·show um neg (.str y) (.tup (ss.map T.str)) H Q;rw[Jw,e];exact⟨rfl,dD ss,q⟩
 rw[Jx,ha,Jy,e];exact⟨rfl,dD ss,q⟩
theorem SeqS.le {H H':Hp3}{x:T}{ss:List Str}(h:SeqS H x ss) (s:Sub3 H H'):SeqS H' x ss:=h.imp id fun ⟨a,e,ha⟩=>⟨a,e,s _ _ ha⟩
def gR (ks:List Str) (k:Str):Bool:=decide (ks=[])||decide (k∈ks)
def jm (W:Wk) (t:Str):List Str:=(W.pairs.filter fun p=>decide (p.1=("apart":Str))&&decide (p.2.1=t)).map (·.2.2)
def okT (W:Wk) (kind:Str) (D S:List Str) (t:Str × Int × List Str):Bool :=
 !decide (t.1∈D)&&gR t.2.2 kind&&@decide (∀x∈fV W t.1,x∈S) (Classical.propDecidable _)&&@decide (∀x∈jb W t.1,x∈S++D) (Classical.propDecidable _)&&@decide (∀x∈jm W t.1,x∉S) (Classical.propDecidable _)
def dq (ts:List (Str × Int × List Str)) (S:List Str):Int:=((ts.filter fun t=>decide (t.1∈S)).map (·.2.1)).sum
def uY (W:Wk) (beat:Int) (kind:Str) (D S:List Str):Bool:=(W.tasks.all fun t=>!decide (t.1∈S)||okT W kind D S t)&&decide (dq W.tasks S<=beat)
def ruT (W:Wk) (ns:List Str) (t:Str × Int × List Str):T:=.tup [.int (numOf ns [t.1]),.int t.2.1,sT t.2.2,.int (numOf ns (fV W t.1)),.int (numOf ns (jb W t.1)),.int (numOf ns (jm W t.1))]
theorem uZ (A:List (Str × Int × List Str)) (t:Str × Int × List Str) (S:List Str):dq (A++[t]) S=dq A S+if t.1∈S then t.2.1 else 0:=by
 unfold dq;rw[Xo,B_,List.sum_append];by_cases h:t.1∈S <;> simp [h]
theorem wN {ns A:List Str}{x:Str}(hx:x∈ns):(Builtin.bitAnd (numOf ns A) (numOf ns [x])=numOf ns [x])↔x∈A:=by
 rw[fH];constructor
 ·intro h;exact h x hx (by simp)
 intro h y _ hy;rw[q_.mp hy];exact h
end M
namespace L3
open L2
section
variable {X:Cx}
end
end L3
namespace M
open L2 L3
local macro_rules | `(tactic| walk_at "c") => `(tactic| try dsimp only [o4,List.replicate,I_,Xy,YG,Yj,Xn,Xm,Option.getD_some])
local macro_rules | `(tactic| walk_at "n") => `(tactic| (obtain ⟨e⟩:=‹Shut (_ = _)›; subst e; try dsimp only))
local macro_rules | `(tactic| walk_at "") => do
 let ls <- ((nm0.splitOn " ").toArray.map String.toName).filterM fun n => do return !(<- Lean.Macro.resolveGlobalName n).isEmpty
 let ls <- ls.mapM fun n => let i:=Lean.mkIdent n; `(Lean.Parser.Tactic.simpLemma| $i:ident)
 `(tactic| ((try dsimp only [$[$ls:simpLemma],*]); try simp only [*,$[$ls:simpLemma],*]))
structure Box (p:Prop):Prop where
 out:p
theorem oh (n:Nat):dH 0 n=(List.range n).map fun (i:Nat)=>T.int (i:Int):=by
 unfold dH;exact Xv fun i _=>by rw[Int.zero_add]
theorem cF {H H':Hp3}{p:Addr}(s:Sub3 H H') (hp:H' p=none):H p=none:=by
 cases e:H p with
 |none=>rfl
 |some o=>rw[s _ _ e] at hp;cases hp
theorem pig:∀(ws:List Str) (f:Nat->Str),(∀i j,i<=ws.length->j<=ws.length->f i=f j->i=j)->(∀i,i<=ws.length->f i∈ws)->False
 |[],f,_,h=>by have:=h 0 (j_ _);simp at this
 |w::ws,f,inj,h=>by
  rw[l_] at inj h
  by_cases q:∃j,j<=ws.length+1/\f j=w
  ·
   obtain⟨j,hj,e⟩:=q
   refine pig ws (fun i=>if i<j then f i else f (i+1)) (fun a b ha hb hab=>?_) (fun i hi=>?_)
   ·
    try dsimp only at hab
    split at hab <;> split at hab
    ·
     exact inj a b (by omega) (by omega) hab
    ·
     have:=inj a (b+1) (by omega) (by omega) hab;omega
    ·
     have:=inj (a+1) b (by omega) (by omega) hab;omega
    ·
     have:=inj (a+1) (b+1) (by omega) (by omega) hab;omega
   ·
    show (if i<j then f i else f (i+1))∈ws
    split
    ·
     exact (n_.mp (h i (by omega))).resolve_left fun e2=>by have:=inj i j (by omega) hj (e2.trans e.symm);omega
    ·
     exact (n_.mp (h (i+1) (by omega))).resolve_left fun e2=>by have:=inj (i+1) j (by omega) hj (e2.trans e.symm);omega
  ·
   exact pig ws f (fun a b ha hb=>inj a b (by omega) (by omega)) fun i hi=>(n_.mp (h i (by omega))).resolve_left fun e=>q ⟨i,by omega,e⟩
def dN (ns:List Str) (f:Str->Nat):List (Str × T):=ns.map fun n=>(n,T.int (f n:Int))
def fu (f:Str->Nat) (n:Str) (v:Nat):Str->Nat:=fun x=>if x=n then v else f x
theorem dG {f:Str->Nat}{n:Str}:∀{ns:List Str},n∈ns->aN n (dN ns f)=some (T.int (f n:Int))
 |x::r,h=>by
  unfold dN
  rw[I_]
  unfold aN
  by_cases e:x=n
  ·
   rw[if_pos e,e]
  ·
   rw[if_neg e]
   exact dG (ns:=r) ((n_.mp h).resolve_left (Ne.symm e))
theorem Pq {ns:List Str}{f:Str->Nat}{n:Str}{v:Nat}(h:n∈ns):put3 n (T.int (v:Int)) (dN ns f)=dN ns (fu f n v):=by
 unfold put3 dN;rw[if_pos (by rw[XC];exact⟨(n,T.int (f n:Int)),z_.mpr ⟨n,h,rfl⟩,by simp⟩),WN];refine Xv fun x hx=>?_;show (if x=n then (x,T.int (v:Int)) else (x,T.int (f x:Int)))=(x,T.int ((fu f n v x:Nat):Int));unfold fu;by_cases e:x=n
 ·rw[if_pos e,if_pos e]
 rw[if_neg e,if_neg e]
theorem u5 {ns:List Str}{f:Str->Nat}{n:Str}{v:Nat}(h:n∉ns):put3 n (T.int (v:Int)) (dN ns f)=dN (ns++[n]) (fu f n v):=by
 unfold put3 dN;rw[if_neg (by
  intro e
  rw[XC] at e
  obtain⟨x,hx,e⟩:=e
  obtain⟨y,hy,rfl⟩:=z_.mp hx
  exact h (XN e▸hy)),B_]
 congr 1
 ·refine Xv fun x hx=>?_;unfold fu;rw[if_neg (fun (e:x=n)=>h (e▸hx))]
 unfold fu;rw[List.map_singleton,if_pos rfl]
theorem pW (ns:List Str) (f:Str->Nat):(dN ns f).length=ns.length:=h_ _
def mu (m:Nat) (ns:List Str) (f:Str->Nat):Nat:=(ns.map fun n=>m - f n).sum
theorem Pu {H:Hp3}{a:Addr}{o:O3}(h:H a=some o):up3 H a o=H:=by
 funext b;by_cases e:b=a
 ·subst e;rw[aq,h]
 rw[aD e]
def ld (tk:List (Str × Int × List Str)) (ns:List Str):Int:=((tk.filter (fun t=>dB false (.str t.1) (ns.map T.str))).map (·.2.1)).sum
theorem jE (ns:List Str) (f:Str->Nat) (m:Nat):(dealt ns f m).length=m:=by unfold dealt;rw[h_,A_]
def jZ (ks:List Str) (n:Str):List Str:=if n∈ks then ks else ks++[n]
def kst (ks xs:List Str):List Str:=xs.foldl jZ ks
def jF (k:Nat) (f:Str->Nat) (xs:List Str):Str->Nat:=xs.foldl (fun f n=>fu f n k) f
def kD (D:List (List Str)):List Str:=kst [] D.flatten
def fD (D:List (List Str)):Str->Nat:=D.zipIdx.foldl (fun f p=>jF p.2 f p.1) (fun _=>0)
theorem Cz (ks xs:List Str) (n:Str):kst ks (xs++[n])=jZ (kst ks xs) n:=by unfold kst;rw[Yg];rfl
theorem CG (k:Nat) (f:Str->Nat) (xs:List Str) (n:Str):jF k f (xs++[n])=fu (jF k f xs) n k:=by unfold jF;rw[Yg];rfl
theorem Hz (A:List (List Str)) (s:List Str):kD (A++[s])=kst (kD A) s:=by unfold kD kst;rw[X3,Yg,List.flatten_singleton]
theorem wO (A:List (List Str)) (s:List Str):fD (A++[s])=jF A.length (fD A) s:=by
 unfold fD;rw[List.zipIdx_append,Yg];simp
theorem HB (ks:List Str) (f:Str->Nat) (n:Str) (k:Nat):put3 n (T.int (k:Int)) (dN ks f)=dN (jZ ks n) (fu f n k):=by
 unfold jZ;split
 ·rename_i h;exact Pq h
 rename_i h;exact u5 h
theorem pX (x:Str):∀(xs ks:List Str),x∈kst ks xs↔x∈ks\/x∈xs
 |[],ks=>by simp [kst]
 |n::r,ks=>by
  show x∈kst (jZ ks n) r↔_
  rw[pX x r]
  unfold jZ
  by_cases h:n∈ks
  ·
   rw[if_pos h,n_]
   constructor
   ·
    rintro (a | a)
    ·
     exact .inl a
    ·
     exact .inr (.inr a)
   ·
    rintro (a | rfl | a)
    ·
     exact .inl a
    ·
     exact .inl h
    ·
     exact .inr a
  ·
   rw[if_neg h,G_,q_,n_,or_assoc]
theorem kst_len:∀(xs ks:List Str),(kst ks xs).length<=ks.length+xs.length
 |[],ks=>j_ _
 |n::r,ks=>by
  have h:=kst_len r (jZ ks n)
  have h2:(jZ ks n).length<=ks.length+1:=by unfold jZ;split <;> simp
  show (kst (jZ ks n) r).length<=_
  rw[l_]
  omega
theorem Px {x:Str}{D:List (List Str)}:x∈kD D↔x∈D.flatten:=by
 unfold kD;rw[pX];simp
theorem Py (D:List (List Str)):(kD D).length<=D.flatten.length:=by
 have:=kst_len D.flatten [];simpa [kD] using this
theorem ou {f:Str->Nat}{n:Str}:∀{ns:List Str},n∉ns->aN n (dN ns f)=none
 |[],_=>rfl
 |x::r,h=>by
  unfold dN
  rw[I_]
  unfold aN
  rw[if_neg (fun e=>h (by rw[<- e];exact k_))]
  exact ou fun z=>h (t_ _ z)
structure Dok (W:Wk) (D:List (List Str)):Prop where
 rw:D.length<=W.row.length
 st:∀x∈D.flatten,x∈W.tasks.map (·.1)
 nd:D.flatten.Nodup
 al:∀n∈W.tasks.map (·.1),n∈D.flatten
theorem Dok.in {W:Wk}{D:List (List Str)}(h:Dok W D) {s:List Str}(hs:s∈D):s.Nodup/\∀n∈s,n∈W.tasks.map (·.1) :=
 ⟨(List.sublist_flatten_of_mem hs).nodup h.nd,fun n hn=>h.st n (Xf.mpr ⟨s,hs,hn⟩)⟩
theorem rY {A:List (List Str)}{s:List Str}{B:List (List Str)}:(A++s::B).flatten=A.flatten++(s++B.flatten):=by rw[X3,Xj]
theorem Pz {x:Str}{xs:List Str}:dB true (T.str x) (xs.map T.str)=!decide (x∈xs):=by
 rw[Wz,Uo jj];simp
theorem Us {x:Str}{xs:List Str}:dB false (T.str x) (xs.map T.str)=decide (x∈xs):=by
 rw[Wz,Wn jj];simp
theorem yE {α:Type}(enc:α->T) (xs:List α) {g:TG3}{tb:TS3}{D:Ends3}{still:Hp3->Prop}{Z:St3}{H:Hp3}(I:List α->St3->Hp3->Prop) (h0:I [] Z H) (hn:∀Z H,I xs Z H->still H/\D.nx Z H)
  (hs:∀A x B Z H (N:St3->Hp3->Prop),xs=A++x::B->I A Z H->(∀Z' H',I (A++[x]) Z' H'->N Z' H')->still H/\g (.tup [.int (A.length:Int),enc x]) Z H fun Z2 H2=>tb { D with nx:=N,ct:=N,bk:=D.nx} Z2 H2):iter3 g tb D still (fC 0 (xs.map enc)) Z H:=by
 have:∀(B A:List α) (Z:St3) (H:Hp3),xs=A++B->I A Z H->iter3 g tb D still (fC (A.length:Int) (B.map enc)) Z H:=by
  intro B;induction B with
  |nil=>intro A Z H e h;rw[WD] at e;subst e;exact hn Z H h
  |cons x B ih =>
  intro A Z H e h;refine hs A x B Z H _ e h fun Z' H' h'=>?_;have q:=ih (A++[x]) Z' H' (by rw[e,WW];rfl) h';rw[g_,D_,Int.natCast_add] at q;exact q
 exact this xs [] Z H rfl h0
theorem PB (ts:List T) (i:Int) (H:Hp3) (Q:VK3):ixH (some (.rol ts)) i H Q=oq (atI ts i) fun t=>Q t H:=rfl
def Ut:Sp3:=fun ts H Q=>∃tk:List (Str × Int × List Str),ts=[.tup (tk.map tkT)]/\tk.length<=8/\∀p,H p=none->Q (.ref p) (up3 H p (.lst ((tk.map (·.1)).map T.str)))
structure Fil (W:Wk) (beat:Int) (kind:Str) (D S:List Str):Prop where
 one:∀t∈W.tasks,t.1∈S->t.1∉D/\gR t.2.2 kind=true/\(∀x∈fV W t.1,x∈S)/\(∀x∈jb W t.1,x∈S\/x∈D)/\∀x∈jm W t.1,x∉S
 ld:dq W.tasks S<=beat
theorem fil_iff {W:Wk}{beat:Int}{kind:Str}{D S:List Str}:uY W beat kind D S=true↔Fil W beat kind D S:=by
 unfold uY;rw[WL,v_,Xe];have key:∀t:Str × Int × List Str,(!decide (t.1∈S)||okT W kind D S t)=true↔(t.1∈S->t.1∉D/\gR t.2.2 kind=true/\(∀x∈fV W t.1,x∈S)/\(∀x∈jb W t.1,x∈S\/x∈D)/\∀x∈jm W t.1,x∉S):=fun t=>by
  unfold okT;rw[Bool.or_eq_true,Y7,Ye,WL,WL,WL,WL,Y7,Ye,@v_ _ (Classical.propDecidable _),@v_ _ (Classical.propDecidable _),@v_ _ (Classical.propDecidable _)];constructor
  ·intro h hs;obtain⟨⟨⟨⟨h1,h2⟩,h3⟩,h4⟩,h5⟩:=h.resolve_left (fun z=>z hs);exact⟨h1,h2,h3,fun x hx=>G_.mp (h4 x hx),h5⟩
  intro h;by_cases hs:t.1∈S
  ·obtain⟨h1,h2,h3,h4,h5⟩:=h hs;exact .inr ⟨⟨⟨⟨h1,h2⟩,h3⟩,fun x hx=>G_.mpr (h4 x hx)⟩,h5⟩
  exact .inl hs
 exact⟨fun ⟨a,b⟩=>⟨fun t ht=>(key t).mp (a t ht),b⟩,fun h=>⟨fun t ht=>(key t).mpr (h.one t ht),h.ld⟩⟩
theorem jU {ts:List (Str × Int × List Str)}{S S':List Str}(h:∀x,x∈S↔x∈S'):dq ts S=dq ts S':=by
 have e:(ts.filter fun t=>decide (t.1∈S))=ts.filter fun t=>decide (t.1∈S'):=Yh fun t _=>by rw[XD];exact h t.1
 unfold dq;rw[e]
theorem Fil.congr {W:Wk}{beat:Int}{kind:Str}{D S D' S':List Str}(f:Fil W beat kind D S) (hD:∀x,x∈D↔x∈D') (hS:∀x,x∈S↔x∈S'):Fil W beat kind D' S' :=
 ⟨fun t ht hs=>by
  obtain⟨h1,h2,h3,h4,h5⟩:=f.one t ht ((hS _).mpr hs)
  exact⟨fun z=>h1 ((hD _).mpr z),h2,fun x hx=>(hS x).mp (h3 x hx),fun x hx=>(h4 x hx).imp (hS x).mp (hD x).mp,fun x hx z=>h5 x hx ((hS x).mpr z)⟩,by rw[<- jU hS];exact f.ld⟩
def Fils (W:Wk) (beat:Int) (D:List (List Str)):Prop:=∀k s,D[k]?=some s->Fil W beat (W.row.getD k "") (D.take k).flatten s
theorem Fils.snoc {W:Wk}{beat:Int}{D:List (List Str)}{s:List Str}(h:Fils W beat D) (f:Fil W beat (W.row.getD D.length "") D.flatten s):Fils W beat (D++[s]):=fun k s' e=>by
 by_cases hk:k<D.length
 ·rw[WM hk] at e;rw[YM (by omega)];exact h k s' e
 rw[N_ (by omega)] at e;have h0:k - D.length=0:=by
  cases hz:k - D.length with
  |zero=>rfl
  |succ n=>rw[hz] at e;simp at e
 have hk':k=D.length:=by omega
 subst hk';rw[h0] at e;simp only[Xn,Zt] at e;subst e;rw[List.take_left']
 ·exact f
 rfl
theorem Fils.nil {W:Wk}{beat:Int}:Fils W beat []:=fun k s e=>by simp at e
theorem u6 {k:Nat}{n:Str}:∀{xs:List Str}{f:Str->Nat},n∉xs->jF k f xs n=f n
 |[],_,_=>rfl
 |x::r,f,h=>by
  rw[n_,not_or] at h
  show jF k (fu f x k) r n=f n
  rw[u6 h.2]
  unfold fu
  rw[if_neg h.1]
theorem CJ {k:Nat}{n:Str}:∀{xs:List Str}{f:Str->Nat},n∈xs->jF k f xs n=k
 |x::r,f,h=>by
  show jF k (fu f x k) r n=k
  by_cases hr:n∈r
  ·
   exact CJ hr
  ·
   rw[u6 hr]
   unfold fu
   rw[if_pos ((n_.mp h).resolve_right hr)]
theorem fJ {D:List (List Str)}(nd:D.flatten.Nodup):∀{k:Nat}{s:List Str}{n:Str},D[k]?=some s->n∈s->fD D n=k:=by
 induction hl:D.length generalizing D with
 |zero=>intro k s n e;rw[YL.mp hl] at e;simp at e
 |succ m ih =>
 intro k s n e hn;obtain⟨A,l,rfl⟩:∃A l,D=A++[l]:=by refine⟨D.dropLast,D.getLast (by intro z;rw[z] at hl;cases hl),(Yl _).symm⟩
 have hA:A.length=m:=by simp at hl;exact hl
 rw[wO];rw[X3,List.flatten_singleton,Yi] at nd;by_cases hk:k<A.length
 ·rw[WM hk] at e;have hf:n∈A.flatten:=Xf.mpr ⟨s,Q_ e,hn⟩;rw[u6 fun z=>nd.2.2 n hf n z rfl];exact ih nd.1 hA e hn
 rw[N_ (by omega)] at e;have h0:k - A.length=0:=by
  cases hz:k - A.length with
  |zero=>rfl
  |succ n=>rw[hz] at e;simp at e
 rw[h0] at e;simp only[Xn,Zt] at e;subst e;rw[CJ hn];omega
theorem jn {D:List (List Str)}{n:Str}(h:n∈D.flatten):∃(k:Nat) (s:List Str),D[k]?=some s/\n∈s:=by
 obtain⟨s,hs,hn⟩:=Xf.mp h;obtain⟨k,hk⟩:=W5 hs;exact⟨k,s,hk,hn⟩
theorem take_at {D:List (List Str)}{k:Nat}{n:Str}:n∈(D.take k).flatten↔∃(j:Nat) (s:List Str),j<k/\D[j]?=some s/\n∈s:=by
 constructor
 ·intro h;obtain⟨j,s,e,hn⟩:=jn h;rw[Zj] at e;split at e
  ·exact⟨j,s,by assumption,e,hn⟩
  cases e
 rintro⟨j,s,hj,e,hn⟩;refine Xf.mpr ⟨s,?_,hn⟩;refine Q_ (i:=j) ?_;rw[Zj,if_pos hj];exact e
theorem CK {W:Wk}{a b:Str}(h:lkR ["with"] W a b):(a,b)∈W.orders\/∃p∈W.pairs,p.1="with"/\(p.2=(a,b)\/p.2=(b,a)):=by
 unfold lkR lkW at h;rcases G_.mp h with h | h
 ·exact .inl h
 obtain⟨p,hp,hm⟩:=List.mem_flatMap.mp h;unfold lkP at hm;split at hm
 ·rename_i hw;refine .inr ⟨p,hp,by simpa using hw,?_⟩;simp only[n_,YF,P_,Xk] at hm;rcases hm with ⟨rfl,rfl⟩ | ⟨rfl,rfl⟩
  ·exact .inl rfl
  exact .inr rfl
 cases hm
theorem PJ {W:Wk}{a b:Str}(h:(a,b)∈W.orders):lkR ["with"] W a b:=WT _ h
theorem HD {W:Wk}{a b:Str}(h:(("with":Str),a,b)∈W.pairs):lkR ["with"] W a b/\lkR ["with"] W b a:=by
 have:∀q,q∈lkP ["with"] ("with",a,b)->q∈lkW ["with"] W:=fun q hq=>Ws _ (List.mem_flatMap.mpr ⟨_,h,hq⟩);constructor
 ·exact this _ (by unfold lkP;simp)
 exact this _ (by unfold lkP;simp)
structure Rgt (W:Wk) (beat:Int) (D:List (List Str)) (f:Str->Nat):Prop where
 ord:∀o∈W.orders,f o.1<=f o.2
 pai:∀p∈W.pairs,f p.2.1=f p.2.2↔p.1="with"
 kin:∀k s,D[k]?=some s->∀t∈W.tasks,t.1∈s->gR t.2.2 (W.row.getD k "")=true
 bea:∀s∈D,dq W.tasks s<=beat
theorem rZ {W:Wk}{beat:Int}{D:List (List Str)}(hW:WkOk W) (h:Dok W D):Rgt W beat D (fD D)↔Fils W beat D:=by
 have at_:∀{n:Str},n∈W.tasks.map (·.1)->∃s,D[fD D n]?=some s/\n∈s:=fun hn=>by obtain⟨k,s,e,hs⟩:=jn (h.al _ hn);rw[fJ h.nd e hs];exact⟨s,e,hs⟩
 constructor
 ·intro r k s e;have up:∀{a b:Str},RT (lkR ["with"] W) a b->fD D a<=fD D b:=fun z=>by
   induction z with
   |refl=>exact j_ _
   |step _ l ih =>
   refine U_ ih ?_;rcases CK l with o | ⟨p,hp,hw,e | e⟩
   ·exact r.ord _ o
   ·have:=(r.pai p hp).mpr hw;rw[e] at this;exact Zn this
   have:=(r.pai p hp).mpr hw;rw[e] at this;exact Zn this.symm
  refine⟨fun t ht hs=>?_,r.bea s (Q_ e)⟩;have ft:=fJ h.nd e hs;refine⟨fun z=>?_,r.kin k s e t ht hs,fun x hx=>?_,fun x hx=>?_,fun x hx hxs=>?_⟩
  ·obtain⟨j,s',hj,e',hn⟩:=take_at.mp z;have:=fJ h.nd e' hn;omega
  ·obtain⟨hxn,hr⟩:=F_.mp hx;rw[@v_ _ (Classical.propDecidable _)] at hr;have e1:=up hr.1;have e2:=up hr.2;obtain⟨s',e',hn⟩:=at_ hxn;rw[show fD D x=k by omega,e] at e';cases e';exact hn
  ·obtain⟨hxn,hr⟩:=F_.mp hx;rw[@v_ _ (Classical.propDecidable _)] at hr;have e1:=up hr.1;obtain⟨s',e',hn⟩:=at_ hxn;by_cases z:fD D x=k
   ·rw[z,e] at e';cases e';exact .inl hn
   exact .inr (take_at.mpr ⟨_,s',by omega,e',hn⟩)
  obtain⟨p,hp,rfl⟩:=z_.mp hx;obtain⟨hp,hw⟩:=F_.mp hp;rw[WL,v_,v_] at hw;have e1:=(r.pai p hp).mp (by rw[hw.2,ft,fJ h.nd e hxs]);rw[hw.1] at e1;exact absurd e1 (by decide)
 intro F;have fil:∀{t:Str × Int × List Str},t∈W.tasks->∃s,D[fD D t.1]?=some s/\t.1∈s/\Fil W beat (W.row.getD (fD D t.1) "") (D.take (fD D t.1)).flatten s:=fun ht=>by obtain⟨s,e,hs⟩:=at_ (z_.mpr ⟨_,ht,rfl⟩);exact⟨s,e,hs,F _ _ e⟩
 have up:∀{a b:Str},a∈W.tasks.map (·.1)->b∈W.tasks.map (·.1)->RT (lkR ["with"] W) a b->fD D a<=fD D b:=fun {a b} ha hb z=>by
  obtain⟨t,ht,rfl⟩:=z_.mp hb;obtain⟨s,e,hs,f⟩:=fil ht;obtain⟨_,_,f3,f4,_⟩:=f.one t ht hs;by_cases y:RT (lkR ["with"] W) t.1 a
  ·have:=f3 a (F_.mpr ⟨ha,@L_ _ (Classical.propDecidable _) ⟨y,z⟩⟩);exact Zn (fJ h.nd e this)
  rcases f4 a (F_.mpr ⟨ha,@L_ _ (Classical.propDecidable _) ⟨z,y⟩⟩) with q | q
  ·exact Zn (fJ h.nd e q)
  obtain⟨j,s',hj,e',hn⟩:=take_at.mp q;rw[fJ h.nd e' hn];omega
 refine⟨fun o ho=>?_,fun p hp=>?_,fun k s e t ht hs=>((F k s e).one t ht hs).2.1,fun s hs=>?_⟩
 ·obtain⟨_,h1,h2⟩:=hW.oo o ho;exact up h1 h2 (.step .refl (PJ ho))
 ·obtain⟨hw,_,h1,h2⟩:=hW.pp p hp;constructor
  ·intro e;refine hw.resolve_right fun ha=>?_;obtain⟨t,ht,et⟩:=z_.mp h1;obtain⟨s,e1,hs,f⟩:=fil ht;obtain⟨_,_,_,_,f5⟩:=f.one t ht hs;refine f5 p.2.2 (z_.mpr ⟨p,F_.mpr ⟨hp,by rw[WL,v_,v_];exact⟨ha,et.symm⟩⟩,rfl⟩) ?_;obtain⟨s',e',hn⟩:=at_ h2;have e0:fD D p.2.2=fD D t.1:=by rw[et];exact e.symm
   rw[e0,e1] at e';cases e';exact hn
  intro hw';have hp':(("with":Str),p.2.1,p.2.2)∈W.pairs:=by rw[<- hw'];exact hp
  obtain⟨l1,l2⟩:=HD hp';exact Nat.le_antisymm (up h1 h2 (.step .refl l1)) (up h2 h1 (.step .refl l2))
 obtain⟨k,hk⟩:=W5 hs;exact (F k s hk).ld
theorem HF {W:Wk}{beat:Int}:∀{D:List (List Str)},Fils W beat D->(∀s∈D,s.Nodup/\∀n∈s,n∈W.tasks.map (·.1))->D.flatten.Nodup:=by
 intro D;induction hl:D.length generalizing D with
 |zero=>intro _ _;rw[YL.mp hl];exact YK
 |succ m ih =>
 intro F hs;obtain⟨A,l,rfl⟩:∃A l,D=A++[l]:=by refine⟨D.dropLast,D.getLast (by intro z;rw[z] at hl;cases hl),(Yl _).symm⟩
 have hA:A.length=m:=by simp at hl;exact hl
 have FA:Fils W beat A:=fun k s e=>by
  have hk:k<A.length:=by
   rcases YB k A.length with z | z
   ·exact z
   rw[J_ z] at e;cases e
  have:=F k s (by rw[WM hk];exact e)
  rwa [YM (by omega)] at this
 rw[X3,List.flatten_singleton,Yi];have hl':=hs l (by simp);refine⟨ih hA FA fun s h=>hs s (WT _ h),hl'.1,fun a ha b hb e=>?_⟩;subst e;obtain⟨t,ht,rfl⟩:=z_.mp (hl'.2 a hb);have f:=F A.length l (by rw[N_ (j_ _)];simp);rw[List.take_left' rfl] at f;exact (f.one t ht hb).1 ha
theorem vd {row:List Str}{k:Nat}(h:k<row.length):atI (row.map T.str) (k:Int)=some (.str (row.getD k "")):=bN (by rw[o_,a_ h,d_,a_ h];rfl)
theorem oA:∀ns:List Str,pick ns 0=[]
 |[]=>rfl
 |n::r=>by
  have:=oA r
  unfold pick
  simpa using this
theorem wQ:∀(ns:List Str) (b:Int),(pick ns b).Sublist ns
 |[],_=>List.Sublist.refl _
 |n::r,b=>by
  have:=wQ r (b / 2)
  unfold pick
  split
  ·
   exact this.cons₂ n
  ·
   exact this.cons n
theorem iw {W:Wk}{ns:List Str}{f:Str->Nat}{m:Nat}(hW:WkOk W) (hp:ns.Perm (W.tasks.map (·.1))) (hm:m<=W.row.length) (hf:∀n,f n<m):Dok W (dealt ns f m):=by
 have mem:∀x,x∈(dealt ns f m).flatten↔x∈ns:=fun x=>by
  rw[Xf];constructor
  ·rintro⟨s,hs,hx⟩;obtain⟨k,_,rfl⟩:=z_.mp hs;exact (F_.mp hx).1
  intro hx;exact⟨_,z_.mpr ⟨f x,Wu.mpr (hf x),rfl⟩,F_.mpr ⟨hx,L_ rfl⟩⟩
 refine⟨by rw[jE];exact hm,fun x hx=>hp.mem_iff.mp ((mem x).mp hx),?_,fun x hx=>(mem x).mpr (hp.mem_iff.mpr hx)⟩;have nd:=hp.nodup_iff.mpr hW.nd;unfold dealt;have:∀l:List Nat,l.Nodup->((l.map fun k=>ns.filter fun n=>decide (f n=k)).flatten).Nodup:=by
  intro l;induction l with
  |nil=>intro _;exact YK
  |cons k r ih =>
  intro hl;rw[W8] at hl;rw[I_,Xj,Yi];refine⟨List.filter_sublist.nodup nd,ih hl.2,fun a ha b hb e=>?_⟩;subst e;obtain⟨s,hs,hb⟩:=Xf.mp hb;obtain⟨j,hj,rfl⟩:=z_.mp hs;have e1:=XN (F_.mp ha).2;have e2:=XN (F_.mp hb).2;exact hl.1 (by rw[<- e1,e2];exact hj)
 exact this _ List.nodup_range
theorem Dok.len {W:Wk}{D:List (List Str)}(h:Dok W D) (hW:WkOk W):D.flatten.length<=8:=by
 have:=pR h.nd h.st;rw[h_] at this;exact U_ this hW.t8
def gre {α:Type}(has:α->α->Bool):List α->List α
 |[]=>[]
 |n::B=>if (gre has B).any (fun g=>has g n) then gre has B else gre has B++[n]
theorem pY {α:Type}{has:α->α->Bool}:∀(xs:List α),∀g∈gre has xs,g∈xs
 |[],g,h=>h
 |n::B,g,h=>by
  unfold gre at h
  split at h
  ·
   exact t_ _ (pY B g h)
  ·
   rcases G_.mp h with h | h
   ·
    exact t_ _ (pY B g h)
   ·
    rw[q_.mp h];exact k_
theorem wR {α:Type}{has:α->α->Bool}(hr:∀a,has a a=true):∀(xs:List α),∀b∈xs,∃g∈gre has xs,has g b=true
 |n::B,b,h=>by
  unfold gre
  rcases n_.mp h with rfl | h
  ·
   split
   ·
    rename_i hy
    obtain⟨g,hg,e⟩:=XC.mp hy
    exact⟨g,hg,e⟩
   ·
    exact⟨b,by simp,hr b⟩
  ·
   obtain⟨g,hg,e⟩:=wR hr B b h
   split
   ·
    exact⟨g,hg,e⟩
   ·
    exact⟨g,WT _ hg,e⟩
theorem yF (m:Nat):List.range (m+m)=List.range m++(List.range m).map (·+m):=by
 rw[List.range_add];congr 1;exact Xv fun a _=>Nat.add_comm _ _
theorem wU:∀(ws:List Str) (b:Int),(pick ws b).length<=ws.length
 |[],_=>j_ _
 |x::r,b=>by
  unfold pick
  have:=wU r (b / 2)
  split
  ·
   rw[l_,l_];omega
  ·
   rw[l_];omega
def bC (b a:Nat):Bool:=decide (Builtin.bitAnd (b:Int) (a:Int)=(a:Int))
theorem fW (b a:Nat):bC b a=true↔b &&& a=a:=by
 unfold bC;rw[v_,pN];exact Int.ofNat_inj
theorem yG (a:Nat):bC a a=true:=(fW a a).mpr (Nat.and_self a)
def nm (W:Wk):List Str:=W.tasks.map (·.1)
def pk (W:Wk) (i:Nat):List Str:=pick (nm W) (i:Int)
def top2 (W:Wk):Nat:=2^W.tasks.length
theorem cJ (W:Wk):(nm W).length=W.tasks.length:=h_ _
theorem dW {W:Wk}(hW:WkOk W) {i:Nat}(h:i<top2 W):bK (nm W) (pk W i)=i:=by
 have h1:((i:Int))<2^(nm W).length:=by
  have e:((2^W.tasks.length:Nat):Int)=(2:Int)^W.tasks.length:=by push_cast;rfl
  rw[cJ,<- e];exact Int.ofNat_lt.mpr h
 have:=Cu (ns:=nm W) hW.nd (YX i) h1;rw[cu] at this;exact Int.ofNat.inj this
theorem kE {W:Wk}(A:List Str):bK (nm W) A<top2 W:=by
 have:=rT (nm W) A;rw[cu,cJ] at this;have e:((2^W.tasks.length:Nat):Int)=(2:Int)^W.tasks.length:=by push_cast;rfl
 rw[<- e] at this;exact Int.ofNat_lt.mp this
theorem J3 {W:Wk}(hW:WkOk W) (A:List Str):pk W (bK (nm W) A)=(nm W).filter fun x=>decide (x∈A):=by
 unfold pk;rw[<- cu];exact rW _ _ hW.nd
theorem jG {W:Wk}(hW:WkOk W) {A:List Str}{x:Str}:x∈pk W (bK (nm W) A)↔x∈nm W/\x∈A:=by
 rw[J3 hW,F_,v_]
theorem gU {W:Wk}{i:Nat}{x:Str}(h:x∈pk W i):x∈nm W:=jk _ _ x h
theorem Uu {W:Wk}(hW:WkOk W) (i:Nat):(pk W i).Nodup:=(wQ _ _).nodup hW.nd
theorem gH:∀(ns A B:List Str),(∀x∈ns,x∈B↔x∉A)->bK ns A+bK ns B+1=2^ns.length
 |[],_,_,_=>rfl
 |x::r,A,B,h=>by
  have ih:=gH r A B fun y hy=>h y (t_ _ hy)
  have hx:=h x k_
  simp only[bK,l_,Nat.pow_succ]
  by_cases hA:x∈A
  ·
   rw[if_pos hA,if_neg (fun z=>hx.mp z hA)];omega
  ·
   rw[if_neg hA,if_pos (hx.mpr hA)];omega
theorem gW:∀(ns A B:List Str),(∀x∈ns,¬(x∈A/\x∈B))->bK ns A+bK ns B=bK ns (A++B)
 |[],_,_,_=>rfl
 |x::r,A,B,h=>by
  have ih:=gW r A B fun y hy=>h y (t_ _ hy)
  have hx:=h x k_
  simp only[bK,G_]
  by_cases hA:x∈A
  ·
   have hB:x∉B:=fun z=>hx ⟨hA,z⟩
   simp only[hA,hB,if_true,Wt,Xk];omega
  ·
   by_cases hB:x∈B
   ·
    simp only[hA,hB,if_true,Wt,or_true];omega
   ·
    simp only[hA,hB,Wt,or_self];omega
theorem sr {W:Wk}{A B:List Str}:bC (bK (nm W) A) (bK (nm W) B)=true↔∀x∈nm W,x∈B->x∈A:=by
 unfold bC;rw[v_,<- cu,<- cu];exact fH _ _ _
def su (N:Nat):List Nat:=(List.range (N+1)).filter (bC N)
theorem HH {N i:Nat}(h:bC N i=true):i<=N:=by
 have:=(fW N i).mp h;have:=Nat.and_le_left (n:=N) (m:=i);omega
theorem wV {N M:Nat}(h:N<M):(List.range M).filter (bC N)=su N:=by
 obtain⟨k,rfl⟩:∃k,M=(N+1)+k:=⟨M - (N+1),by omega⟩;unfold su;rw[List.range_add,Xo];have:((List.range k).map fun x=>N+1+x).filter (bC N)=[]:=by rw[List.filter_eq_nil_iff];intro a ha;obtain⟨x,_,rfl⟩:=z_.mp ha;intro z;have:=HH z;omega
 rw[this,WD]
theorem sy {N k i:Nat}(hi:i<2^k):bC N (i+2^k)=(bC N (2^k)&&bC N i):=by
 have hor:i+2^k=2^k ||| i:=by have:=Nat.two_pow_add_eq_or_of_lt hi 1;rw[Nat.mul_one] at this;omega
 rw[Wz,WL,fW,fW,fW,hor];constructor
 ·intro h;have hb:∀j,(N &&& (2^k ||| i)).testBit j=(2^k ||| i).testBit j:=fun j=>by rw[h]
  refine⟨Nat.eq_of_testBit_eq fun j=>?_,Nat.eq_of_testBit_eq fun j=>?_⟩
  ·have:=hb j;rw[Nat.testBit_and,Nat.testBit_or] at this;rw[Nat.testBit_and];cases h1:(2^k).testBit j <;> simp_all
  have:=hb j;rw[Nat.testBit_and,Nat.testBit_or] at this;rw[Nat.testBit_and];cases h1:i.testBit j <;> simp_all
 rintro⟨h1,h2⟩;rw[Nat.and_or_distrib_left,h1,h2]
theorem CN {N k:Nat}:(List.range (2^(k+1))).filter (bC N)=(List.range (2^k)).filter (bC N)++if bC N (2^k)=true then ((List.range (2^k)).filter (bC N)).map (·+2^k) else []:=by
 rw[show 2^(k+1)=2^k+2^k by rw[Nat.pow_succ];omega,yF,Xo];congr 1;rw[List.filter_map];by_cases h:bC N (2^k)=true
 ·rw[if_pos h];congr 1;refine Yh fun i hi=>?_;show bC N (i+2^k)=bC N i;rw[sy (Wu.mp hi),h,Zw]
 rw[if_neg h,List.filter_eq_nil_iff.mpr,Xy];intro i hi;show ¬bC N (i+2^k)=true;rw[sy (Wu.mp hi),WL];exact fun z=>h z.1
def fil (W:Wk) (beat:Int) (k d i:Nat):Bool:=uY W beat (W.row.getD k "") (pk W d) (pk W i)
def fls (W:Wk) (beat:Int) (k d:Nat):List Nat:=(List.range (top2 W)).filter (fil W beat k d)
theorem fls_mem {W:Wk}{beat:Int}{k d i:Nat}:i∈fls W beat k d↔i<top2 W/\Fil W beat (W.row.getD k "") (pk W d) (pk W i):=by
 unfold fls;rw[F_,Wu];unfold fil;rw[fil_iff]
theorem Fil.apart {W:Wk}{beat:Int}{kind:Str}{D S:List Str}(f:Fil W beat kind D S) {x:Str}(hx:x∈nm W) (hs:x∈S):x∉D:=by
 obtain⟨t,ht,rfl⟩:=z_.mp hx;exact (f.one t ht hs).1
theorem yH {W:Wk}{beat:Int}{k d:Nat}(hW:WkOk W) (hd:d<top2 W):(su (top2 W - 1 - d)).filter (fil W beat k d)=fls W beat k d:=by
 have hN:top2 W - 1 - d<top2 W:=by omega
 rw[<- wV hN];unfold fls;rw[List.filter_filter];refine Yh fun i hi=>?_;have hi':=Wu.mp hi;cases h:fil W beat k d i with
 |false=>rfl
 |true =>
 rw[Zw];have f:Fil W beat (W.row.getD k "") (pk W d) (pk W i):=fil_iff.mp h;have e1:top2 W - 1 - d=bK (nm W) ((nm W).filter fun x=>decide (x∉pk W d)):=by
  have:=gH (nm W) (pk W d) ((nm W).filter fun x=>decide (x∉pk W d)) fun x hx=>by rw[F_,v_];exact⟨fun z=>z.2,fun z=>⟨hx,z⟩⟩
  rw[dW hW hd,cJ] at this;unfold top2;omega
 rw[e1,show i=bK (nm W) (pk W i) from (dW hW hi').symm];rw[sr];intro x hx hs;rw[F_,v_];exact⟨hx,f.apart hx hs⟩
inductive Frw (W:Wk) (beat:Int):List Nat->Nat->Prop
 |nil:Frw W beat [] 0
 |snoc {fs:List Nat} {d f:Nat}:Frw W beat fs d->fs.length<W.row.length->f∈fls W beat fs.length d->Frw W beat (fs++[f]) (d+f)
theorem HJ (W:Wk):pk W 0=[]:=oA _
theorem Frw.ok {W:Wk}{beat:Int}{fs:List Nat}{d:Nat}(hW:WkOk W) (r:Frw W beat fs d):d<top2 W/\fs.length<=W.row.length/\(∀x,x∈pk W d↔x∈(fs.map (pk W)).flatten)/\Fils W beat (fs.map (pk W))/\∀f∈fs,f<top2 W:=by
 induction r with
 |nil=>exact⟨Nat.pow_pos (by decide),WR _,fun x=>by rw[HJ];rfl,Fils.nil,fun _ h=>(nomatch h)⟩
 |@snoc fs d f r hl hf ih =>
 obtain⟨hd,_,hm,hF,hb⟩:=ih;obtain⟨hft,F⟩:=fls_mem.mp hf;have e:d+f=bK (nm W) (pk W d++pk W f):=by rw[<- gW _ _ _ fun x hx z=>F.apart hx z.2 z.1,dW hW hd,dW hW hft]
 refine⟨by rw[e];exact kE _,by rw[g_];exact hl,fun x=>?_,?_,fun g hg=>?_⟩
 ·rw[e,jG hW,B_,X3,G_,G_,<- hm x];simp only[I_,Xy,Xj,List.flatten_nil,WD];exact⟨fun z=>z.2,fun z=>⟨z.elim gU gU,z⟩⟩
 ·rw[B_];refine hF.snoc ?_;rw[h_];exact F.congr hm fun x=>Iff.rfl
 rcases G_.mp hg with hg | hg
 ·exact hb g hg
 rw[q_.mp hg];exact hft
theorem Frw.of {W:Wk}{beat:Int}(hW:WkOk W):∀{D:List (List Str)},D.length<=W.row.length->(∀s∈D,∀n∈s,n∈nm W)->Fils W beat D->Frw W beat (D.map (bK (nm W))) (bK (nm W) D.flatten):=by
 intro D;induction hl:D.length generalizing D with
 |zero=>intro _ _ _;rw[YL.mp hl,Xy,List.flatten_nil,gQ];exact .nil
 |succ m ih =>
 intro hr hs F;obtain⟨A,l,rfl⟩:∃A l,D=A++[l]:=⟨D.dropLast,D.getLast (by intro z;rw[z] at hl;cases hl),(Yl _).symm⟩;have hA:A.length=m:=by simp at hl;exact hl
 have FA:Fils W beat A:=fun k s e=>by
  have hk:k<A.length:=by
   rcases YB k A.length with z | z
   ·exact z
   rw[J_ z] at e;cases e
  have:=F k s (by rw[WM hk];exact e)
  rwa [YM (by omega)] at this
 have r:=ih hA (by omega) (fun s h=>hs s (WT _ h)) FA;have f:=F A.length l (by rw[N_ (j_ _)];simp);rw[List.take_left' rfl] at f;have hln:=hs l (by simp);have hAn:∀n∈A.flatten,n∈nm W:=fun n hn=>by obtain⟨s,h,hn⟩:=Xf.mp hn;exact hs s (WT _ h) n hn
 have:=Frw.snoc r (by rw[h_];omega) (f:=bK (nm W) l) (fls_mem.mpr ⟨kE _,by
  rw[h_]
  exact f.congr (fun x=>by rw[jG hW];exact⟨fun z=>⟨hAn x z,z⟩,fun z=>z.2⟩) fun x=>by rw[jG hW];exact⟨fun z=>⟨hln x z,z⟩,fun z=>z.2⟩⟩)
 rw[gW _ _ _ fun x hx z=>f.apart hx z.2 z.1] at this;rw[B_,X3];simpa using this
theorem oE {W:Wk}(hW:WkOk W):∀x∈nm W,x∈pk W (top2 W - 1):=fun x hx=>by
 have h1:bK (nm W) (nm W)=top2 W - 1:=by
  have:=gH (nm W) (nm W) [] fun y hy=>by simp [hy]
  rw[gQ,cJ] at this;unfold top2;omega
 rw[<- h1,jG hW];exact⟨hx,hx⟩
theorem jH {W:Wk}{A:List Str}(h:∀x∈nm W,x∈A):bK (nm W) A=top2 W - 1:=by
 have:=gH (nm W) A [] fun y hy=>by simp [h y hy]
 rw[gQ,cJ] at this;unfold top2;omega
theorem Frw.dok {W:Wk}{beat:Int}{fs:List Nat}(hW:WkOk W) (r:Frw W beat fs (top2 W - 1)):Dok W (fs.map (pk W))/\Fils W beat (fs.map (pk W)):=by
 obtain⟨_,hl,hm,hF,_⟩:=r.ok hW;have hs:∀s∈fs.map (pk W),s.Nodup/\∀n∈s,n∈W.tasks.map (·.1):=fun s h=>by obtain⟨i,_,rfl⟩:=z_.mp h;exact⟨Uu hW i,fun n hn=>gU hn⟩
 refine⟨⟨by rw[h_];exact hl,fun x hx=>?_,HF hF hs,fun n hn=>(hm n).mp (oE hW n hn)⟩,hF⟩;obtain⟨s,h,hn⟩:=Xf.mp hx;exact (hs s h).2 x hn
theorem Frw.ofD {W:Wk}{beat:Int}{D:List (List Str)}(hW:WkOk W) (h:Dok W D) (F:Fils W beat D):Frw W beat (D.map (bK (nm W))) (top2 W - 1):=by
 have:=Frw.of hW h.rw (fun s hs=>(h.in hs).2) F
 rwa [jH h.al] at this
def bz (i:Nat):T:=.int (i:Int)
def wkF (W:Wk) (beat:Int) (p:Addr):List (Str × T):=[("works",W.enc),("beat",.int beat),("rules",.ref p),("whole",.int ((top2 W:Int) - 1))]
structure Wlk (C:Addr) (W:Wk) (beat:Int) (H:Hp3) (a:Addr):Prop where
 ex:∃p,H a=some (.ins C (wkF W beat p))/\H p=some (.lst (W.tasks.map (ruT W (W.tasks.map (·.1)))))
theorem Wlk.sub {C:Addr}{W:Wk}{beat:Int}{H H':Hp3}{a:Addr}(h:Wlk C W beat H a) (s:Sub3 H H'):Wlk C W beat H' a:=by
 obtain⟨p,h1,h2⟩:=h.ex;exact⟨p,s _ _ h1,s _ _ h2⟩
theorem sE {W:Wk}{beat:Int}{p:Addr}:aN "works" (wkF W beat p)=some W.enc:=rfl
theorem HN {W:Wk}{beat:Int}{p:Addr}:aN "beat" (wkF W beat p)=some (.int beat):=by unfold wkF aN;rw[if_neg (by decide +kernel)];unfold aN;rw[if_pos rfl]
theorem CP {W:Wk}{beat:Int}{p:Addr}:aN "rules" (wkF W beat p)=some (.ref p):=by unfold wkF aN;rw[if_neg (by decide +kernel)];unfold aN;rw[if_neg (by decide +kernel)];unfold aN;rw[if_pos rfl]
theorem sG {W:Wk}{beat:Int}{p:Addr}:aN "whole" (wkF W beat p)=some (.int ((top2 W:Int) - 1)):=by unfold wkF aN;rw[if_neg (by decide +kernel)];unfold aN;rw[if_neg (by decide +kernel)];unfold aN;rw[if_neg (by decide +kernel)];unfold aN;rw[if_pos rfl]
theorem CQ {W:Wk}{beat:Int}{p:Addr}{m:Str}(h:m∉(["works","beat","rules","whole"]:List Str)):aN m (wkF W beat p)=none:=by
 simp only[n_,P_,Xk,not_or] at h;unfold wkF;simp only[aN];rw[if_neg (Ne.symm h.1),if_neg (Ne.symm h.2.1),if_neg (Ne.symm h.2.2.1),if_neg (Ne.symm h.2.2.2)]
theorem Uv {W:Wk}(hW:WkOk W) {i:Nat}(h:i<top2 W):numOf (W.tasks.map (·.1)) (pk W i)=(i:Int):=by
 rw[cu];exact WK Int.ofNat (dW hW h)
theorem pZ {W:Wk}(hW:WkOk W):top2 W<=256:=Nat.pow_le_pow_right (n:=2) (by decide) hW.t8
theorem lR (W:Wk):0<top2 W:=Nat.pow_pos (by decide)
def J4:Sp3:=fun ts H Q=>∃N:Nat,ts=[.int (N:Int)]/\N<256/\∀p,H p=none->Q (.ref p) (up3 H p (.lst ((su N).map bz)))
def Uw (C:Addr):Sp3:=fun ts H Q=>∃(a:Addr) (W:Wk) (beat:Int),ts=[.ref a,W.enc,.int beat]/\WkOk W/\H a=some (.ins C [])/\∀H',(∀b o,b≠a->H b=some o->H' b=some o)->Wlk C W beat H' a->Q .non H'
def Ux (C:Addr):Sp3:=fun ts H Q=>∃(a:Addr) (W:Wk) (beat:Int) (k d:Nat),ts=[.ref a,.int (k:Int),.int (d:Int)]/\WkOk W/\Wlk C W beat H a/\k<W.row.length/\d<top2 W/\∀p,H p=none->Q (.ref p) (up3 H p (.lst ((fls W beat k d).map bz)))
def Uy (C:Addr):Sp3:=fun ts H Q=>∃(a:Addr) (W:Wk) (beat:Int) (fs:List Nat),ts=[.ref a,.tup (fs.map bz)]/\WkOk W/\Wlk C W beat H a/\fs.length<=8/\(∀f∈fs,f<top2 W)/\Q (.tup ((fs.map (pk W)).map sT)) H
section
variable {α:Type}
def cV (k:Nat):List (Nat × α)->Option α
 |[]=>none
 | (k',v)::r=>if k'=k then some v else cV k r
def putN (k:Nat) (v:α) (E:List (Nat × α)):List (Nat × α) :=
 if (E.any fun e=>decide (e.1=k))=true then E.map (fun e=>if e.1=k then (e.1,v) else e) else E++[(k,v)]
def dI (enc:α->T) (E:List (Nat × α)):List (Int × T):=E.map fun e=>((e.1:Int),enc e.2)
theorem PK (enc:α->T) (E:List (Nat × α)):(dI enc E).length=E.length:=h_ _
theorem p7 (enc:α->T) (k:Nat):∀E:List (Nat × α),cU (k:Int) (dI enc E)=(cV k E).map enc
 |[]=>rfl
 | (k',v)::r=>by
  have ih:=p7 enc k r
  unfold dI at ih ⊢
  rw[I_]
  unfold cU cV
  by_cases h:k'=k
  ·
   rw[if_pos h,if_pos (show ((k':Nat):Int)=(k:Int) by rw[h])];rfl
  ·
   rw[if_neg h,if_neg (show ¬((k':Nat):Int)=(k:Int) by omega),ih]
theorem PL (enc:α->T) (k:Nat) (v:α) (E:List (Nat × α)):pI (k:Int) (enc v) (dI enc E)=dI enc (putN k v E):=by
 have e1:((dI enc E).any fun kv=>decide (kv.1=(k:Int)))=E.any fun e=>decide (e.1=k):=by unfold dI;rw[List.any_map];congr 1;funext e;show decide ((e.1:Int)=(k:Int))=decide (e.1=k);rw[XD];omega
 unfold pI putN;rw[e1];split
 ·unfold dI;rw[WN,WN];refine Xv fun e _=>?_;show (if (e.1:Int)=(k:Int) then ((e.1:Int),enc v) else ((e.1:Int),enc e.2))=_;show _=((((if e.1=k then (e.1,v) else e).1:Nat):Int),enc (if e.1=k then (e.1,v) else e).2);by_cases h:e.1=k
  ·rw[if_pos h,if_pos (by rw[h])]
  rw[if_neg h,if_neg (by omega)]
 unfold dI;rw[B_];rfl
theorem fX {k:Nat}{v:α}:∀{E:List (Nat × α)},cV k E=some v->(k,v)∈E
 | (k',v')::r,h=>by
  unfold cV at h
  by_cases e:k'=k
  ·
   rw[if_pos e] at h;cases h;subst e;exact k_
  ·
   rw[if_neg e] at h;exact t_ _ (fX h)
theorem lU {k:Nat}:∀{E:List (Nat × α)},cV k E=none->∀e∈E,e.1≠k
 | (k',v')::r,h,e,he=>by
  unfold cV at h
  by_cases z:k'=k
  ·
   rw[if_pos z] at h;cases h
  ·
   rw[if_neg z] at h
   rcases n_.mp he with rfl | he
   ·
    exact z
   ·
    exact lU h e he
theorem yI (k:Nat) (v:α) (E:List (Nat × α)):(putN k v E).map (·.1)=if k∈E.map (·.1) then E.map (·.1) else E.map (·.1)++[k]:=by
 have e1:(E.any fun e=>decide (e.1=k))=decide (k∈E.map (·.1)):=by rw[Wz,XC,v_,z_];exact⟨fun ⟨e,h,z⟩=>⟨e,h,XN z⟩,fun ⟨e,h,z⟩=>⟨e,h,L_ z⟩⟩
 unfold putN;rw[e1];by_cases h:k∈E.map (·.1)
 ·rw[if_pos h,if_pos (L_ h),WN];refine Xv fun e _=>?_;show (if e.1=k then (e.1,v) else e).1=e.1;split <;> rfl
 rw[if_neg h,if_neg (jA h),B_];rfl
theorem sH {k:Nat}{v:α}{E:List (Nat × α)}{e:Nat × α}(h:e∈putN k v E):e=(k,v)\/(e∈E/\e.1≠k)\/(e∈E/\k∉E.map (·.1)):=by
 unfold putN at h;split at h
 ·obtain⟨x,hx,rfl⟩:=z_.mp h;by_cases z:x.1=k
  ·rw[if_pos z,z];exact .inl rfl
  rw[if_neg z];exact .inr (.inl ⟨hx,z⟩)
 rename_i hn;rcases G_.mp h with h | h
 ·refine .inr (.inr ⟨h,fun z=>hn ?_⟩);obtain⟨x,hx,e⟩:=z_.mp z;exact XC.mpr ⟨x,hx,L_ e⟩
 exact .inl (q_.mp h)
theorem CT (k:Nat) (v:α) (E:List (Nat × α)):(k,v)∈putN k v E:=by
 unfold putN;split
 ·rename_i h;obtain⟨x,hx,e⟩:=XC.mp h;refine z_.mpr ⟨x,hx,?_⟩;have:=XN e;rw[if_pos this,this]
 exact Ws _ (q_.mpr rfl)
theorem CV {k:Nat}{v:α}{E:List (Nat × α)}{e:Nat × α}(h:e∈E) (hk:e.1≠k):e∈putN k v E:=by
 unfold putN;split
 ·exact z_.mpr ⟨e,h,if_neg hk⟩
 exact WT _ h
theorem wW {k:Nat}{v:α}{E:List (Nat × α)}(h:(E.map (·.1)).Nodup):((putN k v E).map (·.1)).Nodup:=by
 rw[yI];split
 ·exact h
 rename_i z;exact gm h z
theorem wX {k:Nat}{v:α}:∀{E:List (Nat × α)},(E.map (·.1)).Nodup->(k,v)∈E->cV k E=some v
 | (k',v')::r,nd,h=>by
  rw[I_,W8] at nd
  unfold cV
  rcases n_.mp h with e | h
  ·
   cases e;rw[if_pos rfl]
  ·
   rw[if_neg (fun z=>nd.1 (by rw[z];exact z_.mpr ⟨_,h,rfl⟩))]
   exact wX nd.2 h
end
abbrev Ev:=List (Nat × Int × List Nat)
def ldN (W:Wk) (i:Nat):Int:=dq W.tasks (pk W i)
def stp (W:Wk) (d:Nat) (v:Int × List Nat) (B:Ev) (f:Nat):Ev:=match cV (d+f) B with
 |none=>putN (d+f) (v.1+ldN W f^2,v.2++[f]) B
 |some u=>if v.1+ldN W f^2<u.1 then putN (d+f) (v.1+ldN W f^2,v.2++[f]) B else B
theorem Frw.inv {W:Wk}{beat:Int}{gs:List Nat}{d:Nat}(r:Frw W beat gs d) {k:Nat}(hl:gs.length=k+1):∃fs d' f,gs=fs++[f]/\d=d'+f/\Frw W beat fs d'/\fs.length=k/\f∈fls W beat k d':=by
 cases r with
 |nil=>cases hl
 |@snoc fs d' f r h1 h2 =>
  have:fs.length=k:=by rw[g_] at hl;simp at hl;exact hl
  exact⟨fs,d',f,rfl,rfl,r,this,by rw[<- this];exact h2⟩
theorem Frw.nil0 {W:Wk}{beat:Int}{gs:List Nat}{d:Nat}(r:Frw W beat gs d) (h:gs=[]):d=0:=by
 cases r with
 |nil=>rfl
 |@snoc fs d' f r h1 h2=>exact absurd h (by simp)
theorem HQ {W:Wk}{beat:Int}{k d f:Nat}(hW:WkOk W) (hd:d<top2 W) (hf:f∈fls W beat k d):d+f<top2 W:=by
 obtain⟨hft,F⟩:=fls_mem.mp hf;have e:d+f=bK (nm W) (pk W d++pk W f):=by rw[<- gW _ _ _ fun x hx z=>F.apart hx z.2 z.1,dW hW hd,dW hW hft]
 rw[e];exact kE _
theorem Wlk.frz {C:Addr}{W:Wk}{beat:Int}{H:Hp3}{a q:Addr}{o:O3}{E:List (Int × T)}(h:Wlk C W beat H a) (hq:H q=some (.dci E)):Wlk C W beat (up3 H q o) a:=by
 obtain⟨p,h1,h2⟩:=h.ex;exact⟨p,by rw[aD (ne3 h1 hq (by simp))];exact h1,by rw[aD (ne3 h2 hq (by simp))];exact h2⟩
def Kb1 (pb:Addr) (H H':Hp3):Prop:=∀b u,b≠pb->H b=some u->H' b=some u
theorem Kb1.refl {pb:Addr}{H:Hp3}:Kb1 pb H H:=fun _ _ _ h=>h
theorem Kb1.new {pb p:Addr}{H H':Hp3}{o:O3}(k:Kb1 pb H H') (hp:H' p=none):Kb1 pb H (up3 H' p o):=fun b u hb h=>by rw[aD (bw (k b u hb h) hp)];exact k b u hb h
theorem Kb1.put {pb:Addr}{H H':Hp3}{o:O3}(k:Kb1 pb H H'):Kb1 pb H (up3 H' pb o):=fun b u hb h=>by rw[aD hb];exact k b u hb h
theorem Kb1.wlk {C:Addr}{W:Wk}{beat:Int}{pb a:Addr}{H H':Hp3}(k:Kb1 pb H H') (hp:H pb=none) (h:Wlk C W beat H a):Wlk C W beat H' a:=by
 obtain⟨p,h1,h2⟩:=h.ex;exact⟨p,k _ _ (bw h1 hp) h1,k _ _ (bw h2 hp) h2⟩
structure Hol (W:Wk) (f:Str->Nat):Prop where
 ord:∀o∈W.orders,f o.1<=f o.2
 pai:∀p∈W.pairs,f p.2.1=f p.2.2↔p.1="with"
 kin:∀t∈W.tasks,gR t.2.2 (W.row.getD (f t.1) "")=true
theorem Hol.congr {W:Wk}{f g:Str->Nat}(hW:WkOk W) (h:Hol W f) (e:∀n∈nm W,f n=g n):Hol W g :=
 ⟨fun o ho=>by
  have q:=hW.oo o ho
  rw[<- e _ q.2.1,<- e _ q.2.2];exact h.ord o ho,fun p hp=>by
  have q:=hW.pp p hp
  rw[<- e _ q.2.2.1,<- e _ q.2.2.2];exact h.pai p hp,fun t ht=>by
  rw[<- e _ (z_.mpr ⟨t,ht,rfl⟩)];exact h.kin t ht⟩
def ldF (ts:List (Str × Int × List Str)) (f:Str->Nat) (k:Nat):Int:=((ts.filter fun t=>decide (f t.1=k)).map (·.2.1)).sum
def lds (W:Wk) (f:Str->Nat) (m:Nat):List Int:=(List.range m).map (ldF W.tasks f)
theorem oF {ts:List (Str × Int × List Str)}{f g:Str->Nat}(e:∀t∈ts,f t.1=g t.1) (k:Nat):ldF ts f k=ldF ts g k:=by
 have:(ts.filter fun t=>decide (f t.1=k))=ts.filter fun t=>decide (g t.1=k):=Yh fun t ht=>by rw[e t ht]
 unfold ldF;rw[this]
theorem yJ {W:Wk}{f g:Str->Nat}(e:∀n∈nm W,f n=g n) (m:Nat):lds W f m=lds W g m :=
 Xv fun k _=>oF (fun t ht=>e _ (z_.mpr ⟨t,ht,rfl⟩)) k
theorem gY (A:List (Str × Int × List Str)) (t:Str × Int × List Str) (f:Str->Nat) (k:Nat):ldF (A++[t]) f k=ldF A f k+if f t.1=k then t.2.1 else 0:=by
 unfold ldF;rw[Xo,B_,List.sum_append];by_cases h:f t.1=k <;> simp [h]
theorem wY {A:List (Str × Int × List Str)}{t:Str × Int × List Str}{f:Str->Nat}{m:Nat}(h:f t.1<m):((List.range m).map (ldF A f)).set (f t.1) (ldF A f (f t.1)+t.2.1)=(List.range m).map (ldF (A++[t]) f):=by
 apply Yd;intro i;by_cases hi:i<m
 ·rw[o_,Wv hi];by_cases e:i=f t.1
  ·subst e;rw[Yn (by rw[h_,A_];exact hi),Yw,gY,if_pos rfl]
  rw[Yx (Ne.symm e),o_,Wv hi,Yw,Yw,gY,if_neg (Ne.symm e),Int.add_zero]
 rw[J_ (by rw[List.length_set,h_,A_];omega),J_ (by rw[h_,A_];omega)]
theorem CW {ns:List Str}{f:Str->Nat}{m k:Nat}(hk:k<m):(dealt ns f m)[k]?=some (ns.filter fun n=>decide (f n=k)):=by
 unfold dealt;rw[o_,Wv hk];rfl
theorem CZ {W:Wk}{f:Str->Nat}{m:Nat}(hW:WkOk W) (hm:m<=W.row.length) (hf:∀n,f n<m):∀n∈nm W,fD (dealt (nm W) f m) n=f n:=fun n hn =>
 fJ (iw hW (List.Perm.refl _) hm hf).nd (CW (hf n)) (F_.mpr ⟨hn,L_ rfl⟩)
theorem lV {W:Wk}{f:Str->Nat}{k:Nat}:dq W.tasks ((nm W).filter fun n=>decide (f n=k))=ldF W.tasks f k:=by
 have e:(W.tasks.filter fun t=>decide (t.1∈(nm W).filter fun n=>decide (f n=k)))=W.tasks.filter fun t=>decide (f t.1=k):=Yh fun t ht=>by rw[XD,F_,v_];exact⟨fun z=>z.2,fun z=>⟨z_.mpr ⟨t,ht,rfl⟩,z⟩⟩
 unfold dq ldF;rw[e]
theorem sI {W:Wk}{beat:Int}{f:Str->Nat}{m:Nat}(hW:WkOk W) (hm:m<=W.row.length) (hf:∀n,f n<m) (h:Hol W f) (hb:∀l∈lds W f m,l<=beat):Fils W beat (dealt (nm W) f m):=by
 have ok:Dok W (dealt (nm W) f m):=iw (W:=W) hW (List.Perm.refl _) hm hf;have e:=CZ hW hm hf;have h2:=h.congr hW (g:=fD (dealt (nm W) f m)) fun n hn=>(e n hn).symm;refine (rZ hW ok).mp ⟨h2.ord,h2.pai,fun k s ek t ht hs=>?_,fun s hs=>?_⟩
 ·have:=fJ ok.nd ek hs;have:=h2.kin t ht
  rwa [fJ ok.nd ek hs] at this
 obtain⟨k,hk,rfl⟩:=z_.mp hs;show dq W.tasks ((nm W).filter fun n=>decide (f n=k))<=beat
 rw[lV];exact hb _ (z_.mpr ⟨k,hk,rfl⟩)
def gfl (W:Wk) (beat:Int) (k d:Nat):List Nat:=(gre bC (fls W beat k d)).reverse
theorem qb {W:Wk}{beat:Int}{k d f:Nat}(h:f∈gfl W beat k d):f∈fls W beat k d:=pY _ _ (List.mem_reverse.mp h)
theorem HR {W:Wk}{beat:Int}{k d f:Nat}(h:f∈fls W beat k d):∃g∈gfl W beat k d,bC g f=true:=by
 obtain⟨g,hg,e⟩:=wR yG _ f h;exact⟨g,List.mem_reverse.mpr hg,e⟩
theorem Dc {W:Wk}{t x:Str}(h:x∈fV W t) (ht:t∈nm W):t∈fV W x:=by
 unfold fV at h ⊢;rw[F_,@v_ _ (Classical.propDecidable _)] at h ⊢;exact⟨ht,h.2.2,h.2.1⟩
theorem Frw.grp {W:Wk}{beat:Int}{fs:List Nat}{d:Nat}(hW:WkOk W) (r:Frw W beat fs d) {t x:Str}(ht:t∈pk W d) (hx:x∈fV W t):x∈pk W d:=by
 obtain⟨_,_,hm,hF,_⟩:=r.ok hW;obtain⟨s,hs,hts⟩:=Xf.mp ((hm t).mp ht);obtain⟨j,hj⟩:=W5 hs;obtain⟨u,hu,eu⟩:=z_.mp (gU ht);have f:=(hF j s hj).one u hu (by rw[eu];exact hts);exact (hm x).mpr (Xf.mpr ⟨s,hs,f.2.2.1 x (by rw[eu];exact hx)⟩)
theorem vf {ts:List (Str × Int × List Str)}{S S':List Str}(hp:∀t∈ts,0<=t.2.1) (h:∀x∈S',x∈S):dq ts S'<=dq ts S:=by
 unfold dq;induction ts with
 |nil=>exact Int.le_refl _
 |cons t r ih =>
  have i:=ih fun u hu=>hp u (t_ _ hu)
  have h0:=hp t k_
  rw[Xq,Xq]
  by_cases h1:t.1∈S'
  ·
   rw[if_pos (L_ h1),if_pos (L_ (h _ h1)),I_,I_,XH,XH]
   omega
  ·
   rw[if_neg (jA h1)]
   by_cases h2:t.1∈S
   ·
    rw[if_pos (L_ h2),I_,XH];omega
   ·
    rw[if_neg (jA h2)];exact i
theorem Fil.more {W:Wk}{beat:Int}{kind:Str}{D S D':List Str}(hW:WkOk W) (f:Fil W beat kind D S) (hD:∀x∈D,x∈D') (hg:∀t x,t∈D'->x∈fV W t->x∈D'):Fil W beat kind D' (S.filter fun x=>decide (x∉D')) :=
 ⟨fun t ht hs=>by
  rw[F_,v_] at hs
  obtain⟨h1,h2,h3,h4,h5⟩:=f.one t ht hs.1
  refine⟨hs.2,h2,fun x hx=>?_,fun x hx=>?_,fun x hx z=>h5 x hx (F_.mp z).1⟩
  ·
   rw[F_,v_]
   exact⟨h3 x hx,fun z=>hs.2 (hg x t.1 z (Dc hx (z_.mpr ⟨t,ht,rfl⟩)))⟩
  ·
   by_cases z:x∈D'
   ·
    exact .inr z
   ·
    exact .inl (F_.mpr ⟨(h4 x hx).resolve_right fun q=>z (hD x q),L_ z⟩),
  Int.le_trans (vf (fun t ht=>by have:=(hW.tk t ht).lo;omega) fun x hx=>(F_.mp hx).1) f.ld⟩
abbrev Wy:=List (Nat × List Nat)
def iz (d:Nat) (v:List Nat) (B:Wy) (f:Nat):Wy:=match cV (d+f) B with
 |none=>putN (d+f) (v++[f]) B
 |some _=>B
def wbh (W:Wk) (beat:Int) (k:Nat) (E:Wy):Wy:=E.foldl (fun B e=>(gfl W beat k e.1).foldl (iz e.1 e.2) B) []
def wys (W:Wk) (beat:Int):Nat->Wy
 |0=>[(0,[])]
 |k+1=>wbh W beat k (wys W beat k)
structure Wtb (W:Wk) (beat:Int) (k:Nat) (E:Wy):Prop where
 nd:(E.map (·.1)).Nodup
 ok:∀e∈E,Frw W beat e.2 e.1/\e.2.length=k
 al:∀fs d,Frw W beat fs d->fs.length=k->∃e∈E,∀x∈pk W d,x∈pk W e.1
structure WtI (W:Wk) (beat:Int) (k:Nat) (sub:Nat->Nat->Prop) (B:Wy):Prop where
 nd:(B.map (·.1)).Nodup
 ok:∀e∈B,Frw W beat e.2 e.1/\e.2.length=k+1
 al:∀d f,sub d f->∃e∈B,e.1=d+f
theorem WtI.step {W:Wk}{beat:Int}{k:Nat}{sub:Nat->Nat->Prop}{B:Wy}{d:Nat}{v:List Nat}{f:Nat}(h:WtI W beat k sub B) (hr:Frw W beat v d) (hl:v.length=k) (hk:k<W.row.length) (hf:f∈fls W beat k d) :
  WtI W beat k (fun d' f'=>sub d' f'\/(d'=d/\f'=f)) (iz d v B f):=by
 have new:Frw W beat (v++[f]) (d+f)/\(v++[f]).length=k+1 :=
  ⟨.snoc hr (by omega) (by rw[hl];exact hf),by rw[g_,hl];rfl⟩
 unfold iz;cases e:cV (d+f) B with
 |none =>
  refine⟨wW h.nd,fun x hx=>?_,fun d' f' hs=>?_⟩
  ·rcases sH hx with rfl | ⟨hx,_⟩ | ⟨hx,_⟩
   ·exact new
   ·exact h.ok x hx
   exact h.ok x hx
  rcases hs with hs | ⟨rfl,rfl⟩
  ·obtain⟨x,hx,e1⟩:=h.al d' f' hs;exact⟨x,CV hx (lU e x hx),e1⟩
  exact⟨_,CT _ _ _,rfl⟩
 |some u =>
 refine⟨h.nd,h.ok,fun d' f' hs=>?_⟩;rcases hs with hs | ⟨rfl,rfl⟩
 ·exact h.al d' f' hs
 exact⟨_,fX e,rfl⟩
theorem WtI.inner {W:Wk}{beat:Int}{k:Nat}{sub:Nat->Nat->Prop}{B:Wy}{d:Nat}{v:List Nat}(hr:Frw W beat v d) (hl:v.length=k) (hk:k<W.row.length) :
  ∀{xs:List Nat},(∀f∈xs,f∈fls W beat k d)->WtI W beat k sub B->WtI W beat k (fun d' f'=>sub d' f'\/(d'=d/\f'∈xs)) (xs.foldl (iz d v) B):=by
 intro xs;induction xs generalizing sub B with
 |nil=>intro _ h;exact⟨h.nd,h.ok,fun d' f' hs=>h.al d' f' (hs.resolve_right fun z=>nomatch z.2)⟩
 |cons f r ih =>
 intro hx h;have h1:=ih (fun g hg=>hx g (t_ _ hg)) (h.step hr hl hk (hx f k_));refine⟨h1.nd,h1.ok,fun d' f' hs=>h1.al d' f' ?_⟩;rcases hs with hs | ⟨e1,e3⟩
 ·exact .inl (.inl hs)
 rcases n_.mp e3 with e3 | e3
 ·exact .inl (.inr ⟨e1,e3⟩)
 exact .inr ⟨e1,e3⟩
theorem WtI.outer {W:Wk}{beat:Int}{k:Nat}(hk:k<W.row.length):∀{xs:Wy}{sub:Nat->Nat->Prop}{B:Wy},(∀e∈xs,Frw W beat e.2 e.1/\e.2.length=k)->WtI W beat k sub B ->
  WtI W beat k (fun d f=>sub d f\/((∃v,(d,v)∈xs)/\f∈gfl W beat k d)) (xs.foldl (fun B e=>(gfl W beat k e.1).foldl (iz e.1 e.2) B) B)
 |[],_,_,_,h=>⟨h.nd,h.ok,fun d f hs=>h.al d f (hs.resolve_right fun z=>z.1.elim fun _ q=>nomatch q)⟩
 |e::r,sub,B,hx,h=>by
  obtain⟨h1,h2⟩:=hx e k_
  have q:=WtI.outer hk (xs:=r) (fun x hxr=>hx x (t_ _ hxr)) (WtI.inner (xs:=gfl W beat k e.1) h1 h2 hk (fun f hf=>qb hf) h)
  refine⟨q.nd,q.ok,fun d f hs=>q.al d f ?_⟩
  rcases hs with hs | ⟨⟨v,e1⟩,e2⟩
  ·
   exact .inl (.inl hs)
  ·
   rcases n_.mp e1 with z | z
   ·
    rw[<- z] at *
    exact .inl (.inr ⟨rfl,e2⟩)
   ·
    exact .inr ⟨⟨v,z⟩,e2⟩
theorem Dd {W:Wk}{beat:Int}{k d f:Nat}(hW:WkOk W) (hd:d<top2 W) (hf:f∈fls W beat k d) {x:Str}:x∈pk W (d+f)↔x∈pk W d\/x∈pk W f:=by
 obtain⟨hft,F⟩:=fls_mem.mp hf;have e:d+f=bK (nm W) (pk W d++pk W f):=by rw[<- gW _ _ _ fun x hx z=>F.apart hx z.2 z.1,dW hW hd,dW hW hft]
 rw[e,jG hW,G_];exact⟨fun z=>z.2,fun z=>⟨z.elim gU gU,z⟩⟩
theorem De {W:Wk}{beat:Int}{k:Nat}{E:Wy}(hW:WkOk W) (h:Wtb W beat k E) (hk:k<W.row.length):Wtb W beat (k+1) (wbh W beat k E):=by
 have q:=WtI.outer (W:=W) (beat:=beat) hk (xs:=E) (sub:=fun _ _=>False) (B:=[]) h.ok ⟨YK,fun _ z=>(nomatch z),fun _ _ z=>z.elim⟩;refine⟨q.nd,q.ok,fun fs d r hl=>?_⟩;obtain⟨gs,d',f,rfl,rfl,r',hl',hf⟩:=r.inv hl;obtain⟨e,he,e1⟩:=h.al gs d' r' hl';have re:=(h.ok e he).1;have hde:=(re.ok hW).1;obtain⟨hft,F⟩:=fls_mem.mp hf;have F':=F.more hW e1 fun t x ht hx=>re.grp hW ht hx;have hf':bK (nm W) ((pk W f).filter fun x=>decide (x∉pk W e.1))∈fls W beat k e.1:=fls_mem.mpr ⟨kE _,F'.congr (fun x=>Iff.rfl) fun x=>by rw[jG hW];exact⟨fun z=>⟨gU (F_.mp z).1,z⟩,fun z=>z.2⟩⟩;obtain⟨g,hg,eg⟩:=HR hf';have hgf:=qb hg;obtain⟨x,hx,x1⟩:=q.al e.1 g (.inr ⟨⟨e.2,he⟩,hg⟩);have hgt:=(fls_mem.mp hgf).1;refine⟨x,hx,fun y hy=>?_⟩;rw[x1,Dd hW hde hgf];rcases (Dd hW (r'.ok hW).1 hf).mp hy with z | z
 ·exact .inl (e1 y z)
 by_cases c:y∈pk W e.1
 ·exact .inl c
 refine .inr ?_;rw[<- dW hW hgt,sr] at eg;exact eg y (gU z) (F_.mpr ⟨z,L_ c⟩)
theorem wtb {W:Wk}{beat:Int}(hW:WkOk W):∀{k:Nat},k<=W.row.length->Wtb W beat k (wys W beat k)
 |0,_=>⟨by simp [wys],fun e he=>by rw[q_.mp he];exact⟨.nil,rfl⟩,fun fs d r hl=>by
   refine⟨(0,[]),q_.mpr rfl,fun x hx=>?_⟩
   rw[r.nil0 (YL.mp hl)] at hx
   exact hx⟩
 |k+1,h=>De hW (wtb hW (by omega)) (by omega)
structure WOk (W:Wk) (n:Nat) (E:Wy):Prop where
 nd:(E.map (·.1)).Nodup
 lt:∀e∈E,e.1<top2 W/\e.2.length<=n/\∀f∈e.2,f<top2 W
theorem WOk.len {W:Wk}{n:Nat}{E:Wy}(h:WOk W n E):E.length<=top2 W:=by
 have:=pR (l:=E.map (·.1)) (m:=List.range (top2 W)) h.nd fun x hx=>by obtain⟨e,he,rfl⟩:=z_.mp hx;exact Wu.mpr (h.lt e he).1
 rwa [h_,A_] at this
theorem WOk.stp {W:Wk}{beat:Int}{k n d f:Nat}{v:List Nat}{B:Wy}(hW:WkOk W) (h:WOk W (n+1) B) (hd:d<top2 W) (hv:v.length<=n) (hvt:∀f∈v,f<top2 W) (hf:f∈fls W beat k d):WOk W (n+1) (iz d v B f):=by
 unfold iz;split
 ·refine⟨wW h.nd,fun x hx=>?_⟩;rcases sH hx with rfl | ⟨hx,_⟩ | ⟨hx,_⟩
  ·refine⟨HQ hW hd hf,by rw[g_];simp;exact hv,fun g hg=>?_⟩;rcases G_.mp hg with hg | hg
   ·exact hvt g hg
   rw[q_.mp hg];exact (fls_mem.mp hf).1
  ·exact h.lt x hx
  exact h.lt x hx
 exact h
theorem Wtb.wok {W:Wk}{beat:Int}{k:Nat}{E:Wy}(hW:WkOk W) (h:Wtb W beat k E):WOk W k E:=⟨h.nd,fun e he=>by
 obtain⟨r,hl⟩:=h.ok e he;obtain⟨h1,_,_,_,h5⟩:=r.ok hW;exact⟨h1,by omega,h5⟩⟩
theorem wZ {W:Wk}{beat:Int}(hW:WkOk W) {m:Nat}(hm:m<=W.row.length):(cV (top2 W - 1) (wys W beat m)).isSome=true↔∃fs,Frw W beat fs (top2 W - 1)/\fs.length=m:=by
 have T:=wtb (beat:=beat) hW hm;constructor
 ·intro h;obtain⟨v,e⟩:=YD.mp h;have:=T.ok _ (fX e);exact⟨v,this.1,this.2⟩
 rintro⟨fs,r,hl⟩;obtain⟨e,he,h⟩:=T.al fs _ r hl;have e1:e.1=top2 W - 1:=by rw[<- dW hW ((T.ok e he).1.ok hW).1];exact jH fun x hx=>h x (oE hW x hx)
 have:=wX T.nd (show (e.1,e.2)∈wys W beat m from he);rw[e1] at this;rw[this];rfl
variable {f:Str->Str}{W W2:Wk}
theorem Df {x y:Str}(h:x.cps.toList=y.cps.toList):x=y:=by cases x;cases y;simp at h;simp [h]
theorem Dg {x y:Str}(h:leS x y) (g:leS y x):x=y:=Df (PyProof.Rows.KeyOrd.kle_antisymm h g)
theorem HS {g u v:List Str}(h1:u.Perm g) (h2:u.Pairwise leS) (h3:v.Perm g) (h4:v.Pairwise leS):u=v :=
 (h1.trans h3.symm).eq_of_pairwise (fun a b _ _ h5 h6=>Dg h5 h6) h2 h4
theorem Dh:∀(xs ks:List Str),(ks++xs).Nodup->kst ks xs=ks++xs
 |[],ks,_=>(WD ks).symm
 |n::r,ks,h=>by
  show kst (jZ ks n) r=_
  have hn:n∉ks:=fun z=>by rw[Yi] at h;exact h.2.2 n z n k_ rfl
  unfold jZ
  rw[if_neg hn,Dh r (ks++[n]) (by rw[WW];exact h),WW]
  rfl
theorem Uz {D:List (List Str)}(h:D.flatten.Nodup):kD D=D.flatten:=by
 unfold kD;rw[Dh _ _ (by simpa using h)];rfl
theorem Dok.pm {W:Wk}{D:List (List Str)}(hW:WkOk W) (h:Dok W D):D.flatten.Perm (nm W):=(List.perm_ext_iff_of_nodup h.nd hW.nd).mpr fun a=>⟨h.st a,h.al a⟩
theorem Dok.fl {W:Wk}{D:List (List Str)}(hW:WkOk W) (h:Dok W D):D.flatten.length<=8:=by
 rw[(h.pm hW).length_eq,cJ];exact hW.t8
theorem Dok.lt {W:Wk}{D:List (List Str)}(h:Dok W D) {n:Str}(hn:n∈nm W):fD D n<D.length:=by
 obtain⟨k,s,e,hs⟩:=jn (h.al n hn);rw[fJ h.nd e hs];rcases YB k D.length with z | z
 ·exact z
 rw[J_ z] at e;cases e
theorem Dok.ldF {W:Wk}{D:List (List Str)}{k:Nat}{s:List Str}(h:Dok W D) (e:D[k]?=some s):dq W.tasks s=ldF W.tasks (fD D) k:=by
 rw[<- lV];refine jU fun x=>?_;rw[F_,v_];constructor
 ·intro hx;exact⟨h.st x (Xf.mpr ⟨s,Q_ e,hx⟩),fJ h.nd e hx⟩
 rintro⟨hx,hk⟩;obtain⟨k2,s2,e2,hs⟩:=jn (h.al x hx);have:=fJ h.nd e2 hs;rw[hk] at this;subst this;rw[e] at e2;cases e2;exact hs
theorem Rgt.lds {W:Wk}{beat:Int}{D:List (List Str)}(h:Dok W D) (r:Rgt W beat D (fD D)):∀l∈lds W (fD D) D.length,l<=beat:=fun l hl=>by
 obtain⟨k,hk,rfl⟩:=z_.mp hl;have e:=a_ (Wu.mp hk);rw[<- h.ldF e];exact r.bea _ (W4 _)
theorem Rgt.kd {W:Wk}{beat:Int}{D:List (List Str)}(h:Dok W D) (r:Rgt W beat D (fD D)) {t:Str × Int × List Str}(ht:t∈W.tasks):gR t.2.2 (W.row.getD (fD D t.1) "")=true:=by
 obtain⟨k,s,e,hs⟩:=jn (h.al t.1 (z_.mpr ⟨t,ht,rfl⟩));rw[fJ h.nd e hs];exact r.kin k s e t ht hs
theorem HW (ns:List Str) (f:Str->Nat):(dN ns f).map (·.1)=ns:=by
 unfold dN;rw[WN];exact List.map_id'' (fun _=>rfl) ns
theorem HX (f:Str->Nat) (n:Nat):(List.replicate n [T.int 0]).flatten=((List.range n).map (ldF ([]:List (Str × Int × List Str)) f)).map T.int:=by
 induction n with
 |zero=>rfl
 |succ n ih =>
 rw[List.replicate_succ',X3,ih,List.range_succ,B_,B_];rfl
def UG:Sp3:=fun ts H Q=>∃(W:Wk) (beat:Int) (D:List (List Str)),ts=[W.enc,.int beat,.tup (D.map sT)]/\WkOk W/\Dok W D/\Rgt W beat D (fD D)/\Q (.bl true) H
def UJ:Sp3:=fun ts H Q=>∃(W:Wk) (beat:Int) (m:Nat) (D:List (List Str)),ts=[W.enc,.int beat,.int (m:Int),.tup (D.map sT)]/\WkOk W/\D.length=m/\(∀s∈D,(nm W).filter (fun n=>decide (n∈s))=s)/\Dok W D/\Rgt W beat D (fD D)/\Q (.bl true) H
section
variable {X:Cx}
theorem HY:OpR X (binaryOp .Add) (fun x y H Q=>∃l b xs zs,x=.ref l/\y=.ref b/\SqL X.K H l xs/\H b=some (.lst zs)/\xs.length+zs.length<=sizeLine/\∀p,H p=none->Q (.ref p) (upd H p (.lst (xs++zs)))):=by
 intro pins s Z H x y v u Q I rx ry h;obtain⟨l,b,xs,zs,rfl,rfl,hH,hB,hz,q⟩:=h;cases rx;cases ry;obtain⟨its,r,⟨⟨cls,dd,data,sl⟩,n,e,hc,hd,hs⟩,hl⟩:=I.list hH;obtain⟨z2,its2,n2,r2,hl2,e2⟩:=I.lstM hB;simp only at hc hd hs;subst hc hd hs;have hl1:=r.length;refine concat_meets ⟨_,e,rfl⟩ ⟨_,e2,rfl⟩ noFill_list_add seq_list_add PySem.F.slot_list_add PySem.F.entry_list_add (PySem.F.args_list_add_2 _ _) (list_addW l b its.toArray its2.toArray n n2 none none sl #[] (by rw[i_,i_];omega)) ⟨e,e2,?_⟩;have ea:its.toArray++its2.toArray=(its++its2).toArray:=by simp
 rw[ea];exact⟨.ref _,_,I.lnew (t':=s.toks) (r.append r2) (by rw[g_];omega),rfl,q _ I.fresh⟩
def PN (o u:Option O3) (H:Hp3) (Q:VK3):Prop:=match o,u with
 |some (.rol xs),some (.lst ys)=>xs.length+ys.length<=sizeLine/\∀p,H p=none->Q (.ref p) (up3 H p (.lst (xs++ys)))
 |_,_=>False
def Di:R3:=fun x y H Q=>match x,y with
 |.ref a,.ref b=>PN (H a) (H b) H Q
 |_,_=>False
theorem PP (a b:Addr) {H:Hp3}{Q:VK3}:Di (.ref a) (.ref b) H Q=PN (H a) (H b) H Q:=rfl
theorem Dj (xs ys:List T) {H:Hp3}{Q:VK3}:PN (some (.rol xs)) (some (.lst ys)) H Q=(xs.length+ys.length<=sizeLine/\∀p,H p=none->Q (.ref p) (up3 H p (.lst (xs++ys)))):=rfl
theorem w5:eU X (binaryOp .Add) Di:=by
 refine OpR.imp HY ?_;rintro x y H Q ⟨tx,ty,H3,Q3,rx,ry,sh,h,k⟩;cases tx with
 |ref a =>
  cases ty with
  |ref b =>
   have h':(match H3 a,H3 b with
    |some (.rol xs),some (.lst ys)=>xs.length+ys.length<=sizeLine/\∀p,H3 p=none->Q3 (.ref p) (up3 H3 p (.lst (xs++ys)))
    |_,_=>False):=h
   split at h'
   ·
    rename_i xs ys e1 e2
    obtain⟨vs,g1,r1⟩:=sh.sqL (.inr e1)
    obtain⟨ws,g2,r2⟩:=sh b _ e2
    refine⟨a,b,vs,ws,rx.ref,ry.ref,g1,g2,by rw[<- r1.length,<- r2.length];exact h'.1,fun p hp=>?_⟩
    exact k _ _ _ _ (aJ hp) (sh.newLst hp (r1.append r2)) .ofRef (h'.2 p (sh.fresh hp))
   ·
    exact h'.elim
  |_=>exact h.elim
 |_=>exact h.elim
def rvO (o:Option O3) (a:Addr) (H:Hp3) (Q:VK3):Prop:=match o with
 |some (.lst xs)=>Q .non (up3 H a (.lst xs.reverse))
 |_=>False
def J5:T->List T->Hp3->VK3->Prop:=fun x ts H Q=>match x,ts with
 |.ref a,[]=>rvO (H a) a H Q
 |_,_=>False
theorem UL (a:Addr) {H:Hp3}{Q:VK3}:J5 (.ref a) [] H Q=rvO (H a) a H Q:=rfl
theorem UT (xs:List T) (a:Addr) {H:Hp3}{Q:VK3}:rvO (some (.lst xs)) a H Q=Q .non (up3 H a (.lst xs.reverse)):=rfl
theorem Dk:zz X "list.reverse" J5:=by
 refine MtR.imp ue ?_;rintro x xs H Q ⟨tx,ts,H3,Q3,rx,rs,sh,h,k⟩
 match tx,ts,h,rx,rs with
 |.ref a,[],h,rx,rs =>
  have h':rvO (H3 a) a H3 Q3:=h
  cases e:H3 a with
  |none=>rw[e] at h';exact h'.elim
  |some o =>
   rw[e] at h'
   cases o with
   |lst ls =>
    obtain⟨ys,hH,r⟩:=sh a _ e
    exact⟨a,ys,rx.ref,rs.inv0,hH,k _ _ _ _ (bT (by rw[hH];exact trivial)) (sh.wrL hH r.reverse) .ofNon h'⟩
   |_=>exact h'.elim
end
theorem PQ (ts:List T) (i:Int) {H:Hp3}{Q:VK3}:ixH (some (.rol ts)) i H Q=oq (atI ts i) fun t=>Q t H:=rfl
theorem PX (xs:List T) {H:Hp3}{Q:VK3}:lnH (some (.rol xs)) H Q=Q (.int xs.length) H:=rfl
def Dl:Sp3:=fun ts H Q=>∃(a:Addr) (ns:List Int) (k:Nat),ts=[.ref a,.int (k:Int)]/\H a=some (.rol (ns.map T.int))/\ns.length<=63/\k<64/\∀c:Int,Q (.int c) H
def P0:Sp3:=fun ts H Q=>∃c:Int,ts=[.int c]/\∀x,isNm x->Q (.str x) H
theorem qd {ns:List Int}{i:Nat}(h:i<ns.length):∃c:Int,atI (ns.map T.int) (i:Int)=some (T.int c):=⟨ns[i],by rw[bN (by rw[o_,a_ h];rfl)]⟩
theorem sJ {x:Str}{xs:List Str}:dB false (T.str x) (xs.map T.str)=decide (x∈xs):=by
 unfold dB;rw[if_neg p_,XD,z_];exact⟨fun ⟨y,h,e⟩=>by cases e;exact h,fun h=>⟨x,h,rfl⟩⟩
def Qa:Sp3:=fun ts H Q=>∃(a:Addr) (ws:List Str),ts=[.ref a]/\H a=some (.lst (ws.map T.str))/\ws.length<=8/\(∀x∈ws,isNm x)/\∀us:List Str,us.length=ws.length->Nms us->∀p,H p=none->Q (.ref p) (up3 H p (.lst (us.map T.str)))
def nmL (b:List Nat) (s i:Nat):Str:=mkS (b++[97+(s+i)%26])
theorem Qc {b:List Nat}{s i:Nat}(h:b.length<=7) (az:∀c∈b,97<=c/\c<=122):isNm (nmL b s i):=by
 refine J2 (by rw[g_];simp) (by rw[g_];simp;exact h) fun c hc=>?_;rcases G_.mp hc with hc | hc
 ·exact az c hc
 rw[q_.mp hc];have:=Nat.mod_lt (s+i) (show 0<26 by decide);omega
theorem Ia {b:List Nat}{s i j:Nat}(hi:i<26) (hj:j<26) (h:nmL b s i=nmL b s j):i=j:=by
 have e:=Ht h;rw[List.append_cancel_left_eq,List.cons.injEq] at e;omega
theorem Ib {x:Str}(h:isNm x):∃(b:List Nat) (s:Nat),x=nmL b s 0/\b.length<=7/\s<26/\∀c∈b,97<=c/\c<=122:=by
 obtain⟨l,rfl⟩:=Pa x;have e1:=h.lo;have e2:=h.hi;have e3:=h.az;rw[cY] at e1 e2;rw[iu] at e3;have hne:l≠[]:=by intro z;rw[z] at e1;exact absurd e1 (by decide)
 have hl:=e3 _ (List.getLast_mem hne);have hd:l.dropLast.length+1=l.length:=by rw[List.length_dropLast];omega
 refine⟨l.dropLast,l.getLast hne - 97,?_,by omega,by omega,fun c hc=>e3 c ((List.dropLast_subset l) hc)⟩;unfold nmL;rw[Nat.add_zero,Nat.mod_eq_of_lt (by omega),show 97+(l.getLast hne - 97)=l.getLast hne by omega,Yl]
theorem Qd (b:List Nat) (c:Nat):Txt.slice (mkS (b++[c])) none (some (-1))=mkS b:=by
 have e:=StrLaws.sliceText_neg_hi (mkS (b++[c])) none (j:=-1) (by decide) (by rw[cY,g_];simp;omega);have l : -1+((mkS (b++[c])).length:Int)=(b.length:Int):=by rw[cY,g_];simp;omega
 rw[l] at e;have t:=Ur (b++[c]) b.length (by rw[g_];omega);rw[List.take_left' rfl] at t;exact e.trans t
theorem Ie (b:List Nat) (s i:Nat):(nmL b s i).length=b.length+1:=by unfold nmL;rw[cY,g_];rfl
theorem Ig (b:List Nat) (s i:Nat):(nmL b s i).cps.toList=b++[97+(s+i)%26]:=rfl
def UV:Sp3:=fun ts H Q=>∃c:Int,ts=[.int c]/\∀us:List Str,us.length=8->Nms us->∀p,H p=none->Q (.ref p) (up3 H p (.lst (us.map T.str)))
def UW:Sp3:=fun ts H Q=>∃(c:Int) (pr pp:Addr) (row pool:List Str) (unit:Int),ts=[.int c,.ref pr,.ref pp,.int unit]/\H pr=some (.lst (row.map T.str))/\1<=row.length/\row.length<=8/\(∀x∈row,isNm x)/\H pp=some (.lst (pool.map T.str))/\pool.length=8/\(∀x∈pool,isNm x)/\1<=unit/\unit<=10^57 /\
 ∀(s:Nat) (tn len:Int) (ks:List Str) (nam:Str),s<row.length->0<=tn->tn<8->1<=len->len<10^60->Nms ks->ks.length<=4->(ks=[]\/row.getD s ""∈ks)->isNm nam->Q (.tup [.int (s:Int),.int tn,.int len,sT ks,.str nam]) H
theorem kI {ns:List Str}{i:Nat}(h:i<ns.length):atI (ns.map T.str) (i:Int)=some (T.str (ns.getD i "")):=by
 rw[bN (by rw[o_,a_ h];rfl),d_,a_ h];rfl
theorem getD_memS {ns:List Str}{i:Nat}(h:i<ns.length):ns.getD i ""∈ns:=by
 rw[d_,a_ h];exact W4 h
abbrev Tk5:=Nat × Int × Int × List Str × Str
def tk5 (t:Tk5):T:=.tup [.int (t.1:Int),.int t.2.1,.int t.2.2.1,sT t.2.2.2.1,.str t.2.2.2.2]
structure Lnk (ns:List Str) (sts:List Nat) (O:List (Str × Str)) (P:List (Str × Str × Str)):Prop where
 ol:O.length<=28
 od:O.Nodup
 oo:∀o∈O,∃i j,i≠j/\ns[i]?=some o.1/\ns[j]?=some o.2/\sts.getD i 0<=sts.getD j 0
 pl:P.length<=12
 pd:P.Nodup
 pp:∀p∈P,∃i j,i≠j/\ns[i]?=some p.2.1/\ns[j]?=some p.2.2/\((p.1="with"/\sts.getD i 0=sts.getD j 0)\/(p.1="apart"/\sts.getD i 0≠sts.getD j 0))
def U0:Sp3:=fun ts H Q=>∃(a pn ps:Addr) (sc:List Int) (ns:List Str) (ss:List Tk5),ts=[.ref a,.ref pn,.ref ps]/\H a=some (.rol (sc.map T.int))/\sc.length<=63/\H pn=some (.lst (ns.map T.str))/\Nms ns/\ns.length<=8/\H ps=some (.lst (ss.map tk5))/\ss.length=ns.length/\∀O P,Lnk ns (ss.map (·.1)) O P->Q (.tup [.tup (O.map orT),.tup (P.map prT)]) H
structure Rnk (ns:List Str) (ss:List Tk5) (us:List (Int × Int × Int)):Prop where
 l:us.length=ns.length
 ex:∃ix:Nat->Nat,(∀p<ns.length,ix p<ns.length/\us[p]?=some ((((ss.map (·.1)).getD (ix p) 0:Nat):Int),(us.getD p (0,0,0)).2.1,(ix p:Int)))/\(∀p q,p<q->q<ns.length->ix p≠ix q/\(ss.map (·.1)).getD (ix p) 0<=(ss.map (·.1)).getD (ix q) 0)
theorem Qe {ns:List Str}{ss:List Tk5}{us:List (Int × Int × Int)}(hl:ss.length=ns.length) (hp:us.Perm ((List.range ns.length).map fun k=>((((ss.map (·.1)).getD k 0:Nat):Int),((ss.map (·.2.1)).getD k 0:Int),(k:Int)))) (hs:us.Pairwise Hi):Rnk ns ss us:=by
 have hlen:us.length=ns.length:=by rw[hp.length_eq,h_,A_]
 have hmem:∀x∈us,∃k,k<ns.length/\x=((((ss.map (·.1)).getD k 0:Nat):Int),((ss.map (·.2.1)).getD k 0:Int),(k:Int)):=fun x hx=>by obtain⟨k,hk,e⟩:=z_.mp (hp.mem_iff.mp hx);exact⟨k,Wu.mp hk,e.symm⟩
 have hnd:(us.map (·.2.2)).Nodup:=by refine (hp.map (·.2.2)).nodup_iff.mpr ?_;rw[WN,List.Nodup,List.pairwise_map];refine List.Pairwise.imp (fun {x y} h e=>h ?_) (List.nodup_range (n:=ns.length));have:(x:Int)=(y:Int):=e;omega
 refine⟨hlen,fun p=>(us.getD p (0,0,0)).2.2.toNat,fun p h=>?_,fun p q hpq hq=>?_⟩
 ·have hg:us[p]?=some us[p]:=a_ (by omega);obtain⟨k,hk,e⟩:=hmem _ (W4 (show p<us.length by omega));have hgd:us.getD p (0,0,0)=us[p]:=by rw[d_,hg];rfl
  have hk2:(us.getD p (0,0,0)).2.2.toNat=k:=by rw[hgd,e];exact Xi k
  dsimp only;refine⟨by rw[hk2];exact hk,?_⟩;rw[hk2,hg,hgd,e]
 have hpl:p<us.length:=by omega
 have hql:q<us.length:=by omega
 obtain⟨k,hk,e⟩:=hmem _ (W4 hpl);obtain⟨k',hk',e'⟩:=hmem _ (W4 hql);have h1:us.getD p (0,0,0)=us[p]:=by rw[d_,a_ hpl];rfl
 have h2:us.getD q (0,0,0)=us[q]:=by rw[d_,a_ hql];rfl
 have k1:(us.getD p (0,0,0)).2.2.toNat=k:=by rw[h1,e];exact Xi k
 have k2:(us.getD q (0,0,0)).2.2.toNat=k':=by rw[h2,e'];exact Xi k'
 dsimp only;rw[k1,k2];constructor
 ·intro z;have hne:=(X4.mp hnd) p q (by rw[h_];exact hpl) (by rw[h_];exact hql) hpq;rw[X7,X7,e,e',z] at hne;exact hne rfl
 have hle:=(X4.mp hs) p q hpl hql hpq;unfold Hi KeyOrd.kle at hle;rw[e,e'] at hle;dsimp only[trOrd] at hle;rw[Ye] at hle;omega
def Dn (p q p' q':Nat):Prop:=p'<p\/(p'=p/\q'<q)
structure Lk1 (nmO:Nat->Str) (wd:Nat->Nat->Str) (m p q:Nat) (O:List (Str × Str)) (P:List (Str × Str × Str)):Prop where
 od:O.Nodup
 oo:∀o∈O,∃p' q',p'<q'/\q'<m/\Dn p q p' q'/\o=(nmO p',nmO q')
 pd:P.Nodup
 pp:∀x∈P,∃p' q',p'<q'/\q'<m/\Dn p q p' q'/\(x=(wd p' q',nmO p',nmO q')\/x=(wd p' q',nmO q',nmO p'))
 ol:O.length<=9*p+q
 pl:P.length<=2*(9*p+q)
theorem Dn.mono {p q p' q' q2:Nat}(h:Dn p q p' q') (hq:q<=q2):Dn p q2 p' q':=by unfold Dn at *;omega
theorem Lk1.skip {nmO:Nat->Str}{wd:Nat->Nat->Str}{m p q p2 q2:Nat}{O:List (Str × Str)}{P:List (Str × Str × Str)}(h:Lk1 nmO wd m p q O P) (hd:∀p' q',q'<m->Dn p q p' q'->Dn p2 q2 p' q') (hle:9*p+q<=9*p2+q2):Lk1 nmO wd m p2 q2 O P :=
 ⟨h.od,fun o ho=>by obtain⟨a,b,h1,h2,h3,h4⟩:=h.oo o ho;exact⟨a,b,h1,h2,hd a b h2 h3,h4⟩,h.pd,fun o ho=>by obtain⟨a,b,h1,h2,h3,h4⟩:=h.pp o ho;exact⟨a,b,h1,h2,hd a b h2 h3,h4⟩,U_ h.ol hle,U_ h.pl (by omega)⟩
theorem Lk1.step {nmO:Nat->Str}{wd:Nat->Nat->Str}{m p q:Nat}{O:List (Str × Str)}{P:List (Str × Str × Str)}(h:Lk1 nmO wd m p q O P) (hi:∀i j,i<m->j<m->nmO i=nmO j->i=j) (hpq:p<q) (hq:q<m) (b1 b2 b3:Bool) :
  Lk1 nmO wd m p (q+1) (bif b1 then O++[(nmO p,nmO q)] else O) (bif b3 then (bif b2 then P++[(wd p q,nmO p,nmO q)] else P)++[(wd p q,nmO q,nmO p)] else (bif b2 then P++[(wd p q,nmO p,nmO q)] else P)):=by
 have me:Dn p (q+1) p q:=.inr ⟨rfl,Xc q⟩;have on:(nmO p,nmO q)∉O:=fun z=>by obtain⟨a,b,h1,h2,h3,h4⟩:=h.oo _ z;rw[YF] at h4;have e1:=hi _ _ (by omega) (by omega) h4.1;have e2:=hi _ _ (by omega) (by omega) h4.2;unfold Dn at h3;omega
 have pn:∀w,(w,nmO p,nmO q)∉P/\(w,nmO q,nmO p)∉P:=fun w=>by
  constructor;all_goals
   intro z
   obtain⟨a,b,h1,h2,h3,h4⟩:=h.pp _ z
   rw[YF,YF,YF,YF] at h4
   unfold Dn at h3
   rcases h4 with ⟨_,h5,h6⟩ | ⟨_,h5,h6⟩
   all_goals
    have e1:=hi _ _ (by omega) (by omega) h5
    have e2:=hi _ _ (by omega) (by omega) h6
    omega
 have h':Lk1 nmO wd m p (q+1) O P:=h.skip (fun _ _ _ z=>z.mono (Zm q)) (by omega);have hP1:∀(P':List (Str × Str × Str)),(P'=P\/P'=P++[(wd p q,nmO p,nmO q)])->P'.Nodup/\(∀x∈P',∃p' q',p'<q'/\q'<m/\Dn p (q+1) p' q'/\(x=(wd p' q',nmO p',nmO q')\/x=(wd p' q',nmO q',nmO p')))/\P'.length<=2*(9*p+q)+1/\(wd p q,nmO q,nmO p)∉P':=by
  intro P' hP;rcases hP with rfl | rfl
  ·exact⟨h.pd,h'.pp,Nat.le_succ_of_le h.pl,(pn _).2⟩
  refine⟨gm h.pd (pn _).1,fun x hx=>?_,by rw[g_];simp;exact h.pl,fun z=>?_⟩
  ·rcases G_.mp hx with hx | hx
   ·exact h'.pp x hx
   exact⟨p,q,hpq,hq,me,.inl (q_.mp hx)⟩
  rcases G_.mp z with z | z
  ·exact (pn _).2 z
  have:=q_.mp z;rw[YF,YF] at this;have e:=hi _ _ (by omega) (by omega) this.2.1;omega
 obtain⟨d1,d2,d3,d4⟩:=hP1 (bif b2 then P++[(wd p q,nmO p,nmO q)] else P) (by cases b2 <;> simp);generalize (bif b2 then P++[(wd p q,nmO p,nmO q)] else P)=P1 at *;refine⟨?_,?_,?_,?_,?_,?_⟩
 ·cases b1
  ·exact h.od
  exact gm h.od on
 ·cases b1
  ·exact h'.oo
  intro o ho;rcases G_.mp ho with ho | ho
  ·exact h'.oo o ho
  exact⟨p,q,hpq,hq,me,q_.mp ho⟩
 ·cases b3
  ·exact d1
  exact gm d1 d4
 ·cases b3
  ·exact d2
  intro o ho;rcases G_.mp ho with ho | ho
  ·exact d2 o ho
  exact⟨p,q,hpq,hq,me,.inr (q_.mp ho)⟩
 ·cases b1
  ·exact h'.ol
  show (O++[_]).length<=_;rw[g_];have:=h.ol;simp;omega
 cases b3
 ·show P1.length<=_;omega
 show (P1++[_]).length<=_;rw[g_];simp;omega
theorem vg {R:TS3}{D:Ends3}{Z:St3}{c:Bool}{p1 p2 p3:Prop}{H1 H2:Hp3}(h1:p1) (h2:p2) (h3:p3) (h:∀(b:Bool) (H':Hp3),H'=(bif b then H1 else H2)->R D Z H'):if c=true then p1/\p2/\p3/\R D Z H1 else R D Z H2:=by
 cases c
 ·rw[if_neg p_];exact h false _ rfl
 rw[if_pos rfl];exact⟨h1,h2,h3,h true _ rfl⟩
theorem Dm {R:TS3}{D:Ends3}{Z:St3}{c:Bool}{p1:Prop}{H1 H2:Hp3}(h1:p1) (h:∀(b:Bool) (H':Hp3),H'=(bif b then H1 else H2)->R D Z H'):if c=true then p1/\R D Z H1 else R D Z H2:=by
 cases c
 ·rw[if_neg p_];exact h false _ rfl
 rw[if_pos rfl];exact⟨h1,h true _ rfl⟩
structure LkH (H3 H:Hp3) (pk po pq:Addr) (us:List (Int × Int × Int)) (O:List (Str × Str)) (P:List (Str × Str × Str)):Prop where
 sb:Sub3 H3 H
 k:H pk=some (.lst (us.map trT))
 o:H po=some (.lst (O.map orT))
 p:H pq=some (.lst (P.map prT))
 no:H3 po=none
 np:H3 pq=none
 ko:pk≠po
 kp:pk≠pq
 op:po≠pq
theorem LkH.new {H3 H:Hp3}{pk po pq x:Addr}{us:List (Int × Int × Int)}{O:List (Str × Str)}{P:List (Str × Str × Str)}{u:O3}(h:LkH H3 H pk po pq us O P) (hx:H x=none):LkH H3 (up3 H x u) pk po pq us O P :=
 ⟨h.sb.trans (Sub3.new hx),Sub3.new hx _ _ h.k,Sub3.new hx _ _ h.o,Sub3.new hx _ _ h.p,h.no,h.np,h.ko,h.kp,h.op⟩
theorem LkH.putO {H3 H:Hp3}{pk po pq:Addr}{us:List (Int × Int × Int)}{O O':List (Str × Str)}{P:List (Str × Str × Str)}(h:LkH H3 H pk po pq us O P):LkH H3 (up3 H po (.lst (O'.map orT))) pk po pq us O' P :=
 ⟨fun b u hb=>by rw[aD (bw hb h.no)];exact h.sb b u hb,by rw[aD h.ko];exact h.k,aq,by rw[aD (Ne.symm h.op)];exact h.p,h.no,h.np,h.ko,h.kp,h.op⟩
theorem LkH.putP {H3 H:Hp3}{pk po pq:Addr}{us:List (Int × Int × Int)}{O:List (Str × Str)}{P P':List (Str × Str × Str)}(h:LkH H3 H pk po pq us O P):LkH H3 (up3 H pq (.lst (P'.map prT))) pk po pq us O P' :=
 ⟨fun b u hb=>by rw[aD (bw hb h.np)];exact h.sb b u hb,by rw[aD h.kp];exact h.k,by rw[aD h.op];exact h.o,aq,h.no,h.np,h.ko,h.kp,h.op⟩
def U3 (m:Nat):List (Nat × Nat):=(List.range m).flatMap fun q=>(List.range q).map fun p=>(p,q)
theorem Do:∀m:_root_.Fin 9,(U3 m.val).length<=28:=by decide
theorem Qf {ns:List Str}{ss:List Tk5}{ix:Nat->Nat}{p q:Nat}{O O':List (Str × Str)}{P P':List (Str × Str × Str)}{nmO:Nat->Str}{wd:Nat->Nat->Str}(h8:ns.length<=8)
  (hix:∀p<ns.length,ix p<ns.length) (hr:∀p q,p<q->q<ns.length->ix p≠ix q/\(ss.map (·.1)).getD (ix p) 0<=(ss.map (·.1)).getD (ix q) 0)
  (hn:∀p<ns.length,ns[ix p]?=some (nmO p)) (hw:∀p q,wd p q=if (ss.map (·.1)).getD (ix p) 0=(ss.map (·.1)).getD (ix q) 0 then "with" else "apart")
  (h:Lk1 nmO wd ns.length p q O P) (pO:O'.Perm O) (pP:P'.Perm P):Lnk ns (ss.map (·.1)) O' (P'.take 12):=by
 refine⟨?_,pO.nodup_iff.mpr h.od,fun o ho=>?_,?_,(List.take_sublist 12 P').nodup (pP.nodup_iff.mpr h.pd),fun x hx=>?_⟩
 ·rw[pO.length_eq];have:=pR (l:=O) (m:=(U3 ns.length).map fun z=>(nmO z.1,nmO z.2)) h.od fun x hx=>by obtain⟨a,b,h1,h2,_,rfl⟩:=h.oo x hx;exact z_.mpr ⟨(a,b),List.mem_flatMap.mpr ⟨b,Wu.mpr h2,z_.mpr ⟨a,Wu.mpr h1,rfl⟩⟩,rfl⟩
  rw[h_] at this;have:=Do ⟨ns.length,by omega⟩;dsimp only at this;omega
 ·obtain⟨a,b,h1,h2,_,rfl⟩:=h.oo o (pO.mem_iff.mp ho);obtain⟨r1,r2⟩:=hr a b h1 h2;exact⟨ix a,ix b,r1,hn a (by omega),hn b h2,r2⟩
 ·rw[Xd];omega
 obtain⟨a,b,h1,h2,_,h3⟩:=h.pp x (pP.mem_iff.mp (List.mem_of_mem_take hx));obtain⟨r1,r2⟩:=hr a b h1 h2;have hwd:=hw a b;have key:(wd a b="with"/\(ss.map (·.1)).getD (ix a) 0=(ss.map (·.1)).getD (ix b) 0)\/(wd a b="apart"/\(ss.map (·.1)).getD (ix a) 0≠(ss.map (·.1)).getD (ix b) 0):=by
  by_cases e:(ss.map (·.1)).getD (ix a) 0=(ss.map (·.1)).getD (ix b) 0
  ·rw[if_pos e] at hwd;exact .inl ⟨hwd,e⟩
  rw[if_neg e] at hwd;exact .inr ⟨hwd,e⟩
 rcases h3 with rfl | rfl
 ·exact⟨ix a,ix b,r1,hn a (by omega),hn b h2,key⟩
 exact⟨ix b,ix a,Ne.symm r1,hn b h2,hn a (by omega),key.imp (fun z=>⟨z.1,z.2.symm⟩) fun z=>⟨z.1,Ne.symm z.2⟩⟩
theorem lW {α β:Type}{f:α->T}{g:β->T}:∀(xs:List α) (ys:List β),eY (xs.map f) (ys.map g)=(xs.zip ys).map fun z=>.tup [f z.1,g z.2]
 |[],_=>rfl
 |_::_,[]=>rfl
 |x::xs,y::ys=>by rw[I_,I_,eY,lW xs ys];rfl
structure Fit (W:Wk) (sts:List Nat):Prop where
 l:sts.length=W.tasks.length
 lt:∀s∈sts,s<W.row.length
 kd:∀(i:Nat) (t:Str × Int × List Str),W.tasks[i]?=some t->t.2.2=[]\/W.row.getD (sts.getD i 0) ""∈t.2.2
 lk:Lnk (W.tasks.map (·.1)) sts W.orders W.pairs
def U4:Sp3:=fun ts H Q=>∃(a:Addr) (sc:List Int) (most wide:Int),ts=[.ref a,.int most,.int wide]/\H a=some (.rol (sc.map T.int))/\sc.length<=63/\1<=most/\most<=8/\1<=wide/\wide<=8/\∀(W:Wk) (sts:List Nat),WkOk W->(W.tasks.length:Int)<=most->(W.row.length:Int)<=wide->Fit W sts->∀p,H p=none->Q (.tup [W.enc,.ref p]) (up3 H p (.lst (sts.map fun (s:Nat)=>T.int (s:Int))))
structure TkO (row:List Str) (t:Tk5):Prop where
 s:t.1<row.length
 lo:1<=t.2.2.1
 hi:t.2.2.1<10^60
 ks:Nms t.2.2.2.1
 kl:t.2.2.2.1.length<=4
 kd:t.2.2.2.1=[]\/row.getD t.1 ""∈t.2.2.2.1
 nm:isNm t.2.2.2.2
def mkW (ns:List Str) (ss:List Tk5) (O:List (Str × Str)) (P:List (Str × Str × Str)) (row:List Str):Wk:=⟨(ns.zip ss).map fun z=>(z.1,z.2.2.2.1,z.2.2.2.2.1),O,P,row⟩
theorem Qg {ns:List Str}{ss:List Tk5}{O:List (Str × Str)}{P:List (Str × Str × Str)}{row:List Str}(hn:Nms ns) (hl:ss.length=ns.length) (h1:1<=ns.length) (h8:ns.length<=8) (hs:∀t∈ss,TkO row t) (hr1:1<=row.length) (hr8:row.length<=8) (hrn:∀x∈row,isNm x) (lk:Lnk ns (ss.map (·.1)) O P) :
  WkOk (mkW ns ss O P row)/\Fit (mkW ns ss O P row) (ss.map (·.1))/\(mkW ns ss O P row).tasks.length=ns.length:=by
 have e1:(mkW ns ss O P row).tasks.map (·.1)=ns:=by show ((ns.zip ss).map fun z=>(z.1,z.2.2.2.1,z.2.2.2.2.1)).map (·.1)=ns;rw[WN];show (ns.zip ss).map (fun z=>z.1)=ns;exact List.map_fst_zip (by omega)
 have el:(mkW ns ss O P row).tasks.length=ns.length:=by
  have:=WK List.length e1
  rwa [h_] at this
 have eg:∀(i:Nat) (t:Str × Int × List Str),(mkW ns ss O P row).tasks[i]?=some t->∃u,ss[i]?=some u/\ns[i]?=some t.1/\t.2=(u.2.2.1,u.2.2.2.1):=fun i t e=>by have e':((ns.zip ss).map fun z=>(z.1,z.2.2.2.1,z.2.2.2.2.1))[i]?=some t:=e;rw[o_,Option.map_eq_some_iff] at e';obtain⟨z,hz,rfl⟩:=e';have:=List.getElem?_zip_eq_some.mp hz;exact⟨z.2,this.2,this.1,rfl⟩
 have ne:∀{i j:Nat} {x y:Str},i≠j->ns[i]?=some x->ns[j]?=some y->x≠y:=fun {i j x y} h hx hy z=>by
  rw[z,<- hy] at hx;have hi:i<ns.length:=by
   rcases YB i ns.length with q | q
   ·exact q
   rw[J_ q,hy] at hx;cases hx
  exact h ((Zu hi hn.nd).mp hx)
 refine⟨⟨by rw[el];exact h1,by rw[el];exact h8,fun t ht=>?_,by rw[e1];exact hn.nd,lk.ol,lk.od,fun o ho=>?_,lk.pl,lk.pd,fun p hp=>?_,hr1,hr8,hrn⟩,⟨by rw[h_,el,hl],fun s h=>?_,fun i t e=>?_,by rw[e1];exact lk⟩,el⟩
 ·obtain⟨i,hi⟩:=W5 ht;obtain⟨u,hu,hx,e⟩:=eg i t hi;have hk:=hs u (Q_ hu);have e2:t.2.1=u.2.2.1:=by rw[e]
  have e3:t.2.2=u.2.2.2.1:=by rw[e]
  exact⟨hn.nm _ (Q_ hx),by rw[e2];exact hk.lo,by rw[e2];exact hk.hi,by rw[e3];exact hk.ks,by rw[e3];exact hk.kl⟩
 ·obtain⟨i,j,h,hx,hy,_⟩:=lk.oo o ho;rw[e1];exact⟨ne h hx hy,Q_ hx,Q_ hy⟩
 ·obtain⟨i,j,h,hx,hy,hz⟩:=lk.pp p hp;rw[e1];exact⟨hz.imp (fun z=>z.1) fun z=>z.1,ne h hx hy,Q_ hx,Q_ hy⟩
 ·obtain⟨u,hu,rfl⟩:=z_.mp h;exact (hs u hu).s
 obtain⟨u,hu,_,e'⟩:=eg i t e;have e3:t.2.2=u.2.2.2.1:=by rw[e']
 have e4:(ss.map (·.1)).getD i 0=u.1:=by rw[d_,o_,hu];rfl
 rw[e3,e4];exact (hs u (Q_ hu)).kd
def ldZ (L:List Int) (z:(Str × Int × List Str) × Nat):List Int:=L.set z.2 (L.getD z.2 0+z.1.2.1)
def ldS (W:Wk) (sts:List Nat):List Int:=(W.tasks.zip sts).foldl ldZ (List.replicate W.row.length 0)
theorem w6 (L:List Int):∀zs:List ((Str × Int × List Str) × Nat),(zs.foldl ldZ L).length=L.length:=fun zs=>by
 induction zs generalizing L with
 |nil=>rfl
 |cons z r ih=>rw[Zf,ih];unfold ldZ;rw[List.length_set]
theorem Ih (W:Wk) (sts:List Nat):(ldS W sts).length=W.row.length:=by unfold ldS;rw[w6,WX]
def U5:Sp3:=fun ts H Q=>∃(W:Wk) (q:Addr) (sts:List Nat),ts=[W.enc,.ref q]/\WkOk W/\H q=some (.lst (sts.map fun (s:Nat)=>T.int (s:Int)))/\sts.length=W.tasks.length/\(∀s∈sts,s<W.row.length)/\∀p,H p=none->Q (.ref p) (up3 H p (.lst ((ldS W sts).map T.int)))
theorem xf:∀(L:List Int) (i:Nat) (v:Int),i<L.length->(L.set i (L.getD i 0+v)).sum=L.sum+v
 |[],_,_,h=>absurd h (by simp)
 |x::r,0,v,_=>by simp [List.set,XH];omega
 |x::r,i+1,v,h=>by
  have:=xf r i v (by simpa using h)
  simp only[List.set_cons_succ,XH,List.getD_cons_succ,this]
  omega
theorem xg:∀(zs:List ((Str × Int × List Str) × Nat)) (L:List Int),(∀z∈zs,z.2<L.length)->(zs.foldl ldZ L).sum=L.sum+(zs.map (·.1.2.1)).sum
 |[],L,_=>by simp
 |z::r,L,h=>by
  rw[Zf,xg r (ldZ L z) fun y hy=>by unfold ldZ;rw[List.length_set];exact h y (t_ _ hy)]
  unfold ldZ
  rw[xf L z.2 z.1.2.1 (h z k_),I_,XH]
  omega
theorem Dp:∀(zs:List ((Str × Int × List Str) × Nat)) (L:List Int),(∀z∈zs,0<=z.1.2.1)->(∀x∈L,0<=x)->∀x∈zs.foldl ldZ L,0<=x
 |[],L,_,hL=>hL
 |z::r,L,h,hL=>by
  rw[Zf]
  refine Dp r _ (fun y hy=>h y (t_ _ hy)) fun x hx=>?_
  unfold ldZ at hx
  rcases List.mem_or_eq_of_mem_set hx with q | q
  ·
   exact hL x q
  ·
   rw[q]
   have h1:=h z k_
   have h2:0<=L.getD z.2 0:=by
    rw[d_]
    cases e:L[z.2]? with
    |none=>exact Int.le_refl 0
    |some y=>exact hL y (Q_ e)
   omega
theorem Dq (n:Nat):(List.replicate n (0:Int)).sum=0:=by induction n with
 |zero=>rfl
 |succ n ih=>rw[W7,XH,ih];rfl
theorem Qh {W:Wk}{sts:List Nat}(hW:WkOk W):∀x∈ldS W sts,0<=x:=Dp _ _ (fun z hz=>by have:=(hW.tk z.1 (YZ hz).1).lo;omega) fun x hx=>by rw[(List.mem_replicate.mp hx).2];exact Int.le_refl 0
theorem Ii {W:Wk}{sts:List Nat}(hl:sts.length=W.tasks.length) (h:∀s∈sts,s<W.row.length):(ldS W sts).sum=(W.tasks.map (·.2.1)).sum:=by
 unfold ldS;rw[xg _ _ fun z hz=>by rw[WX];exact h _ (YZ hz).2,Dq];have e:(W.tasks.zip sts).map (·.1.2.1)=W.tasks.map (·.2.1):=by have:=List.map_fst_zip (l₁:=W.tasks) (l₂:=sts) (by omega);have e2:=WK (List.map (·.2.1)) this;rw[WN] at e2;exact e2
 rw[e];omega
theorem Ij {W:Wk}(hW:WkOk W):1<=(W.tasks.map (·.2.1)).sum:=by
 have h1:=hW.t1;have ht:=hW.tk;cases e:W.tasks with
 |nil=>rw[e] at h1;exact absurd h1 (by decide)
 |cons t r =>
 rw[e] at ht;rw[I_,XH];have h2:=(ht t k_).lo;have h3:∀l:List (Str × Int × List Str),(∀u∈l,tkOk u)->0<=(l.map (·.2.1)).sum:=fun l=>by
  induction l with
  |nil=>intro _;exact Int.le_refl _
  |cons u l ih =>
  intro hu;rw[I_,XH];have:=ih fun v hv=>hu v (t_ _ hv);have:=(hu u k_).lo;omega
 have:=h3 r fun u hu=>ht u (t_ _ hu);omega
def U6:Sp3:=fun ts H Q=>∃(c:Int) (W:Wk) (q:Addr) (sts:List Nat),ts=[.int c,W.enc,.ref q]/\WkOk W/\H q=some (.lst (sts.map fun (s:Nat)=>T.int (s:Int)))/\sts.length=W.tasks.length/\(∀s∈sts,s<W.row.length)/\∀n:Int,0<=n->Q (.int n) H
def U7:Sp3:=fun ts H Q=>∃(a:Addr) (sc:List Int) (most wide:Int),ts=[.ref a,.int most,.int wide]/\H a=some (.rol (sc.map T.int))/\sc.length<=63/\1<=most/\most<=8/\1<=wide/\wide<=8/\∀(W:Wk) (sts:List Nat) (beat c:Int),WkOk W->(W.tasks.length:Int)<=most->(W.row.length:Int)<=wide->Fit W sts->0<=beat->∀p,H p=none->Q (.tup [W.enc,.ref p,.int beat,.int c]) (up3 H p (.lst (sts.map fun (s:Nat)=>T.int (s:Int))))
def fS:List Str->List Nat->Str->Nat
 |x::r,s::q,n=>if x=n then s else fS r q n
 |_,_,_=>0
theorem Dr:∀{ns:List Str}{sts:List Nat}{i:Nat}{n:Str},ns.Nodup->sts.length=ns.length->ns[i]?=some n->fS ns sts n=sts.getD i 0
 |[],_,_,_,_,_,e=>by simp at e
 |x::r,[],_,_,_,hl,_=>by cases hl
 |x::r,s::q,0,n,_,_,e=>by
  rw[Xn,Zt] at e
  unfold fS
  rw[if_pos e]
  rfl
 |x::r,s::q,i+1,n,h,hl,e=>by
  rw[Xm] at e
  rw[W8] at h
  unfold fS
  rw[if_neg fun z=>h.1 (by rw[z];exact Q_ e),Dr h.2 (Nat.succ.inj hl) e]
  simp
theorem Ds {m:Nat}{n:Str}(hm:0<m):∀{ns:List Str}{sts:List Nat},(∀s∈sts,s<m)->fS ns sts n<m
 |[],_,_=>hm
 |_::_,[],_=>hm
 |x::r,s::q,h=>by
  unfold fS
  split
  ·
   exact h s k_
  ·
   exact Ds hm fun y hy=>h y (t_ _ hy)
theorem Dt {f:Str->Nat}{n:Nat}:∀(zs:List ((Str × Int × List Str) × Nat)) (B:List (Str × Int × List Str)),(∀z∈zs,f z.1.1=z.2/\z.2<n)->zs.foldl ldZ ((List.range n).map (ldF B f))=(List.range n).map (ldF (B++zs.map (·.1)) f)
 |[],B,_=>by rw[Xy,WD];rfl
 |z::r,B,h=>by
  obtain⟨e,hl⟩:=h z k_
  have q:ldZ ((List.range n).map (ldF B f)) z=(List.range n).map (ldF (B++[z.1]) f):=by
   have g:((List.range n).map (ldF B f)).getD (f z.1.1) 0=ldF B f (f z.1.1):=by
    rw[d_,o_,Wv (by omega)]
    rfl
   unfold ldZ
   rw[<- e,g]
   exact wY (by omega)
  rw[Zf,q,Dt r _ fun y hy=>h y (t_ _ hy),WW]
  rfl
theorem Ik {W:Wk}{sts:List Nat}(hW:WkOk W) (F:Fit W sts):ldS W sts=lds W (fS (nm W) sts) W.row.length:=by
 have e0:List.replicate W.row.length (0:Int)=(List.range W.row.length).map (ldF [] (fS (nm W) sts)):=by
  apply Yd;intro i;by_cases hi:i<W.row.length
  ·rw[Yc,if_pos hi,o_,Wv hi];rfl
  rw[J_ (by rw[WX];omega),J_ (by rw[h_,A_];omega)]
 unfold ldS;rw[e0,Dt _ _ fun z hz=>?_]
 ·unfold lds;rw[Yj,List.map_fst_zip (by rw[F.l];exact j_ _)]
 obtain⟨i,hi⟩:=W5 hz;obtain⟨h1,h2⟩:=List.getElem?_zip_eq_some.mp hi;refine⟨?_,F.lt _ (Q_ h2)⟩;rw[Dr (ns:=nm W) (i:=i) hW.nd (by rw[cJ];exact F.l) (by unfold nm;rw[o_,h1];rfl),d_,h2];rfl
theorem Fit.hol {W:Wk}{sts:List Nat}(hW:WkOk W) (F:Fit W sts):Hol W (fS (nm W) sts):=by
 have a:∀{i:Nat} {n:Str},(nm W)[i]?=some n->fS (nm W) sts n=sts.getD i 0:=fun e=>Dr hW.nd (by rw[cJ];exact F.l) e;refine⟨fun o ho=>?_,fun p hp=>?_,fun t ht=>?_⟩
 ·obtain⟨i,j,_,e1,e2,h⟩:=F.lk.oo o ho;rw[a e1,a e2];exact h
 ·obtain⟨i,j,_,e1,e2,h⟩:=F.lk.pp p hp;rw[a e1,a e2];rcases h with ⟨h1,h2⟩ | ⟨h1,h2⟩
  ·exact⟨fun _=>h1,fun _=>h2⟩
  exact⟨fun z=>absurd z h2,fun z=>by rw[h1] at z;exact absurd z (by decide)⟩
 obtain⟨i,hi⟩:=W5 ht;rw[a (i:=i) (by unfold nm;rw[o_,hi];rfl)];unfold gR;rcases F.kd i t hi with h | h
 ·rw[h];rfl
 rw[L_ h,Bool.or_true]
theorem Fit.way {W:Wk}{sts:List Nat}{beat:Int}(hW:WkOk W) (F:Fit W sts) (hb:∀l∈ldS W sts,l<=beat):∃v,cV (top2 W - 1) (wys W beat W.row.length)=some v:=by
 have hf:∀n,fS (nm W) sts n<W.row.length:=fun n=>Ds hW.r1 F.lt;have ok:Dok W (dealt (nm W) (fS (nm W) sts) W.row.length):=iw hW (List.Perm.refl _) (j_ _) hf;refine YD.mp ((wZ hW (j_ _)).mpr ⟨_,Frw.ofD hW ok (sI hW (j_ _) hf (F.hol hW) (by rw[<- Ik hW F];exact hb)),by rw[h_,jE]⟩)
theorem oG {W:Wk}{beat:Int}{m:Nat}{v:List Nat}(hW:WkOk W) (hm:m<=W.row.length) (h:cV (top2 W - 1) (wys W beat m)=some v):Dok W (v.map (pk W))/\Rgt W beat (v.map (pk W)) (fD (v.map (pk W)))/\(v.map (pk W)).length=m/\∀s∈v.map (pk W),(nm W).filter (fun n=>decide (n∈s))=s:=by
 obtain⟨r,hl⟩:=(wtb hW hm).ok _ (fX h);obtain⟨ok,F⟩:=r.dok hW;refine⟨ok,(rZ hW ok).mpr F,by rw[h_];exact hl,fun s hs=>?_⟩;obtain⟨i,hi,rfl⟩:=z_.mp hs;rw[<- J3 hW,dW hW ((r.ok hW).2.2.2.2 i hi)]
theorem Qi {W:Wk}{r:List Str}(hW:WkOk W) (hl:r.length=W.row.length) (hm:∀x∈r,x∈W.row):WkOk ⟨W.tasks,W.orders,W.pairs,r⟩ :=
 ⟨hW.t1,hW.t8,hW.tk,hW.nd,hW.os,hW.od,hW.oo,hW.ps,hW.pd,hW.pp,by show 1<=r.length;rw[hl];exact hW.r1,by show r.length<=8;rw[hl];exact hW.r8,fun x hx=>hW.rn x (hm x hx)⟩
def U8:Sp3:=fun ts H Q=>∃(W:Wk) (c:Int),ts=[W.enc,.int c]/\WkOk W/\∀r:List Str,r.length=W.row.length->(∀x∈r,x∈W.row)->Q (Wk.enc ⟨W.tasks,W.orders,W.pairs,r⟩) H
theorem jc:∀{ns:List Str}{sts:List Nat}{i:Nat}{n:Str},ns.Nodup->i<sts.length->ns[i]?=some n->fS ns sts n=sts.getD i 0
 |[],_,_,_,_,_,e=>by simp at e
 |x::r,[],_,_,_,hl,_=>by cases hl
 |x::r,s::q,0,n,_,_,e=>by
  rw[Xn,Zt] at e
  unfold fS
  rw[if_pos e]
  rfl
 |x::r,s::q,i+1,n,h,hl,e=>by
  rw[Xm] at e
  rw[W8] at h
  unfold fS
  rw[if_neg fun z=>h.1 (by rw[z];exact Q_ e),jc h.2 (Nat.lt_of_succ_lt_succ hl) e]
  simp
structure Mym (W:Wk) (beat:Int) (ps:List Nat) (j:Nat):Prop where
 kin:∀t,W.tasks[ps.length]?=some t->gR t.2.2 (W.row.getD j "")=true
 ld:ldF (W.tasks.take (ps.length+1)) (fS (nm W) (ps++[j])) j<=beat
 ord:∀o∈W.orders,o.1∈(nm W).take (ps.length+1)->o.2∈(nm W).take (ps.length+1)->fS (nm W) (ps++[j]) o.1<=fS (nm W) (ps++[j]) o.2
 pai:∀p∈W.pairs,p.2.1∈(nm W).take (ps.length+1)->p.2.2∈(nm W).take (ps.length+1)->(fS (nm W) (ps++[j]) p.2.1=fS (nm W) (ps++[j]) p.2.2↔p.1="with")
def Way (W:Wk) (beat:Int) (many:Nat) (ps:List Nat):Prop:=∃qs:List Nat,ps.length+qs.length=W.tasks.length/\(∀s∈qs,s<many)/\∀i,i<qs.length->Mym W beat (ps++qs.take i) (qs.getD i 0)
theorem Du {W:Wk}{beat:Int}{many:Nat}{ps:List Nat}(h:ps.length=W.tasks.length):Way W beat many ps:=⟨[],h,(fun _ h=>nomatch h),fun i hi=>absurd hi (Nat.not_lt_zero _)⟩
theorem Dv {W:Wk}{beat:Int}{many:Nat}{ps:List Nat}(h:ps.length<W.tasks.length):Way W beat many ps↔∃j,j<many/\Mym W beat ps j/\Way W beat many (ps++[j]):=by
 constructor
 ·rintro⟨qs,hl,hm,hs⟩;cases qs with
  |nil=>simp at hl;omega
  |cons j qs =>
  refine⟨j,hm j k_,by simpa using hs 0 (by simp),qs,by simp at hl ⊢;omega,fun s hq=>hm s (t_ _ hq),fun i hi=>?_⟩;have:=hs (i+1) (by simp;exact hi);rw[WW];simpa using this
 rintro⟨j,hj,hM,qs,hl,hm,hs⟩;refine⟨j::qs,by simp at hl ⊢;omega,fun s hq=>?_,fun i hi=>?_⟩
 ·rcases n_.mp hq with rfl | hq
  ·exact hj
  exact hm s hq
 cases i with
 |zero=>simpa using hM
 |succ i =>
  have:=hs i (by simpa using hi)
  rw[WW] at this
  simpa using this
theorem lX {α:Type}{xs:List α}{c:Nat}{x:α}(h:x∈xs.take c):∃i,i<c/\xs[i]?=some x:=by
 obtain⟨i,hi⟩:=W5 h;rw[Zj] at hi;split at hi
 ·exact⟨i,by assumption,hi⟩
 cases hi
theorem Il {W:Wk}(hW:WkOk W) {qs:List Nat}{c:Nat}{n:Str}(hc:c<=qs.length) (h:n∈(nm W).take c):fS (nm W) (qs.take c) n=fS (nm W) qs n:=by
 obtain⟨i,hi,e⟩:=lX h;rw[jc (ns:=nm W) hW.nd (by rw[Xd];omega) e,jc (ns:=nm W) hW.nd (by omega) e,d_,d_,Zj,if_pos hi]
theorem take_snoc {qs:List Nat}{i:Nat}(h:i<qs.length):qs.take i++[qs.getD i 0]=qs.take (i+1):=by
 rw[d_,a_ h,W6 h];rfl
theorem Im (W:Wk) (c:Nat):(nm W).take c=(W.tasks.take c).map (·.1):=List.map_take.symm
theorem gZ {W:Wk}{i:Nat}{t:Str × Int × List Str}(h:W.tasks[i]?=some t):(nm W)[i]?=some t.1:=by unfold nm;rw[o_,h];rfl
theorem xj {W:Wk}{beat:Int}(hW:WkOk W) {qs:List Nat}{i:Nat}{t:Str × Int × List Str}(h:i<qs.length) (hl:qs.length=W.tasks.length) (ht:W.tasks[i]?=some t) {f:Str->Nat}(hf:∀n∈nm W,f n=fS (nm W) qs n) :
  Mym W beat (qs.take i) (qs.getD i 0)↔gR t.2.2 (W.row.getD (f t.1) "")=true/\ldF (W.tasks.take (i+1)) f (f t.1)<=beat/\(∀o∈W.orders,o.1∈(nm W).take (i+1)->o.2∈(nm W).take (i+1)->f o.1<=f o.2)/\∀p∈W.pairs,p.2.1∈(nm W).take (i+1)->p.2.2∈(nm W).take (i+1)->(f p.2.1=f p.2.2↔p.1="with"):=by
 have e1:(qs.take i).length=i:=by rw[Xd];omega
 have e2:fS (nm W) qs t.1=qs.getD i 0:=jc hW.nd h (gZ ht);have e3:f t.1=qs.getD i 0:=by rw[hf t.1 (Q_ (gZ ht)),e2]
 have e4:∀n∈(nm W).take (i+1),fS (nm W) (qs.take (i+1)) n=f n:=fun n hn=>by rw[Il hW h hn,hf n (List.mem_of_mem_take hn)]
 have e5:ldF (W.tasks.take (i+1)) (fS (nm W) (qs.take (i+1))) (f t.1)=ldF (W.tasks.take (i+1)) f (f t.1):=oF (fun u hu=>e4 u.1 (by rw[Im];exact z_.mpr ⟨u,hu,rfl⟩)) _;constructor
 ·intro m;have h1:=m.kin t (by rw[e1];exact ht);have h2:=m.ld;have h3:=m.ord;have h4:=m.pai;rw[take_snoc h,e1] at h2 h3 h4;rw[<- e3,e5] at h2;refine⟨by rw[e3];exact h1,h2,fun o ho a b=>?_,fun p hp a b=>?_⟩
  ·rw[<- e4 _ a,<- e4 _ b];exact h3 o ho a b
  rw[<- e4 _ a,<- e4 _ b];exact h4 p hp a b
 rintro⟨h1,h2,h3,h4⟩;refine⟨fun u hu=>?_,?_,fun o ho=>?_,fun p hp=>?_⟩
 ·rw[e1,ht] at hu;cases hu;rw[<- e3];exact h1
 ·rw[take_snoc h,e1,<- e3,e5];exact h2
 ·rw[take_snoc h,e1];intro a b;rw[e4 _ a,e4 _ b];exact h3 o ho a b
 rw[take_snoc h,e1];intro a b;rw[e4 _ a,e4 _ b];exact h4 p hp a b
theorem Qj {W:Wk}(hW:WkOk W) {f:Str->Nat}{k:Nat}:∀{B:List (Str × Int × List Str)},(∀t∈B,t∈W.tasks)->0<=ldF B f k:=by
 intro B;induction B with
 |nil=>intro _;exact Int.le_refl 0
 |cons t r ih =>
 intro h;have i:=ih fun u hu=>h u (t_ _ hu);have h0:=(hW.tk t (h t k_)).lo;unfold ldF at i ⊢;rw[Xq];split
 ·rw[I_,XH];omega
 exact i
theorem Dw {W:Wk}(hW:WkOk W) {f:Str->Nat}{k c:Nat}:ldF (W.tasks.take c) f k<=ldF W.tasks f k:=by
 have e:ldF W.tasks f k=ldF (W.tasks.take c) f k+ldF (W.tasks.drop c) f k:=by unfold ldF;rw[<- List.sum_append,<- B_,<- Xo,List.take_append_drop]
 have:=Qj hW (f:=f) (k:=k) (B:=W.tasks.drop c) fun t ht=>List.mem_of_mem_drop ht;omega
theorem Io {W:Wk}{beat:Int}{many:Nat}(hW:WkOk W) (hb:0<=beat):Way W beat many []↔∃f:Str->Nat,(∀n,f n<many)/\Hol W f/\∀l∈lds W f many,l<=beat:=by
 have t1:=hW.t1;constructor
 ·rintro⟨qs,hl,hm,hs⟩;rw[W3,Nat.zero_add] at hl;have m1:0<many:=Ys (WR _) (hm (qs[0]'(by omega)) (W4 _));have st:∀i t,W.tasks[i]?=some t->_:=fun i t ht=>by
   have hi:i<qs.length:=by
    rcases YB i W.tasks.length with z | z
    ·omega
    rw[J_ z] at ht;cases ht
   have:=hs i hi;rw[Yj] at this;exact (xj hW hi hl ht (f:=fS (nm W) qs) fun _ _=>rfl).mp this
  have ht:∃t,W.tasks[W.tasks.length - 1]?=some t:=⟨_,a_ (by omega)⟩;obtain⟨tl,htl⟩:=ht;have last:=st _ _ htl;rw[show W.tasks.length - 1+1=W.tasks.length by omega,YW (show (nm W).length<=W.tasks.length by rw[cJ];exact j_ _)] at last;refine⟨fS (nm W) qs,fun n=>Ds m1 hm,⟨fun o ho=>?_,fun p hp=>?_,fun t ht=>?_⟩,fun l hl2=>?_⟩
  ·exact last.2.2.1 o ho (hW.oo o ho).2.1 (hW.oo o ho).2.2
  ·exact last.2.2.2 p hp (hW.pp p hp).2.2.1 (hW.pp p hp).2.2.2
  ·obtain⟨i,hi⟩:=W5 ht;exact (st i t hi).1
  obtain⟨k,hk,rfl⟩:=z_.mp hl2;have go:∀c,c<=W.tasks.length->ldF (W.tasks.take c) (fS (nm W) qs) k<=beat:=fun c=>by
   induction c with
   |zero=>intro _;exact hb
   |succ c ih =>
   intro hc;have ht:=a_ (show c<W.tasks.length by omega);have s:=st c _ ht;by_cases e:fS (nm W) qs (W.tasks[c]'(by omega)).1=k
   ·rw[<- e];exact s.2.1
   rw[W6 (show c<W.tasks.length by omega),gY,if_neg e,Int.add_zero];exact ih (by omega)
  have:=go W.tasks.length (j_ _)
  rwa [List.take_length] at this
 rintro⟨f,hf,h,hld⟩;have hql:((nm W).map f).length=W.tasks.length:=by rw[h_,cJ]
 have hfS:∀n∈nm W,f n=fS (nm W) ((nm W).map f) n:=fun n hn=>by
  obtain⟨i,hi⟩:=W5 hn;have hil:i<(nm W).length:=by
   rcases YB i (nm W).length with z | z
   ·exact z
   rw[J_ z] at hi;cases hi
  rw[jc (ns:=nm W) hW.nd (by rw[h_];exact hil) hi,d_,o_,hi];rfl
 refine⟨(nm W).map f,by rw[W3,Nat.zero_add];exact hql,fun s hs=>?_,fun i hi=>?_⟩
 ·obtain⟨n,_,rfl⟩:=z_.mp hs;exact hf n
 rw[Yj];have hi':i<W.tasks.length:=by omega
 have ht:=a_ hi';rw[xj hW hi hql ht (f:=f) hfS];refine⟨h.kin _ (W4 _),Int.le_trans (Dw hW) (hld _ (z_.mpr ⟨_,Wu.mpr (hf _),rfl⟩)),fun o ho _ _=>h.ord o ho,fun p hp _ _=>h.pai p hp⟩
theorem Ip {W:Wk}{beat:Int}{m:Nat}(hW:WkOk W) (hm:m<=W.row.length):(∃v,cV (top2 W - 1) (wys W beat m)=some v)↔∃f:Str->Nat,(∀n,f n<m)/\Hol W f/\∀l∈lds W f m,l<=beat:=by
 constructor
 ·rintro⟨v,hv⟩;obtain⟨ok,R,hl,_⟩:=oG hW hm hv;obtain⟨t,ht⟩:∃t,t∈W.tasks:=List.exists_mem_of_length_pos (by have:=hW.t1;omega);have m1:0<m:=by have:=ok.lt (n:=t.1) (z_.mpr ⟨t,ht,rfl⟩);omega
  refine⟨fun n=>if n∈nm W then fD (v.map (pk W)) n else 0,fun n=>?_,?_,?_⟩
  ·show (if n∈nm W then fD (v.map (pk W)) n else 0)<m;split
   ·rw[<- hl];exact ok.lt (by assumption)
   exact m1
  ·exact Hol.congr (f:=fD (v.map (pk W))) hW ⟨R.ord,R.pai,fun t ht=>R.kd ok ht⟩ fun n hn=>by rw[if_pos hn]
  rw[yJ (g:=fD (v.map (pk W))) (fun n hn=>by rw[if_pos hn]) m];have:=R.lds ok
  rwa [hl] at this
 rintro⟨f,hf,h,hb⟩;have ok:Dok W (dealt (nm W) f m):=iw hW (List.Perm.refl _) hm hf;exact YD.mp ((wZ hW hm).mpr ⟨_,Frw.ofD hW ok (sI hW hm hf h hb),by rw[h_,jE]⟩)
def ni (s:Nat):T:=.int (s:Int)
theorem Qk (g:lu) (W:Wk) (Z:St3) (H:Hp3) (Q:St3->Hp3->Prop):vP 4 g W.enc Z H Q=(True/\g [.tup (W.tasks.map tkT),.tup (W.orders.map orT),.tup (W.pairs.map prT),.tup (W.row.map T.str)] Z H Q):=propext ⟨fun h=>⟨trivial,h.2⟩,fun h=>⟨rfl,h.2⟩⟩
theorem sO {ns:List Str}{f g:Str->Nat}(h:∀n∈ns,f n=g n):dN ns f=dN ns g:=Xv fun n hn=>by rw[h n hn]
theorem U9 {ps:List Nat}{i:Nat}(h:i<ps.length):atI (ps.map ni) (i:Int)=some (.int ((ps.getD i 0:Nat):Int)):=bN (by rw[o_,d_,a_ h];rfl)
theorem J6 {W:Wk}{i:Nat}{t:Str × Int × List Str}(h:W.tasks[i]?=some t):atI (W.tasks.map tkT) (i:Int)=some (tkT t):=bN (by rw[o_,h];rfl)
def Dy:Nat->Sp3
 |0=>fun _ _ _=>False
 |m+1=>fun ts H Q=>∃(W:Wk) (beat:Int) (many:Nat) (q:Addr) (ps:List Nat),ts=[W.enc,.int beat,.int (many:Int),.ref q]/\WkOk W/\many<=W.row.length/\H q=some (.lst (ps.map ni))/\ps.length<=W.tasks.length/\W.tasks.length<=ps.length+m/\∀b:Bool,(b=true↔Way W beat many ps)->Q (.bl b) H
theorem qe {m:Nat}{W:Wk}{beat:Int}{many:Nat}{q:Addr}{ps:List Nat}{H:Hp3}{Q:VK3}(h1:WkOk W) (h2:many<=W.row.length) (h3:H q=some (.lst (ps.map ni))) (h4:ps.length<=W.tasks.length) (h5:W.tasks.length<=ps.length+m) (h:∀b:Bool,(b=true↔Way W beat many ps)->Q (.bl b) H):Dy (m+1) [W.enc,.int beat,.int (many:Int),.ref q] H Q:=⟨W,beat,many,q,ps,rfl,h1,h2,h3,h4,h5,h⟩
def Va:Sp3:=fun ts H Q=>∃(W:Wk) (beat:Int) (q:Addr) (ps:List Nat) (j:Nat),ts=[W.enc,.int beat,.ref q,.int (j:Int)]/\WkOk W/\H q=some (.lst (ps.map ni))/\ps.length<W.tasks.length/\j<W.row.length/\∀b:Bool,(b=true↔Mym W beat ps j)->Q (.bl b) H
def wyT (v:List Nat):T:=.tup (v.map bz)
def wyE (e:Nat × List Nat):T:=.tup [.int (e.1:Int),wyT e.2]
theorem Vb (E:Wy):(dI wyT E).map itT=E.map wyE:=by unfold dI;rw[WN];rfl
def wbF (W:Wk) (beat:Int) (k:Nat) (B:Wy) (e:Nat × List Nat):Wy:=(gfl W beat k e.1).foldl (iz e.1 e.2) B
def Vc:Sp3:=fun ts H Q=>∃(a:Addr) (fs:List Nat),ts=[.ref a]/\H a=some (.lst (fs.map bz))/\fs.length<=256/\∀p,H p=none->Q (.ref p) (up3 H p (.lst ((gre bC fs).reverse.map bz)))
theorem qg {α:Type}(has:α->α->Bool):∀xs:List α,(gre has xs).length<=xs.length
 |[]=>j_ _
 |n::B=>by
  have:=qg has B
  unfold gre
  split
  ·
   rw[l_];omega
  ·
   rw[g_,l_];simp only[l_,W3];omega
def Vd (C:Addr):Sp3:=fun ts H Q=>∃(a:Addr) (W:Wk) (beat:Int) (k d:Nat),ts=[.ref a,.int (k:Int),.int (d:Int)]/\WkOk W/\Wlk C W beat H a/\k<W.row.length/\d<top2 W/\∀p,H p=none->Q (.ref p) (up3 H p (.lst ((gfl W beat k d).map bz)))
def Ve (C:Addr):Sp3:=fun ts H Q=>∃(a q:Addr) (W:Wk) (beat:Int) (k n:Nat) (E:Wy),ts=[.ref a,.int (k:Int),.ref q]/\WkOk W/\Wlk C W beat H a/\k<W.row.length/\n<=8/\WOk W n E/\H q=some (.dci (dI wyT E))/\∀o p,H p=none->Q (.ref p) (up3 (up3 H q (.dif o (dI wyT E))) p (.dci (dI wyT (wbh W beat k E))))
def dtT (W:Wk) (beat:Int) (m:Nat):T:=match cV (top2 W - 1) (wys W beat m) with
 |none=>.non
 |some v=>.tup ((v.map (pk W)).map sT)
def Vf:Sp3:=fun ts H Q=>∃(W:Wk) (beat:Int) (m:Nat),ts=[W.enc,.int beat,.int (m:Int)]/\WkOk W/\m<=W.row.length/\Q (dtT W beat m) H
section
variable {P:Program}{w:World}{K:Frag}{mg:Str->Option Value}{base:Heap}
theorem Vg (n:Bool) (H:Hp3) (Q:VK3):qU n .non .non H Q=Q (.bl (if n then false else true)) H:=rfl
def Vh:Sp3:=fun ts H Q=>∃(W:Wk) (beat:Int) (m:Nat),ts=[W.enc,.int beat,.int (m:Int)]/\WkOk W/\0<=beat/\m<=W.row.length/\Q (.bl true) H
theorem Ir (gs:List (List Str)):(gs.map sT).all (pl 20)=true:=by
 rw[Xe];intro t ht;obtain⟨x,_,rfl⟩:=z_.mp ht;show (x.map T.str).all (pl 19)=true;rw[Xe];intro t ht;obtain⟨x,_,rfl⟩:=z_.mp ht;rfl
abbrev gJ:List Str:=["_law_works_here","_law_beat_here","_law_many","_law_found"]
theorem sc_told_right:FnScope gJ ["_law_works_here","_law_beat_here","_law_many"] (aB (top 45)):=bj
theorem mO {f:Addr}{fd:FuncData}(g:G3 K mg "_law_told_right" (top 45) ["_law_works_here","_law_beat_here","_law_many"] f fd) (B:Bl mg) (F_dealing_to:Cal P w K mg base 7 "dealing_to" (top 28) ["works","beat","many"] Vf) (F_some:Cal P w K mg base 10 "_law_some" (top 44) ["_law_works_here","_law_beat_here","_law_many","_law_places"] (Dy 9)) (F_is_dealing:Cal P w K mg base 2 "_law_is_dealing" (top 42) gJ UJ):Cal P w K mg base 11 "_law_told_right" (top 45) ["_law_works_here","_law_beat_here","_law_many"] Vh:=by
 refine⟨f,fd,g,?_⟩;refine fn3 g.fn sc_told_right (fun ts H Q h=>?_) (fun cdv A outer s H E ts H3 Q hr h=>?_)
 ·obtain⟨W,beat,m,rfl,_⟩:=h;rfl
 have hu30:=Room.u30 hr;obtain⟨W,beat,m,rfl,hW,hb,hm,kk⟩:=h;refine⟨_,(aj (aG (i:=3) sc_told_right.nd (aQ F_dealing_to hr rfl (aa (v3 0) (aa (v3 1) (aa (v3 2) ak)))))
   (aj (bu (aV (iG hu30) (aQ F_dealing_to hr rfl (aa (v3 0) (aa (v3 1) (aa (v3 2) ak)))) (v3 3)) (au (aK cz)) aP)
   (aj (bu (gC (cR (aQ F_some hr rfl (aa (v3 0) (aa (v3 1) (aa (v3 2) (aa (bf ak) ak))))))) (au (aK (dR TX (v3 3) zA))) aP)
   (au (aK (aQ F_is_dealing hr rfl (aa (v3 0) (aa (v3 1) (aa (v3 2) (aa (v3 3) ak)))))))))),?_⟩
 rw[show aR gJ [W.enc,T.int beat,T.int (m:Int)]=[some (W.enc),some (T.int beat),some (T.int (m:Int)),none] from rfl];have hsz:sizeLine=16777216:=rfl;have k':=Box.mk kk;clear kk;have t8:=hW.t8;have hway:=Box.mk ((Io (beat:=beat) (many:=m) hW hb).trans (Ip hW hm).symm);have hW':=Box.mk hW;clear hW;refine aA fun R0 hR0=>?_;walk_at "";refine⟨W,beat,m,rfl,hW'.out,hm,?_⟩;dsimp only;walk_at "n";refine aA fun R1 hR1=>?_;walk_at "";refine⟨W,beat,m,rfl,hW'.out,hm,?_⟩;unfold dtT;cases ev:cV (top2 W - 1) (wys W beat m) with
 |none =>
  have hno:¬Way W beat m []:=fun z=>by
   obtain⟨v,hv⟩:=hway.out.mp z
   rw[ev] at hv
   cases hv
  have hno':=Box.mk hno
  clear hno ev hway
  walk_at ""
  rw[Vg]
  simp only[dM,if_true,x_,Wt]
  walk_at "n"
  refine aA fun R2 hR2=>?_
  walk_at ""
  refine⟨by decide,fun p hp=>?_⟩
  refine qe (m:=8) (ps:=[]) hW'.out hm aq (WR _) (by simp;omega) fun b hb=>?_
  cases b with
  |true=>exact absurd (hb.mp rfl) hno'.out
  |false =>
   simp only[dM,XS,if_true]
   try walk_at ""
   exact Fin3.of (Sub3.new hp) k'.out
 |some v =>
 obtain⟨q1,q2,q3,q4⟩:=oG hW'.out hm ev;have hyes:=Box.mk (hway.out.mpr ⟨v,ev⟩);have pls:=Ir (v.map (pk W));clear ev hway;walk_at "";refine⟨trivial,trivial,?_⟩;walk_at "n";refine aA fun R2 hR2=>?_;walk_at "";refine⟨by decide,fun p hp=>?_⟩;refine qe (m:=8) (ps:=[]) hW'.out hm aq (WR _) (by simp;omega) fun b hb=>?_;cases b with
 |false=>exact absurd (hb.mpr hyes.out) p_
 |true =>
 simp only[dM,XJ,x_,Wt];walk_at "n";walk_at "";exact⟨W,beat,m,v.map (pk W),rfl,hW'.out,q3,q4,q1,q2,Fin3.of (Sub3.new hp) k'.out⟩
def xm:Sp3:=fun ts H Q=>∃(a:Addr) (ns:List Int),ts=[.ref a]/\H a=some (.rol (ns.map T.int))/\ns.length<=63/\∀H',Q (.bl true) H'
abbrev J7:List Str:=["_law_script","_law_most","_law_wide","_law_works_here","_law_stands","_law_beat_here","_law_cell_here","_law_many"]
theorem sc_law:FnScope J7 ["_law_script"] (aB (top 46)):=bj
theorem Ql {f:Addr}{fd:FuncData}(g:G3 K mg "law" (top 46) ["_law_script"] f fd) (B:Bl mg) (F_cell:Cal P w K mg base 1 "_law_cell" (top 30) ["_law_script","_law_k"] Dl) (F_drawn:Cal P w K mg base 4 "_law_drawn" (top 39) ["_law_script","_law_most","_law_wide"] U7) (F_moved:Cal P w K mg base 1 "_law_moved" (top 40) ["_law_works_here","_law_cell_here"] U8) (F_told_right:Cal P w K mg base 11 "_law_told_right" (top 45) ["_law_works_here","_law_beat_here","_law_many"] Vh):FnOk3 P w K mg base 12 f fd ["_law_script"] xm:=by
 refine fn3 g.fn sc_law (fun ts H Q h=>?_) (fun cdv A outer s H E ts H3 Q hr h=>?_)
 ·obtain⟨a,ns,rfl,_⟩:=h;rfl
 have hu30:=Room.u30 hr;obtain⟨a,ns,rfl,ha,h63,k⟩:=h;refine⟨_,(aj (gO (aL ix3 (bf (aa (bG (aa ao (aa ao ak))) (aa (bG (aa ao (aa ao ak))) ak))) (bI wu rfl B.int_ z6 (aa (dR (cP hu30) (aF aU (aQ F_cell hr rfl (aa (v3 0) (aa ao ak))) ao) ao) ak))) (bW (n:=2) rfl (aH (aC (i:=1) sc_law.nd) (aH (aC (i:=2) sc_law.nd) bA))))
   (aj (gO (aQ F_drawn hr rfl (aa (v3 0) (aa (v3 1) (aa (v3 2) ak)))) (bW (n:=4) rfl (aH (aC (i:=3) sc_law.nd) (aH (aC (i:=4) sc_law.nd) (aH (aC (i:=5) sc_law.nd) (aH (aC (i:=6) sc_law.nd) bA))))))
   (aj (aG (i:=3) sc_law.nd (aQ F_moved hr rfl (aa (v3 3) (aa (aF aZ (v3 6) ao) ak))))
   (aj (bh H_ rfl (cL (bf (aa ao (aa (aM bO rfl B.len_ bQ (aa (aL ix3 (v3 3) ao) ak)) (aa (aF aU (v3 6) (aF aY (aM bO rfl B.len_ bQ (aa (aL ix3 (v3 3) ao) ak)) ao)) ak))))) (aC (i:=7) sc_law.nd) (au (bu (gC (cR (aQ F_told_right hr rfl (aa (v3 3) (aa (v3 5) (aa (v3 7) ak)))))) (au (aK cz)) aP)))
   (au (aK cz)))))),?_⟩
 rw[show aR J7 [T.ref a]=[some (T.ref a),none,none,none,none,none,none,none] from rfl];have hsz:sizeLine=16777216:=rfl;have k':=Box.mk k;clear k;refine aA fun R0 hR0=>?_
 suffices key:∀(most wide:Int) (H4:Hp3),1<=most->most<=8->1<=wide->wide<=8->H4 a=some (.rol (ns.map T.int))->R0 { nx:=fun _ H'=>Fin3 Q T.non H',rt:=Fin3 Q} [some (.ref a),some (.int most),some (.int wide),none,none,none,none,none] H4 by
  have key':=Box.mk key;clear key hR0 k';walk_at "";refine⟨by decide,by decide,by decide,fun p hp=>?_⟩;have ga:up3 H3 p (.lst [T.tup [T.int 5,T.int 4],T.tup [T.int 8,T.int 2]]) a=_ := upa ha hp;have gp:up3 H3 p (.lst [T.tup [T.int 5,T.int 4],T.tup [T.int 8,T.int 2]]) p=some (.lst [T.tup [T.int 5,T.int 4],T.tup [T.int 8,T.int 2]]):=aq;generalize up3 H3 p (.lst [T.tup [T.int 5,T.int 4],T.tup [T.int 8,T.int 2]])=H4 at ga gp ⊢;refine⟨a,ns,16,rfl,ga,h63,by decide,fun c0=>?_⟩;have a0:atI [T.tup [T.int 5,T.int 4],T.tup [T.int 8,T.int 2]] 0=some (T.tup [T.int 5,T.int 4]):=rfl;have a1:atI [T.tup [T.int 5,T.int 4],T.tup [T.int 8,T.int 2]] 1=some (T.tup [T.int 8,T.int 2]):=rfl;have k1:=Box.mk (key'.out 5 4 H4 (by decide) (by decide) (by decide) (by decide) ga);have k2:=Box.mk (key'.out 8 2 H4 (by decide) (by decide) (by decide) (by decide) ga);clear key';try dsimp only
  by_cases c1:c0%4=1
  ·have d1:decide (c0%4=1)=true:=L_ c1;walk_at "";exact⟨by decide,trivial,k2.out⟩
  have d1:decide (c0%4=1)=false:=E_ c1;walk_at "";exact⟨by decide,trivial,k1.out⟩
 intro most wide H4 m1 m8 w1 w8 ha4;clear ha;walk_at "n";refine aA fun R1 hR1=>?_;walk_at "";refine⟨a,ns,most,wide,rfl,ha4,h63,m1,m8,w1,w8,fun W sts beat c hW _ _ hf hb p hp=>?_⟩;have r8:=hW.r8;have r1:=hW.r1;have hW':=Box.mk hW;try walk_at ""
 generalize up3 H4 p (.lst (sts.map fun (s:Nat)=>T.int (s:Int)))=H5;clear hW hf hp ha4 h63;refine⟨trivial,?_⟩;walk_at "n";refine aA fun R2 hR2=>?_;walk_at "";refine⟨by first | trivial | exact⟨by decide,by decide +kernel⟩,W,c / 16,rfl,hW'.out,fun r hr1 hr2=>?_⟩;have hV:=Box.mk (Qi hW'.out hr1 hr2);try dsimp only
 walk_at "n";refine aA fun R3 hR3=>?_;have cm0:=R_ c (show ((W.row.length:Int)+1)≠0 by omega);have cm1:=M_ c (show (0:Int)<(W.row.length:Int)+1 by omega);obtain⟨j,hj⟩:∃j:Nat,c%((W.row.length:Int)+1)=(j:Int):=⟨(c%((W.row.length:Int)+1)).toNat,by omega⟩;walk_at "";refine⟨by omega,by decide,fun p1 hp1=>?_⟩;have eL:[T.int 0,T.int (W.row.length:Int),T.int (j:Int)]=([0,W.row.length,j]:List Nat).map ni:=rfl;try rw[hj]
 rw[eL];have hL:∀z∈([0,W.row.length,j]:List Nat),z<=r.length:=fun z hz=>by simp only[n_,P_,Xk] at hz;rcases hz with rfl | rfl | rfl <;> omega
 generalize ([0,W.row.length,j]:List Nat)=L at hL ⊢;have hL':=Box.mk hL;have gL:up3 H5 p1 (.lst (L.map ni)) p1=some (.lst (L.map ni)):=aq;generalize up3 H5 p1 (.lst (L.map ni))=H6 at gL ⊢;clear eL hL cm0 cm1 hj hp1;refine aW ni L (fun A Z H=>∃(v7:Option T),Z=[some (.ref a),some (.int most),some (.int wide),some (Wk.enc ⟨W.tasks,W.orders,W.pairs,r⟩),some (.ref p),some (.int beat),some (.int c),v7]/\H=H6) ⟨_,rfl,rfl⟩ ?_ ?_
 ·rintro Z H ⟨v7,rfl,rfl⟩;refine⟨.inl gL,?_⟩;walk_at "n";walk_at "";exact Fin3.of Sub3.refl (k'.out _)
 rintro A m B Z H N e ⟨v7,rfl,rfl⟩ hN;refine⟨.inl gL,?_⟩;have hm:m<=r.length:=hL'.out m (by rw[e];simp);have hN':Box (N [some (.ref a),some (.int most),some (.int wide),some (Wk.enc ⟨W.tasks,W.orders,W.pairs,r⟩),some (.ref p),some (.int beat),some (.int c),some (.int (m:Int))] H):=⟨hN _ _ ⟨_,rfl,rfl⟩⟩;clear hN e k' hR3 hL';simp only[ni];walk_at "";refine⟨_,beat,m,rfl,hV.out,hb,hm,?_⟩;simp only[dM,XJ,x_,Wt];exact hN'.out
abbrev Dz:List Str:=["_law_works_here","_law_beat_here","_law_many","_law_places","_law_stand"]
theorem sc_some:FnScope Dz ["_law_works_here","_law_beat_here","_law_many","_law_places"] (aB (top 44)):=bj
theorem dZ {n m:Nat}{f:Addr}{fd:FuncData}(g:G3 K mg "_law_some" (top 44) ["_law_works_here","_law_beat_here","_law_many","_law_places"] f fd) (B:Bl mg) (F_may:Cal P w K mg base 1 "_law_may" (top 43) ["_law_works_here","_law_beat_here","_law_places","_law_stand"] Va) (F_some:Cal P w K mg base (n+1) "_law_some" (top 44) ["_law_works_here","_law_beat_here","_law_many","_law_places"] (Dy m)):Cal P w K mg base (n+2) "_law_some" (top 44) ["_law_works_here","_law_beat_here","_law_many","_law_places"] (Dy (m+1)):=by
 refine⟨f,fd,g,?_⟩;refine fn3 g.fn sc_some (fun ts H Q h=>?_) (fun cdv A outer s H E ts H3 Q hr h=>?_)
 ·obtain⟨W,beat,many,q,ps,rfl,_⟩:=h;rfl
 have hu30:=Room.u30 hr;obtain⟨W,beat,many,q,ps,rfl,hW,hmany,hq,hl1,hl2,kk⟩:=h;refine⟨_,(aj (bu (aV (cP hu30) (aM bO rfl B.len_ bQ (aa (v3 3) ak)) (aM bO rfl B.len_ bQ (aa (aL ix3 (v3 0) ao) ak))) (au (aK cz)) aP)
   (aj (bh H_ rfl (cB rfl B.range_ (aa (v3 2) ak)) (aC (i:=4) sc_some.nd) (au (bu (PW3.pt (eV (cR (aQ F_may (hr.mono (Nat.le_add_left 1 n)) rfl (aa (v3 0) (aa (v3 1) (aa (v3 3) (aa (v3 4) ak)))))) (dY (cR (Ay F_some (hr.mono (j_ _)) rfl (aa (v3 0) (aa (v3 1) (aa (v3 2) (aa (aF aY (v3 3) (bf (aa (v3 4) ak))) ak))))))))) (au (aK cz)) aP)))
   (au (aK cz)))),?_⟩
 rw[show aR Dz [W.enc,T.int beat,T.int (many:Int),T.ref q]=[some (W.enc),some (T.int beat),some (T.int (many:Int)),some (T.ref q),none] from rfl];have hsz:sizeLine=16777216:=rfl;have k':=Box.mk kk;clear kk;have t8:=hW.t8;have r8:=hW.r8;refine aA fun R0 hR0=>?_;walk_at "";by_cases c0:ps.length=W.tasks.length
 ·rw[if_pos (L_ (by rw[c0]))];exact Fin3.of Sub3.refl (k'.out true ⟨fun _=>Du c0,fun _=>rfl⟩)
 rw[if_neg (jA (by omega))];have hlt:ps.length<W.tasks.length:=by omega
 have hstep:=Box.mk (Dv (beat:=beat) (many:=many) hlt);obtain⟨m,rfl⟩:∃m',m=m'+1:=⟨m - 1,by omega⟩;have hW':=Box.mk hW;clear hW c0;walk_at "n";refine aA fun R1 hR1=>?_;walk_at "";refine⟨trivial,by omega,by omega,?_⟩;rw[oh];refine aW (fun (i:Nat)=>T.int (i:Int)) (List.range many) (fun A Z H=>∃(v4:Option T),Z=[some W.enc,some (.int beat),some (.int (many:Int)),some (.ref q),v4]/\Sub3 H3 H/\∀i,i<A.length->¬(Mym W beat ps i/\Way W beat many (ps++[i]))) ⟨_,rfl,Sub3.refl,fun i h=>absurd h (Nat.not_lt_zero _)⟩ ?_ ?_
 ·rintro Z H ⟨v4,rfl,sb,hno⟩;refine⟨trivial,?_⟩;rw[A_] at hno;walk_at "n";walk_at "";exact Fin3.of sb (k'.out false ⟨fun z=>(nomatch z),fun z=>by
   obtain⟨i,h1,h2⟩:=hstep.out.mp z
   exact absurd h2 (hno i h1)⟩)
 rintro A c B Z H N e ⟨v4,rfl,sb,hno⟩ hN;refine⟨trivial,?_⟩;have hA:A.length<many:=by have:=WK List.length e;simp only[g_,l_,A_] at this;omega
 have hc:c=A.length:=by
  have h1:(List.range many)[A.length]?=some c:=by rw[e,N_ (j_ _)];simp
  rw[Wv hA] at h1;exact (K_ h1).symm
 subst hc;have gq:=sb _ _ hq;have fN:Box (¬(Mym W beat ps A.length/\Way W beat many (ps++[A.length]))->∀H',Sub3 H3 H'->N [some W.enc,some (.int beat),some (.int (many:Int)),some (.ref q),some (.int (A.length:Int))] H'):=⟨fun z H' s'=>hN _ _ ⟨_,rfl,s',fun i hi=>by
  rw[g_,D_] at hi
  by_cases h:i<A.length
  ·
   exact hno i h
  ·
   rw[show i=A.length by omega];exact z⟩⟩
 have fT:Box (Mym W beat ps A.length/\Way W beat many (ps++[A.length])->∀H',Sub3 H3 H'->Fin3 Q (.bl true) H'):=⟨fun z H' s'=>Fin3.of s' (k'.out true ⟨fun _=>hstep.out.mpr ⟨_,hA,z⟩,fun _=>rfl⟩)⟩;clear hN e k' hR1 hno hstep;walk_at "";refine⟨W,beat,q,ps,A.length,rfl,hW'.out,gq,hlt,by omega,fun b hb=>?_⟩;cases b with
 |false=>simp only[dM,x_,Wt];exact fN.out (fun z=>p_ (hb.mpr z.1)) H sb
 |true =>
  have hb1:=hb.mp rfl
  clear hb
  try simp only[dM,if_true]
  walk_at ""
  refine⟨by decide,fun p1 hp1=>?_⟩
  rw[aD (bw gq hp1),gq,iU]
  refine⟨by rw[h_,D_];omega,fun p2 hp2=>?_⟩
  rw[show ps.map ni++[T.int (A.length:Int)]=(ps++[A.length]).map ni by rw[B_];rfl]
  have sb2:Sub3 H3 (up3 (up3 H p1 (.lst [T.int (A.length:Int)])) p2 (.lst ((ps++[A.length]).map ni))):=sb.trans ((Sub3.new hp1).trans (Sub3.new hp2))
  refine qe hW'.out hmany aq (by rw[g_,D_];omega) (by rw[g_,D_];omega) fun b hb=>?_
  cases b with
  |false =>
   simp only[dM,x_,Wt]
   exact fN.out (fun z=>p_ (hb.mpr z.2)) _ sb2
  |true =>
   try simp only[dM,if_true]
   exact fT.out ⟨hb1,hb.mp rfl⟩ _ sb2
theorem Vi {f:Addr}{fd:FuncData}(g:G3 K mg "_law_some" (top 44) ["_law_works_here","_law_beat_here","_law_many","_law_places"] f fd):Cal P w K mg base 1 "_law_some" (top 44) ["_law_works_here","_law_beat_here","_law_many","_law_places"] (Dy 0) :=
 ⟨f,fd,g,⟨fun _ _ _ _ h=>by obtain⟨_,_,_,_,_,h,_⟩:=h;exact h.elim,fun _ _ _ _ _ _ _ _ _ _ _ _ _ h=>by obtain⟨_,_,_,_,_,h,_⟩:=h;exact h.elim⟩⟩
abbrev J8:List Str:=["_law_works_here","_law_beat_here","_law_places","_law_stand","_law_tasks","_law_orders","_law_pairs","_law_row","_law_k","_law_name","_law_length","_law_kinds","_law_place","_law_at","_law_one","_law_other","_law_word_here"]
theorem sc_may:FnScope J8 ["_law_works_here","_law_beat_here","_law_places","_law_stand"] (aB (top 43)):=bj
theorem Qm {f:Addr}{fd:FuncData}(g:G3 K mg "_law_may" (top 43) ["_law_works_here","_law_beat_here","_law_places","_law_stand"] f fd) (B:Bl mg):Cal P w K mg base 1 "_law_may" (top 43) ["_law_works_here","_law_beat_here","_law_places","_law_stand"] Va:=by
 refine⟨f,fd,g,?_⟩;refine fn3 g.fn sc_may (fun ts H Q h=>?_) (fun cdv A outer s H E ts H3 Q hr h=>?_)
 ·obtain⟨W,beat,q,ps,j,rfl,_⟩:=h;rfl
 have hu30:=Room.u30 hr;have hu31:=Room.u31 hr;have hu1:=Room.u1 hr;obtain⟨W,beat,q,ps,j,rfl,hW,hq,hpl,hj,kk⟩:=h;refine⟨_,(aj (gO (v3 0) (bW (n:=4) rfl (aH (aC (i:=4) sc_may.nd) (aH (aC (i:=5) sc_may.nd) (aH (aC (i:=6) sc_may.nd) (aH (aC (i:=7) sc_may.nd) bA))))))
   (aj (aG (i:=8) sc_may.nd (aM bO rfl B.len_ bQ (aa (v3 2) ak)))
   (aj (gO (aL ix3 (v3 4) (v3 8)) (bW (n:=3) rfl (aH (aC (i:=9) sc_may.nd) (aH (aC (i:=10) sc_may.nd) (aH (aC (i:=11) sc_may.nd) bA)))))
   (aj (bu (PW3.pt (eV (aV (iG hu30) (v3 11) (bG ak)) (dY (aV (lA hu31) (aL ix3 (v3 7) (v3 3)) (v3 11) rfl)))) (au (aK cz)) aP)
   (aj (aG (i:=12) sc_may.nd wA)
   (aj (bh H_ rfl (cB rfl B.range_ (aa (v3 8) ak)) (aC (i:=13) sc_may.nd) (aj (j6 hu1 (v3 12) (aL ix3 (aL ix3 (v3 4) (v3 13)) ao) (aL ix3 (v3 2) (v3 13)))
    (au (bu (aV (cP hu30) (aL ix3 (v3 2) (v3 13)) (v3 3)) (au (aG (i:=10) sc_may.nd (aF aY (v3 10) (aL ix3 (aL ix3 (v3 4) (v3 13)) ao)))) aP))))
   (aj (j6 hu1 (v3 12) (v3 9) (v3 3))
   (aj (bu (aV qR (v3 10) (v3 1)) (au (aK cz)) aP)
   (aj (bh H_ rfl (bY (v3 5)) (bW (n:=2) rfl (aH (aC (i:=14) sc_may.nd) (aH (aC (i:=15) sc_may.nd) bA))) (au (bu (PW3.pt (eV (gF hu1 (v3 14) (v3 12)) (eV (gF hu1 (v3 15) (v3 12)) (dY (aV qR (dj hu1 (v3 12) (v3 14)) (dj hu1 (v3 12) (v3 15))))))) (au (aK cz)) aP)))
   (aj (bh H_ rfl (bY (v3 6)) (bW (n:=3) rfl (aH (aC (i:=16) sc_may.nd) (aH (aC (i:=14) sc_may.nd) (aH (aC (i:=15) sc_may.nd) bA)))) (au (bu (PW3.pt (eV (gF hu1 (v3 14) (v3 12)) (eV (gF hu1 (v3 15) (v3 12)) (dY (aV (iG hu30) (dR (cP hu30) (dj hu1 (v3 12) (v3 14)) (dj hu1 (v3 12) (v3 15))) (dR (cP hu30) (v3 16) gB)))))) (au (aK cz)) aP)))
   (au (aK cz)))))))))))),?_⟩
 rw[show aR J8 [W.enc,T.int beat,T.ref q,T.int (j:Int)]=[some (W.enc),some (T.int beat),some (T.ref q),some (T.int (j:Int)),none,none,none,none,none,none,none,none,none,none,none,none,none] from rfl];have hsz:sizeLine=16777216:=rfl;have k':=Box.mk kk;clear kk;have t8:=hW.t8;have r8:=hW.r8;obtain⟨⟨x,ln,ks⟩,ht⟩:∃t,W.tasks[ps.length]?=some t:=⟨_,a_ hpl⟩;have hat:=J6 ht;have hW':=Box.mk hW;clear hW;refine aA fun R0 hR0=>?_;walk_at "";refine⟨trivial,?_⟩;walk_at "n";refine aA fun R1 hR1=>?_;walk_at "";walk_at "n";refine aA fun R2 hR2=>?_;simp only[tkT] at hat
 walk_at "";refine⟨trivial,?_⟩;simp only[sT];walk_at "n";have i2:=dD ks;have em:=Pz (x:=W.row.getD j "") (xs:=ks);have x0:=vd hj;have fF:Box (¬Mym W beat ps j->Fin3 Q (.bl false) H3):=⟨fun z=>Fin3.of Sub3.refl (k'.out false ⟨fun q=>(nomatch q),fun h=>absurd h z⟩)⟩;have hk0:Box (Mym W beat ps j->gR ks (W.row.getD j "")=true):=⟨fun m=>m.kin _ ht⟩;refine aA fun R3 hR3=>?_
 suffices key:gR ks (W.row.getD j "")=true->R3 { nx:=fun _ H'=>Fin3 Q T.non H',rt:=Fin3 Q} [some W.enc,some (.int beat),some (.ref q),some (.int (j:Int)),some (.tup (W.tasks.map tkT)),some (.tup (W.orders.map orT)),some (.tup (W.pairs.map prT)),some (.tup (W.row.map T.str)),some (.int (ps.length:Int)),some (.str x),some (.int ln),some (.tup (ks.map T.str)),none,none,none,none,none] H3 by
  have key':=Box.mk key;clear key hR3 k';unfold gR at key' hk0;generalize W.row.getD j ""=kd at *;walk_at "";refine⟨by decide,trivial,rfl,?_⟩;by_cases c:ks=[]
  ·rw[if_neg (by simp [c])];exact key'.out (by simp [c])
  rw[if_pos (by simp [c])];refine⟨rfl,trivial,?_⟩;by_cases c2:kd∈ks
  ·rw[if_neg (by simp [c2])];exact key'.out (by simp [c2])
  rw[if_pos (by simp [c2])];exact fF.out fun m=>by have:=hk0.out m;simp [c,c2] at this
 intro hmay;have hM:Box (ldF (W.tasks.take (ps.length+1)) (fS (nm W) (ps++[j])) j<=beat->(∀o∈W.orders,o.1∈(nm W).take (ps.length+1)->o.2∈(nm W).take (ps.length+1)->fS (nm W) (ps++[j]) o.1<=fS (nm W) (ps++[j]) o.2)->(∀p∈W.pairs,p.2.1∈(nm W).take (ps.length+1)->p.2.2∈(nm W).take (ps.length+1)->(fS (nm W) (ps++[j]) p.2.1=fS (nm W) (ps++[j]) p.2.2↔p.1="with"))->Mym W beat ps j):=⟨fun a b c=>⟨fun t h=>by rw[ht] at h;cases h;exact hmay,a,b,c⟩⟩;have hM2:Box (Mym W beat ps j->ldF (W.tasks.take (ps.length+1)) (fS (nm W) (ps++[j])) j<=beat/\(∀o∈W.orders,o.1∈(nm W).take (ps.length+1)->o.2∈(nm W).take (ps.length+1)->fS (nm W) (ps++[j]) o.1<=fS (nm W) (ps++[j]) o.2)/\(∀p∈W.pairs,p.2.1∈(nm W).take (ps.length+1)->p.2.2∈(nm W).take (ps.length+1)->(fS (nm W) (ps++[j]) p.2.1=fS (nm W) (ps++[j]) p.2.2↔p.1="with"))):=⟨fun m=>⟨m.ld,m.ord,m.pai⟩⟩;have hFi:Box (∀i t,i<ps.length->W.tasks[i]?=some t->fS (nm W) (ps++[j]) t.1=ps.getD i 0):=⟨fun i t hi h=>by
  rw[jc (ns:=nm W) hW'.out.nd (i:=i) (by rw[g_];omega) (gZ h),d_,d_,WM hi]⟩
 have hFk:fS (nm W) (ps++[j]) x=j:=by rw[jc (ns:=nm W) hW'.out.nd (i:=ps.length) (by rw[g_];simp) (gZ ht),d_,N_ (j_ _)];simp
 generalize fS (nm W) (ps++[j])=F at hM hM2 hFi hFk;have hFk':=Box.mk hFk;have ht':=Box.mk ht;clear hk0 hmay i2 em x0 hat hFk ht;walk_at "n";refine aA fun R4 hR4=>?_;walk_at "";intro pd hpd;have nqd:q≠pd:=bw hq hpd;have e0:Box (up3 H3 pd (.dct [])=up3 H3 pd (.dct (dN ((nm W).take ([]:List Nat).length) F))):=⟨rfl⟩;have el:Box (ln=ln+ldF (W.tasks.take ([]:List Nat).length) F j):=⟨by show ln=ln+0;omega⟩;walk_at "n";refine aA fun R5 hR5=>?_;walk_at "";refine⟨trivial,by omega,by omega,?_⟩;rw[oh];refine aW (fun (i:Nat)=>T.int (i:Int)) (List.range ps.length) (fun A Z H=>∃(v13 v14 v15 v16:Option T),Z=[some W.enc,some (.int beat),some (.ref q),some (.int (j:Int)),some (.tup (W.tasks.map tkT)),some (.tup (W.orders.map orT)),some (.tup (W.pairs.map prT)),some (.tup (W.row.map T.str)),some (.int (ps.length:Int)),some (.str x),some (.int (ln+ldF (W.tasks.take A.length) F j)),some (.tup (ks.map T.str)),some (.ref pd),v13,v14,v15,v16]/\H=up3 H3 pd (.dct (dN ((nm W).take A.length) F))) ⟨_,_,_,_,by rw[<- el.out],e0.out⟩ ?_ ?_;rotate_left
 ·rintro A c B Z H N e ⟨v13,v14,v15,v16,rfl,rfl⟩ hN;refine⟨trivial,?_⟩;have hA:A.length<ps.length:=by have:=WK List.length e;simp only[g_,l_,A_] at this;omega
  have hc:c=A.length:=by
   have h1:(List.range ps.length)[A.length]?=some c:=by rw[e,N_ (j_ _)];simp
   rw[Wv hA] at h1;exact (K_ h1).symm
  obtain⟨⟨y,lm,kt⟩,hy⟩:∃t,W.tasks[A.length]?=some t:=⟨_,a_ (by omega)⟩;have a1:=J6 hy;have a2:=U9 hA;have hFy:=hFi.out _ _ hA hy;have hyn:y∉(nm W).take A.length:=fun z=>by obtain⟨i,hi,h⟩:=lX z;have h2:=gZ hy;have:=(Zu (l:=nm W) (by rw[cJ];omega) hW'.out.nd).mp (h.trans h2.symm);omega
  have etk:(nm W).take (A.length+1)=(nm W).take A.length++[y]:=by
   have hl:A.length<(nm W).length:=by rw[cJ];omega
   have h2:=gZ hy;rw[a_ hl] at h2;rw[W6 hl,K_ h2]
  have ett:W.tasks.take (A.length+1)=W.tasks.take A.length++[(y,lm,kt)]:=by
   have hl:A.length<W.tasks.length:=by omega
   have h2:=hy;rw[a_ hl] at h2;rw[W6 hl,K_ h2]
  have p1:put3 y (T.int ((ps.getD A.length 0:Nat):Int)) (dN ((nm W).take A.length) F)=dN ((nm W).take (A.length+1)) F:=by
   rw[u5 hyn,etk];refine sO fun n hn=>?_;unfold fu;split
   ·rename_i z;rw[z];exact hFy.symm
   rfl
  have dl:=pW ((nm W).take A.length) F;rw[Xd] at dl;have hld:ldF (W.tasks.take (A.length+1)) F j=ldF (W.tasks.take A.length) F j+if ps.getD A.length 0=j then lm else 0:=by rw[ett,gY,hFy]
  have fin:Box (∀v14 v15 v16,N [some W.enc,some (.int beat),some (.ref q),some (.int (j:Int)),some (.tup (W.tasks.map tkT)),some (.tup (W.orders.map orT)),some (.tup (W.pairs.map prT)),some (.tup (W.row.map T.str)),some (.int (ps.length:Int)),some (.str x),some (.int (ln+ldF (W.tasks.take (A.length+1)) F j)),some (.tup (ks.map T.str)),some (.ref pd),some (.int (c:Int)),v14,v15,v16] (up3 H3 pd (.dct (dN ((nm W).take (A.length+1)) F)))):=⟨fun v14 v15 v16=>hN _ _ ⟨_,v14,v15,v16,by rw[g_];rfl,by rw[g_];rfl⟩⟩;rw[hld] at fin;have gq:up3 H3 pd (.dct (dN ((nm W).take A.length) F)) q=some (.lst (ps.map ni)):=by rw[aD nqd];exact hq
  have gq2:∀o,up3 (up3 H3 pd (.dct (dN ((nm W).take A.length) F))) pd o q=some (.lst (ps.map ni)):=fun o=>by rw[aD nqd];exact gq
  subst hc;clear hN e k' hR5 hM hM2 hFi hld ett etk hyn fF e0 el;simp only[tkT] at a1;generalize ps.getD A.length 0=pv at *;generalize ldF (W.tasks.take A.length) F j=LV at *;walk_at "";refine⟨by omega,?_⟩;by_cases c1:pv=j
  ·rw[if_pos (L_ (by rw[c1])),Int.add_assoc];rw[if_pos c1] at fin;exact fin.out _ _ _
  rw[if_neg (jA (by omega))];rw[if_neg c1,Int.add_zero] at fin;exact fin.out _ _ _
 rintro Z H ⟨v13,v14,v15,v16,rfl,rfl⟩;refine⟨trivial,?_⟩;rw[A_];have hxn:x∉(nm W).take ps.length:=fun z=>by obtain⟨i,hi,h⟩:=lX z;have h2:=gZ ht'.out;have:=(Zu (l:=nm W) (by rw[cJ];omega) hW'.out.nd).mp (h.trans h2.symm);omega
 have p1:put3 x (T.int (j:Int)) (dN ((nm W).take ps.length) F)=dN ((nm W).take (ps.length+1)) F:=by
  have hl:ps.length<(nm W).length:=by rw[cJ];omega
  have h2:=gZ ht'.out;rw[a_ hl] at h2;rw[u5 hxn,W6 hl,K_ h2];refine sO fun n hn=>?_;unfold fu;split
  ·rename_i z;rw[z];exact hFk'.out.symm
  rfl
 have hld:ln+ldF (W.tasks.take ps.length) F j=ldF (W.tasks.take (ps.length+1)) F j:=by have h2:=ht'.out;rw[a_ hpl] at h2;rw[W6 hpl,K_ h2,gY,if_pos hFk'.out];exact Int.add_comm _ _
 rw[hld];have dl:=pW ((nm W).take ps.length) F;rw[Xd] at dl;generalize ldF (W.tasks.take (ps.length+1)) F j=LL at *;clear hld hxn hFi e0 el hq;walk_at "n";refine aA fun R6 hR6=>?_;walk_at "";refine⟨by omega,?_⟩;have gd:up3 H3 pd (.dct (dN ((nm W).take (ps.length+1)) F)) pd=some (.dct (dN ((nm W).take (ps.length+1)) F)):=aq;have sb:Sub3 H3 (up3 H3 pd (.dct (dN ((nm W).take (ps.length+1)) F))):=Sub3.new hpd;generalize up3 H3 pd (.dct (dN ((nm W).take (ps.length+1)) F))=H4 at gd sb ⊢;generalize (nm W).take (ps.length+1)=NS at *;clear p1 dl;have fF4:Box (¬Mym W beat ps j->Fin3 Q (.bl false) H4):=⟨fun z=>Fin3.of sb (k'.out false ⟨fun q=>(nomatch q),fun h=>absurd h z⟩)⟩;have fT4:Box (Mym W beat ps j->Fin3 Q (.bl true) H4):=⟨fun z=>Fin3.of sb (k'.out true ⟨fun _=>z,fun _=>rfl⟩)⟩;clear k' fF;walk_at "n";refine aA fun R7 hR7=>?_;walk_at "";by_cases cl:beat<LL
 ·rw[if_pos (L_ cl)];exact fF4.out fun m=>absurd (hM2.out m).1 (by omega)
 rw[if_neg (jA cl)];have cl':=Box.mk (show LL<=beat by omega);clear cl;walk_at "n";refine aA fun R8 hR8=>?_;walk_at "";refine aW orT W.orders (fun A Z H=>∃(v13 v14 v15 v16:Option T),Z=[some W.enc,some (.int beat),some (.ref q),some (.int (j:Int)),some (.tup (W.tasks.map tkT)),some (.tup (W.orders.map orT)),some (.tup (W.pairs.map prT)),some (.tup (W.row.map T.str)),some (.int (ps.length:Int)),some (.str x),some (.int LL),some (.tup (ks.map T.str)),some (.ref pd),v13,v14,v15,v16]/\H=H4/\∀o∈A,o.1∈NS->o.2∈NS->F o.1<=F o.2) ⟨_,_,_,_,rfl,rfl,(fun _ h=>nomatch h)⟩ ?_ ?_;rotate_left
 ·rintro A ⟨a1,a2⟩ B Z H N e ⟨v13,v14,v15,v16,rfl,rfl,hA⟩ hN;refine⟨trivial,?_⟩;have hm:(a1,a2)∈W.orders:=by rw[e];simp
  have fN:Box ((a1∈NS->a2∈NS->F a1<=F a2)->∀v13 v16,N [some W.enc,some (.int beat),some (.ref q),some (.int (j:Int)),some (.tup (W.tasks.map tkT)),some (.tup (W.orders.map orT)),some (.tup (W.pairs.map prT)),some (.tup (W.row.map T.str)),some (.int (ps.length:Int)),some (.str x),some (.int LL),some (.tup (ks.map T.str)),some (.ref pd),v13,some (.str a1),some (.str a2),v16] H):=⟨fun z v13 v16=>hN _ _ ⟨v13,_,_,v16,rfl,rfl,fun o ho=>by
   rcases G_.mp ho with ho | ho
   ·
    exact hA o ho
   ·
    rw[q_.mp ho];exact z⟩⟩
  have fB:Box (a1∈NS->a2∈NS->F a2<F a1->Fin3 Q (.bl false) H):=⟨fun h1 h2 h3=>fF4.out fun m=>by have:=(hM2.out m).2.1 _ hm h1 h2;exact absurd this (by show ¬F a1<=F a2;omega)⟩;clear hN e hR8 hM hM2 hm hA fF4 fT4;simp only[orT];by_cases m1:a1∈NS
  ·have l1:=dG (f:=F) m1;by_cases m2:a2∈NS
   ·have l2:=dG (f:=F) m2;walk_at "";simp only[X6,if_true];refine⟨trivial,?_⟩;by_cases c1:F a2<F a1
    ·rw[if_pos (L_ (by omega))];exact fB.out m1 m2 c1
    rw[if_neg (jA (by omega))];exact fN.out (fun _ _=>by omega) _ _
   have l2:=ou (f:=F) m2;walk_at "";simp only[X6,Yt,if_true,x_,Wt];exact⟨trivial,fN.out (fun _ z=>absurd z m2) _ _⟩
  have l1:=ou (f:=F) m1;walk_at "";simp only[Yt,x_,Wt];exact⟨trivial,fN.out (fun z=>absurd z m1) _ _⟩
 rintro Z H ⟨v13,v14,v15,v16,rfl,rfl,hO⟩;refine⟨trivial,?_⟩;have hO':=Box.mk hO;clear hO;walk_at "n";refine aA fun R9 hR9=>?_;walk_at "";refine aW prT W.pairs (fun A Z H'=>∃(v13 v14 v15 v16:Option T),Z=[some W.enc,some (.int beat),some (.ref q),some (.int (j:Int)),some (.tup (W.tasks.map tkT)),some (.tup (W.orders.map orT)),some (.tup (W.pairs.map prT)),some (.tup (W.row.map T.str)),some (.int (ps.length:Int)),some (.str x),some (.int LL),some (.tup (ks.map T.str)),some (.ref pd),v13,v14,v15,v16]/\H'=H/\∀p∈A,p.2.1∈NS->p.2.2∈NS->(F p.2.1=F p.2.2↔p.1="with")) ⟨_,_,_,_,rfl,rfl,(fun _ h=>nomatch h)⟩ ?_ ?_;rotate_left
 ·rintro A ⟨wd,a1,a2⟩ B Z H' N e ⟨v13,v14,v15,v16,rfl,rfl,hA⟩ hN;refine⟨trivial,?_⟩;have hm:(wd,a1,a2)∈W.pairs:=by rw[e];simp
  have fN:Box ((a1∈NS->a2∈NS->(F a1=F a2↔wd="with"))->∀v13,N [some W.enc,some (.int beat),some (.ref q),some (.int (j:Int)),some (.tup (W.tasks.map tkT)),some (.tup (W.orders.map orT)),some (.tup (W.pairs.map prT)),some (.tup (W.row.map T.str)),some (.int (ps.length:Int)),some (.str x),some (.int LL),some (.tup (ks.map T.str)),some (.ref pd),v13,some (.str a1),some (.str a2),some (.str wd)] H'):=⟨fun z v13=>hN _ _ ⟨v13,_,_,_,rfl,rfl,fun o ho=>by
   rcases G_.mp ho with ho | ho
   ·
    exact hA o ho
   ·
    rw[q_.mp ho];exact z⟩⟩
  have fB:Box (a1∈NS->a2∈NS->¬(F a1=F a2↔wd="with")->Fin3 Q (.bl false) H'):=⟨fun h1 h2 h3=>fF4.out fun m=>h3 ((hM2.out m).2.2 _ hm h1 h2)⟩;clear hN e hR9 hM hM2 hm hA fF4 fT4 hO';simp only[prT];by_cases m1:a1∈NS
  ·have l1:=dG (f:=F) m1;by_cases m2:a2∈NS
   ·have l2:=dG (f:=F) m2;have ec:decide (((F a1:Nat):Int)=((F a2:Nat):Int))=decide (F a1=F a2):=by rw[XD];omega
    walk_at "";simp only[X6,if_true];refine⟨trivial,?_⟩;by_cases c1:F a1=F a2 <;> by_cases c2:wd="with"
    ·rw[if_neg (by simp [c1,c2])];exact fN.out (fun _ _=>⟨fun _=>c2,fun _=>c1⟩) _
    ·rw[if_pos (by simp [c1,c2])];exact fB.out m1 m2 fun z=>c2 (z.mp c1)
    ·rw[if_pos (by simp [c1,c2])];exact fB.out m1 m2 fun z=>c1 (z.mpr c2)
    rw[if_neg (by simp [c1,c2])];exact fN.out (fun _ _=>⟨fun z=>absurd z c1,fun z=>absurd z c2⟩) _
   have l2:=ou (f:=F) m2;walk_at "";simp only[X6,Yt,if_true,x_,Wt];exact⟨trivial,fN.out (fun _ z=>absurd z m2) _⟩
  have l1:=ou (f:=F) m1;walk_at "";simp only[Yt,x_,Wt];exact⟨trivial,fN.out (fun z=>absurd z m1) _⟩
 rintro Z H' ⟨v13,v14,v15,v16,rfl,rfl,hP⟩;refine⟨trivial,?_⟩;walk_at "n";walk_at "";exact fT4.out (hM.out cl'.out hO'.out hP)
abbrev xn:List Str:=["_law_works_here","_law_cell_here","_law_row","_law_at"]
theorem sc_moved:FnScope xn ["_law_works_here","_law_cell_here"] (aB (top 40)):=bj
theorem DG {f:Addr}{fd:FuncData}(g:G3 K mg "_law_moved" (top 40) ["_law_works_here","_law_cell_here"] f fd) (B:Bl mg):Cal P w K mg base 1 "_law_moved" (top 40) ["_law_works_here","_law_cell_here"] U8:=by
 refine⟨f,fd,g,?_⟩;refine fn3 g.fn sc_moved (fun ts H Q h=>?_) (fun cdv A outer s H E ts H3 Q hr h=>?_)
 ·obtain⟨W,c,rfl,_⟩:=h;rfl
 have hu30:=Room.u30 hr;obtain⟨W,c,rfl,hW,kk⟩:=h;refine⟨_,(aj (aG (i:=2) sc_moved.nd (aL ix3 (v3 0) ao))
   (aj (aG (i:=3) sc_moved.nd (aF aU (aF aZ (v3 1) ao) (aM bO rfl B.len_ bQ (aa (v3 2) ak))))
   (aj (bu (aV (cP hu30) (aF aU (v3 1) ao) ao) (aj (aG (i:=2) sc_moved.nd (aF aY (jB (v3 2) (dJ (v3 3)) eX) (jB (v3 2) eX (dJ (v3 3)))))
    (au (bu (aV (cP hu30) (aF aU (aF aZ (v3 1) ao) ao) ao) (au (aG (i:=2) sc_moved.nd (GJ (v3 2) (dJ (uH ao))))) aP))) aP)
   (au (aK (aF aY (jB (v3 0) eX (dJ ao)) (bG (aa (v3 2) ak)))))))),?_⟩
 rw[show aR xn [W.enc,T.int c]=[some (W.enc),some (T.int c),none,none] from rfl];have hsz:sizeLine=16777216:=rfl;have k':=Box.mk kk;clear kk;have r8:=hW.r8;have r1:=hW.r1;have hfin:∀(r:List Str) (Z:List (Option T)),r.length=W.row.length->(∀x∈r,x∈W.row)->Fin3 Q (.tup ([.tup (W.tasks.map tkT),.tup (W.orders.map orT),.tup (W.pairs.map prT)]++[.tup (r.map T.str)])) H3:=fun r _ h1 h2=>Fin3.of Sub3.refl (k'.out r h1 h2);refine aA fun R0 hR0=>?_;walk_at "";walk_at "n";have m0:=R_ (c / 8) (show (W.row.length:Int)≠0 by omega);have m1:=M_ (c / 8) (show (0:Int)<(W.row.length:Int) by omega);obtain⟨j,hj⟩:∃j:Nat,c / 8%(W.row.length:Int)=(j:Int):=⟨(c / 8%(W.row.length:Int)).toNat,by omega⟩;have cd:zO (c / 8) (W.row.length:Int):=⟨by omega,by
  have:W.row.length=1\/W.row.length=2\/W.row.length=3\/W.row.length=4\/W.row.length=5\/W.row.length=6\/W.row.length=7\/W.row.length=8:=by omega
  rcases this with e | e | e | e | e | e | e | e <;> rw[e] <;> decide +kernel⟩
 refine aA fun R1 hR1=>?_;walk_at "";refine⟨⟨by decide,by decide +kernel⟩,by omega,?_⟩;walk_at "n";refine aA fun R2 hR2=>?_;have key:∀(r:List Str),r.length=W.row.length->(∀x∈r,x∈W.row)->R2 { nx:=fun _ H'=>Fin3 Q T.non H',rt:=Fin3 Q} [some W.enc,some (T.int c),some (T.tup (r.map T.str)),some (T.int (j:Int))] H3:=by intro r hr1 hr2;have f:=hfin r [] hr1 hr2;have f':=Box.mk f;clear f hfin k' hr1 hr2;walk_at "n";rw[show W.enc=T.tup [.tup (W.tasks.map tkT),.tup (W.orders.map orT),.tup (W.pairs.map prT),.tup (W.row.map T.str)] from rfl];walk_at "";rw[show ∀ts:List T,fK ts none (some 3)=ts.take 3 from fun ts=>ph (k:=3)];exact⟨by decide,by simp,f'.out⟩
 have key':=Box.mk key;clear key hR2 hfin k';walk_at "";refine⟨by decide,?_⟩;by_cases c1:c%4=1
 ·rw[if_pos (L_ c1)];rw[q9,ph,<- List.map_drop,<- List.map_take,<- B_];have hm:∀x∈W.row.drop j++W.row.take j,x∈W.row:=fun x hx=>by
   rcases G_.mp hx with hx | hx
   ·exact List.mem_of_mem_drop hx
   exact List.mem_of_mem_take hx
  have hl:(W.row.drop j++W.row.take j).length=W.row.length:=by rw[g_,Y_,Xd];omega
  generalize W.row.drop j++W.row.take j=r at hm hl ⊢;refine⟨by rw[h_,h_,Y_,Xd];omega,⟨by decide,by decide +kernel⟩,by decide,?_⟩;by_cases c2:c / 4%2=1
  ·rw[if_pos (L_ c2),<- Za];exact⟨trivial,key'.out r.reverse (by rw[Xg];exact hl) fun x hx=>hm x (List.mem_reverse.mp hx)⟩
  rw[if_neg (jA c2)];exact key'.out r hl hm
 rw[if_neg (jA c1)];exact key'.out W.row rfl fun _ h=>h
abbrev DK:List Str:=["_law_script","_law_k","_law_first","_law_cell_here","_law_number","_law_found","_law_j"]
theorem sc_cell:FnScope DK ["_law_script","_law_k"] (aB (top 30)):=bj
theorem Iu {f:Addr}{fd:FuncData}(g:G3 K mg "_law_cell" (top 30) ["_law_script","_law_k"] f fd) (B:Bl mg):Cal P w K mg base 1 "_law_cell" (top 30) ["_law_script","_law_k"] Dl:=by
 refine⟨f,fd,g,?_⟩;refine fn3 g.fn sc_cell (fun ts H Q h=>?_) (fun cdv A outer s H E ts H3 Q hr h=>?_)
 ·obtain⟨a,ns,k,rfl,_⟩:=h;rfl
 have hu30:=Room.u30 hr;obtain⟨a,ns,k,rfl,ha,hl,hk,kk⟩:=h;refine⟨_,(aj (aG (i:=2) sc_cell.nd (aL ix3 (aF w5 (v3 0) (bf (aa ao ak))) ao))
   (aj (bu (aV (cP hu30) (aF aU (v3 2) ao) ao) (au (aK (aL ix3 (aF w5 (v3 0) (aF uK (bf (aa ao ak)) ao)) (v3 1)))) aP)
   (aj (aG (i:=3) sc_cell.nd (aL ix3 (v3 0) (aF aU (v3 1) (aM bO rfl B.len_ bQ (aa (v3 0) ak)))))
   (aj (aG (i:=4) sc_cell.nd (aF aU (aF aY (aF aY (aF cT (aF aU (v3 3) ao) ao) (aF cT ao (v3 1))) ao) ao))
   (aj (aG (i:=4) sc_cell.nd (aF aU (aF aY (aF cT (v3 4) (v3 4)) (v3 1)) ao))
   (aj (aG (i:=5) sc_cell.nd ao)
   (aj (bh H_ rfl (cB rfl B.range_ (aa ao ak)) (aC (i:=6) sc_cell.nd) (aj (aG (i:=4) sc_cell.nd (aF aU (aF aY (aF cT (v3 4) ao) ao) ao))
    (au (aG (i:=5) sc_cell.nd (aF aY (aF cT (v3 5) ao) (v3 4))))))
   (au (aK (v3 5)))))))))),?_⟩
 rw[show aR DK [T.ref a,T.int (k:Int)]=[some (T.ref a),some (T.int (k:Int)),none,none,none,none,none] from rfl];have hsz:sizeLine=16777216:=rfl;have k':=Box.mk kk;clear kk;refine aA fun R0 hR0=>?_;walk_at "";refine⟨by decide,fun p1 hp1=>?_⟩;have na1:a≠p1:=bw ha hp1;walk_at "";refine⟨by omega,fun p2 hp2=>?_⟩;have na2:a≠p2:=bw ha (cD hp2).2;have sb:Sub3 H3 (up3 (up3 H3 p1 (.lst [T.int 0])) p2 (.lst (ns.map T.int++[T.int 0]))):=(Sub3.new hp1).trans (Sub3.new hp2);have e1:ns.map T.int++[T.int 0]=(ns++[0]).map T.int:=by rw[B_];rfl
 obtain⟨c0,ec0⟩:=qd (ns:=ns++[0]) (i:=0) (by rw[g_];simp);rw[e1] at sb ⊢;have ec0':atI ((ns++[0]).map T.int) 0=some (T.int c0):=ec0;rw[ec0',gK];have hodd:c0%2≠0->1<=ns.length:=fun h=>by
  cases ns with
  |nil =>
   have z:atI (([0]:List Int).map T.int) 0=some (T.int 0):=rfl
   rw[Yj,z] at ec0'
   cases ec0'
   exact absurd rfl h
  |cons x r=>simp
 have ga:=sb _ _ ha;generalize up3 (up3 H3 p1 (.lst [T.int 0])) p2 (.lst ((ns++[0]).map T.int))=H4 at sb ga ⊢;clear ec0 ec0' e1 na1 na2 hp1 hp2 ha;walk_at "n";refine aA fun R1 hR1=>?_;walk_at "";refine⟨by decide,?_⟩;by_cases hev:c0%2=0
 ·rw[L_ hev,if_pos rfl];clear hR1 hodd;try walk_at ""
  refine⟨by decide,fun q1 hq1=>⟨⟨by decide,by decide,by decide⟩,fun q2 hq2=>?_⟩⟩;have n1:a≠q1:=bw ga hq1;have n2:a≠q2:=bw ga (cD hq2).2;rw[aD n2,aD n1,ga,Dj];have e2:(List.replicate (Int.toNat 64) [T.int 0]).flatten=(List.replicate 64 (0:Int)).map T.int:=rfl;rw[e2];refine⟨by rw[h_,h_,WX];omega,fun q3 hq3=>?_⟩;obtain⟨c,ec⟩:=qd (ns:=ns++List.replicate 64 0) (i:=k) (by rw[g_,WX];omega);rw[z9,aq,wy,<- B_,ec,gK];exact Fin3.of (sb.trans ((Sub3.new hq1).trans ((Sub3.new hq2).trans (Sub3.new hq3)))) (k'.out c)
 rw[E_ hev,if_neg p_];have h1:=hodd hev;clear hodd;walk_at "n";refine aA fun R2 hR2=>?_;obtain⟨c1,ec1⟩:=qd (ns:=ns) (i:=k%ns.length) (Nat.mod_lt _ (by omega));have ec1':atI (ns.map T.int) ((k:Int)%(ns.length:Int))=some (T.int c1):=ec1;clear ec1;walk_at "";refine⟨by omega,?_⟩;walk_at "n";refine aA fun R3 hR3=>?_;have z0:=R_ c1 (show (2147483647:Int)≠0 by decide);have z1:=M_ c1 (show (0:Int)<2147483647 by decide);clear ec1';walk_at "";refine⟨by decide,.inr ⟨by decide,by decide⟩,.inl ⟨by decide,by decide⟩,by decide,?_⟩;generalize c1%2147483647=z at z0 z1;have y0:=R_ (z*48271+69621*(k:Int)+7919) (show (2147483629:Int)≠0 by decide);have y1:=M_ (z*48271+69621*(k:Int)+7919) (show (0:Int)<2147483629 by decide);generalize (z*48271+69621*(k:Int)+7919)%2147483629=y at y0 y1;walk_at "n";refine aA fun R4 hR4=>?_;walk_at "";refine⟨.inl ⟨by omega,by omega⟩,by decide,?_⟩;have x0:=R_ (y*y+(k:Int)) (show (2147483587:Int)≠0 by decide);have x1:=M_ (y*y+(k:Int)) (show (0:Int)<2147483587 by decide);generalize (y*y+(k:Int))%2147483587=x at x0 x1;walk_at "n";refine aA fun R5 hR5=>?_;walk_at "";walk_at "n";refine aA fun R6 hR6=>?_;walk_at "";refine⟨by first | trivial | decide,by decide,by decide,?_⟩;generalize dH 0 (Int.toNat 9)=ts0;refine il (fun r Z H=>∃(n fo:Int) (v6:Option T),Z=[some (.ref a),some (.int (k:Int)),some (.int c0),some (.int c1),some (.int n),some (.int fo),v6]/\0<=n/\n<2147483629/\Sub3 H3 H) ⟨x,0,_,rfl,x0,by omega,sb⟩ ?_ ?_
 ·rintro Z H ⟨n,fo,v6,rfl,_,_,sb2⟩;refine⟨trivial,?_⟩;walk_at "n";walk_at "";exact Fin3.of sb2 (k'.out _)
 rintro t r Z H N ⟨n,fo,v6,rfl,n0,n1,sb2⟩ hN;refine⟨trivial,?_⟩;have hM:=Box.mk hN;clear hN hR6 k';walk_at "";refine⟨.inl ⟨by omega,by omega⟩,by decide,.inr ⟨by decide,by decide⟩,?_⟩;exact hM.out _ _ ⟨_,_,_,rfl,R_ _ (by decide),Int.lt_trans (M_ _ (by decide)) (by decide),sb2⟩
abbrev DN:List Str:=["_law_cell_here","_law_letters","_law_word_here","_law_rest","_law_j"]
theorem sc_word:FnScope DN ["_law_cell_here"] (aB (top 31)):=bj
theorem Iv {f:Addr}{fd:FuncData}(g:G3 K mg "_law_word" (top 31) ["_law_cell_here"] f fd) (B:Bl mg):Cal P w K mg base 1 "_law_word" (top 31) ["_law_cell_here"] P0:=by
 refine⟨f,fd,g,?_⟩;refine fn3 g.fn sc_word (fun ts H Q h=>?_) (fun cdv A outer s H E ts H3 Q hr h=>?_)
 ·obtain⟨c,rfl,_⟩:=h;rfl
 obtain⟨c,rfl,kk⟩:=h;refine⟨_,(aj (aG (i:=1) sc_word.nd gB)
   (aj (aG (i:=2) sc_word.nd gB)
   (aj (aG (i:=3) sc_word.nd (aF aZ (v3 0) ao))
   (aj (bh H_ rfl (cB rfl B.range_ (aa (aF aY ao (aF aU (v3 0) ao)) ak)) (aC (i:=4) sc_word.nd) (aj (aG (i:=2) sc_word.nd (aF aY (v3 2) (aL ix3 (v3 1) (aF aU (v3 3) ao))))
    (au (aG (i:=3) sc_word.nd (aF aZ (v3 3) ao)))))
   (au (aK (v3 2))))))),?_⟩
 rw[show aR DN [T.int c]=[some (T.int c),none,none,none,none] from rfl];have hsz:sizeLine=16777216:=rfl;have al:(mkS lQ).length<=sizeLine:=by rw[cY];decide
 have k':=Box.mk kk;clear kk;have e0:("":Str)=mkS []:=by decide +kernel
 refine aA fun R0 hR0=>?_;walk_at "";simp only[Cv];walk_at "n";refine aA fun R1 hR1=>?_;walk_at "";walk_at "n";refine aA fun R2 hR2=>?_;walk_at "";refine⟨⟨by decide,by decide +kernel⟩,?_⟩;walk_at "n";refine aA fun R3 hR3=>?_;walk_at "";have m0:=R_ c (show (8:Int)≠0 by decide);have m1:=M_ c (show (0:Int)<8 by decide);refine⟨by decide,trivial,by omega,by omega,?_⟩;have hrl:(dH 0 (1+c%8).toNat).length=(1+c%8).toNat:=by unfold dH;rw[h_,A_]
 generalize dH 0 (1+c%8).toNat=ts0 at hrl;try rw[e0]
 generalize c / 8=lf0;refine il (fun r Z H=>∃(pre:List Nat) (lf:Int) (v4:Option T),Z=[some (.int c),some (.str (mkS lQ)),some (.str (mkS pre)),some (.int lf),v4]/\(pre.length:Int)+r.length=1+c%8/\(∀x∈pre,97<=x/\x<=122)/\H3=H) ⟨[],lf0,_,rfl,by rw[hrl,W3];omega,(fun _ z=>nomatch z),rfl⟩ ?_ ?_
 ·rintro Z H ⟨pre,lf,v4,rfl,hpl,az,rfl⟩;refine⟨trivial,?_⟩;rw[W3] at hpl;walk_at "n";walk_at "";exact Fin3.of Sub3.refl (k'.out _ (J2 (by omega) (by omega) az))
 rintro x r Z H N2 ⟨pre,lf,v4,rfl,hpl,az,rfl⟩ hN2;refine⟨trivial,?_⟩;rw[l_] at hpl;have hM:=Box.mk hN2;have az':=Box.mk az;have hpl':pre.length<8:=by omega
 have hpl2:=Box.mk hpl;have b0:=R_ lf (show (26:Int)≠0 by decide);have b1:=M_ lf (show (0:Int)<26 by decide);have hch:=Cw (lf%26) b0 b1;clear hN2 k' hR3 hpl az;walk_at "";simp only[iu,hch,gK];walk_at "";rw[show (⟨#[97+(lf%26).toNat]⟩:Str)=mkS [97+(lf%26).toNat] from rfl];refine⟨by decide,al,by rw[cY,cY];simp only[D_];omega,⟨by decide,by decide +kernel⟩,?_⟩;rw[wL];exact hM.out _ _ ⟨_,_,_,rfl,by rw[g_,D_];have:=hpl2.out;push_cast;omega,fun y hy=>by
  rcases G_.mp hy with hy | hy
  ·
   exact az'.out y hy
  ·
   rw[q_.mp hy];omega,rfl⟩
abbrev sS:List Str:=["_law_words","_law_letters","_law_found","_law_word_here"]
theorem sc_unlike:FnScope sS ["_law_words"] (aB (top 32)):=bj
theorem yK {f:Addr}{fd:FuncData}(g:G3 K mg "_law_unlike" (top 32) ["_law_words"] f fd) (B:Bl mg):Cal P w K mg base 1 "_law_unlike" (top 32) ["_law_words"] Qa:=by
 refine⟨f,fd,g,?_⟩;refine fn3 g.fn sc_unlike (fun ts H Q h=>?_) (fun cdv A outer s H E ts H3 Q hr h=>?_)
 ·obtain⟨a,ws,rfl,_⟩:=h;rfl
 have hu31:=Room.u31 hr;obtain⟨a,ws,rfl,ha,hl,hnm,kk⟩:=h;refine⟨_,(aj (aG (i:=1) sc_unlike.nd gB)
   (aj (aG (i:=2) sc_unlike.nd (bf ak))
   (aj (bh H_ rfl (cL (v3 0)) (aC (i:=3) sc_unlike.nd) (aj (lw H_ (aV (nM hu31) (v3 3) (v3 2) rfl) (au (aG (i:=3) sc_unlike.nd (aF aY (jh (v3 3) eX (dJ (uH ao))) (aL ix3 (v3 1) (aF aU (aF aY (fc PySem.F.plainAttrs_str PySem.F.slot_str_index PySem.F.type_str_index zZ (v3 1) (aa (aL ix3 (v3 3) (uH ao)) ak)) ao) ao))))))
    (au (cj (fc T_ V_ Wr bJ (v3 2) (aa (v3 3) ak))))))
   (au (aK (v3 2)))))),?_⟩
 rw[show aR sS [T.ref a]=[some (T.ref a),none,none,none] from rfl];have hsz:sizeLine=16777216:=rfl;have al:(mkS lQ).length<=sizeLine:=by rw[cY];decide
 have k':=Box.mk kk;clear kk;refine aA fun R0 hR0=>?_;walk_at "";simp only[Cv];walk_at "n";refine aA fun R1 hR1=>?_;walk_at "";refine⟨by decide,fun pf hpf=>?_⟩;have naf:a≠pf:=bw ha hpf;walk_at "n";refine aA fun R2 hR2=>?_;have ga:up3 H3 pf (.lst []) a=some (.lst (ws.map T.str)):=by rw[aD naf];exact ha
 walk_at "";have hnm':=Box.mk hnm;clear hnm;refine aW T.str ws (fun A Z H=>∃(fs:List Str) (v3:Option T),Z=[some (.ref a),some (.str (mkS lQ)),some (.ref pf),v3]/\H=up3 H3 pf (.lst (fs.map T.str))/\fs.length=A.length/\Nms fs) ⟨[],_,rfl,rfl,rfl,Nms.nil⟩ ?_ ?_
 ·rintro Z H ⟨fs,v3,rfl,rfl,hl2,hn⟩;refine⟨.inl (by rw[aD naf];exact ha),?_⟩;walk_at "n";walk_at "";exact Fin3.of Sub3.refl (k'.out fs hl2 hn pf hpf)
 rintro A x B Z H N e ⟨fs,v3,rfl,rfl,hl2,hn⟩ hN;refine⟨.inl (by rw[aD naf];exact ha),?_⟩;have hA:A.length+1<=8:=by have:=WK List.length e;simp only[g_,l_] at this;omega
 obtain⟨b,s0,rfl,hb7,hs0,baz⟩:=Ib (hnm'.out x (by rw[e];simp));have hN':=Box.mk hN;clear hN e hR2 k' ga;have gf:up3 H3 pf (.lst (fs.map T.str)) pf=some (.lst (fs.map T.str)):=aq;refine aA fun R3 hR3=>?_;walk_at "";refine yD (fun m Z H=>∃j:Nat,m+j=8/\Z=[some (.ref a),some (.str (mkS lQ)),some (.ref pf),some (.str (nmL b s0 j))]/\H=up3 H3 pf (.lst (fs.map T.str))/\∀i,i<j->nmL b s0 i∈fs) ⟨8,0,rfl,rfl,rfl,(fun _ z=>absurd z (by omega))⟩ ?_;intro m Z H hI WI TB NX hWI hTB hNX;obtain⟨j,hm,rfl,rfl,hall⟩:=hI;have hj:j<=fs.length:=by
  rcases YB fs.length j with z | z
  ·exact (pig fs (fun i=>nmL b s0 i) (fun i i' h1 h2 h=>Ia (by omega) (by omega) h) fun i hi=>hall i (by omega)).elim
  exact z
 walk_at "";refine⟨rfl,dD fs,?_⟩;split
 ·rename_i hm1;have hin:nmL b s0 j∈fs:=Classical.byContradiction fun h=>absurd hm1 (by rw[sJ];simp [h]);clear hNX hR3;obtain⟨hTB⟩:=hTB;subst hTB;try dsimp only
  walk_at "";have hlen:=Ie b s0 j;have md:=Nat.mod_lt (s0+j) (show 0<26 by decide);have hix:=Pb (97+(s0+j)%26) (by omega) (by omega);refine⟨by omega,by first | trivial | omega,by omega,?_⟩;rw[Ig,zg,gK,show (⟨#[97+(s0+j)%26]⟩:Str)=mkS [97+(s0+j)%26] from rfl,hix];clear hix;walk_at "";have hch:=Cw ((((97+(s0+j)%26 - 97:Nat):Int)+1)%26) (R_ _ (by decide)) (M_ _ (by decide));have en:((((97+(s0+j)%26 - 97:Nat):Int)+1)%26).toNat=(s0+(j+1))%26:=by omega
  have sn:Txt.slice (nmL b s0 j) none (some (-1))=mkS b:=Qd b _;refine⟨by decide,al,?_⟩;rw[iu,hch,gK,en,sn,show (⟨#[97+(s0+(j+1))%26]⟩:Str)=mkS [97+(s0+(j+1))%26] from rfl,wL];obtain⟨hWI⟩:=hWI;subst hWI;refine⟨by rw[cY,cY];simp only[D_];omega,m - 1,by omega,j+1,by omega,rfl,rfl,fun i hi=>?_⟩;rcases YB i j with z | z
  ·exact hall i z
  rw[show i=j by omega];exact hin
 rename_i hm1;have hni:nmL b s0 j∉fs:=fun h=>hm1 (by rw[sJ];simp [h]);clear hTB hWI;obtain⟨hNX⟩:=hNX;subst hNX;walk_at "n";try dsimp only
 walk_at "";refine⟨⟨trivial,trivial⟩,by omega,hN'.out _ _ ⟨fs++[nmL b s0 j],some _,rfl,?_,by rw[g_,g_,hl2];rfl,hn.snoc (Qc hb7 baz) hni⟩⟩;rw[B_];rfl
abbrev DP:List Str:=["_law_cell_here","_law_words","_law_k"]
theorem sc_pool:FnScope DP ["_law_cell_here"] (aB (top 33)):=bj
theorem Iw {f:Addr}{fd:FuncData}(g:G3 K mg "_law_pool" (top 33) ["_law_cell_here"] f fd) (B:Bl mg) (F_word:Cal P w K mg base 1 "_law_word" (top 31) ["_law_cell_here"] P0) (F_unlike:Cal P w K mg base 1 "_law_unlike" (top 32) ["_law_words"] Qa):Cal P w K mg base 2 "_law_pool" (top 33) ["_law_cell_here"] UV:=by
 refine⟨f,fd,g,?_⟩;refine fn3 g.fn sc_pool (fun ts H Q h=>?_) (fun cdv A outer s H E ts H3 Q hr h=>?_)
 ·obtain⟨c,rfl,_⟩:=h;rfl
 obtain⟨c,rfl,kk⟩:=h;refine⟨_,(aj (aG (i:=1) sc_pool.nd (bf ak))
   (aj (bh H_ rfl (cB rfl B.range_ (aa ao ak)) (aC (i:=2) sc_pool.nd) (aj (cj (fc T_ V_ Wr bJ (v3 1) (aa (aQ F_word hr rfl (aa (aF aU (v3 0) (aF cT ao (aF iQ ao ao))) ak)) ak)))
    (au (aG (i:=0) sc_pool.nd (aF aZ (v3 0) (aF cT ao (aF iQ ao ao)))))))
   (au (aK (aQ F_unlike hr rfl (aa (v3 1) ak)))))),?_⟩
 rw[show aR DP [T.int c]=[some (T.int c),none,none] from rfl];have hsz:sizeLine=16777216:=rfl;have k':=Box.mk kk;clear kk;refine aA fun R0 hR0=>?_;walk_at "";refine⟨by decide,fun pf hpf=>?_⟩;walk_at "n";refine aA fun R1 hR1=>?_;walk_at "";refine⟨trivial,by decide,by decide,?_⟩;have rl:(dH 0 (Int.toNat 8)).length=8:=by unfold dH;rw[h_,A_];rfl
 generalize dH 0 (Int.toNat 8)=ts0 at rl;refine il (fun r Z H=>∃(ws:List Str) (c:Int) (v2:Option T),Z=[some (.int c),some (.ref pf),v2]/\H=up3 H3 pf (.lst (ws.map T.str))/\ws.length+r.length=8/\∀x∈ws,isNm x) ⟨[],c,_,rfl,rfl,by rw[rl];rfl,(fun _ z=>nomatch z)⟩ ?_ ?_
 ·rintro Z H ⟨ws,c,v2,rfl,rfl,hl,hn⟩;refine⟨trivial,?_⟩;rw[W3] at hl;walk_at "n";walk_at "";refine⟨pf,ws,rfl,aq,by omega,hn,fun us h1 h2 p hp=>?_⟩;refine Fin3.of ?_ (k'.out us (by omega) h2 p (cD hp).2);intro b o hb;by_cases e:b=p
  ·subst e;rw[aq] at hb ⊢;exact hb
  rw[aD e] at hb ⊢;rw[aD (bw hb hpf)];exact hb
 rintro x r Z H N ⟨ws,c,v2,rfl,rfl,hl,hn⟩ hN;refine⟨trivial,?_⟩;rw[l_] at hl;have hM:=Box.mk hN;clear hN hR1 k';have gf:up3 H3 pf (.lst (ws.map T.str)) pf=some (.lst (ws.map T.str)):=aq;walk_at "";refine⟨⟨trivial,trivial⟩,⟨by decide,by decide,by decide⟩,.inl ⟨by decide,by decide⟩,by decide,_,rfl,fun y hy=>?_⟩;dsimp only;rw[gf,Aa];refine⟨by rw[h_];omega,⟨by decide,by decide,by decide⟩,.inl ⟨by decide,by decide⟩,⟨by decide,by decide +kernel⟩,hM.out _ _ ⟨ws++[y],_,_,rfl,?_,by rw[g_,D_];omega,fun z hz=>?_⟩⟩
 ·rw[B_];exact oW
 rcases G_.mp hz with hz | hz
 ·exact hn z hz
 rw[q_.mp hz];exact hy
abbrev DQ:List Str:=["_law_cell_here","_law_row","_law_pool_here","_law_unit","_law_stand","_law_turn","_law_some_here","_law_rest","_law_k","_law_other","_law_at","_law_digit","_law_length"]
theorem sc_task:FnScope DQ ["_law_cell_here","_law_row","_law_pool_here","_law_unit"] (aB (top 34)):=bj
theorem Iz {f:Addr}{fd:FuncData}(g:G3 K mg "_law_task" (top 34) ["_law_cell_here","_law_row","_law_pool_here","_law_unit"] f fd) (B:Bl mg) (F_word:Cal P w K mg base 1 "_law_word" (top 31) ["_law_cell_here"] P0):Cal P w K mg base 2 "_law_task" (top 34) ["_law_cell_here","_law_row","_law_pool_here","_law_unit"] UW:=by
 refine⟨f,fd,g,?_⟩;refine fn3 g.fn sc_task (fun ts H Q h=>?_) (fun cdv A outer s H E ts H3 Q hr h=>?_)
 ·obtain⟨c,pr,pp,row,pool,unit,rfl,_⟩:=h;rfl
 have hu30:=Room.u30 hr;have hu31:=Room.u31 hr;obtain⟨c,pr,pp,row,pool,unit,rfl,hpr,r1,r8,hrn,hpp,p8,hpn,u1,u2,kk⟩:=h;refine⟨_,(aj (aG (i:=4) sc_task.nd (aF aU (v3 0) (aM bO rfl B.len_ bQ (aa (v3 1) ak))))
   (aj (aG (i:=5) sc_task.nd (aF aU (aF aZ (v3 0) (aM bO rfl B.len_ bQ (aa (v3 1) ak))) ao))
   (aj (aG (i:=0) sc_task.nd (aF aZ (v3 0) (aF cT ao (aM bO rfl B.len_ bQ (aa (v3 1) ak)))))
   (aj (aG (i:=6) sc_task.nd (bf ak))
   (aj (bu (aV (cP hu30) (aF aU (v3 0) ao) ao) (aj (aG (i:=6) sc_task.nd (bf (aa (aL ix3 (v3 1) (v3 4)) ak)))
    (aj (aG (i:=7) sc_task.nd (aF aZ (v3 0) ao))
    (aj (bh H_ rfl (cB rfl B.range_ (aa ao ak)) (aC (i:=8) sc_task.nd) (aj (aG (i:=9) sc_task.nd (aL ix3 (aF aY (v3 2) (bf (aa (aL ix3 (v3 1) (v3 4)) ak))) (aF aU (v3 7) ao)))
     (aj (aG (i:=7) sc_task.nd (aF aZ (v3 7) ao))
     (au (bu (aV (lA hu31) (v3 9) (v3 6) rfl) (au (cj (fc T_ V_ Wr bJ (v3 6) (aa (v3 9) ak)))) aP)))))
    (aj (aG (i:=10) sc_task.nd (aF aU (aF aU (v3 7) ao) (aM bO rfl B.len_ bQ (aa (v3 6) ak))))
    (au (aG (i:=6) sc_task.nd (aF aY (jh (v3 6) (dJ (v3 10)) eX) (jh (v3 6) eX (dJ (v3 10)))))))))) aP)
   (aj (aG (i:=0) sc_task.nd (aF aZ (v3 0) (aF cT (aF cT ao ao) ao)))
   (aj (aG (i:=11) sc_task.nd (aF aY ao (aF aU (aF aZ (v3 0) ao) ao)))
   (aj (aG (i:=12) sc_task.nd (aL ix3 (bf (aa (v3 11) (aa (aF aY (aF cT (v3 3) (v3 11)) (aF aU (aF aZ (v3 0) ao) ao)) (aa (aF aY ao (aF aU (aF aZ (v3 0) ao) (aF uh (aF iQ ao ao) ao))) ak)))) (aF aU (v3 0) ao)))
   (au (aK (bG (aa (v3 4) (aa (v3 5) (aa (v3 12) (aa (bI dm rfl B.tuple_ cI (aa (v3 6) ak)) (aa (aQ F_word hr rfl (aa (aF aZ (v3 0) (aF cT ao (aF iQ ao ao))) ak)) ak)))))))))))))))),?_⟩
 rw[show aR DQ [T.int c,T.ref pr,T.ref pp,T.int unit]=[some (T.int c),some (T.ref pr),some (T.ref pp),some (T.int unit),none,none,none,none,none,none,none,none,none] from rfl];have hsz:sizeLine=16777216:=rfl;have k':=Box.mk kk;clear kk;have hrn':=Box.mk hrn;have hpn':=Box.mk hpn;clear hrn hpn;refine aA fun R0 hR0=>?_;walk_at "";have b0:=R_ c (show (row.length:Int)≠0 by omega);have b1:=M_ c (show (0:Int)<(row.length:Int) by omega);refine⟨by omega,?_⟩;obtain⟨s,hs⟩:∃s:Nat,c%(row.length:Int)=(s:Int):=⟨(c%(row.length:Int)).toNat,by omega⟩;rw[hs] at b0 b1 ⊢;have hs':s<row.length:=by omega
 have lg:(row.length:Int).natAbs.log2<9000:=Ys (Zb _) (by omega);have lg8:(8*(row.length:Int)).natAbs.log2<9000:=Ys (Zb _) (by omega);clear hs;walk_at "n";refine aA fun R1 hR1=>?_;walk_at "";refine⟨⟨by omega,lg⟩,by decide,?_⟩;have t0:=R_ (c / (row.length:Int)) (show (8:Int)≠0 by decide);have t1:=M_ (c / (row.length:Int)) (show (0:Int)<8 by decide);generalize c / (row.length:Int)%8=tn at t0 t1;walk_at "n";refine aA fun R2 hR2=>?_;walk_at "";refine⟨.inl ⟨by decide,by decide⟩,⟨by omega,lg8⟩,?_⟩;generalize c / (8*(row.length:Int))=c2;walk_at "n";refine aA fun R3 hR3=>?_;walk_at "";refine⟨by decide,fun p0 hp0=>?_⟩;walk_at "n";refine aA fun R4 hR4=>?_;have key:Box (∀(p:Addr) (ks:List Str) (v7 v8 v9 v10:Option T) (H4:Hp3),Sub3 H3 H4->H4 p=some (.lst (ks.map T.str))->Nms ks->ks.length<=4->(ks=[]\/row.getD s ""∈ks)->R4 { nx:=fun x H'=>Fin3 Q T.non H',rt:=Fin3 Q} [some (.int c2),some (.ref pr),some (.ref pp),some (.int unit),some (.int (s:Int)),some (.int tn),some (.ref p),v7,v8,v9,v10,none,none] H4):=by
  refine⟨fun p ks v7 v8 v9 v10 H4 sb gp hn hk4 hks=>?_⟩;clear hpr hpp hp0;walk_at "n";refine aA fun R5 hR5=>?_;walk_at "";refine⟨.inl ⟨by decide,by decide⟩,.inl ⟨by decide,by decide⟩,⟨by decide,by decide +kernel⟩,?_⟩;generalize c2 / (4*729*4)=c3;walk_at "n";refine aA fun R6 hR6=>?_;walk_at "";refine⟨⟨by decide,by decide +kernel⟩,by decide,?_⟩;have d0:=R_ (c3 / 3) (show (9:Int)≠0 by decide);have d1:=M_ (c3 / 3) (show (0:Int)<9 by decide);generalize c3 / 3%9=dg at d0 d1;walk_at "n";refine aA fun R7 hR7=>?_;walk_at "";refine⟨.inr ⟨by omega,by omega⟩,⟨by decide,by decide +kernel⟩,by decide,⟨by decide,by decide +kernel⟩,⟨by decide,by decide,by decide⟩,by decide +kernel,by decide,fun q1 hq1=>⟨by decide,?_⟩⟩;have i0:=R_ c3 (show (3:Int)≠0 by decide);have i1:=M_ c3 (show (0:Int)<3 by decide);have e0:=R_ (c3 / 27) (show (2:Int)≠0 by decide);have e1:=M_ (c3 / 27) (show (0:Int)<2 by decide);have f0:=R_ (c3 / 3) (show ((10:Int)^Int.toNat 60 - 1)≠0 by decide +kernel);have f1:=M_ (c3 / 3) (show (0:Int)<(10:Int)^Int.toNat 60 - 1 by decide +kernel);have m1:unit*(1+dg)<=10^57*9:=Int.mul_le_mul u2 (by omega) (by omega) (by decide +kernel);have m0:1*1<=unit*(1+dg):=Int.mul_le_mul u1 (by omega) (by decide) (by omega);have p60:(10:Int)^Int.toNat 60=10^60:=rfl;rw[p60] at f0 f1 ⊢;have sb7:=sb.trans (Sub3.new (o:=.lst [T.int (1+dg),T.int (unit*(1+dg)+c3 / 27%2),T.int (1+c3 / 3%(10^60 - 1))]) hq1);have gp7:up3 H4 q1 (.lst [T.int (1+dg),T.int (unit*(1+dg)+c3 / 27%2),T.int (1+c3 / 3%(10^60 - 1))]) p=_ := upa gp hq1;generalize up3 H4 q1 (.lst [T.int (1+dg),T.int (unit*(1+dg)+c3 / 27%2),T.int (1+c3 / 3%(10^60 - 1))])=H5 at sb7 gp7 ⊢;generalize unit*(1+dg)=ud at *;generalize c3 / 27%2=e27 at *;generalize c3 / 3%(10^60 - 1)=e3 at *;obtain⟨len,hlen,l1,l2⟩:∃len:Int,atI [T.int (1+dg),T.int (ud+e27),T.int (1+e3)] (c3%3)=some (T.int len)/\1<=len/\len<10^60:=by
   rcases (show c3%3=0\/c3%3=1\/c3%3=2 by omega) with h | h | h
   ·rw[h];exact⟨_,rfl,by omega,by omega⟩
   ·rw[h];exact⟨_,rfl,by omega,by omega⟩
   rw[h];exact⟨_,rfl,by omega,by omega⟩
  rw[hlen,gK];clear hlen gp sb hq1;walk_at "n";walk_at "";refine⟨⟨by decide,by decide,by decide⟩,.inl ⟨by decide,by decide⟩,⟨by decide +kernel,by decide +kernel⟩,_,rfl,fun y hy=>⟨by decide,?_⟩⟩;exact Fin3.of sb7 (k'.out s tn len ks y hs' t0 t1 l1 l2 hn hk4 hks hy)
 have gpr:up3 H3 p0 (.lst []) pr=_ := upa hpr hp0;have g00:up3 H3 p0 (.lst []) p0=some (.lst (([]:List Str).map T.str)):=aq;have sb0:Sub3 H3 (up3 H3 p0 (.lst [])):=Sub3.new hp0;generalize up3 H3 p0 (.lst [])=H4 at gpr g00 sb0 ⊢;clear hp0 hR4 k';walk_at "";refine⟨by decide,?_⟩;by_cases h4:c2%4=1
 ·rw[L_ h4,if_pos rfl];try rw[gpr,wy]
  rw[kI hs',gK];refine⟨by decide,fun pf hpf=>⟨⟨by decide,by decide +kernel⟩,by first | trivial | decide,by decide,by decide,?_⟩⟩;have f0:=cF sb0 hpf;have rl:(dH 0 (Int.toNat 3)).length=3:=by unfold dH;rw[h_,A_];rfl
  generalize dH 0 (Int.toNat 3)=ts0 at rl;have hxs:=hrn'.out _ (getD_memS hs');have hx':=Box.mk hxs;clear hxs;refine il (fun r Z H=>∃(fs:List Str) (rest:Int) (v8 v9:Option T),Z=[some (.int c2),some (.ref pr),some (.ref pp),some (.int unit),some (.int (s:Int)),some (.int tn),some (.ref pf),some (.int rest),v8,v9,none,none,none]/\Sub3 H3 H/\H pf=some (.lst (fs.map T.str))/\Nms fs/\fs.length+r.length<=4/\row.getD s ""∈fs) ⟨[row.getD s ""],c2 / 4,_,_,rfl,sb0.trans (Sub3.new hpf),aq,Nms.nil.snoc hx'.out (fun z=>nomatch z),by rw[rl];exact j_ 4,q_.mpr rfl⟩ ?_ ?_
  ·rintro Z H ⟨fs,rest,v8,v9,rfl,sb,gf,hn,hl,hm⟩;refine⟨trivial,?_⟩;clear gpr g00;walk_at "";have fl:1<=fs.length:=List.length_pos_of_mem hm;have a0:=R_ (rest%4) (show (fs.length:Int)≠0 by omega);have a1:=M_ (rest%4) (show (0:Int)<(fs.length:Int) by omega);obtain⟨j,hj⟩:∃j:Nat,rest%4%(fs.length:Int)=(j:Int):=⟨(rest%4%(fs.length:Int)).toNat,by omega⟩;refine⟨by decide,by omega,fun q1 hq1=>?_⟩;rw[hj,aD (bw gf hq1),gf,Jz,q9,ph];intro q2 hq2;have n12:q1≠q2:=bw aq hq2;rw[z8,aD n12,aq,aq,iU];refine⟨by rw[Y_,Xd,h_];omega,fun q3 hq3=>?_⟩;have pm:(fs.drop j++fs.take j).Perm fs:=List.perm_append_comm.trans (by rw[List.take_append_drop]);refine key.out q3 (fs.drop j++fs.take j) _ _ _ _ _ (sb.trans ((Sub3.new hq1).trans ((Sub3.new hq2).trans (Sub3.new hq3)))) (by rw[aq,B_,List.map_drop,List.map_take]) ⟨fun x hx=>hn.nm x (pm.mem_iff.mp hx),pm.nodup_iff.mpr hn.nd⟩ (by rw[pm.length_eq];simpa using hl) (.inr (pm.mem_iff.mpr hm))
  rintro x r Z H N ⟨fs,rest,v8,v9,rfl,sb,gf,hn,hl,hm⟩ hN;refine⟨trivial,?_⟩;rw[l_] at hl;have hM:=Box.mk hN;clear hN gpr g00 key;have gpr:=sb _ _ hpr;have gpp:=sb _ _ hpp;refine aA fun R5 hR5=>?_;walk_at "";try rw[kI hs',gK]
  refine⟨by decide,fun q1 hq1=>?_⟩;rw[aD (bw gpp hq1),gpp,iU];refine⟨by rw[h_,D_];omega,fun q2 hq2=>?_⟩;have sb5:=sb.trans ((Sub3.new (o:=.lst [T.str (row.getD s "")]) hq1).trans (Sub3.new (o:=.lst (pool.map T.str++[T.str (row.getD s "")])) hq2));have gf5:up3 (up3 H q1 (.lst [T.str (row.getD s "")])) q2 (.lst (pool.map T.str++[T.str (row.getD s "")])) pf=some (.lst (fs.map T.str)):=by rw[aD (bw (Sub3.new hq1 _ _ gf) hq2),aD (bw gf hq1)];exact gf
  have h0:=R_ rest (show (9:Int)≠0 by decide);have h1:=M_ rest (show (0:Int)<9 by decide);obtain⟨j,hj⟩:∃j:Nat,rest%9=(j:Int):=⟨(rest%9).toNat,by omega⟩;have hat:atI (pool.map T.str++[T.str (row.getD s "")]) (j:Int)=some (T.str ((pool++[row.getD s ""]).getD j "")):=by have:=kI (ns:=pool++[row.getD s ""]) (i:=j) (by rw[g_,D_];omega);rw[B_] at this;exact this
  have hoth:isNm ((pool++[row.getD s ""]).getD j ""):=by
   have:=getD_memS (ns:=pool++[row.getD s ""]) (i:=j) (by rw[g_,D_];omega);rcases G_.mp this with z | z
   ·exact hpn'.out _ z
   rw[q_.mp z];exact hx'.out
  refine⟨by decide,?_⟩;rw[hj,z9,aq,wy,hat,gK];generalize up3 (up3 H q1 (.lst [T.str (row.getD s "")])) q2 (.lst (pool.map T.str++[T.str (row.getD s "")]))=H5 at sb5 gf5 ⊢;generalize (pool++[row.getD s ""]).getD j ""=oth at hoth ⊢;clear hat hq1 hq2 gpr gpp sb gf;walk_at "n";walk_at "";refine⟨⟨by decide,by decide +kernel⟩,rfl,dD fs,?_⟩;split
  ·rename_i hm1;have hni:=(Uo jj (x:=oth)).mp hm1;try walk_at ""
   refine⟨⟨trivial,trivial⟩,by omega,hM.out _ _ ⟨fs++[oth],_,_,_,rfl,?_,?_,hn.snoc hoth hni,by rw[g_,D_];omega,WT _ hm⟩⟩
   ·intro b o hb;rw[aD (bw hb f0)];exact sb5 b o hb
   rw[aq,B_];rfl
  exact hM.out _ _ ⟨fs,_,_,_,rfl,sb5,gf5,hn,by omega,hm⟩
 rw[E_ h4,if_neg p_];exact key.out p0 [] _ _ _ _ H4 sb0 g00 Nms.nil (by decide) (.inl rfl)
abbrev qi:List Str:=["_law_script","_law_names","_law_some_here","_law_rank","_law_base","_law_ahead","_law_beside","_law_orders","_law_pairs","_law_p","_law_q","_law_one","_law_other","_law_word_here"]
theorem sc_links:FnScope qi ["_law_script","_law_names","_law_some_here"] (aB (top 35)):=bj
theorem DR {f:Addr}{fd:FuncData}(g:G3 K mg "_law_links" (top 35) ["_law_script","_law_names","_law_some_here"] f fd) (B:Bl mg) (F_cell:Cal P w K mg base 1 "_law_cell" (top 30) ["_law_script","_law_k"] Dl):Cal P w K mg base 2 "_law_links" (top 35) ["_law_script","_law_names","_law_some_here"] U0:=by
 refine⟨f,fd,g,?_⟩;refine fn3 g.fn sc_links (fun ts H Q h=>?_) (fun cdv A outer s H E ts H3 Q hr h=>?_)
 ·obtain⟨a,pn,ps,sc,ns,ss,rfl,_⟩:=h;rfl
 have hu30:=Room.u30 hr;have hu31:=Room.u31 hr;obtain⟨a,pn,ps,sc,ns,ss,rfl,ha,hsc,hpn,hnn,hn8,hps,hsl,kk⟩:=h;refine⟨_,(aj (aG (i:=3) sc_links.nd (aM Hj rfl B.sorted_ jD (aa (bU rfl (cC (n0:=(aB (top 35)).names) (N:=qi) (N':=["_law_k","_law_some_here"]) (nt:=1) (cap:=[2]) rfl rfl (by decide +kernel)) (cB rfl B.range_ (aa (aM bO rfl B.len_ bQ (aa (v3 1) ak)) ak)) (fun cl pins s H C0 fp=>⟨(aC (i:=0) (show List.Nodup [("_law_k":Str),("_law_some_here":Str)] by decide +kernel)),cX,(bG (aa (aL ix3 (aL ix3 (v3 1) (v3 0)) ao) (aa (aL ix3 (aL ix3 (v3 1) (v3 0)) ao) (aa (v3 0) ak))))⟩)) ak)))
   (aj (aG (i:=4) sc_links.nd (aL ix3 (bf (aa ao (aa ao (aa ao ak)))) (aF aU (aF aZ (aQ F_cell hr rfl (aa (v3 0) (aa ao ak))) ao) ao)))
   (aj (aG (i:=5) sc_links.nd (aQ F_cell hr rfl (aa (v3 0) (aa ao ak))))
   (aj (aG (i:=6) sc_links.nd (aQ F_cell hr rfl (aa (v3 0) (aa ao ak))))
   (aj (aG (i:=7) sc_links.nd (bf ak))
   (aj (aG (i:=8) sc_links.nd (bf ak))
   (aj (bh H_ rfl (cB rfl B.range_ (aa (aM bO rfl B.len_ bQ (aa (v3 3) ak)) ak)) (aC (i:=9) sc_links.nd) (au (bh H_ rfl (yd rfl B.range_ (aa (aF aY (v3 9) ao) (aa (aM bO rfl B.len_ bQ (aa (v3 3) ak)) ak))) (aC (i:=10) sc_links.nd) (aj (aG (i:=11) sc_links.nd (aL ix3 (v3 1) (aL ix3 (aL ix3 (v3 3) (v3 9)) ao)))
     (aj (aG (i:=12) sc_links.nd (aL ix3 (v3 1) (aL ix3 (aL ix3 (v3 3) (v3 10)) ao)))
     (aj (bu (aV (cP hu30) (aF aU (v3 5) (v3 4)) ao) (au (cj (fc T_ V_ Wr bJ (v3 7) (aa (bG (aa (v3 11) (aa (v3 12) ak))) ak)))) aP)
     (aj (aG (i:=13) sc_links.nd (aL ix3 (bf (aa gB (aa gB ak))) (bI wu rfl B.int_ z6 (aa (dR (cP hu30) (aL ix3 (aL ix3 (v3 3) (v3 9)) ao) (aL ix3 (aL ix3 (v3 3) (v3 10)) ao)) ak))))
     (aj (bu (aV (nM hu31) (aF aU (v3 6) ao) (bG (aa ao (aa ao ak))) rfl) (au (cj (fc T_ V_ Wr bJ (v3 8) (aa (bG (aa (v3 13) (aa (v3 11) (aa (v3 12) ak)))) ak)))) aP)
     (aj (bu (aV (nM hu31) (aF aU (v3 6) ao) (bG (aa ao (aa ao ak))) rfl) (au (cj (fc T_ V_ Wr bJ (v3 8) (aa (bG (aa (v3 13) (aa (v3 12) (aa (v3 11) ak)))) ak)))) aP)
     (aj (aG (i:=5) sc_links.nd (aF aZ (v3 5) (v3 4)))
     (au (aG (i:=6) sc_links.nd (aF aZ (v3 6) ao)))))))))))))
   (aj (bu (aV (cP hu30) (aF aU (v3 5) ao) ao) (au (cj (Bf T_ PySem.F.slot_list_reverse PySem.F.type_list_reverse Dk (v3 7)))) aP)
   (aj (bu (aV (cP hu30) (aF aU (v3 6) ao) ao) (au (cj (Bf T_ PySem.F.slot_list_reverse PySem.F.type_list_reverse Dk (v3 8)))) aP)
   (au (aK (bG (aa (bI dm rfl B.tuple_ cI (aa (v3 7) ak)) (aa (bI dm rfl B.tuple_ cI (aa (jh (v3 8) eX (dJ ao)) ak)) ak)))))))))))))),?_⟩
 rw[show aR qi [T.ref a,T.ref pn,T.ref ps]=[some (T.ref a),some (T.ref pn),some (T.ref ps),none,none,none,none,none,none,none,none,none,none,none] from rfl];have hsz:sizeLine=16777216:=rfl;have k':=Box.mk kk;clear kk;refine aA fun R0 hR0=>?_;walk_at "";refine⟨trivial,by omega,by omega,?_⟩;rw[oh];walk_at "c";refine bZ (fun (k:Nat)=>T.int (k:Int)) (fun k=>trT ((((ss.map (·.1)).getD k 0:Nat):Int),(ss.map (·.2.1)).getD k 0,(k:Int))) (List.range ns.length) [some (.ref ps)] trivial (by rw[A_];omega) (fun k hk Q' hq=>?_) (fun p1 hp1=>?_)
 ·have hk':k<ss.length:=by have:=Wu.mp hk;omega
  have x1:atI (ss.map tk5) (k:Int)=some (.tup [.int ((ss[k]).1:Int),.int (ss[k]).2.1,.int (ss[k]).2.2.1,sT (ss[k]).2.2.2.1,.str (ss[k]).2.2.2.2]):=bN (by rw[o_,a_ hk'];rfl);have y1:(ss.map (·.1)).getD k 0=(ss[k]).1:=by rw[d_,o_,a_ hk'];rfl
  have y2:(ss.map (·.2.1)).getD k 0=(ss[k]).2.1:=by rw[d_,o_,a_ hk'];rfl
  rw[y1,y2] at hq;generalize ss[k]=tk at x1 hq;have hq':=Box.mk hq;clear hq k' hR0 y1 y2;walk_at "";exact⟨by decide,hq'.out⟩
 refine⟨(List.range ns.length).map fun k=>((((ss.map (·.1)).getD k 0:Nat):Int),(ss.map (·.2.1)).getD k 0,(k:Int)),by rw[WN];rfl,by rw[h_,A_];omega,fun us hperm hpw pk hpk=>?_⟩;obtain⟨ul,ix,hx1,hx2⟩:=Qe hsl hperm hpw;have sb:Sub3 H3 (up3 (up3 H3 p1 (.lst ((List.range ns.length).map fun k=>trT ((((ss.map (·.1)).getD k 0:Nat):Int),(ss.map (·.2.1)).getD k 0,(k:Int))))) pk (.lst (us.map trT))):=(Sub3.new hp1).trans (Sub3.new hpk);have gk:up3 (up3 H3 p1 (.lst ((List.range ns.length).map fun k=>trT ((((ss.map (·.1)).getD k 0:Nat):Int),(ss.map (·.2.1)).getD k 0,(k:Int))))) pk (.lst (us.map trT)) pk=some (.lst (us.map trT)):=aq;generalize up3 (up3 H3 p1 (.lst ((List.range ns.length).map fun k=>trT ((((ss.map (·.1)).getD k 0:Nat):Int),(ss.map (·.2.1)).getD k 0,(k:Int))))) pk (.lst (us.map trT))=H4 at sb gk ⊢;clear hperm hpw hpk hp1;have hx1':=Box.mk hx1;have hx2':=Box.mk hx2;clear hx1 hx2;walk_at "n";refine aA fun R1 hR1=>?_;walk_at "";refine⟨by decide,fun q1 hq1=>?_⟩;have sb1:=sb.trans (Sub3.new (o:=.lst [T.int 2,T.int 4,T.int 8]) hq1);have gk1:up3 H4 q1 (.lst [T.int 2,T.int 4,T.int 8]) pk=_ := upa gk hq1;have gq1:up3 H4 q1 (.lst [T.int 2,T.int 4,T.int 8]) q1=some (.lst [T.int 2,T.int 4,T.int 8]):=aq;generalize up3 H4 q1 (.lst [T.int 2,T.int 4,T.int 8])=H5 at sb1 gk1 gq1 ⊢;clear sb gk hq1;refine⟨a,sc,0,rfl,sb1 _ _ ha,hsc,by decide,fun c0=>?_⟩;dsimp only;obtain⟨bs,eb,hbs⟩:∃bs:Int,atI [T.int 2,T.int 4,T.int 8] (c0 / 2048%3)=some (T.int bs)/\(bs=2\/bs=4\/bs=8):=by
  have i0:=R_ (c0 / 2048) (show (3:Int)≠0 by decide);have i1:=M_ (c0 / 2048) (show (0:Int)<3 by decide);rcases (show c0 / 2048%3=0\/c0 / 2048%3=1\/c0 / 2048%3=2 by omega) with h | h | h
  ·rw[h];exact⟨2,rfl,.inl rfl⟩
  ·rw[h];exact⟨4,rfl,.inr (.inl rfl)⟩
  rw[h];exact⟨8,rfl,.inr (.inr rfl)⟩
 walk_at "";refine⟨⟨by decide,by decide +kernel⟩,by decide,?_⟩;have lgb:bs.natAbs.log2<9000:=Ys (Zb _) (by omega);clear eb gq1;walk_at "n";refine aA fun R2 hR2=>?_;walk_at "";refine⟨a,sc,12,rfl,sb1 _ _ ha,hsc,by decide,fun c1=>?_⟩;walk_at "n";refine aA fun R3 hR3=>?_;walk_at "";refine⟨a,sc,13,rfl,sb1 _ _ ha,hsc,by decide,fun c2=>?_⟩;walk_at "n";refine aA fun R4 hR4=>?_;walk_at "";refine⟨by decide,fun po hpo=>?_⟩;walk_at "n";refine aA fun R5 hR5=>?_;walk_at "";refine⟨by decide,fun pq hpq=>?_⟩;have lh0:LkH H3 (up3 (up3 H5 po (.lst [])) pq (.lst [])) pk po pq us [] [] :=
  ⟨(sb1.trans (Sub3.new hpo)).trans (Sub3.new hpq),Sub3.new hpq _ _ (Sub3.new hpo _ _ gk1),by rw[aD (bw aq hpq)];exact aq,aq,cF sb1 hpo,cF (sb1.trans (Sub3.new hpo)) hpq,bw gk1 hpo,bw (Sub3.new hpo _ _ gk1) hpq,bw aq hpq⟩
 generalize up3 (up3 H5 po (.lst [])) pq (.lst [])=H6 at lh0 ⊢;clear sb1 gk1 hpo hpq;walk_at "n";refine aA fun R6 hR6=>?_;have gk0:=lh0.k;walk_at "";refine⟨by first | trivial | omega,by omega,by omega,?_⟩;try rw[ul]
 rw[oh];have hnO:∃nmO:Nat->Str,∀p<ns.length,ns[ix p]?=some (nmO p):=⟨fun p=>ns.getD (ix p) "",fun p hp=>by
  have:=(hx1'.out p hp).1
  dsimp only
  rw[d_,a_ this]
  rfl⟩
 obtain⟨nmO,hnO⟩:=hnO;obtain⟨wd,hwd⟩:∃wd:Nat->Nat->Str,∀p q,wd p q=if (ss.map (·.1)).getD (ix p) 0=(ss.map (·.1)).getD (ix q) 0 then "with" else "apart":=⟨_,fun _ _=>rfl⟩
 have hwd':=Box.mk hwd;clear hwd;have hinj:Box (∀i j,i<ns.length->j<ns.length->nmO i=nmO j->i=j):=⟨fun i j hi hj e=>by
  have h1:=hnO i hi
  have h2:=hnO j hj
  rw[e,<- h2] at h1
  have e2:=(Zu (hx1'.out i hi).1 hnn.nd).mp h1
  rcases Nat.lt_trichotomy i j with z | z | z
  ·
   exact absurd e2 (hx2'.out i j z hj).1
  ·
   exact z
  ·
   exact absurd e2.symm (hx2'.out j i z hi).1⟩
 refine aW (fun (k:Nat)=>T.int (k:Int)) (List.range ns.length) (fun A Z H=>∃(O:List (Str × Str)) (P:List (Str × Str × Str)) (ah be:Int) (v9 v10 v11 v12 v13:Option T),Z=[some (.ref a),some (.ref pn),some (.ref ps),some (.ref pk),some (.int bs),some (.int ah),some (.int be),some (.ref po),some (.ref pq),v9,v10,v11,v12,v13]/\LkH H3 H pk po pq us O P/\Lk1 nmO wd ns.length A.length 0 O P) ⟨[],[],_,_,_,_,_,_,_,rfl,lh0,⟨YK,(fun _ z=>nomatch z),YK,(fun _ z=>nomatch z),WR _,WR _⟩⟩ ?_ ?_
 ·rintro Z H ⟨O,P,ah,be,v9,v10,v11,v12,v13,rfl,lh,l1⟩;refine⟨trivial,?_⟩;have gk:=lh.k;have go:=lh.o;have gp:=lh.p;clear lh0 gk0;walk_at "n";refine aA fun R7 hR7=>?_;walk_at "";refine⟨by decide,?_⟩;refine Dm ⟨trivial,trivial⟩ fun b7 H7 e7=>?_;obtain⟨O',pO,lh7⟩:∃O':List (Str × Str),O'.Perm O/\LkH H3 H7 pk po pq us O' P:=by
   cases b7
   ·rw[e7];exact⟨O,.refl _,lh⟩
   refine⟨O.reverse,List.reverse_perm O,?_⟩;rw[e7,<- Za];exact lh.putO
  have gp7:=lh7.p;clear e7 lh gk go gp;walk_at "n";refine aA fun R8 hR8=>?_;walk_at "";refine⟨by decide,?_⟩;refine Dm ⟨trivial,trivial⟩ fun b8 H8 e8=>?_;obtain⟨P',pP,lh8⟩:∃P':List (Str × Str × Str),P'.Perm P/\LkH H3 H8 pk po pq us O' P':=by
   cases b8
   ·rw[e8];exact⟨P,.refl _,lh7⟩
   refine⟨P.reverse,List.reverse_perm P,?_⟩;rw[e8,<- Za];exact lh7.putP
  have gp8:=lh8.p;have go8:=lh8.o;clear e8 lh7 gp7;walk_at "n";walk_at "";intro q1 hq1;refine⟨by decide,?_⟩;rw[show (12:Int)=((12:Nat):Int) from rfl,ph,<- List.map_take];exact Fin3.of (lh8.sb.trans (Sub3.new hq1)) (k'.out O' (P'.take 12) (Qf hn8 (fun p hp=>(hx1'.out p hp).1) hx2'.out hnO hwd'.out l1 pO pP))
 rintro A p B Z H N e ⟨O,P,ah,be,v9,v10,v11,v12,v13,rfl,lh,l1⟩ hN;refine⟨trivial,?_⟩;have hA:A.length<ns.length:=by have:=WK List.length e;simp only[g_,l_,A_] at this;omega
 have hj:p=A.length:=by
  have h1:(List.range ns.length)[A.length]?=some p:=by rw[e,N_ (j_ _)];simp
  rw[Wv hA] at h1;exact (K_ h1).symm
 have gk:=lh.k;have hN':=Box.mk hN;clear hN e k' hR6 lh0 gk0;subst hj;walk_at "";refine⟨by first | trivial | omega,⟨by omega,by omega,by omega,by omega⟩,?_⟩;rw[show dH ((A.length:Int)+1) ((ns.length:Int) - ((A.length:Int)+1)).toNat=(List.range (ns.length - (A.length+1))).map (fun (i:Nat)=>T.int ((A.length:Int)+1+(i:Int))) by unfold dH;rw[show ((ns.length:Int) - ((A.length:Int)+1)).toNat=ns.length - (A.length+1) by omega]];refine aW (fun (i:Nat)=>T.int ((A.length:Int)+1+(i:Int))) (List.range (ns.length - (A.length+1))) (fun A2 Z H=>∃(O:List (Str × Str)) (P:List (Str × Str × Str)) (ah be:Int) (v10 v11 v12 v13:Option T),Z=[some (.ref a),some (.ref pn),some (.ref ps),some (.ref pk),some (.int bs),some (.int ah),some (.int be),some (.ref po),some (.ref pq),some (.int (A.length:Int)),v10,v11,v12,v13]/\LkH H3 H pk po pq us O P/\Lk1 nmO wd ns.length A.length (A.length+1+A2.length) O P) ⟨O,P,_,_,_,_,_,_,rfl,lh,l1.skip (fun p' q' _ z=>by unfold Dn at *;omega) (by omega)⟩ ?_ ?_
 ·rintro Z H ⟨O,P,ah,be,v10,v11,v12,v13,rfl,lh,l1⟩;refine⟨trivial,?_⟩;rw[A_] at l1;exact hN'.out _ _ ⟨O,P,_,_,_,_,_,_,_,rfl,lh,l1.skip (fun p' q' hq z=>by rw[g_,D_];unfold Dn at *;omega) (by rw[g_,D_];omega)⟩
 rintro A2 i B2 Z H N2 e2 ⟨O,P,ah,be,v10,v11,v12,v13,rfl,lh,l1⟩ hN2;refine⟨trivial,?_⟩;have hA2:A2.length<ns.length - (A.length+1):=by have:=WK List.length e2;simp only[g_,l_,A_] at this;omega
 have hi2:i=A2.length:=by
  have h1:(List.range (ns.length - (A.length+1)))[A2.length]?=some i:=by rw[e2,N_ (j_ _)];simp
  rw[Wv hA2] at h1;exact (K_ h1).symm
 subst hi2;have hM:Box (∀(b1 b2 b3:Bool) (ah be:Int) (v10 v11 v12 v13:Option T) (H':Hp3),LkH H3 H' pk po pq us (bif b1 then O++[(nmO A.length,nmO (A.length+1+A2.length))] else O) (bif b3 then (bif b2 then P++[(wd A.length (A.length+1+A2.length),nmO A.length,nmO (A.length+1+A2.length))] else P)++[(wd A.length (A.length+1+A2.length),nmO (A.length+1+A2.length),nmO A.length)] else (bif b2 then P++[(wd A.length (A.length+1+A2.length),nmO A.length,nmO (A.length+1+A2.length))] else P))->N2 [some (.ref a),some (.ref pn),some (.ref ps),some (.ref pk),some (.int bs),some (.int ah),some (.int be),some (.ref po),some (.ref pq),some (.int (A.length:Int)),v10,v11,v12,v13] H'):=⟨fun b1 b2 b3 ah be v10 v11 v12 v13 H' hl=>hN2 _ _ ⟨_,_,_,_,_,_,_,_,rfl,hl,by
  have:=l1.step hinj.out (by omega) (by omega) b1 b2 b3
  rw[g_,D_]
  exact this⟩⟩
 have ol:=l1.ol;have pl_:=l1.pl;clear hN2 e2 hN' l1;obtain⟨q,hq⟩:∃q,q=A.length+1+A2.length:=⟨_,rfl⟩;have hqm:q<ns.length:=by omega
 have eqI:(A.length:Int)+1+(A2.length:Int)=(q:Int):=by omega
 rw[<- hq] at hM ol pl_;obtain⟨ip,up⟩:=hx1'.out A.length hA;obtain⟨iq,uq⟩:=hx1'.out q hqm;have u1:atI (us.map trT) (A.length:Int)=some (.tup [.int (((ss.map (·.1)).getD (ix A.length) 0:Nat):Int),.int (us.getD A.length (0,0,0)).2.1,.int (ix A.length:Int)]):=bN (by rw[o_,up];rfl);have u2:atI (us.map trT) (q:Int)=some (.tup [.int (((ss.map (·.1)).getD (ix q) 0:Nat):Int),.int (us.getD q (0,0,0)).2.1,.int (ix q:Int)]):=bN (by rw[o_,uq];rfl);have n1:atI (ns.map T.str) (ix A.length:Int)=some (.str (nmO A.length)):=bN (by rw[o_,hnO _ hA];rfl);have n2:atI (ns.map T.str) (ix q:Int)=some (.str (nmO q)):=bN (by rw[o_,hnO _ hqm];rfl);have hw:=hwd'.out A.length q;have gk:=lh.k;have gn:=lh.sb _ _ hpn;have go:=lh.o;dsimp only;rw[eqI];clear eqI hq;generalize (ss.map (·.1)).getD (ix A.length) 0=s1 at *;generalize (ss.map (·.1)).getD (ix q) 0=s2 at *;refine aA fun Ra hRa=>?_;walk_at "";obtain⟨hRa⟩:=hRa;subst hRa;refine aA fun Rb hRb=>?_;walk_at "";obtain⟨hRb⟩:=hRb;subst hRb;refine aA fun Rc hRc=>?_;walk_at "";refine⟨by omega,?_⟩;refine vg (p1:=True/\True) ⟨trivial,trivial⟩ (by decide) (by omega) fun b1 Hb eb=>?_;have lhb:LkH H3 Hb pk po pq us (bif b1 then O++[(nmO A.length,nmO q)] else O) P:=by
  cases b1
  ·rw[eb];exact lh
  have:=lh.putO (O':=O++[(nmO A.length,nmO q)]);rw[B_] at this;rw[eb];exact this
 clear eb gk gn go lh;have gk:=lhb.k;obtain⟨hRc⟩:=hRc;subst hRc;refine aA fun Rd hRd=>?_;walk_at "";refine⟨by decide,fun q1 hq1=>?_⟩;have lhc:=lhb.new (u:=.lst [T.str "apart",T.str "with"]) hq1;have gq1:up3 Hb q1 (.lst [T.str "apart",T.str "with"]) q1=some (.lst [T.str "apart",T.str "with"]):=aq;generalize up3 Hb q1 (.lst [T.str "apart",T.str "with"])=Hc at lhc gq1 ⊢;clear lhb gk hq1;have gk:=lhc.k;walk_at "";have hwd2:atI [T.str "apart",T.str "with"] (if decide ((s1:Int)=(s2:Int))=true then 1 else 0)=some (T.str (wd A.length q)):=by
  by_cases z:s1=s2
  ·rw[hw,if_pos z,L_ (by rw[z]),if_pos rfl];rfl
  rw[hw,if_neg z,E_ (by omega),if_neg p_];rfl
 rw[hwd2,gK];clear hwd2 hw gq1 gk;obtain⟨hRd⟩:=hRd;subst hRd;have gp:=lhc.p;refine aA fun Re hRe=>?_;walk_at "";refine⟨by decide,by decide,rfl,rfl,?_⟩;refine vg (p1:=True/\True) ⟨trivial,trivial⟩ (by decide) (by omega) fun b2 Hd ed=>?_;have lhd:LkH H3 Hd pk po pq us (bif b1 then O++[(nmO A.length,nmO q)] else O) (bif b2 then P++[(wd A.length q,nmO A.length,nmO q)] else P):=by
  cases b2
  ·rw[ed];exact lhc
  have:=lhc.putP (P':=P++[(wd A.length q,nmO A.length,nmO q)]);rw[B_] at this;rw[ed];exact this
 have hP1:(bif b2 then P++[(wd A.length q,nmO A.length,nmO q)] else P).length<=2*(9*A.length+q)+1:=by
  cases b2
  ·exact Nat.le_succ_of_le pl_
  show (P++[_]).length<=_;rw[g_];simp;exact pl_
 have hM2:=Box.mk (hM.out b1 b2);clear ed lhc gp hM;generalize (bif b2 then P++[(wd A.length q,nmO A.length,nmO q)] else P)=P1 at *;obtain⟨hRe⟩:=hRe;subst hRe;have gp:=lhd.p;refine aA fun Rf hRf=>?_;walk_at "";refine⟨by decide,by decide,rfl,rfl,?_⟩;refine vg (p1:=True/\True) ⟨trivial,trivial⟩ (by decide) (by omega) fun b3 He ee=>?_;have lhe:LkH H3 He pk po pq us (bif b1 then O++[(nmO A.length,nmO q)] else O) (bif b3 then P1++[(wd A.length q,nmO q,nmO A.length)] else P1):=by
  cases b3
  ·rw[ee];exact lhd
  have:=lhd.putP (P':=P1++[(wd A.length q,nmO q,nmO A.length)]);rw[B_] at this;rw[ee];exact this
 clear ee lhd gp;obtain⟨hRf⟩:=hRf;subst hRf;walk_at "";exact⟨⟨by omega,lgb⟩,⟨by decide,by decide +kernel⟩,hM2.out b3 _ _ _ _ _ _ _ lhe⟩
abbrev jo:List Str:=["_law_script","_law_most","_law_wide","_law_first","_law_pool_here","_law_spread","_law_kinds","_law_row","_law_k","_law_unit","_law_some_here","_law_names","_law_tasks","_law_orders","_law_pairs"]
theorem sc_works:FnScope jo ["_law_script","_law_most","_law_wide"] (aB (top 36)):=bj
theorem DW {f:Addr}{fd:FuncData}(g:G3 K mg "_law_works" (top 36) ["_law_script","_law_most","_law_wide"] f fd) (B:Bl mg) (F_cell:Cal P w K mg base 1 "_law_cell" (top 30) ["_law_script","_law_k"] Dl) (F_pool:Cal P w K mg base 2 "_law_pool" (top 33) ["_law_cell_here"] UV) (F_task:Cal P w K mg base 2 "_law_task" (top 34) ["_law_cell_here","_law_row","_law_pool_here","_law_unit"] UW) (F_unlike:Cal P w K mg base 1 "_law_unlike" (top 32) ["_law_words"] Qa) (F_links:Cal P w K mg base 2 "_law_links" (top 35) ["_law_script","_law_names","_law_some_here"] U0):Cal P w K mg base 3 "_law_works" (top 36) ["_law_script","_law_most","_law_wide"] U4:=by
 refine⟨f,fd,g,?_⟩;refine fn3 g.fn sc_works (fun ts H Q h=>?_) (fun cdv A outer s H E ts H3 Q hr h=>?_)
 ·obtain⟨a,sc,most,wide,rfl,_⟩:=h;rfl
 obtain⟨a,sc,most,wide,rfl,ha,hsc,m1,m8,w1,w8,kk⟩:=h;refine⟨_,(aj (aG (i:=3) sc_works.nd (aQ F_cell hr rfl (aa (v3 0) (aa ao ak))))
   (aj (aG (i:=4) sc_works.nd (aQ F_pool hr rfl (aa (aQ F_cell hr rfl (aa (v3 0) (aa ao ak))) ak)))
   (aj (aG (i:=5) sc_works.nd (aL ix3 (bf (aa ao (aa ao (aa ao (aa ao ak))))) (aF aU (aF aZ (v3 3) ao) ao)))
   (aj (aG (i:=6) sc_works.nd (aQ F_cell hr rfl (aa (v3 0) (aa ao ak))))
   (aj (aG (i:=7) sc_works.nd (bf ak))
   (aj (bh H_ rfl (cB rfl B.range_ (aa (aF aY ao (aF aU (aF aZ (v3 3) ao) (v3 2))) ak)) (aC (i:=8) sc_works.nd) (aj (cj (fc T_ V_ Wr bJ (v3 7) (aa (aL ix3 (v3 4) (aF aU (v3 6) (v3 5))) ak)))
    (au (aG (i:=6) sc_works.nd (aF aZ (v3 6) (v3 5))))))
   (aj (aG (i:=9) sc_works.nd (aF aY ao (aF aU (aQ F_cell hr rfl (aa (v3 0) (aa ao ak))) (aF iQ ao ao))))
   (aj (aG (i:=10) sc_works.nd (bf ak))
   (aj (bh H_ rfl (cB rfl B.range_ (aa (aF aY ao (aF aU (aF aZ (v3 3) ao) (v3 1))) ak)) (aC (i:=8) sc_works.nd) (au (cj (fc T_ V_ Wr bJ (v3 10) (aa (aQ F_task hr rfl (aa (aQ F_cell hr rfl (aa (v3 0) (aa (aF aY ao (v3 8)) ak))) (aa (v3 7) (aa (v3 4) (aa (v3 9) ak))))) ak)))))
   (aj (aG (i:=11) sc_works.nd (aQ F_unlike hr rfl (aa (bU rfl (cC (n0:=(aB (top 36)).names) (N:=jo) (N':=["_law_one"]) (nt:=1) (cap:=[]) rfl rfl (by decide +kernel)) (cL (v3 10)) (fun cl pins s H C0 fp=>⟨(aC (i:=0) (show List.Nodup [("_law_one":Str)] by decide +kernel)),cX,(aL ix3 (v3 0) ao)⟩)) ak)))
   (aj (vW (i:=12) rfl sc_works.nd (cC (n0:=(aB (top 36)).names) (N:=jo) (N':=["_law_name","_law_one"]) (nt:=2) (cap:=[]) rfl rfl (by decide +kernel)) (Hl rfl B.zip_ (aa (v3 11) (aa (v3 10) ak))) (fun cl pins s H C0 fp=>⟨(bW (n:=2) rfl (aH (aC (i:=0) (show List.Nodup [("_law_name":Str),("_law_one":Str)] by decide +kernel)) (aH (aC (i:=1) (show List.Nodup [("_law_name":Str),("_law_one":Str)] by decide +kernel)) bA))),cX,(bG (aa (v3 0) (aa (aL ix3 (v3 1) ao) (aa (aL ix3 (v3 1) ao) ak))))⟩))
   (aj (gO (aQ F_links hr rfl (aa (v3 0) (aa (v3 11) (aa (v3 10) ak)))) (bW (n:=2) rfl (aH (aC (i:=13) sc_works.nd) (aH (aC (i:=14) sc_works.nd) bA))))
   (au (aK (bG (aa (bG (aa (bI dm rfl B.tuple_ cI (aa (v3 12) ak)) (aa (v3 13) (aa (v3 14) (aa (bI dm rfl B.tuple_ cI (aa (v3 7) ak)) ak))))) (aa (bU rfl (cC (n0:=(aB (top 36)).names) (N:=jo) (N':=["_law_one"]) (nt:=1) (cap:=[]) rfl rfl (by decide +kernel)) (cL (v3 10)) (fun cl pins s H C0 fp=>⟨(aC (i:=0) (show List.Nodup [("_law_one":Str)] by decide +kernel)),cX,(aL ix3 (v3 0) ao)⟩)) ak))))))))))))))))),?_⟩
 rw[show aR jo [T.ref a,T.int most,T.int wide]=[some (T.ref a),some (T.int most),some (T.int wide),none,none,none,none,none,none,none,none,none,none,none,none] from rfl];have hsz:sizeLine=16777216:=rfl;have k':=Box.mk kk;clear kk;refine aA fun R0 hR0=>?_;walk_at "";refine⟨a,sc,0,rfl,ha,hsc,by decide,fun c0=>?_⟩;walk_at "n";refine aA fun R1 hR1=>?_;walk_at "";refine⟨a,sc,2,rfl,ha,hsc,by decide,fun c1=>⟨c1,rfl,fun pool hpl hpn pp hpp=>?_⟩⟩;have sb1:Sub3 H3 (up3 H3 pp (.lst (pool.map T.str))):=Sub3.new hpp;have gp1:up3 H3 pp (.lst (pool.map T.str)) pp=some (.lst (pool.map T.str)):=aq;generalize up3 H3 pp (.lst (pool.map T.str))=H4 at sb1 gp1 ⊢;clear hpp;walk_at "n";refine aA fun R2 hR2=>?_;obtain⟨sp,eb,hsp⟩:∃sp:Int,atI [T.int 1,T.int 2,T.int 3,T.int 8] (c0 / 512%4)=some (T.int sp)/\1<=sp/\sp<=8:=by
  have i0:=R_ (c0 / 512) (show (4:Int)≠0 by decide);have i1:=M_ (c0 / 512) (show (0:Int)<4 by decide);rcases (show c0 / 512%4=0\/c0 / 512%4=1\/c0 / 512%4=2\/c0 / 512%4=3 by omega) with h | h | h | h
  ·rw[h];exact⟨1,rfl,by decide⟩
  ·rw[h];exact⟨2,rfl,by decide⟩
  ·rw[h];exact⟨3,rfl,by decide⟩
  rw[h];exact⟨8,rfl,by decide⟩
 walk_at "";refine⟨by decide,fun q1 hq1=>⟨⟨by decide,by decide +kernel⟩,by decide,?_⟩⟩;try rw[eb,gK]
 have sb2:=sb1.trans (Sub3.new (o:=.lst [T.int 1,T.int 2,T.int 3,T.int 8]) hq1);have gp2:up3 H4 q1 (.lst [T.int 1,T.int 2,T.int 3,T.int 8]) pp=_ := upa gp1 hq1;generalize up3 H4 q1 (.lst [T.int 1,T.int 2,T.int 3,T.int 8])=H5 at sb2 gp2 ⊢;have lgs:sp.natAbs.log2<9000:=Ys (Zb _) (by omega);clear sb1 gp1 hq1 eb;walk_at "n";refine aA fun R3 hR3=>?_;walk_at "";refine⟨a,sc,1,rfl,sb2 _ _ ha,hsc,by decide,fun c2=>?_⟩;walk_at "n";refine aA fun R4 hR4=>?_;walk_at "";refine⟨by decide,fun pr hpr=>?_⟩;have sb3:=sb2.trans (Sub3.new (o:=.lst []) hpr);have f0:=cF sb2 hpr;have gp3:up3 H5 pr (.lst []) pp=_ := upa gp2 hpr;have npr:pp≠pr:=bw gp2 hpr;have gr3:up3 H5 pr (.lst []) pr=some (.lst (([]:List Str).map T.str)):=aq;generalize up3 H5 pr (.lst [])=H6 at sb3 gp3 gr3 ⊢;clear sb2 gp2 hpr;walk_at "n";refine aA fun R5 hR5=>?_;walk_at "";have w0:=R_ (c0 / 2) (show wide≠0 by omega);have w2:=M_ (c0 / 2) (show 0<wide by omega);refine⟨⟨by decide,by decide +kernel⟩,by omega,by first | trivial | omega,by omega,by omega,?_⟩;have rl:(dH 0 (1+c0 / 2%wide).toNat).length=(1+c0 / 2%wide).toNat:=by unfold dH;rw[h_,A_]
 generalize dH 0 (1+c0 / 2%wide).toNat=ts0 at rl;have hpn':=Box.mk hpn;clear hpn;refine il (fun r Z H=>∃(row:List Str) (c2:Int) (v8:Option T),Z=[some (.ref a),some (.int most),some (.int wide),some (.int c0),some (.ref pp),some (.int sp),some (.int c2),some (.ref pr),v8,none,none,none,none,none,none]/\Sub3 H3 H/\H pp=some (.lst (pool.map T.str))/\H pr=some (.lst (row.map T.str))/\(row.length:Int)+r.length=1+c0 / 2%wide/\∀x∈row,isNm x) ⟨[],c2,_,rfl,sb3,gp3,gr3,by rw[rl,W3];omega,(fun _ z=>nomatch z)⟩ ?_ ?_
 ·rintro Z H ⟨row,c3,v8,rfl,sb,gp,gr,hrl,hrn⟩;refine⟨trivial,?_⟩;rw[W3] at hrl;have r1:1<=row.length:=by omega
  have r8:row.length<=8:=by omega
  have rw_:(row.length:Int)<=wide:=by omega
  have hrn':=Box.mk hrn;clear hrn sb3 gp3 gr3 hrl rl w0 w2;walk_at "n";refine aA fun R6 hR6=>?_;walk_at "";refine⟨a,sc,3,rfl,sb _ _ ha,hsc,by decide,fun c4=>⟨⟨by decide,by decide,by decide⟩,?_⟩⟩;walk_at "";refine⟨by decide +kernel,?_⟩;have p57:(10:Int)^Int.toNat 57=10^57:=rfl;rw[p57];have u0:=R_ c4 (show ((10:Int)^57)≠0 by decide +kernel);have u9:=M_ c4 (show (0:Int)<(10:Int)^57 by decide +kernel);obtain⟨unit,hu⟩:∃unit:Int,1+c4%10^57=unit:=⟨_,rfl⟩;have u1:1<=unit:=by omega
  have u2:unit<=10^57:=by omega
  rw[hu];clear hu u0 u9 p57;walk_at "n";refine aA fun R7 hR7=>?_;walk_at "";refine⟨by decide,fun ps hps=>?_⟩;have sb4:=sb.trans (Sub3.new (o:=.lst []) hps);have g0:=cF sb hps;have gp4:up3 H ps (.lst []) pp=_ := upa gp hps;have gr4:up3 H ps (.lst []) pr=_ := upa gr hps;have gs4:up3 H ps (.lst []) ps=some (.lst (([]:List Tk5).map tk5)):=aq;have nps1:pp≠ps:=bw gp hps;have nps2:pr≠ps:=bw gr hps;generalize up3 H ps (.lst [])=H7 at sb4 gp4 gr4 gs4 ⊢;clear sb gp gr hps;walk_at "n";refine aA fun R8 hR8=>?_;walk_at "";have t0:=R_ (c0 / 64) (show most≠0 by omega);have t2:=M_ (c0 / 64) (show 0<most by omega);refine⟨⟨by decide,by decide +kernel⟩,by omega,by first | trivial | omega,by omega,by omega,?_⟩;obtain⟨n,hn⟩:∃n:Nat,(1+c0 / 64%most).toNat=n:=⟨_,rfl⟩;have n1:1<=n:=by omega
  have n8:n<=8:=by omega
  have nm_:(n:Int)<=most:=by omega
  rw[hn,oh];clear hn t0 t2;refine aW (fun (i:Nat)=>T.int (i:Int)) (List.range n) (fun A Z H=>∃(ss:List Tk5) (v8:Option T),Z=[some (.ref a),some (.int most),some (.int wide),some (.int c0),some (.ref pp),some (.int sp),some (.int c3),some (.ref pr),v8,some (.int unit),some (.ref ps),none,none,none,none]/\Sub3 H3 H/\H pp=some (.lst (pool.map T.str))/\H pr=some (.lst (row.map T.str))/\H ps=some (.lst (ss.map tk5))/\ss.length=A.length/\∀t∈ss,TkO row t) ⟨[],_,rfl,sb4,gp4,gr4,gs4,rfl,(fun _ z=>nomatch z)⟩ ?_ ?_
  ·rintro Z H ⟨ss,v8,rfl,sb,gp,gr,gs,hsl,hss⟩;refine⟨trivial,?_⟩;rw[A_] at hsl;have hss':=Box.mk hss;clear hss sb4 gp4 gr4 gs4;walk_at "n";refine aA fun R9 hR9=>?_;walk_at "";walk_at "c";refine bZ tk5 (fun t=>T.str t.2.2.2.2) ss [] (.inl gs) (by omega) (fun t ht Q' hq=>?_) (fun q1 hq1=>?_)
   ·have x1:atI [T.int (t.1:Int),T.int t.2.1,T.int t.2.2.1,sT t.2.2.2.1,T.str t.2.2.2.2] 4=some (T.str t.2.2.2.2):=rfl;have hq':=Box.mk hq;clear hq k' hR9;simp only[tk5];walk_at "";exact hq'.out
   rw[show (ss.map fun t=>T.str t.2.2.2.2)=(ss.map (·.2.2.2.2)).map T.str by rw[WN];rfl];refine⟨q1,ss.map (·.2.2.2.2),rfl,aq,by rw[h_];omega,fun x hx=>?_,fun ns hnl hnn pn hpn=>?_⟩
   ·obtain⟨t,ht,rfl⟩:=z_.mp hx;exact (hss'.out t ht).nm
   rw[h_] at hnl;have sb5:=sb.trans ((Sub3.new hq1).trans (Sub3.new (o:=.lst (ns.map T.str)) hpn));have st5:=(Sub3.new hq1).trans (Sub3.new (o:=.lst (ns.map T.str)) hpn);have gr5:=st5 _ _ gr;have gs5:=st5 _ _ gs;have gn5:up3 (up3 H q1 (.lst ((ss.map (·.2.2.2.2)).map T.str))) pn (.lst (ns.map T.str)) pn=some (.lst (ns.map T.str)):=aq;try dsimp only
   generalize up3 (up3 H q1 (.lst ((ss.map (·.2.2.2.2)).map T.str))) pn (.lst (ns.map T.str))=H8 at sb5 gr5 gs5 gn5 ⊢;clear st5 sb gp gr gs hq1 hpn;walk_at "n";refine aA fun R10 hR10=>?_;walk_at "";rw[lW,show ∀x0 x1 x2 x3 x4 x5 x6 x7 x8 x9 x10 x11 x12 x13 x14,o4 2 [] [x0,x1,x2,x3,x4,x5,x6,x7,x8,x9,x10,x11,x12,x13,x14]=[none,none] from fun _ _ _ _ _ _ _ _ _ _ _ _ _ _ _=>rfl];refine rm (fun z=>T.str z.1) (fun z=>tk5 z.2) (fun z=>.tup [.str z.1,.int z.2.2.2.1,sT z.2.2.2.2.1]) (ns.zip ss) [] (still:=fun H'=>aX pn (ns.map T.str) H'/\aX ps (ss.map tk5) H') (H:=H8) ⟨.inl gn5,.inl gs5⟩ (by rw[List.length_zip];omega) (fun z hz Q' hq=>?_) ?_
   ·obtain⟨zn,zt⟩:=z;have x2:atI [T.int (zt.1:Int),T.int zt.2.1,T.int zt.2.2.1,sT zt.2.2.2.1,T.str zt.2.2.2.2] 2=some (T.int zt.2.2.1):=rfl;have x3:atI [T.int (zt.1:Int),T.int zt.2.1,T.int zt.2.2.1,sT zt.2.2.2.1,T.str zt.2.2.2.2] 3=some (sT zt.2.2.2.1):=rfl;have hq':=Box.mk hq;clear hq k' hR10;simp only[tk5];walk_at "";exact⟨by decide,hq'.out⟩
   try dsimp only
   intro pt hpt;have st6:=Sub3.new (o:=.lst ((ns.zip ss).map fun z=>T.tup [.str z.1,.int z.2.2.2.1,sT z.2.2.2.2.1])) hpt;have gr6:=st6 _ _ gr5;have gs6:=st6 _ _ gs5;have gn6:=st6 _ _ gn5;have gt6:up3 H8 pt (.lst ((ns.zip ss).map fun z=>T.tup [.str z.1,.int z.2.2.2.1,sT z.2.2.2.2.1])) pt=some (.lst ((ns.zip ss).map fun z=>T.tup [.str z.1,.int z.2.2.2.1,sT z.2.2.2.2.1])):=aq;have sb6:Sub3 H3 (up3 H8 pt (.lst ((ns.zip ss).map fun z=>T.tup [.str z.1,.int z.2.2.2.1,sT z.2.2.2.2.1]))):=sb5.trans st6;try dsimp only
   generalize up3 H8 pt (.lst ((ns.zip ss).map fun z=>T.tup [.str z.1,.int z.2.2.2.1,sT z.2.2.2.2.1]))=H9 at sb6 gr6 gs6 gn6 gt6 ⊢;clear st6 sb5 gr5 gs5 gn5 hpt;walk_at "n";refine aA fun R11 hR11=>?_;walk_at "";refine⟨a,pn,ps,sc,ns,ss,rfl,sb6 _ _ ha,hsc,gn6,hnn,by omega,gs6,by omega,fun O P lk=>?_⟩;try walk_at ""
   walk_at "n";walk_at "";refine⟨trivial,by decide,?_⟩;walk_at "c";refine bZ tk5 (fun t=>T.int (t.1:Int)) ss [] (.inl gs6) (by omega) (fun t ht Q' hq=>?_) (fun pz hpz=>?_)
   ·have x0:atI [T.int (t.1:Int),T.int t.2.1,T.int t.2.2.1,sT t.2.2.2.1,T.str t.2.2.2.2] 0=some (T.int (t.1:Int)):=rfl;have hq':=Box.mk hq;clear hq k';simp only[tk5];walk_at "";exact hq'.out
   obtain⟨ok,ft,el⟩:=Qg hnn (by omega) (by omega) (by omega) hss'.out r1 r8 hrn'.out lk;refine⟨by decide,?_⟩;have ee:(ss.map fun t=>T.int (t.1:Int))=(ss.map (·.1)).map fun (s:Nat)=>T.int (s:Int):=by rw[WN];rfl
   have ew:T.tup [T.tup ((ns.zip ss).map fun z=>T.tup [T.str z.1,T.int z.2.2.2.1,sT z.2.2.2.2.1]),T.tup (O.map orT),T.tup (P.map prT),T.tup (row.map T.str)]=(mkW ns ss O P row).enc:=by unfold Wk.enc mkW;rw[WN];rfl
   rw[ee,ew];refine Fin3.of ?_ (k'.out (mkW ns ss O P row) (ss.map (·.1)) ok (by rw[el];omega) rw_ ft pz (cF sb6 hpz));intro b o hb;by_cases e:b=pz
   ·subst e;rw[aq] at hb ⊢;exact hb
   rw[aD e] at hb ⊢;exact sb6 b o hb
  rintro A i B Z H N e ⟨ss,v8,rfl,sb,gp,gr,gs,hsl,hss⟩ hN;refine⟨trivial,?_⟩;have hA:A.length<n:=by have:=WK List.length e;simp only[g_,l_,A_] at this;omega
  have hi:i<n:=Wu.mp (by rw[e];simp);have hM:=Box.mk hN;have hss':=Box.mk hss;clear hN hss e sb4 gp4 gr4 gs4 k' hR8;walk_at "";refine⟨⟨trivial,trivial⟩,a,sc,4+i,by rw[show (4:Int)+(i:Int)=((4+i:Nat):Int) by push_cast;rfl],sb _ _ ha,hsc,by omega,fun c5=>⟨c5,pr,pp,row,pool,unit,rfl,gr,r1,r8,hrn'.out,gp,hpl,hpn'.out.nm,u1,u2,fun s tn len ks nam h1 h2 h3 h4 h5 h6 h7 h8 h9=>?_⟩⟩;dsimp only;rw[gs,Aa];refine⟨by rw[h_];omega,hM.out _ _ ⟨ss++[(s,tn,len,ks,nam)],_,rfl,fun b u hb=>?_,?_,?_,?_,by rw[g_,g_,hsl];rfl,fun z hz=>?_⟩⟩
  ·rw[aD (bw hb g0)];exact sb b u hb
  ·rw[aD nps1];exact gp
  ·rw[aD nps2];exact gr
  ·rw[aq,B_];rfl
  rcases G_.mp hz with hz | hz
  ·exact hss'.out z hz
  rw[q_.mp hz];exact⟨h1,h4,h5,h6,h7,h8,h9⟩
 rintro x r Z H N ⟨row,c3,v8,rfl,sb,gp,gr,hrl,hrn⟩ hN;refine⟨trivial,?_⟩;rw[l_] at hrl;have hM:=Box.mk hN;have hrn':=Box.mk hrn;have hj0:=R_ c3 (show sp≠0 by omega);have hj1:=M_ c3 (show 0<sp by omega);obtain⟨j,hj⟩:∃j:Nat,c3%sp=(j:Int):=⟨(c3%sp).toNat,by omega⟩;have hat:=kI (ns:=pool) (i:=j) (by omega);have hnx:=hpn'.out.nm _ (getD_memS (ns:=pool) (i:=j) (by omega));generalize pool.getD j ""=y at hat hnx;clear hN hrn sb3 gp3 gr3 k' hR5;walk_at "";refine⟨⟨trivial,trivial⟩,by omega,by omega,⟨by omega,lgs⟩,hM.out _ _ ⟨row++[y],_,_,rfl,fun b u hb=>?_,?_,?_,by rw[g_,D_];push_cast;push_cast at hrl;omega,fun z hz=>?_⟩⟩
 ·rw[aD (bw hb f0)];exact sb b u hb
 ·rw[aD npr];exact gp
 ·rw[aq,B_];rfl
 rcases G_.mp hz with hz | hz
 ·exact hrn'.out z hz
 rw[q_.mp hz];exact hnx
abbrev xq:List Str:=["_law_works_here","_law_stands","_law_found","_law_task_here","_law_stand"]
theorem sc_loads:FnScope xq ["_law_works_here","_law_stands"] (aB (top 37)):=bj
theorem DX {f:Addr}{fd:FuncData}(g:G3 K mg "_law_loads" (top 37) ["_law_works_here","_law_stands"] f fd) (B:Bl mg):Cal P w K mg base 1 "_law_loads" (top 37) ["_law_works_here","_law_stands"] U5:=by
 refine⟨f,fd,g,?_⟩;refine fn3 g.fn sc_loads (fun ts H Q h=>?_) (fun cdv A outer s H E ts H3 Q hr h=>?_)
 ·obtain⟨W,q,sts,rfl,_⟩:=h;rfl
 obtain⟨W,q,sts,rfl,hW,hq,hsl,hlt,kk⟩:=h;refine⟨_,(aj (aG (i:=2) sc_loads.nd (aF uK (bf (aa ao ak)) (aM bO rfl B.len_ bQ (aa (aL ix3 (v3 0) ao) ak))))
   (aj (bh H_ rfl (Ho rfl B.zip_ (aa (aL ix3 (v3 0) ao) (aa (v3 1) ak))) (bW (n:=2) rfl (aH (aC (i:=3) sc_loads.nd) (aH (aC (i:=4) sc_loads.nd) bA))) (au (gO (aF aY (aL ix3 (v3 2) (v3 4)) (aL ix3 (v3 3) ao)) (zH (v3 2) (v3 4) nO))))
   (au (aK (v3 2))))),?_⟩
 rw[show aR xq [W.enc,T.ref q]=[some (W.enc),some (T.ref q),none,none,none] from rfl];have hsz:sizeLine=16777216:=rfl;have k':=Box.mk kk;clear kk;have r8:=hW.r8;have t8:=hW.t8;refine aA fun R0 hR0=>?_;walk_at "";refine⟨by decide,fun q1 hq1=>⟨⟨by omega,by omega,by omega⟩,fun pf hpf=>?_⟩⟩;have e0:∀n:Nat,(List.replicate n [T.int 0]).flatten=(List.replicate n (0:Int)).map T.int:=fun n=>by
  induction n with
  |zero=>rfl
  |succ n ih=>rw[W7,W7,Xj,ih];rfl
 rw[e0];have f0:=(cD hpf).2;have sb0:Sub3 H3 (up3 (up3 H3 q1 (.lst [T.int 0])) pf (.lst ((List.replicate W.row.length (0:Int)).map T.int))):=(Sub3.new hq1).trans (Sub3.new hpf);have gf0:up3 (up3 H3 q1 (.lst [T.int 0])) pf (.lst ((List.replicate W.row.length (0:Int)).map T.int)) pf=some (.lst ((List.replicate W.row.length (0:Int)).map T.int)):=aq;have gq0:=sb0 _ _ hq;generalize up3 (up3 H3 q1 (.lst [T.int 0])) pf (.lst ((List.replicate W.row.length (0:Int)).map T.int))=H4 at sb0 gf0 gq0 ⊢;clear e0 hpf hq1;walk_at "n";refine aA fun R1 hR1=>?_;walk_at "";rw[lW];have hlt':=Box.mk hlt;clear hlt;refine aW (fun z=>T.tup [tkT z.1,T.int (z.2:Int)]) (W.tasks.zip sts) (fun A Z H=>∃(v3 v4:Option T),Z=[some W.enc,some (.ref q),some (.ref pf),v3,v4]/\Sub3 H3 H/\H pf=some (.lst ((A.foldl ldZ (List.replicate W.row.length 0)).map T.int))) ⟨_,_,rfl,sb0,gf0⟩ ?_ ?_
 ·rintro Z H ⟨v3,v4,rfl,sb,gf⟩;refine⟨.inl (sb _ _ hq),?_⟩;walk_at "n";walk_at "";refine Fin3.of (fun b o hb=>?_) (k'.out pf f0);by_cases e:b=pf
  ·subst e;rw[aq] at hb;rw[<- hb];exact gf
  rw[aD e] at hb;exact sb b o hb
 rintro A z B Z H N e ⟨v3,v4,rfl,sb,gf⟩ hN;refine⟨.inl (sb _ _ hq),?_⟩;have hz:z∈W.tasks.zip sts:=by rw[e];simp
 have hs:z.2<W.row.length:=hlt'.out _ (YZ hz).2;have hfold:(A++[z]).foldl ldZ (List.replicate W.row.length 0)=ldZ (A.foldl ldZ (List.replicate W.row.length 0)) z:=by rw[Yg];rfl
 have hll:(A.foldl ldZ (List.replicate W.row.length 0)).length=W.row.length:=by rw[w6,WX]
 have hM:=Box.mk hN;clear hN e sb0 gf0 gq0 k' hR1 hz;rw[hfold] at hM;generalize A.foldl ldZ (List.replicate W.row.length 0)=L at *;clear hfold;have x1:atI (L.map T.int) (z.2:Int)=some (T.int (L.getD z.2 0)):=by
  have hl:z.2<L.length:=by omega
  rw[bN (by rw[o_,a_ hl];rfl),d_,a_ hl];rfl
 obtain⟨⟨tn,tl,tk⟩,zs⟩:=z;simp only[tkT];walk_at "";rw[o9 hs,gK];refine⟨trivial,hM.out _ _ ⟨_,_,rfl,fun b o hb=>?_,?_⟩⟩
 ·rw[aD (bw hb f0)];exact sb b o hb
 rw[aq];unfold ldZ;rw[List.map_set]
abbrev vh:List Str:=["_law_cell_here","_law_works_here","_law_stands","_law_loads_here","_law_total","_law_some_here"]
theorem sc_beat:FnScope vh ["_law_cell_here","_law_works_here","_law_stands"] (aB (top 38)):=bj
theorem IK {f:Addr}{fd:FuncData}(g:G3 K mg "_law_beat" (top 38) ["_law_cell_here","_law_works_here","_law_stands"] f fd) (B:Bl mg) (F_loads:Cal P w K mg base 1 "_law_loads" (top 37) ["_law_works_here","_law_stands"] U5):Cal P w K mg base 2 "_law_beat" (top 38) ["_law_cell_here","_law_works_here","_law_stands"] U6:=by
 refine⟨f,fd,g,?_⟩;refine fn3 g.fn sc_beat (fun ts H Q h=>?_) (fun cdv A outer s H E ts H3 Q hr h=>?_)
 ·obtain⟨c,W,q,sts,rfl,_⟩:=h;rfl
 obtain⟨c,W,q,sts,rfl,hW,hq,hsl,hlt,kk⟩:=h;refine⟨_,(aj (aG (i:=3) sc_beat.nd (aQ F_loads hr rfl (aa (v3 1) (aa (v3 2) ak))))
   (aj (aG (i:=4) sc_beat.nd (aM (LR rfl) rfl B.sum_ Ma (aa (v3 3) ak)))
   (aj (aG (i:=5) sc_beat.nd (bf (aa (aM (j8 rfl) rfl B.max_ lG (aa (v3 3) ak)) (aa (aM (j8 rfl) rfl B.max_ lG (aa (v3 3) ak)) (aa (aM (Gw rfl) rfl B.max_ lG (aa ao (aa (aF uh (aM (j8 rfl) rfl B.max_ lG (aa (v3 3) ak)) ao) ak))) (aa (aF aZ (v3 4) (aM bO rfl B.len_ bQ (aa (v3 3) ak))) (aa (aF aY (aF aZ (v3 4) (aM bO rfl B.len_ bQ (aa (v3 3) ak))) ao) ak)))))))
   (aj (aG (i:=5) sc_beat.nd (aF aY (v3 5) (bf (aa (aM (j8 rfl) rfl B.max_ lG (aa (bU rfl (cC (n0:=(aB (top 38)).names) (N:=vh) (N':=["_law_task_here"]) (nt:=1) (cap:=[]) rfl rfl (by decide +kernel)) (bY (aL ix3 (v3 1) ao)) (fun cl pins s H C0 fp=>⟨(aC (i:=0) (show List.Nodup [("_law_task_here":Str)] by decide +kernel)),cX,(aL ix3 (v3 0) ao)⟩)) ak)) (aa (v3 4) ak)))))
   (aj (aG (i:=5) sc_beat.nd (aF aY (v3 5) (bf (aa (aF aU (aF aZ (v3 0) ao) (aM (Gx rfl) rfl B.min_ NB (aa (aF cT ao (v3 4)) (aa (aF cT ao (aF iQ ao ao)) ak)))) (aa (aF aU (aF aZ (v3 0) ao) (aF iQ ao ao)) ak)))))
   (au (aK (aL ix3 (v3 5) (aF aU (v3 0) ao))))))))),?_⟩
 rw[show aR vh [T.int c,W.enc,T.ref q]=[some (T.int c),some (W.enc),some (T.ref q),none,none,none] from rfl];have hsz:sizeLine=16777216:=rfl;have k':=Box.mk kk;clear kk;have r1:=hW.r1;have r8:=hW.r8;have t8:=hW.t8;have t1:=hW.t1;have hln:=Ih W sts;have hnn:=Qh (sts:=sts) hW;have hsm:=Ii hsl hlt;have htp:=Ij hW;rw[<- hsm] at htp;refine aA fun R0 hR0=>?_;walk_at "";refine⟨W,q,sts,rfl,hW,hq,hsl,hlt,fun pl hpl=>?_⟩;have sb0:Sub3 H3 (up3 H3 pl (.lst ((ldS W sts).map T.int))):=Sub3.new hpl;have gl:up3 H3 pl (.lst ((ldS W sts).map T.int)) pl=some (.lst ((ldS W sts).map T.int)):=aq;have hnn':=Box.mk hnn;clear hnn hsm hlt hq;try dsimp only
 generalize up3 H3 pl (.lst ((ldS W sts).map T.int))=H4 at sb0 gl ⊢;generalize ldS W sts=L at *;walk_at "n";refine aA fun R1 hR1=>?_;have is:=jz L;walk_at "";walk_at "n";refine aA fun R2 hR2=>?_;have lgr:(W.row.length:Int).natAbs.log2<9000:=Ys (Zb _) (by omega);have hne:¬L=[]:=fun z=>by rw[z,W3] at hln;omega
 walk_at "";refine⟨trivial,fun m1 hm1 _=>⟨trivial,fun m2 hm2 _=>⟨trivial,fun m3 hm3 _=>⟨⟨by omega,lgr⟩,⟨by omega,lgr⟩,by decide,fun p1 hp1=>?_⟩⟩⟩⟩;obtain⟨xs,hxs,hx0,hxl⟩:∃xs:List Int,[T.int m1,T.int m2,T.int (if m3 - 1>0 then m3 - 1 else 0),T.int (L.sum / (W.row.length:Int)),T.int (L.sum / (W.row.length:Int)+1)]=xs.map T.int/\(∀x∈xs,0<=x)/\xs.length=5:=by
  have d0:0<=L.sum / (W.row.length:Int):=Int.ediv_nonneg (by omega) (by omega);refine⟨[m1,m2,if m3 - 1>0 then m3 - 1 else 0,L.sum / (W.row.length:Int),L.sum / (W.row.length:Int)+1],rfl,fun x hx=>?_,rfl⟩;simp only[n_,P_,Xk] at hx;rcases hx with rfl | rfl | rfl | rfl | rfl
  ·exact hnn'.out _ hm1
  ·exact hnn'.out _ hm2
  ·split <;> omega
  ·exact d0
  omega
 rw[hxs];have sb1:=sb0.trans (Sub3.new (o:=.lst (xs.map T.int)) hp1);have gx1:up3 H4 p1 (.lst (xs.map T.int)) p1=some (.lst (xs.map T.int)):=aq;generalize up3 H4 p1 (.lst (xs.map T.int))=H5 at sb1 gx1 ⊢;clear hxs hp1 sb0 gl hm1 hm2 hm3;walk_at "n";refine aA fun R3 hR3=>?_;walk_at "";walk_at "c";have htk:=Box.mk hW.tk;refine bZ tkT (fun t=>T.int t.2.1) W.tasks [] trivial (by omega) (fun t ht Q' hq=>?_) (fun p2 hp2=>?_)
 ·have x1:atI [T.str t.1,T.int t.2.1,sT t.2.2] 1=some (T.int t.2.1):=rfl;have hq':=Box.mk hq;clear hq k' hR3;simp only[tkT];walk_at "";exact hq'.out
 rw[show (W.tasks.map fun t=>T.int t.2.1)=(W.tasks.map (·.2.1)).map T.int by rw[WN];rfl,jz,gK];refine⟨fun z=>by have:=WK List.length z;rw[h_,W3] at this;omega,fun m hm _=>⟨by decide,fun p3 hp3=>?_⟩⟩;have hm0:0<=m:=by obtain⟨t,ht,rfl⟩:=z_.mp hm;have:=(htk.out t ht).lo;omega
 have st3:=(Sub3.new (o:=.lst ((W.tasks.map (·.2.1)).map T.int)) hp2).trans (Sub3.new (o:=.lst [T.int m,T.int L.sum]) hp3);have sb3:=sb1.trans st3;rw[st3 _ _ gx1,iU];generalize up3 (up3 H5 p2 (.lst ((W.tasks.map (·.2.1)).map T.int))) p3 (.lst [T.int m,T.int L.sum])=H6 at sb3 ⊢;refine⟨by rw[h_,hxl,l_,D_];omega,fun p4 hp4=>?_⟩;obtain⟨ys,hys,hy0,hyl⟩:∃ys:List Int,xs.map T.int++[T.int m,T.int L.sum]=ys.map T.int/\(∀x∈ys,0<=x)/\ys.length=7:=by
  refine⟨xs++[m,L.sum],by rw[B_];rfl,fun x hx=>?_,by rw[g_,hxl];rfl⟩;rcases G_.mp hx with hx | hx
  ·exact hx0 x hx
  simp only[n_,P_,Xk] at hx;rcases hx with rfl | rfl
  ·exact hm0
  omega
 rw[hys];have sb4:=sb3.trans (Sub3.new (o:=.lst (ys.map T.int)) hp4);have gy:up3 H6 p4 (.lst (ys.map T.int)) p4=some (.lst (ys.map T.int)):=aq;try dsimp only
 generalize up3 H6 p4 (.lst (ys.map T.int))=H7 at sb4 gy ⊢;clear hys hx0 hxl sb1 gx1 sb3 st3 hp2 hp3 hp4 hm;walk_at "n";refine aA fun R4 hR4=>?_;walk_at "";have hmn:0<(if 9*(10:Int)^Int.toNat 60<2*L.sum then 9*(10:Int)^Int.toNat 60 else 2*L.sum):=by
  split
  ·decide +kernel
  omega
 refine⟨⟨by decide,by decide +kernel⟩,.inl ⟨by decide,by decide⟩,⟨by decide,by decide,by decide⟩,.inl ⟨by decide,by decide⟩,hmn,⟨by decide,by decide +kernel⟩,⟨by decide,by decide,by decide⟩,by decide +kernel,by decide,fun p5 hp5=>?_⟩;generalize (if 9*(10:Int)^Int.toNat 60<2*L.sum then 9*(10:Int)^Int.toNat 60 else 2*L.sum)=mn at hmn hp5 ⊢;have e0:=R_ (c / 9) (show mn≠0 by omega);have e1:=R_ (c / 9) (show ((10:Int)^Int.toNat 60)≠0 by decide +kernel);generalize c / 9%mn=a1 at e0 ⊢;generalize c / 9%(10:Int)^Int.toNat 60=a2 at e1 ⊢;rw[aD (bw gy hp5),gy,iU];refine⟨by rw[h_,hyl,l_,D_];omega,fun p6 hp6=>?_⟩;obtain⟨zs,hzs,hz0,hzl⟩:∃zs:List Int,ys.map T.int++[T.int a1,T.int a2]=zs.map T.int/\(∀x∈zs,0<=x)/\zs.length=9:=by
  refine⟨ys++[a1,a2],by rw[B_];rfl,fun x hx=>?_,by rw[g_,hyl];rfl⟩;rcases G_.mp hx with hx | hx
  ·exact hy0 x hx
  simp only[n_,P_,Xk] at hx;rcases hx with rfl | rfl
  ·exact e0
  exact e1
 rw[hzs];have sb6:=sb4.trans ((Sub3.new hp5).trans (Sub3.new (o:=.lst (zs.map T.int)) hp6));have gz:∀Hx:Hp3,up3 Hx p6 (.lst (zs.map T.int)) p6=some (.lst (zs.map T.int)):=fun _=>aq;have i0:=R_ c (show (9:Int)≠0 by decide);have i1:=M_ c (show (0:Int)<9 by decide);obtain⟨j,hj⟩:∃j:Nat,c%9=(j:Int):=⟨(c%9).toNat,by omega⟩;have hjl:j<zs.length:=by omega
 have hat:atI (zs.map T.int) (j:Int)=some (T.int zs[j]):=bN (by rw[o_,a_ hjl];rfl);have hn0:=hz0 _ (W4 hjl);generalize zs[j]=n at hat hn0;try dsimp only
 have k2:=Box.mk (Fin3.of sb6 (k'.out n hn0));clear hzs hz0 hzl sb4 gy k' hp6 hp5;walk_at "n";walk_at "";refine⟨by decide,?_⟩;first
  |exact k2.out
  | (rw[gK];exact k2.out)
abbrev xu:List Str:=["_law_script","_law_most","_law_wide","_law_works_here","_law_stands"]
theorem sc_drawn:FnScope xu ["_law_script","_law_most","_law_wide"] (aB (top 39)):=bj
theorem DY {f:Addr}{fd:FuncData}(g:G3 K mg "_law_drawn" (top 39) ["_law_script","_law_most","_law_wide"] f fd) (B:Bl mg) (F_works:Cal P w K mg base 3 "_law_works" (top 36) ["_law_script","_law_most","_law_wide"] U4) (F_beat:Cal P w K mg base 2 "_law_beat" (top 38) ["_law_cell_here","_law_works_here","_law_stands"] U6) (F_cell:Cal P w K mg base 1 "_law_cell" (top 30) ["_law_script","_law_k"] Dl):Cal P w K mg base 4 "_law_drawn" (top 39) ["_law_script","_law_most","_law_wide"] U7:=by
 refine⟨f,fd,g,?_⟩;refine fn3 g.fn sc_drawn (fun ts H Q h=>?_) (fun cdv A outer s H E ts H3 Q hr h=>?_)
 ·obtain⟨a,sc,most,wide,rfl,_⟩:=h;rfl
 obtain⟨a,sc,most,wide,rfl,ha,hsc,m1,m8,w1,w8,kk⟩:=h;refine⟨_,(aj (gO (aQ F_works hr rfl (aa (v3 0) (aa (v3 1) (aa (v3 2) ak)))) (bW (n:=2) rfl (aH (aC (i:=3) sc_drawn.nd) (aH (aC (i:=4) sc_drawn.nd) bA))))
   (au (aK (bG (aa (v3 3) (aa (v3 4) (aa (aQ F_beat hr rfl (aa (aQ F_cell hr rfl (aa (v3 0) (aa ao ak))) (aa (v3 3) (aa (v3 4) ak)))) (aa (aQ F_cell hr rfl (aa (v3 0) (aa ao ak))) ak)))))))),?_⟩
 rw[show aR xu [T.ref a,T.int most,T.int wide]=[some (T.ref a),some (T.int most),some (T.int wide),none,none] from rfl];have hsz:sizeLine=16777216:=rfl;have k':=Box.mk kk;clear kk;refine aA fun R0 hR0=>?_;walk_at "";refine⟨a,sc,most,wide,rfl,ha,hsc,m1,m8,w1,w8,fun W sts hW h1 h2 hf p hp=>?_⟩;have sb:Sub3 H3 (up3 H3 p (.lst (sts.map fun (s:Nat)=>T.int (s:Int)))):=Sub3.new hp;have gp:up3 H3 p (.lst (sts.map fun (s:Nat)=>T.int (s:Int))) p=some (.lst (sts.map fun (s:Nat)=>T.int (s:Int))):=aq;have k2:=Box.mk (fun bt c (hb:0<=bt)=>k'.out W sts bt c hW h1 h2 hf hb p hp);have ga:=sb _ _ ha;try walk_at ""
 generalize up3 H3 p (.lst (sts.map fun (s:Nat)=>T.int (s:Int)))=H4 at sb gp ga k2 ⊢;clear k';walk_at "n";walk_at "";refine⟨trivial,a,sc,14,rfl,ga,hsc,by decide,fun c1=>⟨c1,W,p,sts,rfl,hW,gp,hf.l,hf.lt,fun bt hb=>⟨a,sc,15,rfl,ga,hsc,by decide,fun c2=>?_⟩⟩⟩;try dsimp only
 exact⟨by decide,Fin3.of Sub3.refl (k2.out bt c2 hb)⟩
abbrev kJ:List Str:=["_law_works_here","_law_beat_here","_law_dealing","_law_place","_law_k","_law_stand","_law_name","_law_one","_law_other","_law_word_here","_law_loads_here","_law_length","_law_kinds"]
theorem sc_right:FnScope kJ ["_law_works_here","_law_beat_here","_law_dealing"] (aB (top 41)):=bj
theorem Ea {f:Addr}{fd:FuncData}(g:G3 K mg "_law_right" (top 41) ["_law_works_here","_law_beat_here","_law_dealing"] f fd) (B:Bl mg):Cal P w K mg base 1 "_law_right" (top 41) ["_law_works_here","_law_beat_here","_law_dealing"] UG:=by
 refine⟨f,fd,g,?_⟩;refine fn3 g.fn sc_right (fun ts H Q h=>?_) (fun cdv A outer s H E ts H3 Q hr h=>?_)
 ·obtain⟨W,beat,D,rfl,_⟩:=h;rfl
 have hu30:=Room.u30 hr;have hu31:=Room.u31 hr;have hu1:=Room.u1 hr;obtain⟨W,beat,D,rfl,hW,hD,hR,kk⟩:=h;refine⟨_,(aj (aG (i:=3) sc_right.nd wA)
   (aj (bh H_ rfl (Ar rfl B.enumerate_ (v3 2)) (bW (n:=2) rfl (aH (aC (i:=4) sc_right.nd) (aH (aC (i:=5) sc_right.nd) bA))) (au (bh H_ rfl (bY (v3 5)) (aC (i:=6) sc_right.nd) (aj (bu (gF hu1 (v3 6) (v3 3)) (au (aK cz)) aP)
     (au (j6 hu1 (v3 3) (v3 6) (v3 4)))))))
   (aj (bu (aV (iG hu30) (aM (Hh hr) rfl B.sorted_ jD (aa (v3 3) ak)) (aM (Ha hu30) rfl B.sorted_ jD (aa (bU rfl (cC (n0:=(aB (top 41)).names) (N:=kJ) (N':=["_law_task_here"]) (nt:=1) (cap:=[]) rfl rfl (by decide +kernel)) (bY (aL ix3 (v3 0) ao)) (fun cl pins s H C0 fp=>⟨(aC (i:=0) (show List.Nodup [("_law_task_here":Str)] by decide +kernel)),cX,(aL ix3 (v3 0) ao)⟩)) ak))) (au (aK cz)) aP)
   (aj (bh H_ rfl (bY (aL ix3 (v3 0) ao)) (bW (n:=2) rfl (aH (aC (i:=7) sc_right.nd) (aH (aC (i:=8) sc_right.nd) bA))) (au (bu (aV qR (dj hu1 (v3 3) (v3 7)) (dj hu1 (v3 3) (v3 8))) (au (aK cz)) aP)))
   (aj (bh H_ rfl (bY (aL ix3 (v3 0) ao)) (bW (n:=3) rfl (aH (aC (i:=9) sc_right.nd) (aH (aC (i:=7) sc_right.nd) (aH (aC (i:=8) sc_right.nd) bA)))) (au (bu (aV (iG hu30) (dR (cP hu30) (dj hu1 (v3 3) (v3 7)) (dj hu1 (v3 3) (v3 8))) (dR (cP hu30) (v3 9) gB)) (au (aK cz)) aP)))
   (aj (aG (i:=10) sc_right.nd (aF uK (bf (aa ao ak)) (aM bO rfl B.len_ bQ (aa (v3 2) ak))))
   (aj (bh H_ rfl (bY (aL ix3 (v3 0) ao)) (bW (n:=3) rfl (aH (aC (i:=6) sc_right.nd) (aH (aC (i:=11) sc_right.nd) (aH (aC (i:=12) sc_right.nd) bA)))) (aj (bu (PW3.pt (eV (aV (iG hu30) (v3 12) (bG ak)) (dY (aV (lA hu31) (aL ix3 (aL ix3 (v3 0) ao) (dj hu1 (v3 3) (v3 6))) (v3 12) rfl)))) (au (aK cz)) aP)
    (au (gO (aF aY (aL ix3 (v3 10) (dj hu1 (v3 3) (v3 6))) (v3 11)) (zH (v3 10) (dj hu1 (v3 3) (v3 6)) nO)))))
   (au (aK (dR (cP hu30) (bU rfl (cC (n0:=(aB (top 41)).names) (N:=kJ) (N':=["_law_load","_law_beat_here"]) (nt:=1) (cap:=[1]) rfl rfl (by decide +kernel)) (cL (v3 10)) (fun cl pins s H C0 fp=>⟨(aC (i:=0) (show List.Nodup [("_law_load":Str),("_law_beat_here":Str)] by decide +kernel)),(gD (aV qR (v3 0) (v3 1))),(v3 0)⟩)) (bf ak))))))))))),?_⟩
 rw[show aR kJ [W.enc,T.int beat,T.tup (D.map sT)]=[some (W.enc),some (T.int beat),some (T.tup (D.map sT)),none,none,none,none,none,none,none,none,none,none] from rfl];have hsz:sizeLine=16777216:=rfl;have k':=Box.mk kk;clear kk;have t8:=hW.t8;have r8:=hW.r8;have hfl:=hD.fl hW;have hkd:=Uz hD.nd;have hdl:=hD.rw;have hnd:=Box.mk hD.nd;have hW':=Box.mk hW;have hD':=Box.mk hD;have hR':=Box.mk hR;clear hW hD hR;refine aA fun R0 hR0=>?_;walk_at "";intro p hp;walk_at "n";refine aA fun R1 hR1=>?_;walk_at "";refine yE sT D (fun A Z H=>∃(v4 v5 v6:Option T),Z=[some W.enc,some (.int beat),some (.tup (D.map sT)),some (.ref p),v4,v5,v6,none,none,none,none,none,none]/\H=up3 H3 p (.dct (dN (kD A) (fD A)))) ⟨_,_,_,rfl,rfl⟩ ?_ ?_;rotate_left
 ·rintro A s B Z H N e ⟨v4,v5,v6,rfl,rfl⟩ hN;have hs:A.flatten.length+s.length<=8:=by have:=WK (fun x=>x.flatten.length) e;simp only[rY,g_] at this;omega
  have hns:=hnd.out;rw[e,rY] at hns;have ek:=Hz A s;have ef:=wO A s;have kl:=Py A;have hN':=Box.mk hN;have ek':=Box.mk ek;have ef':=Box.mk ef;have hns':=Box.mk hns;clear hN e k' hR1 ek ef hns;refine⟨trivial,?_⟩;simp only[sT];walk_at "";try refine⟨trivial,?_⟩
  refine aW T.str s (fun C Z H=>∃(v6:Option T),Z=[some W.enc,some (.int beat),some (.tup (D.map sT)),some (.ref p),some (.int (A.length:Int)),some (.tup (s.map T.str)),v6,none,none,none,none,none,none]/\H=up3 H3 p (.dct (dN (kst (kD A) C) (jF A.length (fD A) C)))) ⟨_,rfl,rfl⟩ ?_ ?_
  ·rintro Z H ⟨v6,rfl,rfl⟩;exact⟨trivial,hN'.out _ _ ⟨_,_,_,rfl,by rw[ek'.out,ef'.out]⟩⟩
  rintro C n E' Z H N2 e2 ⟨v6,rfl,rfl⟩ hN2;have hc:C.length<s.length:=by have:=WK List.length e2;simp only[g_,l_] at this;omega
  have no:n∉kst (kD A) C:=by
   rw[pX,Px];have hz:=hns'.out;rw[e2] at hz;rintro (z | z)
   ·rw[WW,Yi] at hz;exact hz.2.2 n z n (by simp) rfl
   rw[WW,Yi] at hz;have hy:=hz.2.1;try rw[WW] at hy
   rw[Yi] at hy;exact hy.2.2 n z n (by simp) rfl
  have lk:=ou (f:=jF A.length (fD A) C) no;have p1:=HB (kst (kD A) C) (jF A.length (fD A) C) n A.length;rw[<- Cz,<- CG] at p1;have l1:=pW (kst (kD A) C) (jF A.length (fD A) C);have l2:=kst_len C (kD A);have hN2':=Box.mk hN2;clear hN2 hN' e2 ek' ef' no;refine⟨trivial,?_⟩;walk_at "";rw[if_neg (by rw[Yt];exact p_)];exact⟨by omega,hN2'.out _ _ ⟨_,rfl,rfl⟩⟩
 rintro Z H ⟨v4,v5,v6,rfl,rfl⟩;refine⟨trivial,?_⟩;rw[hkd];have gp:up3 H3 p (.dct (dN D.flatten (fD D))) p=some (.dct (dN D.flatten (fD D))):=aq;have sb:Sub3 H3 (up3 H3 p (.dct (dN D.flatten (fD D)))):=Sub3.new hp;generalize up3 H3 p (.dct (dN D.flatten (fD D)))=H4 at gp sb ⊢;clear hkd hp;walk_at "n";refine aA fun R2 hR2=>?_;have dl:=pW D.flatten (fD D);have dk:=HW D.flatten (fD D);walk_at "";refine⟨by omega,fun us hu1 hu2 p1 hp1=>?_⟩;have g1:up3 H4 p1 (.lst (us.map T.str)) p1=some (.lst (us.map T.str)):=aq;have sb1:Sub3 H3 (up3 H4 p1 (.lst (us.map T.str))):=sb.trans (Sub3.new hp1);have gp1:up3 H4 p1 (.lst (us.map T.str)) p=_ := upa gp hp1;generalize up3 H4 p1 (.lst (us.map T.str))=H5 at g1 sb1 gp1 ⊢;clear gp sb hp1 dk;walk_at "c";refine bZ tkT (fun t=>T.str t.1) W.tasks [] trivial (by omega) ?c1 ?c2
 case c1 =>
  intro t ht Q' hq
  clear k' hu1 hu2 hnd
  simp only[tkT]
  walk_at ""
  try exact hq
 intro pc hpc;have e1:W.tasks.map (fun t=>T.str t.1)=(nm W).map T.str:=by unfold nm;rw[WN];rfl
 rw[e1];refine .inl ⟨nm W,.inr ⟨pc,rfl,aq⟩,by rw[cJ];omega,fun vs hv1 hv2 p2 hp2=>?_⟩;have e2:us=vs:=HS hu1 hu2 (hv1.trans (hD'.out.pm hW'.out).symm) hv2;subst e2;have n12:p1≠p2:=fun z=>by rw[z] at g1;rw[aD (bw g1 hpc)] at hp2;rw[g1] at hp2;cases hp2
 have g1':up3 (up3 H5 pc (.lst ((nm W).map T.str))) p2 (.lst (us.map T.str)) p1=some (.lst (us.map T.str)):=by rw[aD n12,aD (bw g1 hpc)];exact g1
 have sb2:Sub3 H3 (up3 (up3 H5 pc (.lst ((nm W).map T.str))) p2 (.lst (us.map T.str))):=sb1.trans ((Sub3.new hpc).trans (Sub3.new hp2));have gp2:up3 (up3 H5 pc (.lst ((nm W).map T.str))) p2 (.lst (us.map T.str)) p=some (.dct (dN D.flatten (fD D))):=(Sub3.new (o:=.lst (us.map T.str)) hp2) _ _ ((Sub3.new (o:=.lst ((nm W).map T.str)) hpc) _ _ gp1);try dsimp only
 rw[Jv,g1',aq,qZ];refine⟨n12,dD us,dD us,?_⟩;generalize up3 (up3 H5 pc (.lst ((nm W).map T.str))) p2 (.lst (us.map T.str))=H6 at sb2 gp2 ⊢;clear g1 sb1 gp1 g1' hpc hp2 hu1 hu2 hv1 hv2 n12 e1;rw[j7,dM,if_neg (by decide)];walk_at "n";refine aA fun R3 hR3=>?_;walk_at "";refine aW orT W.orders (fun A Z H=>∃(v4 v5 v6 v7 v8 v9 v10 v11 v12:Option T),Z=[some W.enc,some (.int beat),some (.tup (D.map sT)),some (.ref p),v4,v5,v6,v7,v8,v9,v10,v11,v12]/\H=H6) ⟨_,_,_,_,_,_,_,_,_,rfl,rfl⟩ ?_ ?_;rotate_left
 ·rintro A ⟨x,y⟩ B Z H N e ⟨v4,v5,v6,v7,v8,v9,v10,v11,v12,rfl,rfl⟩ hN;refine⟨trivial,?_⟩;have hm:(x,y)∈W.orders:=by rw[e];simp
  have l1:=dG (f:=fD D) (hD'.out.al _ (hW'.out.oo _ hm).2.1);have l2:=dG (f:=fD D) (hD'.out.al _ (hW'.out.oo _ hm).2.2);have ho:fD D x<=fD D y:=hR'.out.ord _ hm;have fN:Box (∀v4 v5 v6 v9 v10 v11 v12,N [some W.enc,some (.int beat),some (.tup (D.map sT)),some (.ref p),v4,v5,v6,some (.str x),some (.str y),v9,v10,v11,v12] H):=⟨fun v4 v5 v6 v9 v10 v11 v12=>hN _ _ ⟨_,_,_,_,_,_,_,_,_,rfl,rfl⟩⟩;clear hN e k' hR3 hm hnd hfl;simp only[orT];walk_at "";refine⟨trivial,?_⟩;rw[if_neg (jA (by omega))];exact fN.out _ _ _ _ _ _ _
 rintro Z H ⟨v4,v5,v6,v7,v8,v9,v10,v11,v12,rfl,rfl⟩;refine⟨trivial,?_⟩;walk_at "n";refine aA fun R4 hR4=>?_;walk_at "";refine aW prT W.pairs (fun A Z H'=>∃(v4 v5 v6 v7 v8 v9 v10 v11 v12:Option T),Z=[some W.enc,some (.int beat),some (.tup (D.map sT)),some (.ref p),v4,v5,v6,v7,v8,v9,v10,v11,v12]/\H'=H) ⟨_,_,_,_,_,_,_,_,_,rfl,rfl⟩ ?_ ?_;rotate_left
 ·rintro A ⟨wd,x,y⟩ B Z H' N e ⟨v4,v5,v6,v7,v8,v9,v10,v11,v12,rfl,rfl⟩ hN;refine⟨trivial,?_⟩;have hm:(wd,x,y)∈W.pairs:=by rw[e];simp
  have l1:=dG (f:=fD D) (hD'.out.al _ (hW'.out.pp _ hm).2.2.1);have l2:=dG (f:=fD D) (hD'.out.al _ (hW'.out.pp _ hm).2.2.2);have ho:fD D x=fD D y↔wd="with":=hR'.out.pai _ hm;have fN:Box (∀v4 v5 v6 v10 v11 v12,N [some W.enc,some (.int beat),some (.tup (D.map sT)),some (.ref p),v4,v5,v6,some (.str x),some (.str y),some (.str wd),v10,v11,v12] H'):=⟨fun v4 v5 v6 v10 v11 v12=>hN _ _ ⟨_,_,_,_,_,_,_,_,_,rfl,rfl⟩⟩;clear hN e k' hR4 hm hnd hfl;have ec:decide (((fD D x:Nat):Int)=((fD D y:Nat):Int))=decide (wd="with"):=by rw[XD,<- ho];omega
  have ho':=Box.mk ho;clear ho;simp only[prT];walk_at "";refine⟨trivial,?_⟩;exact fN.out _ _ _ _ _ _
 rintro Z H' ⟨v4,v5,v6,v7,v8,v9,v10,v11,v12,rfl,rfl⟩;refine⟨trivial,?_⟩;walk_at "n";refine aA fun R5 hR5=>?_;walk_at "";refine⟨by decide,fun q1 hq1=>⟨⟨by omega,by omega,by omega⟩,fun pl hpl=>?_⟩⟩;try simp only[h_,Xi] at hpl ⊢
 rw[HX (fD D)];have sb4:Sub3 H3 (up3 H' q1 (.lst [T.int 0])):=sb2.trans (Sub3.new hq1);have gp4:up3 H' q1 (.lst [T.int 0]) p=some (.dct (dN D.flatten (fD D))):=(Sub3.new (o:=.lst [T.int 0]) hq1) _ _ gp2;generalize up3 H' q1 (.lst [T.int 0])=H7 at sb4 gp4 hpl ⊢;have pl3:=cF sb4 hpl;have npl:p≠pl:=bw gp4 hpl;have sb5:Sub3 H3 (up3 H7 pl (.lst (((List.range D.length).map (ldF ([]:List (Str × Int × List Str)) (fD D))).map T.int))):=sb4.trans (Sub3.new hpl);have gp5:up3 H7 pl (.lst (((List.range D.length).map (ldF ([]:List (Str × Int × List Str)) (fD D))).map T.int)) p=some (.dct (dN D.flatten (fD D))):=by rw[aD npl];exact gp4
 have gl5:up3 H7 pl (.lst (((List.range D.length).map (ldF ([]:List (Str × Int × List Str)) (fD D))).map T.int)) pl=some (.lst (((List.range D.length).map (ldF ([]:List (Str × Int × List Str)) (fD D))).map T.int)):=aq;generalize up3 H7 pl (.lst (((List.range D.length).map (ldF ([]:List (Str × Int × List Str)) (fD D))).map T.int))=H8 at sb5 gp5 gl5 ⊢;clear sb4 gp4 sb2 gp2 hpl hq1;walk_at "n";refine aA fun R6 hR6=>?_;walk_at "";refine aW tkT W.tasks (fun A Z H=>∃(v4 v5 v6 v7 v8 v9 v11 v12:Option T),Z=[some W.enc,some (.int beat),some (.tup (D.map sT)),some (.ref p),v4,v5,v6,v7,v8,v9,some (.ref pl),v11,v12]/\H=up3 H8 pl (.lst (((List.range D.length).map (ldF A (fD D))).map T.int))) ⟨_,_,_,_,_,_,_,_,rfl,(Pu gl5).symm⟩ ?_ ?_;rotate_left
 ·rintro A ⟨x,ln,ks⟩ B Z H N e ⟨v4,v5,v6,v7,v8,v9,v11,v12,rfl,rfl⟩ hN;refine⟨trivial,?_⟩;have hm:(x,ln,ks)∈W.tasks:=by rw[e];simp
  have hxn:x∈nm W:=z_.mpr ⟨_,hm,rfl⟩;have l1:=dG (f:=fD D) (hD'.out.al _ hxn);have hgx:=hD'.out.lt hxn;have x0:=vd (show fD D x<W.row.length by omega);have hmay:gR ks (W.row.getD (fD D x) "")=true:=hR'.out.kd hD'.out hm;have x1:atI (((List.range D.length).map (ldF A (fD D))).map T.int) ((fD D x:Nat):Int)=some (.int (ldF A (fD D) (fD D x))):=bN (by rw[o_,o_,Wv hgx];rfl);have x2:ixN (((List.range D.length).map (ldF A (fD D))).map T.int).length ((fD D x:Nat):Int)=some (fD D x):=o9 (by rw[h_,h_,A_];exact hgx);have x3:(((List.range D.length).map (ldF A (fD D))).map T.int).set (fD D x) (T.int (ldF A (fD D) (fD D x)+ln))=((List.range D.length).map (ldF (A++[(x,ln,ks)]) (fD D))).map T.int:=by rw[<- List.map_set];congr 1;exact wY (t:=(x,ln,ks)) hgx
  have fin:Box (∀v4 v5 v7 v8 v9,N [some W.enc,some (.int beat),some (.tup (D.map sT)),some (.ref p),v4,v5,some (.str x),v7,v8,v9,some (.ref pl),some (.int ln),some (sT ks)] (up3 H8 pl (.lst ((((List.range D.length).map (ldF A (fD D))).map T.int).set (fD D x) (T.int (ldF A (fD D) (fD D x)+ln)))))):=⟨fun v4 v5 v7 v8 v9=>hN _ _ ⟨_,_,_,_,_,_,_,_,rfl,by rw[x3]⟩⟩;have gp8:up3 H8 pl (.lst (((List.range D.length).map (ldF A (fD D))).map T.int)) p=some (.dct (dN D.flatten (fD D))):=by rw[aD npl];exact gp5
  clear hN e k' x3 hm gl5 hR6 hnd hfl;generalize ((List.range D.length).map (ldF A (fD D))).map T.int=LL at *;have i2:=dD ks;have em:=Pz (x:=W.row.getD (fD D x) "") (xs:=ks);simp only[tkT,sT] at *;unfold gR at hmay;generalize W.row.getD (fD D x) ""=kd at *;walk_at "";refine⟨trivial,by decide,trivial,rfl,?_⟩;by_cases c:ks=[]
  ·rw[if_neg (by simp [c])];exact fin.out _ _ _ _ _
  have c2:kd∈ks:=by simpa [c] using hmay
  rw[if_pos (by simp [c])];refine⟨rfl,trivial,?_⟩;rw[if_neg (by simp [c2])];exact fin.out _ _ _ _ _
 rintro Z H ⟨v4,v5,v6,v7,v8,v9,v11,v12,rfl,rfl⟩;refine⟨trivial,?_⟩;walk_at "n";have e6:((List.range D.length).map (ldF W.tasks (fD D))).map T.int=(lds W (fD D) D.length).map T.int:=rfl;have hle:∀l∈lds W (fD D) D.length,l<=beat:=hR'.out.lds hD'.out;rw[e6];have gl6:up3 H8 pl (.lst ((lds W (fD D) D.length).map T.int)) pl=some (.lst ((lds W (fD D) D.length).map T.int)):=aq;have sb6:Sub3 H3 (up3 H8 pl (.lst ((lds W (fD D) D.length).map T.int))):=fun b o h=>by rw[aD (bw h pl3)];exact sb5 b o h
 generalize up3 H8 pl (.lst ((lds W (fD D) D.length).map T.int))=H9 at gl6 sb6 ⊢;clear e6 gl5 gp5 sb5 hfl hnd hD' hR' hW';generalize lds W (fD D) D.length=LD at *;walk_at "";walk_at "c";refine fU T.int LD (fun A ys Z H=>∃v:Option T,Z=[v,some (.int beat)]/\ys=[]/\H=H9) ⟨_,rfl,rfl,rfl⟩ ?_ ?_
 ·rintro ys Z H ⟨v,rfl,rfl,rfl⟩;refine⟨.inl gl6,by simp,fun q2 hq2=>⟨by decide,fun q3 hq3=>?_⟩⟩;have n23:q2≠q3:=fun z=>by rw[z,aq] at hq3;cases hq3
  rw[aD n23,aq,qZ];exact⟨n23,rfl,rfl,Fin3.of (sb6.trans ((Sub3.new hq2).trans (Sub3.new hq3))) k'.out⟩
 rintro A l B ys Z H N e ⟨v,rfl,rfl,rfl⟩ hN;refine⟨.inl gl6,?_⟩;have hl:l<=beat:=hle l (by rw[e];simp);have hN':=Box.mk hN;clear hN e k' hle;walk_at "";rw[if_neg (jA (by omega))];exact hN'.out _ _ _ ⟨_,rfl,rfl,rfl⟩
abbrev du:List Str:=["_law_works_here","_law_beat_here","_law_many","_law_found","_law_names","_law_stand"]
theorem sc_is_dealing:FnScope du ["_law_works_here","_law_beat_here","_law_many","_law_found"] (aB (top 42)):=bj
theorem mQ {f:Addr}{fd:FuncData}(g:G3 K mg "_law_is_dealing" (top 42) ["_law_works_here","_law_beat_here","_law_many","_law_found"] f fd) (B:Bl mg) (F_right:Cal P w K mg base 1 "_law_right" (top 41) ["_law_works_here","_law_beat_here","_law_dealing"] UG):Cal P w K mg base 2 "_law_is_dealing" (top 42) ["_law_works_here","_law_beat_here","_law_many","_law_found"] UJ:=by
 refine⟨f,fd,g,?_⟩;refine fn3 g.fn sc_is_dealing (fun ts H Q h=>?_) (fun cdv A outer s H E ts H3 Q hr h=>?_)
 ·obtain⟨W,beat,m,D,rfl,_⟩:=h;rfl
 have hu30:=Room.u30 hr;have hu31:=Room.u31 hr;obtain⟨W,beat,m,D,rfl,hW,hm,hs,hD,hR,kk⟩:=h;refine⟨_,(aj (bu (PW3.pt (qM (gC (cR (aM ur rfl B.isinstance_ fL (aa (v3 3) (aa (zW rfl B.tuple_ cI) ak))))) (qM (aV (iG hu30) (aM bO rfl B.len_ bQ (aa (v3 3) ak)) (v3 2)) (oY (aV qR (v3 2) (aM bO rfl B.len_ bQ (aa (aL ix3 (v3 0) ao) ak))))))) (au (aK cz)) aP)
   (aj (vW (i:=4) rfl sc_is_dealing.nd (cC (n0:=(aB (top 42)).names) (N:=du) (N':=["_law_task_here"]) (nt:=1) (cap:=[]) rfl rfl (by decide +kernel)) (bY (aL ix3 (v3 0) ao)) (fun cl pins s H C0 fp=>⟨(aC (i:=0) (show List.Nodup [("_law_task_here":Str)] by decide +kernel)),cX,(aL ix3 (v3 0) ao)⟩))
   (aj (bh H_ rfl (bY (v3 3)) (aC (i:=5) sc_is_dealing.nd) (aj (bu (PW3.pt (qM (gC (cR (aM ur rfl B.isinstance_ fL (aa (v3 5) (aa (zW rfl B.tuple_ cI) ak))))) (oY (aV (iG hu30) (bU rfl (cC (n0:=(aB (top 42)).names) (N:=du) (N':=["_law_name"]) (nt:=1) (cap:=[]) rfl rfl (by decide +kernel)) (bY (v3 5)) (fun cl pins s H C0 fp=>⟨(aC (i:=0) (show List.Nodup [("_law_name":Str)] by decide +kernel)),(gD (gC (cR (aM ur rfl B.isinstance_ fL (aa (v3 0) (aa (zW rfl B.str_ Mg) ak)))))),(v3 0)⟩)) (bf ak))))) (au (aK cz)) aP)
    (au (bu (aV (iG hu30) (bU rfl (cC (n0:=(aB (top 42)).names) (N:=du) (N':=["_law_name","_law_stand"]) (nt:=1) (cap:=[5]) rfl rfl (by decide +kernel)) (cL (v3 4)) (fun cl pins s H C0 fp=>⟨(aC (i:=0) (show List.Nodup [("_law_name":Str),("_law_stand":Str)] by decide +kernel)),(gD (aV (nM hu31) (v3 0) (v3 1) rfl)),(v3 0)⟩)) (bI wj rfl B.list_ o8 (aa (v3 5) ak))) (au (aK cz)) aP))))
   (au (aK (aQ F_right hr rfl (aa (v3 0) (aa (v3 1) (aa (v3 3) ak))))))))),?_⟩
 rw[show aR du [W.enc,T.int beat,T.int (m:Int),T.tup (D.map sT)]=[some (W.enc),some (T.int beat),some (T.int (m:Int)),some (T.tup (D.map sT)),none,none] from rfl];have hsz:sizeLine=16777216:=rfl;have k':=Box.mk kk;clear kk;subst hm;have t8:=hW.t8;have r8:=hW.r8;have hdl:=hD.rw;have hW':=Box.mk hW;have hD':=Box.mk hD;have hR':=Box.mk hR;have hs':=Box.mk hs;clear hW hD hR hs;refine aA fun R0 hR0=>?_;walk_at "";rw[if_neg (jA (by omega))];walk_at "n";refine aA fun R1 hR1=>?_;walk_at "";walk_at "c";refine bZ tkT (fun t=>T.str t.1) W.tasks [] trivial (by omega) ?c1 ?c2
 case c1 =>
  intro t ht Q' hq
  clear k'
  simp only[tkT]
  walk_at ""
  try exact hq
 intro pn hpn;have e1:W.tasks.map (fun t=>T.str t.1)=(nm W).map T.str:=by unfold nm;rw[WN];rfl
 rw[e1];have sb0:Sub3 H3 (up3 H3 pn (.lst ((nm W).map T.str))):=Sub3.new hpn;have gn0:up3 H3 pn (.lst ((nm W).map T.str)) pn=some (.lst ((nm W).map T.str)):=aq;generalize up3 H3 pn (.lst ((nm W).map T.str))=H4 at sb0 gn0 ⊢;clear e1;walk_at "n";refine aA fun R2 hR2=>?_;walk_at "";refine aW sT D (fun A Z H=>∃(v5:Option T),Z=[some W.enc,some (.int beat),some (.int (D.length:Int)),some (.tup (D.map sT)),some (.ref pn),v5]/\Sub3 H3 H/\H pn=some (.lst ((nm W).map T.str))) ⟨_,rfl,sb0,gn0⟩ ?_ ?_
 ·rintro Z H ⟨v5,rfl,sb,gn⟩;refine⟨trivial,?_⟩;walk_at "n";walk_at "";exact⟨W,beat,D,rfl,hW'.out,hD'.out,hR'.out,Fin3.of sb k'.out⟩
 rintro A s B Z H N e ⟨v5,rfl,sb,gn⟩ hN;refine⟨trivial,?_⟩;have hsD:s∈D:=by rw[e];simp
 have hs0:=hs'.out s hsD;have hsl:s.length<=8:=by rw[<- hs0];have:=WY (fun n=>decide (n∈s)) (nm W);rw[cJ] at this;omega
 have hN':=Box.mk hN;have hs0':=Box.mk hs0;clear hN e k' hR2 hs' hD' hR' hW' hs0;simp only[sT];refine aA fun R3 hR3=>?_;walk_at "";walk_at "c";refine fU T.str s (fun A ys Z H'=>∃v:Option T,Z=[v]/\ys=[]/\H'=H) ⟨_,rfl,rfl,rfl⟩ ?_ ?_;rotate_left
 ·rintro A2 n B2 ys Z H' N2 e ⟨v,rfl,rfl,rfl⟩ hN2;refine⟨trivial,?_⟩;have hN2':=Box.mk hN2;clear hN2 e hN' hR3;walk_at "";exact hN2'.out _ _ _ ⟨_,rfl,rfl,rfl⟩
 rintro ys Z H' ⟨v,rfl,rfl,rfl⟩;refine⟨trivial,by simp,fun q2 hq2=>⟨by decide,fun q3 hq3=>?_⟩⟩;have n23:q2≠q3:=fun z=>by rw[z,aq] at hq3;cases hq3
 rw[aD n23,aq,qZ];refine⟨n23,rfl,rfl,?_⟩;have sb2:Sub3 H3 (up3 (up3 H' q2 (.lst [])) q3 (.lst [])):=sb.trans ((Sub3.new hq2).trans (Sub3.new hq3));have gn2:up3 (up3 H' q2 (.lst [])) q3 (.lst []) pn=some (.lst ((nm W).map T.str)):=(Sub3.new (o:=.lst []) hq3) _ _ ((Sub3.new (o:=.lst []) hq2) _ _ gn);generalize up3 (up3 H' q2 (.lst [])) q3 (.lst [])=H5 at sb2 gn2 ⊢;rw[j7,dM,if_neg (by decide)];clear sb gn hq2 hq3 n23;walk_at "n";have pls:=dD s;walk_at "";walk_at "c";refine fU T.str (nm W) (fun A ys Z H'=>∃v:Option T,Z=[v,some (.tup (s.map T.str))]/\ys=(A.filter fun n=>decide (n∈s)).map T.str/\H'=H5) ⟨_,rfl,rfl,rfl⟩ ?_ ?_;rotate_left
 ·rintro A2 n B2 ys Z H' N2 e ⟨v,rfl,rfl,rfl⟩ hN2;refine⟨.inl gn2,?_⟩;have em:=Pz (x:=n) (xs:=s);have hlA:((A2.filter fun n=>decide (n∈s)).map T.str).length<=8:=by rw[h_];have h1:=WY (fun n=>decide (n∈s)) A2;have h2:=WK List.length e;rw[cJ,g_] at h2;omega
  have yes:Box (n∈s->N2 ((A2.filter fun n=>decide (n∈s)).map T.str++[T.str n]) [some (.str n),some (.tup (s.map T.str))] H'):=⟨fun z=>hN2 _ _ _ ⟨_,rfl,by rw[Xo,Xq,L_ z];simp,rfl⟩⟩;have no:Box (n∉s->N2 ((A2.filter fun n=>decide (n∈s)).map T.str) [some (.str n),some (.tup (s.map T.str))] H'):=⟨fun z=>hN2 _ _ _ ⟨_,rfl,by rw[Xo,Xq,E_ z];simp,rfl⟩⟩;clear hN2 e hN' hs0' hsD;generalize (A2.filter fun n=>decide (n∈s)).map T.str=cur at *;walk_at "";rw[show dB false (T.str n) (s.map T.str)=decide (n∈s) from Us];refine⟨rfl,trivial,?_⟩;by_cases c:n∈s
  ·rw[if_pos (L_ c)];exact⟨by omega,yes.out c⟩
  rw[if_neg (jA c)];exact no.out c
 rintro ys Z H' ⟨v,rfl,rfl,rfl⟩;rw[hs0'.out];refine⟨.inl gn2,by rw[h_];omega,fun q4 hq4 q5 hq5=>?_⟩;have n45:q4≠q5:=fun z=>by rw[z,aq] at hq5;cases hq5
 rw[aD n45,aq,qZ];refine⟨n45,pls,pls,?_⟩;rw[j7,dM,if_neg (by decide)];exact hN'.out _ _ ⟨_,rfl,sb2.trans ((Sub3.new hq4).trans (Sub3.new hq5)),(Sub3.new (o:=.lst (s.map T.str)) hq5) _ _ ((Sub3.new (o:=.lst (s.map T.str)) hq4) _ _ gn2)⟩
theorem Wo {X:Cx}(i:Nat) {x:Str}{pos pos' p5:Pos}{k v:Expr}{tk tv:TE3}(hN:X.N.Nodup) (hk:PE3 X k tk) (hv:PE3 X v tv) (hi:X.N[i]?=some x) (hx:Loc X.env.scope x) (hf:X.fn x=true\/X.env.scope.names.lookup x=some .local):PS3 X (.Assign [.Name x pos'] (.Dict [some k] [v] p5) pos) (vQ (pJ tk tv) (gM i)):=aG hN (yo hk hv) hi hx rfl hf
abbrev jq:List Str:=["works","beat","many","walk","ways","stand"]
theorem sc_dealing_to:FnScope jq ["works","beat","many"] (aB (top 28)):=bj
theorem mR {f:Addr}{fd:FuncData}(g:G3 K mg "dealing_to" (top 28) ["works","beat","many"] f fd) (B:Bl mg) {C_Walk:Addr}(I_Walk:InsC K C_Walk ["works","beat","rules","whole"]) (M_Walk:MkC P w K mg base C_Walk 5 "Walk" ["self","works","beat"] (Uw C_Walk)) (F_ways_behind:Cal P w K mg base 5 "ways_behind" (top 27) ["walk","stand","ways"] (Ve C_Walk)) (M_dealing_of:MtC P w K mg base C_Walk 2 "dealing_of" ["self","fillings"] (Uy C_Walk)):Cal P w K mg base 7 "dealing_to" (top 28) ["works","beat","many"] Vf:=by
 refine⟨f,fd,g,?_⟩;refine fn3 g.fn sc_dealing_to (fun ts H Q h=>?_) (fun cdv A outer s H E ts H3 Q hr h=>?_)
 ·obtain⟨W,beat,m,rfl,_⟩:=h;rfl
 have hu1:=Room.u1 hr;obtain⟨W,beat,m,rfl,hW,hm,kk⟩:=h;refine⟨_,(aj (aG (i:=3) sc_dealing_to.nd (G5 M_Walk (hr.mono (by decide)) rfl (aa (v3 0) (aa (v3 1) ak))))
   (@aj _ _ _ _ _ (@Wo _ 4 _ _ _ _ _ _ _ _ sc_dealing_to.nd ao (bG ak) rfl (by first | exact Or.inl rfl | exact Or.inr rfl) (by first | exact .inl rfl | exact .inr rfl | assumption))
   (aj (bh H_ rfl (cB rfl B.range_ (aa (v3 2) ak)) (aC (i:=5) sc_dealing_to.nd) (au (aG (i:=4) sc_dealing_to.nd (aQ F_ways_behind hr rfl (aa (v3 3) (aa (v3 5) (aa (v3 4) ak)))))))
   (aj (bu (uO hu1 (gP I_Walk (v3 3)) (v3 4)) (au (aK zA)) aP)
   (au (aK (pL M_dealing_of (hr.mono (by decide)) (v3 3) (aa (Bw hu1 (v3 4) (gP I_Walk (v3 3))) ak)))))))),?_⟩
 rw[show aR jq [W.enc,T.int beat,T.int (m:Int)]=[some (W.enc),some (T.int beat),some (T.int (m:Int)),none,none,none] from rfl];have hsz:sizeLine=16777216:=rfl;have k':=Box.mk kk;clear kk;have t1:=lR W;have r8:W.row.length<=8:=hW.r8;refine aA fun R0 hR0=>?_;walk_at "";intro a ha;refine⟨a,W,beat,rfl,hW,aq,fun H4 kp hw=>⟨rfl,?_⟩⟩;have sb:Sub3 H3 H4:=fun b u hb=>kp b u (bw hb ha) (by rw[aD (bw hb ha)];exact hb);clear kp ha;walk_at "n";refine aA fun R1 hR1=>?_;walk_at "";intro q0 hq0;refine⟨by decide,trivial,?_⟩;have e0:([(0,T.tup [])]:List (Int × T))=dI wyT (wys W beat 0):=rfl;rw[e0];have sb0:Sub3 H3 (up3 H4 q0 (.dci (dI wyT (wys W beat 0)))):=sb.trans (Sub3.new hq0);have hw0:=hw.sub (Sub3.new (o:=.dci (dI wyT (wys W beat 0))) hq0);have gq0:up3 H4 q0 (.dci (dI wyT (wys W beat 0))) q0=some (.dci (dI wyT (wys W beat 0))):=aq;have hq3:=cF sb hq0;generalize up3 H4 q0 (.dci (dI wyT (wys W beat 0)))=H5 at sb0 gq0 hw0 ⊢;clear e0 hq0 sb hw;walk_at "n";refine aA fun R2 hR2=>?_;walk_at "";refine⟨trivial,by omega,by omega,?_⟩;rw[oh];refine aW (fun (j:Nat)=>T.int (j:Int)) (List.range m) (fun A Z H=>∃(q:Addr) (v5:Option T),Z=[some W.enc,some (.int beat),some (.int (m:Int)),some (.ref a),some (.ref q),v5]/\Sub3 H3 H/\H3 q=none/\Wlk C_Walk W beat H a/\H q=some (.dci (dI wyT (wys W beat A.length)))) ⟨q0,_,rfl,sb0,hq3,hw0,gq0⟩ ?_ ?_
 ·rintro Z H ⟨q,v5,rfl,sb,hq,hw,gq⟩;refine⟨trivial,?_⟩;rw[A_] at gq;walk_at "n";obtain⟨pw,gw,_⟩:=hw.ex;have f4:=sG (W:=W) (beat:=beat) (p:=pw);have lm:=CQ (W:=W) (beat:=beat) (p:=pw) (m:="dealing_of") (by decide +kernel);have lk:=p7 wyT (top2 W - 1) (wys W beat m);have ec:((top2 W - 1:Nat):Int)=(top2 W:Int) - 1:=by omega
  rw[ec] at lk;have k2:=k'.out;unfold dtT at k2;have htb:=wtb (W:=W) (beat:=beat) hW hm;clear sb0 hw0 gq0;refine aA fun R3 hR3=>?_;cases el:cV (top2 W - 1) (wys W beat m) with
  |none=>rw[el] at lk k2;rw[Option.map_none] at lk;have k3:=Box.mk k2;clear k' k2 hR3 htb;walk_at "";simp only[Yt,XS,if_true];exact Fin3.of sb k3.out
  |some v =>
  obtain⟨_,hb2,hb3⟩:=(htb.wok hW).lt _ (fX el);have hb4:v.length<=m:=hb2;clear hb2;rw[el] at lk k2;rw[Yw] at lk;simp only[wyT] at lk;have k3:=Box.mk k2;clear k' k2 htb el;generalize wys W beat m=E at *;walk_at "";simp only[X6,XJ,x_,Wt];walk_at "n";walk_at "";refine⟨by first | trivial | exact lm,a,W,beat,v,rfl,hW,hw,by omega,hb3,?_⟩;exact Fin3.of sb k3.out
 rintro A j B Z H N e ⟨q,v5,rfl,sb,hq,hw,gq⟩ hN;refine⟨trivial,?_⟩;have hA:A.length<m:=by have:=WK List.length e;simp only[g_,l_,A_] at this;omega
 have hj:j=A.length:=by
  have h1:(List.range m)[A.length]?=some j:=by rw[e,N_ (j_ _)];simp
  rw[Wv hA] at h1;exact (K_ h1).symm
 subst hj;have hN':=Box.mk hN;clear hN e k' hR2 sb0 hw0 gq0;walk_at "";refine⟨a,q,W,beat,A.length,A.length,wys W beat A.length,rfl,hW,hw,by omega,by omega,(wtb hW (by omega)).wok hW,gq,fun o p2 hp2=>?_⟩;have nq2:q≠p2:=bw gq hp2;have hwf:=hw.frz (o:=.dif o (dI wyT (wys W beat A.length))) gq;refine hN'.out _ _ ⟨p2,_,rfl,fun b u hb=>?_,cF sb ?_,hwf.sub (Sub3.new (by rw[aD (Ne.symm nq2)];exact hp2)),?_⟩
 ·rw[aD (bw (sb b u hb) ?_),aD (bw hb hq)]
  ·exact sb b u hb
  exact hp2
 ·exact hp2
 rw[aq,g_];rfl
abbrev iH:List Str:=["walk","stand","ways","behind","done","fillings","filling"]
theorem sc_ways_behind:FnScope iH ["walk","stand","ways"] (aB (top 27)):=bj
theorem lY {f:Addr}{fd:FuncData}(g:G3 K mg "ways_behind" (top 27) ["walk","stand","ways"] f fd) (B:Bl mg) {C_Walk:Addr}(I_Walk:InsC K C_Walk ["works","beat","rules","whole"]) (M_greatest_at:MtC P w K mg base C_Walk 4 "greatest_at" ["self","stand","done"] (Vd C_Walk)):Cal P w K mg base 5 "ways_behind" (top 27) ["walk","stand","ways"] (Ve C_Walk):=by
 refine⟨f,fd,g,?_⟩;refine fn3 g.fn sc_ways_behind (fun ts H Q h=>?_) (fun cdv A outer s H E ts H3 Q hr h=>?_)
 ·obtain⟨a,q,W,beat,k,n,E,rfl,_⟩:=h;rfl
 obtain⟨a,q,W,beat,k,n,E,rfl,hW,hw,hk,hn,hE,hq,kk⟩:=h;refine⟨_,(aj (aG (i:=3) sc_ways_behind.nd Bu)
   (aj (bh H_ rfl (BL (v3 2)) (bW (n:=2) rfl (aH (aC (i:=4) sc_ways_behind.nd) (aH (aC (i:=5) sc_ways_behind.nd) bA))) (au (bh H_ rfl (cL (pL M_greatest_at (hr.mono (by decide)) (v3 0) (aa (v3 1) (aa (v3 4) ak)))) (aC (i:=6) sc_ways_behind.nd) (au (cj (G4 (v3 3) (aF aY (v3 4) (v3 6)) (aF aY (v3 5) (bG (aa (v3 6) ak)))))))))
   (au (aK (v3 3))))),?_⟩
 rw[show aR iH [T.ref a,T.int (k:Int),T.ref q]=[some (T.ref a),some (T.int (k:Int)),some (T.ref q),none,none,none,none] from rfl];have hsz:sizeLine=16777216:=rfl;have k':=Box.mk kk;clear kk;have t2:=pZ hW;have hE':=Box.mk hE;clear hE;refine aA fun R0 hR0=>?_;walk_at "";intro pb hpb;have nqb:q≠pb:=bw hq hpb;walk_at "n";refine aA fun R1 hR1=>?_;have gq:up3 H3 pb (.dci []) q=some (.dci (dI wyT E)):=by rw[aD nqb];exact hq
 walk_at "";intro o;rw[Vb];have hw0:Wlk C_Walk W beat (up3 H3 q (.dif o (dI wyT E))) a:=hw.frz hq;have g0:up3 H3 q (.dif o (dI wyT E)) q=some (.dif o (dI wyT E)):=aq;have n0:up3 H3 q (.dif o (dI wyT E)) pb=none:=by rw[aD (Ne.symm nqb)];exact hpb
 have kb0:Kb1 pb (up3 H3 q (.dif o (dI wyT E))) (up3 (up3 H3 pb (.dci [])) q (.dif o (dI wyT E))):=fun b u hb h=>by
  by_cases e:b=q
  ·subst e;rw[aq] at h ⊢;exact h
  rw[aD e] at h ⊢;rw[aD hb];exact h
 have gb0:up3 (up3 H3 pb (.dci [])) q (.dif o (dI wyT E)) pb=some (.dci (dI wyT [])):=by rw[aD (Ne.symm nqb),aq];rfl
 have k2:=Box.mk (k'.out o pb hpb);generalize up3 (up3 H3 pb (.dci [])) q (.dif o (dI wyT E))=H4 at kb0 gb0 ⊢;generalize up3 H3 q (.dif o (dI wyT E))=H0 at *;clear k' gq hq hw;refine aW wyE E (fun A Z H=>∃(v4 v5 v6:Option T),Z=[some (.ref a),some (.int (k:Int)),some (.ref q),some (.ref pb),v4,v5,v6]/\Kb1 pb H0 H/\H pb=some (.dci (dI wyT (A.foldl (wbF W beat k) [])))/\WOk W (n+1) (A.foldl (wbF W beat k) [])) ⟨_,_,_,rfl,kb0,gb0,⟨YK,fun _ z=>(nomatch z)⟩⟩ ?_ ?_
 ·rintro Z H ⟨v4,v5,v6,rfl,kb,gb,_⟩;refine⟨kb q _ nqb g0,?_⟩;walk_at "n";walk_at "";refine Fin3.of (fun b u hb=>?_) k2.out;by_cases e:b=pb
  ·subst e;rw[aq] at hb;rw[gb,<- hb];rfl
  rw[aD e] at hb;exact kb b u e hb
 rintro A e B Z H N eE ⟨v4,v5,v6,rfl,kb,gb,hB⟩ hN;refine⟨kb q _ nqb g0,?_⟩;obtain⟨ed,el,et⟩:=hE'.out.lt e (by rw[eE];simp);have hfold:(A++[e]).foldl (wbF W beat k) []=wbF W beat k (A.foldl (wbF W beat k) []) e:=by rw[Yg];rfl
 have hN':=Box.mk hN;clear hN eE hR1 k2 kb0 gb0;rw[hfold] at hN';generalize A.foldl (wbF W beat k) []=B0 at *;clear hfold;simp only[wyE];walk_at "";have hwH:=kb.wlk n0 hw0;obtain⟨pw,gw,_⟩:=hwH.ex;have lm:=CQ (W:=W) (beat:=beat) (p:=pw) (m:="greatest_at") (by decide +kernel);refine⟨trivial,?_⟩;try rw[gw,J1]
 refine⟨lm,a,W,beat,k,e.1,rfl,hW,hwH,hk,ed,fun pf hpf=>?_⟩;have npf:pb≠pf:=bw gb hpf;have flen:(gfl W beat k e.1).length<=256:=by have:=qg bC (fls W beat k e.1);have h2:(fls W beat k e.1).length<=256:=U_ (WY _ _) (by rw[A_];exact t2);unfold gfl;rw[Xg];omega
 have kb1:Kb1 pb H0 (up3 H pf (.lst ((gfl W beat k e.1).map bz))):=kb.new hpf;have gb1:up3 H pf (.lst ((gfl W beat k e.1).map bz)) pb=some (.dci (dI wyT B0)):=by rw[aD npf];exact gb
 have gf1:up3 H pf (.lst ((gfl W beat k e.1).map bz)) pf=some (.lst ((gfl W beat k e.1).map bz)):=aq;generalize up3 H pf (.lst ((gfl W beat k e.1).map bz))=H5 at kb1 gb1 gf1 ⊢;clear kb gb hwH gw lm hpf;try walk_at ""
 refine aW bz (gfl W beat k e.1) (fun A2 Z H=>∃(v6:Option T),Z=[some (.ref a),some (.int (k:Int)),some (.ref q),some (.ref pb),some (.int (e.1:Int)),some (wyT e.2),v6]/\Kb1 pb H0 H/\H pf=some (.lst ((gfl W beat k e.1).map bz))/\H pb=some (.dci (dI wyT (A2.foldl (iz e.1 e.2) B0)))/\WOk W (n+1) (A2.foldl (iz e.1 e.2) B0)) ⟨_,rfl,kb1,gf1,gb1,hB⟩ ?_ ?_
 ·rintro Z H ⟨v6,rfl,kb,gf,gb,hB2⟩;refine⟨.inl gf,?_⟩;exact hN'.out _ _ ⟨_,_,_,rfl,kb,gb,hB2⟩
 rintro A2 f B2 Z H N eF ⟨v6,rfl,kb,gf,gb,hB2⟩ hN2;refine⟨.inl gf,?_⟩;have hf:f∈fls W beat k e.1:=qb (by rw[eF];simp);have hfold:(A2++[f]).foldl (iz e.1 e.2) B0=iz e.1 e.2 (A2.foldl (iz e.1 e.2) B0) f:=by rw[Yg];rfl
 have hB3:=hB2.stp hW ed el et hf;have hlen:=hB2.len;have hN2':=Box.mk hN2;clear hN2 eF hN' kb1 gf1 gb1 hB;rw[hfold] at hN2';generalize A2.foldl (iz e.1 e.2) B0=B3 at *;clear hfold;have hN3:Box (∀(v6:Option T) (H':Hp3),Kb1 pb H0 H'->H' pf=some (.lst ((gfl W beat k e.1).map bz))->H' pb=some (.dci (dI wyT (iz e.1 e.2 B3 f)))->N [some (.ref a),some (.int (k:Int)),some (.ref q),some (.ref pb),some (.int (e.1:Int)),some (wyT e.2),v6] H'):=⟨fun v6 H' h1 h2 h3=>hN2'.out _ _ ⟨v6,rfl,h1,h2,h3,hB3⟩⟩;clear hN2' hB3;have lk:=p7 wyT (e.1+f) B3;have pt:=PL wyT (e.1+f) (e.2++[f]) B3;have dl:=PK wyT B3;have et2:wyT (e.2++[f])=.tup (e.2.map bz++[.int (f:Int)]):=by unfold wyT;rw[B_];rfl
 have ec:((e.1+f:Nat):Int)=(e.1:Int)+(f:Int):=by push_cast;rfl
 rw[et2,ec] at pt;rw[ec] at lk;have hst:iz e.1 e.2 B3 f=match cV (e.1+f) B3 with
   |none=>putN (e.1+f) (e.2++[f]) B3
   |some _=>B3:=rfl
 have hst':=Box.mk hst;clear hst;try simp only[wyT,bz] at pt
 simp only[wyT,bz];cases el2:cV (e.1+f) B3 with
 |none =>
  rw[el2] at lk hst';rw[Option.map_none] at lk;have yes:=Box.mk (fun v6=>hN3.out v6 _ kb.put (by rw[aD (Ne.symm npf)];exact gf) (by rw[aq,hst'.out,<- pt]));try simp only[wyT,bz] at yes
  clear hN3 pt et2;walk_at "";exact⟨trivial,by omega,by omega,by omega,yes.out _⟩
 |some u =>
 rw[el2] at lk hst';rw[Yw] at lk;have no:=Box.mk (fun v6=>hN3.out v6 H kb gf (by rw[hst'.out];exact gb));try simp only[wyT,bz] at no
 clear hN3 pt et2;walk_at "";exact⟨trivial,by omega,by omega,by omega,no.out _⟩
abbrev cH:List Str:=["self","stand","done"]
theorem lZ:FnScope cH cH (aB (topm 25 2)):=bj
theorem mj {f:Addr}{fd:FuncData}{C_Walk:Addr}(g:GM K C_Walk "greatest_at" "Walk.greatest_at" (topm 25 2) cH f fd) (B:Bl mg) (I_Walk:InsC K C_Walk ["works","beat","rules","whole"]) (F_greatest_numbers:Cal P w K mg base 2 "greatest_numbers" (top 22) ["numbers"] Vc) (M_fillings_at:MtC P w K mg base C_Walk 3 "fillings_at" cH (Ux C_Walk)):MtC P w K mg base C_Walk 4 "greatest_at" cH (Vd C_Walk):=by
 refine⟨g.cls,f,fd,g.mt,g.b,?_⟩;refine fn3 g.fn lZ (fun ts H Q h=>?_) (fun cdv A outer s H E ts H3 Q hr h=>?_)
 ·obtain⟨a,W,beat,k,d,rfl,_⟩:=h;rfl
 obtain⟨a,W,beat,k,d,rfl,hW,hw,hk,hd,kk⟩:=h;refine⟨_,(au (aK (aQ F_greatest_numbers hr rfl (aa (pL M_fillings_at (hr.mono (by decide)) (v3 0) (aa (v3 1) (aa (v3 2) ak))) ak)))),?_⟩;rw[show aR cH [T.ref a,T.int (k:Int),T.int (d:Int)]=[some (T.ref a),some (T.int (k:Int)),some (T.int (d:Int))] from rfl];have hsz:sizeLine=16777216:=rfl;have k':=Box.mk kk;clear kk;have t2:=pZ hW;obtain⟨pw,gw,_⟩:=hw.ex;have lm:=CQ (W:=W) (beat:=beat) (p:=pw) (m:="fillings_at") (by decide +kernel);walk_at "";refine⟨by first | trivial | exact lm,a,W,beat,k,d,rfl,hW,hw,hk,hd,fun pf hpf=>?_⟩;have flen:(fls W beat k d).length<=256:=U_ (WY _ _) (by rw[A_];exact t2);refine⟨pf,fls W beat k d,rfl,aq,flen,fun p hp=>?_⟩;have hs1:Sub3 H3 (up3 H3 pf (.lst ((fls W beat k d).map bz))):=Sub3.new hpf;refine Fin3.of ?_ (k'.out p (cF hs1 hp));intro b o hb;by_cases e:b=p
 ·subst e;rw[aq] at hb ⊢;exact hb
 rw[aD e] at hb ⊢;exact hs1 b o hb
def Qn:Sp3:=fun ts H Q=>∃W:Wk,ts=[W.enc]/\WkOk W/\∀p,H p=none->Q (.ref p) (up3 H p (.lst ((lkW ["with"] W).map orT)))
def Qo:Sp3:=fun ts H Q=>∃(x:T) (L:List (Str × Str)) (s:Str),ts=[x,.str s]/\((∃a,x=.ref a/\H a=some (.lst (L.map orT)))\/x=.tup (L.map orT))/\L.length<=100 /\
 ∀(p:Addr) (kvs:List (Str × T)),H p=none->(∀z,(aN z kvs).isSome=true↔RT (fun a b=>(a,b)∈L) s z)->Q (.ref p) (up3 H p (.dct kvs))
def Qp:Sp3:=fun ts H Q=>∃(W:Wk) (t:Str),ts=[W.enc,.str t]/\WkOk W/\∀(p:Addr) (kvs:List (Str × T)),H p=none->(∀z,(aN z kvs).isSome=true↔RT (lkR ["with"] W) t z)->Q (.ref p) (up3 H p (.dct kvs))
def Qq:Sp3:=fun ts H Q=>∃(W:Wk) (t:Str),ts=[W.enc,.str t]/\WkOk W/\∀(p:Addr) (kvs:List (Str × T)),H p=none->(∀z,(aN z kvs).isSome=true↔RT (lkR ["with"] W) z t)->Q (.ref p) (up3 H p (.dct kvs))
def Vj:Sp3:=fun ts H Q=>∃(W:Wk) (a b:Addr) (ka kb:List (Str × T)),ts=[W.enc,.ref a,.ref b]/\WkOk W/\H a=some (.dct ka)/\H b=some (.dct kb)/\Q (sT ((W.tasks.map (·.1)).filter fun x=>(aN x ka).isSome&&(aN x kb).isSome)) H
def Vk:Sp3:=fun ts H Q=>∃(W:Wk) (a b:Addr) (ka kb:List (Str × T)),ts=[W.enc,.ref a,.ref b]/\WkOk W/\H a=some (.dct ka)/\H b=some (.dct kb)/\Q (sT ((W.tasks.map (·.1)).filter fun x=>(aN x ka).isSome&&!(aN x kb).isSome)) H
def Vl:Sp3:=fun ts H Q=>∃(W:Wk) (t:Str),ts=[W.enc,.str t]/\WkOk W/\Q (sT (fV W t)) H
def Vm:Sp3:=fun ts H Q=>∃(W:Wk) (t:Str),ts=[W.enc,.str t]/\WkOk W/\Q (sT (jb W t)) H
abbrev mq:List Str:=["works","links","word","one","other"]
theorem sc_links_of:FnScope mq ["works"] (aB (top 2)):=bj
theorem sU {f:Addr}{fd:FuncData}(g:G3 K mg "links_of" (top 2) ["works"] f fd) (B:Bl mg):Cal P w K mg base 1 "links_of" (top 2) ["works"] Qn:=by
 refine⟨f,fd,g,?_⟩;refine fn3 g.fn sc_links_of (fun ts H Q h=>?_) (fun cdv A outer s H E ts H3 Q hr h=>?_)
 ·obtain⟨W,rfl,_⟩:=h;rfl
 have hu30:=Room.u30 hr;obtain⟨⟨tk,ors,prs,row⟩,rfl,hW,k⟩:=h;refine⟨_,(aj (aG (i:=1) sc_links_of.nd (bI wj rfl B.list_ o8 (aa (aL ix3 (v3 0) ao) ak)))
   (aj (bh H_ rfl (bY (aL ix3 (v3 0) ao)) (bW (n:=3) rfl (aH (aC (i:=2) sc_links_of.nd) (aH (aC (i:=3) sc_links_of.nd) (aH (aC (i:=4) sc_links_of.nd) bA)))) (au (bu (aV (cP hu30) (v3 2) gB) (aj (cj (fc T_ V_ Wr bJ (v3 1) (aa (bG (aa (v3 3) (aa (v3 4) ak))) ak)))
     (au (cj (fc T_ V_ Wr bJ (v3 1) (aa (bG (aa (v3 4) (aa (v3 3) ak))) ak))))) aP)))
   (au (aK (v3 1))))),?_⟩
 rw[show aR mq [Wk.enc ⟨tk,ors,prs,row⟩]=[some (T.tup [T.tup (tk.map tkT),T.tup (ors.map orT),T.tup (prs.map prT),T.tup (row.map T.str)]),none,none,none,none] from rfl];have hsz:sizeLine=16777216:=rfl;have os28:ors.length<=28:=hW.os;have ps12:prs.length<=12:=hW.ps;walk_at "";intro p hp;refine aW prT prs (fun A Z H=>∃(v2 v3 v4:Option T),Z=[some (T.tup [T.tup (tk.map tkT),T.tup (ors.map orT),T.tup (prs.map prT),T.tup (row.map T.str)]),some (.ref p),v2,v3,v4]/\H=up3 H3 p (.lst ((ors++A.flatMap (lkP ["with"])).map orT))) ⟨none,none,none,rfl,by simp⟩ ?_ ?_
 ·rintro Z H ⟨v2,v3,v4,rfl,rfl⟩;refine⟨trivial,?_⟩;walk_at "";exact Fin3.of Sub3.refl (k p hp)
 rintro A ⟨w,a,b⟩ B Z H N e ⟨v2,v3,v4,rfl,rfl⟩ hN;have hl:=pU ["with"] A;have hA:A.length<=12:=by have:=WK List.length e;simp only[g_,l_] at this;omega
 have hl2:(ors++A.flatMap (lkP ["with"])).length<=52:=by rw[g_];omega
 have fin:N [some (T.tup [T.tup (tk.map tkT),T.tup (ors.map orT),T.tup (prs.map prT),T.tup (row.map T.str)]),some (.ref p),some (.str w),some (.str a),some (.str b)] (up3 H3 p (.lst ((ors++A.flatMap (lkP ["with"])).map orT++(lkP ["with"] (w,a,b)).map orT))):=hN _ _ ⟨_,_,_,rfl,by rw[List.flatMap_append,<- WW,B_];simp⟩;generalize ors++A.flatMap (lkP ["with"])=cur at fin hl2;replace fin:=Box.mk fin;refine⟨trivial,?_⟩;clear hN e k hW hl;simp only[prT];walk_at "";refine⟨trivial,?_⟩;by_cases hw:w="with"
 ·subst hw;have e1:lkP ["with"] ("with",a,b)=[(a,b),(b,a)]:=by unfold lkP;simp
  rw[e1] at fin;try simp only[Yo,if_true]
  refine⟨⟨trivial,trivial⟩,by omega,by omega,⟨trivial,trivial⟩,by omega,by simp;omega,?_⟩;have fo:=fin.out;simp only[I_,Xy,orT] at fo;rw[WW];exact fo
 have e1:lkP ["with"] (w,a,b)=[]:=by unfold lkP;simp [hw]
 rw[e1,Xy,WD] at fin;simp only[hw,XQ,x_,Wt];exact fin.out
abbrev oH:List Str:=["links","start","found","grown","one","other"]
theorem sc_reached:FnScope oH ["links","start"] (aB (top 3)):=bj
theorem vm {f:Addr}{fd:FuncData}(g:G3 K mg "reached" (top 3) ["links","start"] f fd) (B:Bl mg):Cal P w K mg base 1 "reached" (top 3) ["links","start"] Qo:=by
 refine⟨f,fd,g,?_⟩;refine fn3 g.fn sc_reached (fun ts H Q h=>?_) (fun cdv A outer s H E ts H3 Q hr h=>?_)
 ·obtain⟨x,L,s,rfl,_⟩:=h;rfl
 have hu1:=Room.u1 hr;obtain⟨x,L,s0,rfl,hx,hL,k⟩:=h;refine⟨_,(aj (aG (i:=2) sc_reached.nd (Ag (v3 1) cz))
   (aj (aG (i:=3) sc_reached.nd cz)
   (aj (lw H_ (cR (v3 3)) (aj (aG (i:=3) sc_reached.nd cz)
    (au (bh H_ rfl (Gq 0) (bW (n:=2) rfl (aH (aC (i:=4) sc_reached.nd) (aH (aC (i:=5) sc_reached.nd) bA))) (au (bu (PW3.pt (eV (gF hu1 (v3 4) (v3 2)) (dY (nQ hu1 (v3 5) (v3 2))))) (aj (j6 hu1 (v3 2) (v3 5) cz)
      (au (aG (i:=3) sc_reached.nd cz))) aP))))))
   (au (aK (v3 2)))))),?_⟩
 rw[show aR oH [x,T.str s0]=[some (x),some (T.str s0),none,none,none,none] from rfl];have hsz:sizeLine=16777216:=rfl;walk_at "";intro p hp;refine⟨trivial,?_⟩;rw[Pk];refine⟨fun m Z H=>∃(F:List Str) (g:Bool) (v4 v5:Option T),Z=[some x,some (.str s0),some (.ref p),some (.bl g),v4,v5]/\H=up3 H3 p (.dct (dF F))/\s0∈F/\F.Nodup/\(∀z∈F,RT (fun a b=>(a,b)∈L) s0 z)/\(g=false->∀a b,(a,b)∈L->a∈F->b∈F)/\m=2*(L.length+1 - F.length)+(if g then 1 else 0),
  ⟨_,[s0],true,none,none,rfl,rfl,k_,by simp,(fun z hz=>by rw[q_.mp hz];exact .refl),(fun z=>nomatch z),rfl⟩,?_⟩
 have bound:∀F:List Str,F.Nodup->(∀z∈F,RT (fun a b=>(a,b)∈L) s0 z)->F.length<=L.length+1:=fun F nd hF=>by
  have:=pR (l:=F) (m:=s0::L.map (·.2)) nd fun z hz=>by
   cases hF z hz with
   |refl=>exact k_
   |step _ r=>exact t_ _ (z_.mpr ⟨_,r,rfl⟩)
  simpa using this
 rintro m Z H ⟨F,g,v4,v5,rfl,rfl,hs,nd,hR,hg,rfl⟩;walk_at "";cases g with
 |false=>simp only[x_,Wt];refine Fin3.of Sub3.refl (k p _ hp fun z=>?_);rw[km,v_];exact⟨hR z,fun h=>Uq hs (hg rfl) h⟩
 |true =>
  try simp only[if_true]
  have hx':(∃a,x=.ref a/\up3 H3 p (.dct (dF F)) a=some (.lst (L.map orT)))\/x=.tup (L.map orT):=by
   rcases hx with ⟨a,rfl,e⟩ | e
   ·
    exact .inl ⟨a,rfl,by rw[aD (bw e hp)];exact e⟩
   ·
    exact .inr e
  refine Cy hx' fun still hst=>?_
  have hst':∀F',still (up3 H3 p (.dct (dF F'))):=by
   rcases hst with rfl | ⟨a,rfl,e⟩
   ·
    exact fun _=>trivial
   ·
    have hpa:a≠p:=fun z=>by subst z;rw[aq] at e;cases e
    rw[aD hpa] at e
    exact fun F'=>.inl (by rw[aD hpa];exact e)
  refine aW orT L (fun A Z H=>∃(F':List Str) (g':Bool) (v4 v5:Option T),Z=[some x,some (.str s0),some (.ref p),some (.bl g'),v4,v5]/\H=up3 H3 p (.dct (dF F'))/\s0∈F'/\F'.Nodup/\(∀z∈F',RT (fun a b=>(a,b)∈L) s0 z)/\(g'=false->F'=F/\∀o∈A,o.1∈F->o.2∈F)/\(g'=true->F.length<F'.length)) ⟨F,false,v4,v5,rfl,rfl,hs,nd,hR,fun _=>⟨rfl,(fun _ h=>nomatch h)⟩,(fun z=>nomatch z)⟩ ?_ ?_
  ·
   rintro Z H ⟨F',g',v4,v5,rfl,rfl,hs',nd',hR',h1,h2⟩
   refine⟨hst' F',?_⟩
   have b1:=bound F nd hR
   have b2:=bound F' nd' hR'
   cases g' with
   |true =>
    have:=h2 rfl
    exact⟨_,by simp only[if_true];omega,F',true,v4,v5,rfl,rfl,hs',nd',hR',(fun z=>nomatch z),rfl⟩
   |false =>
    obtain⟨e,hc⟩:=h1 rfl
    subst e
    exact⟨_,by simp,F',false,v4,v5,rfl,rfl,hs',nd',hR',fun _ a b hab ha=>hc (a,b) hab ha,rfl⟩
  ·
   rintro A ⟨a,b⟩ B Z H N e ⟨F',g',v4,v5,rfl,rfl,hs',nd',hR',h1,h2⟩ hN
   refine⟨hst' F',?_⟩
   have hab:(a,b)∈L:=by rw[e];simp
   have b2:=bound F' nd' hR'
   have l1:=km a F'
   have l2:=km b F'
   have l3:=Pj F'
   have no:¬(a∈F'/\b∉F')->N [some x,some (.str s0),some (.ref p),some (.bl g'),some (.str a),some (.str b)] (up3 H3 p (.dct (dF F'))):=fun hno=>hN _ _ ⟨F',g',_,_,rfl,rfl,hs',nd',hR',fun hg'=>by
    obtain⟨e1,hc⟩:=h1 hg'
    subst e1
    refine⟨rfl,fun o ho=>?_⟩
    rcases G_.mp ho with ho | ho
    ·
     exact hc o ho
    ·
     rw[q_.mp ho]
     intro ha
     exact Classical.byContradiction fun hb=>hno ⟨ha,hb⟩,h2⟩
   have yes:a∈F'->b∉F'->N [some x,some (.str s0),some (.ref p),some (.bl true),some (.str a),some (.str b)] (up3 H3 p (.dct (put3 b (T.bl true) (dF F')))):=fun ha hb=>by
    rw[Ph hb]
    refine hN _ _ ⟨F'++[b],true,_,_,rfl,rfl,WT _ hs',gm nd' hb,fun z hz=>?_,(fun z=>nomatch z),fun _=>?_⟩
    ·
     rcases G_.mp hz with hz | hz
     ·
      exact hR' z hz
     ·
      rw[q_.mp hz]
      exact .step (hR' a ha) hab
    ·
     rw[g_,D_]
     cases g' with
     |true=>have:=h2 rfl;omega
     |false=>obtain⟨e1,_⟩:=h1 rfl;subst e1;omega
   replace no:=Box.mk no
   replace yes:=Box.mk yes
   clear hN h1 h2 hst' hst bound k hx hx' hg hR hR' nd nd' hs hs' e hab
   simp only[orT]
   walk_at ""
   refine⟨trivial,?_⟩
   by_cases ha:a∈F'
   ·
    simp only[ha,Yo,if_true]
    by_cases hb:b∈F'
    ·
     simp only[hb,Yo,XJ,x_,Wt]
     exact no.out fun z=>z.2 hb
    ·
     simp only[hb,XQ,XS,if_true]
     exact⟨by omega,yes.out ha hb⟩
   ·
    simp only[ha,XQ,x_,Wt]
    exact no.out fun z=>ha z.1
abbrev ie:List Str:=["works","task"]
theorem yL:FnScope ie ie (aB (top 4)):=bj
theorem yM {f:Addr}{fd:FuncData}(g:G3 K mg "led_to" (top 4) ie f fd) (B:Bl mg) (F_reached:Cal P w K mg base 1 "reached" (top 3) ["links","start"] Qo) (F_links_of:Cal P w K mg base 1 "links_of" (top 2) ["works"] Qn):Cal P w K mg base 2 "led_to" (top 4) ie Qp:=by
 refine⟨f,fd,g,?_⟩;refine fn3 g.fn yL (fun ts H Q h=>?_) (fun cdv A outer s H E ts H3 Q hr h=>?_)
 ·obtain⟨W,t,rfl,_⟩:=h;rfl
 obtain⟨W,t,rfl,hW,k⟩:=h;refine⟨_,(au (aK (aQ F_reached hr rfl (aa (aQ F_links_of hr rfl (aa (v3 0) ak)) (aa (v3 1) ak))))),?_⟩;rw[show aR ie [W.enc,T.str t]=[some (W.enc),some (T.str t)] from rfl];walk_at "";refine⟨W,rfl,hW,fun q hq=>?_⟩;try dsimp only
 refine⟨_,lkW ["with"] W,t,rfl,.inl ⟨q,rfl,aq⟩,U_ (wM hW) (by decide),fun p kvs hp hk=>?_⟩;obtain⟨n1,hp⟩:=cD hp;refine Fin3.of (fun a o e=>?_) (k p kvs hp hk);by_cases h:a=p
 ·subst h;rw[aq] at e ⊢;exact e
 rw[aD h] at e ⊢;rw[aD (bw e hq)];exact e
abbrev dC:List Str:=["works","task"]
theorem sV:FnScope dC dC (aB (top 5)):=bj
theorem sW {f:Addr}{fd:FuncData}(g:G3 K mg "led_from" (top 5) dC f fd) (B:Bl mg) (F_reached:Cal P w K mg base 1 "reached" (top 3) ["links","start"] Qo) (F_links_of:Cal P w K mg base 1 "links_of" (top 2) ["works"] Qn):Cal P w K mg base 2 "led_from" (top 5) dC Qq:=by
 refine⟨f,fd,g,?_⟩;refine fn3 g.fn sV (fun ts H Q h=>?_) (fun cdv A outer s H E ts H3 Q hr h=>?_)
 ·obtain⟨W,t,rfl,_⟩:=h;rfl
 obtain⟨W,t,rfl,hW,k⟩:=h;refine⟨_,(au (aK (aQ F_reached hr rfl (aa (bU rfl (cC (n0:=(aB (top 5)).names) (N:=dC) (N':=["one","other"]) (nt:=2) (cap:=[]) rfl rfl (by decide +kernel)) (cL (aQ F_links_of hr rfl (aa (v3 0) ak))) (fun cl pins s H C0 fp=>⟨(bW (n:=2) rfl (aH (aC (i:=0) (show List.Nodup [("one":Str),("other":Str)] by decide +kernel)) (aH (aC (i:=1) (show List.Nodup [("one":Str),("other":Str)] by decide +kernel)) bA))),cX,(bG (aa (v3 1) (aa (v3 0) ak)))⟩)) (aa (v3 1) ak))))),?_⟩;rw[show aR dC [W.enc,T.str t]=[some (W.enc),some (T.str t)] from rfl];have hsz:sizeLine=16777216:=rfl;have hl:=wM (ws:=["with"]) hW;walk_at "";refine⟨W,rfl,hW,fun q hq=>?_⟩;try dsimp only
 rw[JB,aq,wz];walk_at "c";refine fU orT (lkW ["with"] W) (fun A ys Z H=>H=up3 H3 q (.lst ((lkW ["with"] W).map orT))/\ys=(A.map swp).map orT/\∃v0 v1:Option T,Z=[v0,v1]) ⟨rfl,rfl,none,none,rfl⟩ ?_ ?_
 ·rintro ys Z H ⟨rfl,rfl,v0,v1,rfl⟩;refine⟨.inl aq,by rw[h_,h_];omega,fun r hr=>?_⟩;obtain⟨n0,hr0⟩:=cD hr;refine⟨_,(lkW ["with"] W).map swp,t,rfl,.inl ⟨r,rfl,aq⟩,by rw[h_];omega,fun p kvs hp hk=>?_⟩;obtain⟨n1,hp⟩:=cD hp;obtain⟨n2,hp⟩:=cD hp;refine Fin3.of (fun a o e=>?_) (k p kvs hp fun z=>(hk z).trans Pn);by_cases h:a=p
  ·subst h;rw[aq] at e ⊢;exact e
  rw[aD h] at e ⊢;rw[aD (bw e hr0),aD (bw e hq)];exact e
 rintro A ⟨a,b⟩ B ys Z H N e ⟨rfl,rfl,v0,v1,rfl⟩ hN;have hA:A.length<=52:=by have:=WK List.length e;simp only[g_,l_] at this;omega
 refine⟨.inl aq,?_⟩;have fin:=hN (((A.map swp).map orT)++[orT (b,a)]) [some (.str a),some (.str b)] _ ⟨rfl,by rw[B_,B_];rfl,_,_,rfl⟩;replace fin:=Box.mk fin;clear hN k e;simp only[orT] at fin ⊢;walk_at "";exact⟨trivial,by omega,by omega,fin.out⟩
abbrev d8:List Str:=["works","found","other"]
theorem vo:FnScope d8 d8 (aB (top 6)):=bj
theorem vp {f:Addr}{fd:FuncData}(g:G3 K mg "in_both" (top 6) d8 f fd) (B:Bl mg):Cal P w K mg base 1 "in_both" (top 6) d8 Vj:=by
 refine⟨f,fd,g,?_⟩;refine fn3 g.fn vo (fun ts H Q h=>?_) (fun cdv A outer s H E ts H3 Q hr h=>?_)
 ·obtain⟨W,a,b,ka,kb,rfl,_⟩:=h;rfl
 have hu1:=Room.u1 hr;obtain⟨⟨tk,ors,prs,row⟩,a,b,ka,kb,rfl,hW,ha,hb,k⟩:=h;refine⟨_,(au (aK (bI dm rfl B.tuple_ cI (aa (bU rfl (cC (n0:=(aB (top 6)).names) (N:=d8) (N':=["task","found","other"]) (nt:=1) (cap:=[1,2]) rfl rfl (by decide +kernel)) (bY (aL ix3 (v3 0) ao)) (fun cl pins s H C0 fp=>⟨(aC (i:=0) (show List.Nodup [("task":Str),("found":Str),("other":Str)] by decide +kernel)),(gD (PW3.pt (eV (gF hu1 (aL ix3 (v3 0) ao) (v3 1)) (dY (gF hu1 (aL ix3 (v3 0) ao) (v3 2)))))),(aL ix3 (v3 0) ao)⟩)) ak)))),?_⟩;rw[show aR d8 [Wk.enc ⟨tk,ors,prs,row⟩,T.ref a,T.ref b]=[some (T.tup [T.tup (tk.map tkT),T.tup (ors.map orT),T.tup (prs.map prT),T.tup (row.map T.str)]),some (T.ref a),some (T.ref b)] from rfl];have hsz:sizeLine=16777216:=rfl;have t8:tk.length<=8:=hW.t8;walk_at "";walk_at "c";refine iZ tkT (fun t=>T.str t.1) (fun t=>(aN t.1 ka).isSome&&(aN t.1 kb).isSome) tk [some (.ref a),some (.ref b)] trivial (by omega) (fun t ht Q' hq=>?_) (fun t ht hpt Q' hq=>?_) (fun p hp=>?_)
 ·obtain⟨nm,len,ks⟩:=t;simp only[tkT];dsimp only at hq;cases e1:(aN nm ka).isSome <;> cases e2:(aN nm kb).isSome <;> simp only[e1,e2,Bool.and_true,Bool.and_false,XJ,XS,Zw,Bool.false_and] at hq <;> walk_at ""
 ·simp only[tkT];walk_at "";try exact hq
 walk_at "";refine Fin3.of (Sub3.new hp) ?_;have e:(tk.filter fun t=>(aN t.1 ka).isSome&&(aN t.1 kb).isSome).map (fun t=>T.str t.1)=((tk.map (·.1)).filter fun x=>(aN x ka).isSome&&(aN x kb).isSome).map T.str:=by rw[List.filter_map,WN];rfl
 rw[e];exact k
abbrev c7:List Str:=["works","task"]
theorem sX:FnScope c7 c7 (aB (top 8)):=bj
theorem sY {f:Addr}{fd:FuncData}(g:G3 K mg "group_of" (top 8) c7 f fd) (B:Bl mg) (F_in_both:Cal P w K mg base 1 "in_both" (top 6) ["works","found","other"] Vj) (F_led_to:Cal P w K mg base 2 "led_to" (top 4) c7 Qp) (F_led_from:Cal P w K mg base 2 "led_from" (top 5) c7 Qq):Cal P w K mg base 3 "group_of" (top 8) c7 Vl:=by
 refine⟨f,fd,g,?_⟩;refine fn3 g.fn sX (fun ts H Q h=>?_) (fun cdv A outer s H E ts H3 Q hr h=>?_)
 ·obtain⟨W,t,rfl,_⟩:=h;rfl
 obtain⟨W,t,rfl,hW,k⟩:=h;refine⟨_,(au (aK (aQ F_in_both hr rfl (aa (v3 0) (aa (aQ F_led_to hr rfl (aa (v3 0) (aa (v3 1) ak))) (aa (aQ F_led_from hr rfl (aa (v3 0) (aa (v3 1) ak))) ak)))))),?_⟩;rw[show aR c7 [W.enc,T.str t]=[some (W.enc),some (T.str t)] from rfl];walk_at "";refine⟨W,t,rfl,hW,fun p ka hp hka=>?_⟩;try dsimp only
 refine⟨W,t,rfl,hW,fun q kb hq hkb=>?_⟩;obtain⟨n1,hq0⟩:=cD hq;try dsimp only
 refine⟨W,p,q,ka,kb,rfl,hW,by rw[aD (Ne.symm n1)];exact aq,aq,?_⟩;refine Fin3.of (fun a o e=>by rw[aD (bw e hq0),aD (bw e hp)];exact e) ?_;rw[show (W.tasks.map (·.1)).filter (fun x=>(aN x ka).isSome&&(aN x kb).isSome)=fV W t from ?_]
 ·exact k
 unfold fV;refine Yh fun x hx=>?_;rw[Wz,WL,@v_ _ (Classical.propDecidable _),hka x,hkb x]
abbrev bL:List Str:=["works","found","other"]
theorem jr:FnScope bL bL (aB (top 7)):=bj
theorem jt {f:Addr}{fd:FuncData}(g:G3 K mg "in_first_alone" (top 7) bL f fd) (B:Bl mg):Cal P w K mg base 1 "in_first_alone" (top 7) bL Vk:=by
 refine⟨f,fd,g,?_⟩;refine fn3 g.fn jr (fun ts H Q h=>?_) (fun cdv A outer s H E ts H3 Q hr h=>?_)
 ·obtain⟨W,a,b,ka,kb,rfl,_⟩:=h;rfl
 have hu1:=Room.u1 hr;obtain⟨⟨tk,ors,prs,row⟩,a,b,ka,kb,rfl,hW,ha,hb,k⟩:=h;refine⟨_,(au (aK (bI dm rfl B.tuple_ cI (aa (bU rfl (cC (n0:=(aB (top 7)).names) (N:=bL) (N':=["task","found","other"]) (nt:=1) (cap:=[1,2]) rfl rfl (by decide +kernel)) (bY (aL ix3 (v3 0) ao)) (fun cl pins s H C0 fp=>⟨(aC (i:=0) (show List.Nodup [("task":Str),("found":Str),("other":Str)] by decide +kernel)),(gD (PW3.pt (eV (gF hu1 (aL ix3 (v3 0) ao) (v3 1)) (dY (nQ hu1 (aL ix3 (v3 0) ao) (v3 2)))))),(aL ix3 (v3 0) ao)⟩)) ak)))),?_⟩;rw[show aR bL [Wk.enc ⟨tk,ors,prs,row⟩,T.ref a,T.ref b]=[some (T.tup [T.tup (tk.map tkT),T.tup (ors.map orT),T.tup (prs.map prT),T.tup (row.map T.str)]),some (T.ref a),some (T.ref b)] from rfl];have hsz:sizeLine=16777216:=rfl;have t8:tk.length<=8:=hW.t8;walk_at "";walk_at "c";refine iZ tkT (fun t=>T.str t.1) (fun t=>(aN t.1 ka).isSome&&!(aN t.1 kb).isSome) tk [some (.ref a),some (.ref b)] trivial (by omega) (fun t ht Q' hq=>?_) (fun t ht hpt Q' hq=>?_) (fun p hp=>?_)
 ·obtain⟨nm,len,ks⟩:=t;simp only[tkT];dsimp only at hq;cases e1:(aN nm ka).isSome <;> cases e2:(aN nm kb).isSome <;> simp only[e1,e2,Bool.and_true,Bool.and_false,XJ,XS,Zw,Bool.false_and] at hq <;> walk_at ""
 ·simp only[tkT];walk_at "";try exact hq
 walk_at "";refine Fin3.of (Sub3.new hp) ?_;have e:(tk.filter fun t=>(aN t.1 ka).isSome&&!(aN t.1 kb).isSome).map (fun t=>T.str t.1)=((tk.map (·.1)).filter fun x=>(aN x ka).isSome&&!(aN x kb).isSome).map T.str:=by rw[List.filter_map,WN];rfl
 rw[e];exact k
abbrev dh:List Str:=["works","task"]
theorem sZ:FnScope dh dh (aB (top 9)):=bj
theorem tu {f:Addr}{fd:FuncData}(g:G3 K mg "ahead_of" (top 9) dh f fd) (B:Bl mg) (F_in_first_alone:Cal P w K mg base 1 "in_first_alone" (top 7) ["works","found","other"] Vk) (F_led_from:Cal P w K mg base 2 "led_from" (top 5) dh Qq) (F_led_to:Cal P w K mg base 2 "led_to" (top 4) dh Qp):Cal P w K mg base 3 "ahead_of" (top 9) dh Vm:=by
 refine⟨f,fd,g,?_⟩;refine fn3 g.fn sZ (fun ts H Q h=>?_) (fun cdv A outer s H E ts H3 Q hr h=>?_)
 ·obtain⟨W,t,rfl,_⟩:=h;rfl
 obtain⟨W,t,rfl,hW,k⟩:=h;refine⟨_,(au (aK (aQ F_in_first_alone hr rfl (aa (v3 0) (aa (aQ F_led_from hr rfl (aa (v3 0) (aa (v3 1) ak))) (aa (aQ F_led_to hr rfl (aa (v3 0) (aa (v3 1) ak))) ak)))))),?_⟩;rw[show aR dh [W.enc,T.str t]=[some (W.enc),some (T.str t)] from rfl];walk_at "";refine⟨W,t,rfl,hW,fun p ka hp hka=>?_⟩;try dsimp only
 refine⟨W,t,rfl,hW,fun q kb hq hkb=>?_⟩;obtain⟨n1,hq0⟩:=cD hq;try dsimp only
 refine⟨W,p,q,ka,kb,rfl,hW,by rw[aD (Ne.symm n1)];exact aq,aq,?_⟩;refine Fin3.of (fun a o e=>by rw[aD (bw e hq0),aD (bw e hp)];exact e) ?_;rw[show (W.tasks.map (·.1)).filter (fun x=>(aN x ka).isSome&&!(aN x kb).isSome)=jb W t from ?_]
 ·exact k
 unfold jb;refine Yh fun x hx=>?_;rw[Wz,WL,@v_ _ (Classical.propDecidable _),hka x,Y7,<- Bool.not_eq_true,hkb x]
def Eb:Sp3:=fun ts H Q=>∃(W:Wk) (x:T) (ss:List Str),ts=[W.enc,x]/\WkOk W/\SeqS H x ss/\Q (.int (numOf (W.tasks.map (·.1)) ss)) H
def J9:Sp3:=fun ts H Q=>∃(W:Wk) (n:Int),ts=[W.enc,.int n]/\WkOk W/\0<=n/\n<2^W.tasks.length/\Q (sT (pick (W.tasks.map (·.1)) n)) H
def Ka:Sp3:=fun ts H Q=>∃(ks:List Str) (k:Str),ts=[sT ks,.str k]/\Q (.bl (gR ks k)) H
def xx:Sp3:=fun ts H Q=>∃a b:Int,ts=[.int a,.int b]/\Q (.bl (decide (Builtin.bitAnd a b=b))) H
def Kc:Sp3:=fun ts H Q=>∃(W:Wk) (t:Str),ts=[W.enc,.str t]/\WkOk W/\∀p,H p=none->Q (.ref p) (up3 H p (.lst ((jm W t).map T.str)))
def Kd:Sp3:=fun ts H Q=>∃W:Wk,ts=[W.enc]/\WkOk W/\∀p,H p=none->Q (.ref p) (up3 H p (.lst (W.tasks.map (ruT W (W.tasks.map (·.1))))))
def Ke:Sp3:=fun ts H Q=>∃(W:Wk) (a:Addr) (beat:Int) (kind:Str) (D S:List Str),ts=[.ref a,.int beat,.str kind,.int (numOf (W.tasks.map (·.1)) D),.int (numOf (W.tasks.map (·.1)) S)]/\WkOk W/\H a=some (.lst (W.tasks.map (ruT W (W.tasks.map (·.1)))))/\Q (.bl (uY W beat kind D S)) H
abbrev jV:List Str:=["works","tasks","number","worth","task"]
theorem sc_number_of:FnScope jV ["works","tasks"] (aB (top 15)):=bj
theorem qj {f:Addr}{fd:FuncData}(g:G3 K mg "number_of" (top 15) ["works","tasks"] f fd) (B:Bl mg):Cal P w K mg base 1 "number_of" (top 15) ["works","tasks"] Eb:=by
 refine⟨f,fd,g,?_⟩;refine fn3 g.fn sc_number_of (fun ts H Q h=>?_) (fun cdv A outer s H E ts H3 Q hr h=>?_)
 ·obtain⟨W,x,ss,rfl,_⟩:=h;rfl
 have hu31:=Room.u31 hr;obtain⟨⟨tk,ors,prs,row⟩,x,ss,rfl,hW,hx,k⟩:=h;refine⟨_,(aj (aG (i:=2) sc_number_of.nd ao)
   (aj (aG (i:=3) sc_number_of.nd ao)
   (aj (bh H_ rfl (bY (aL ix3 (v3 0) ao)) (aC (i:=4) sc_number_of.nd) (aj (bu (aV (nM hu31) (aL ix3 (v3 4) ao) (v3 1) rfl) (au (aG (i:=2) sc_number_of.nd (aF aY (v3 2) (v3 3)))) aP)
    (au (aG (i:=3) sc_number_of.nd (aF cT (v3 3) ao)))))
   (au (aK (v3 2)))))),?_⟩
 rw[show aR jV [Wk.enc ⟨tk,ors,prs,row⟩,x]=[some (T.tup [T.tup (tk.map tkT),T.tup (ors.map orT),T.tup (prs.map prT),T.tup (row.map T.str)]),some (x),none,none,none] from rfl];have hsz:sizeLine=16777216:=rfl;have t8:tk.length<=8:=hW.t8;walk_at "";refine aW tkT tk (fun A Z H=>∃v:Option T,H=H3/\Z=[some (T.tup [T.tup (tk.map tkT),T.tup (ors.map orT),T.tup (prs.map prT),T.tup (row.map T.str)]),some x,some (.int (numOf (A.map (·.1)) ss)),some (.int (2^A.length)),v]) ⟨none,rfl,rfl⟩ ?_ ?_
 ·rintro Z H ⟨v,rfl,rfl⟩;refine⟨trivial,?_⟩;walk_at "";exact Fin3.of Sub3.refl k
 rintro A t B Z H N e ⟨v,rfl,rfl⟩ hN;have hlA:A.length+1<=8:=by have:=WK List.length e;simp only[g_,l_] at this;omega
 have p3:0<(2:Int)^A.length/\(2:Int)^A.length<=256:=by
  have:A.length=0\/A.length=1\/A.length=2\/A.length=3\/A.length=4\/A.length=5\/A.length=6\/A.length=7:=by omega
  rcases this with e | e | e | e | e | e | e | e <;> rw[e] <;> decide
 have cm:CMul (2^A.length) 2:=.inl ⟨by omega,by omega⟩;have fin:∀v,N [some (T.tup [T.tup (tk.map tkT),T.tup (ors.map orT),T.tup (prs.map prT),T.tup (row.map T.str)]),some x,some (.int (numOf (A.map (·.1)) ss+2^A.length*(if t.1∈ss then 1 else 0))),some (.int (2^A.length*2)),v] H:=fun v=>by have:=hN [some (T.tup [T.tup (tk.map tkT),T.tup (ors.map orT),T.tup (prs.map prT),T.tup (row.map T.str)]),some x,some (.int (numOf ((A++[t]).map (·.1)) ss)),some (.int (2^(A++[t]).length)),v] H ⟨v,rfl,rfl⟩;rw[show (2:Int)^(A++[t]).length=2^A.length*2 by rw[g_,D_,Zr],B_,I_,Xy,lN,h_] at this;exact this
 replace fin:=Box.mk fin;obtain⟨nm,len,ks⟩:=t;refine⟨trivial,?_⟩;clear hN e k;simp only[tkT,sT];walk_at "";refine Hy hx ?_;by_cases hm:nm∈ss
 ·simp only[hm,Yo,if_true,x_,Wt,dM,Int.mul_one] at fin ⊢;exact⟨by first | trivial | exact cm,fin.out _⟩
 simp only[hm,XQ,if_true,x_,Wt,dM,Int.mul_zero,Int.add_zero] at fin ⊢;exact⟨by first | trivial | exact cm,fin.out _⟩
abbrev cW:List Str:=["kinds","kind"]
theorem my:FnScope cW cW (aB (top 11)):=bj
theorem mz {f:Addr}{fd:FuncData}(g:G3 K mg "may_be_done" (top 11) cW f fd) (B:Bl mg):Cal P w K mg base 1 "may_be_done" (top 11) cW Ka:=by
 refine⟨f,fd,g,?_⟩;refine fn3 g.fn my (fun ts H Q h=>?_) (fun cdv A outer s H E ts H3 Q hr h=>?_)
 ·obtain⟨ks,k,rfl,_⟩:=h;rfl
 have hu30:=Room.u30 hr;have hu31:=Room.u31 hr;obtain⟨ks,kd,rfl,k⟩:=h;refine⟨_,(au (aK (Ru (dR (cP hu30) (aM bO rfl B.len_ bQ (aa (v3 0) ak)) ao) (Lx (dR (nM hu31) (v3 1) (v3 0) rfl))))),?_⟩;rw[show aR cW [sT ks,T.str kd]=[some (T.tup (ks.map T.str)),some (T.str kd)] from rfl];have i1:pl 20 (T.str kd)=true:=rfl;have i2:=dD ks;have e1:dB false (T.str kd) (ks.map T.str)=decide (kd∈ks):=by unfold dB;have:(T.str kd∈ks.map T.str)↔kd∈ks:=fG jj;simp only[this];simp
 walk_at "";unfold gR at k;cases ks with
 |nil=>simp only[Yo,Bool.true_or,W3,if_true] at k ⊢;exact Fin3.of Sub3.refl k
 |cons y r =>
  have:¬(((r.length+1:Nat)):Int)=0:=by omega
  simp only[l_,this,XQ,x_,Wt] at k ⊢
  exact⟨trivial,trivial,Fin3.of Sub3.refl (by simpa using k)⟩
abbrev fZ:List Str:=["number","part"]
theorem vz:FnScope fZ fZ (aB (top 20)):=bj
theorem vA {f:Addr}{fd:FuncData}(g:G3 K mg "has_all" (top 20) fZ f fd) (B:Bl mg):Cal P w K mg base 1 "has_all" (top 20) fZ xx:=by
 refine⟨f,fd,g,?_⟩;refine fn3 g.fn vz (fun ts H Q h=>?_) (fun cdv A outer s H E ts H3 Q hr h=>?_)
 ·obtain⟨a,b,rfl,_⟩:=h;rfl
 have hu30:=Room.u30 hr;obtain⟨a,b,rfl,k⟩:=h;refine⟨_,(au (aK (dR (cP hu30) (aF Ax (v3 0) (v3 1)) (v3 1)))),?_⟩;rw[show aR fZ [T.int a,T.int b]=[some (T.int a),some (T.int b)] from rfl];walk_at "";exact Fin3.of Sub3.refl k
abbrev cM:List Str:=["works","task"]
theorem mU:FnScope cM cM (aB (top 18)):=bj
theorem mV {f:Addr}{fd:FuncData}(g:G3 K mg "apart_from" (top 18) cM f fd) (B:Bl mg):Cal P w K mg base 1 "apart_from" (top 18) cM Kc:=by
 refine⟨f,fd,g,?_⟩;refine fn3 g.fn mU (fun ts H Q h=>?_) (fun cdv A outer s H E ts H3 Q hr h=>?_)
 ·obtain⟨W,t,rfl,_⟩:=h;rfl
 have hu30:=Room.u30 hr;obtain⟨⟨tk,ors,prs,row⟩,t,rfl,hW,k⟩:=h;refine⟨_,(au (aK (bU rfl (cC (n0:=(aB (top 18)).names) (N:=cM) (N':=["word","one","other","task"]) (nt:=3) (cap:=[1]) rfl rfl (by decide +kernel)) (bY (aL ix3 (v3 0) ao)) (fun cl pins s H C0 fp=>⟨(bW (n:=3) rfl (aH (aC (i:=0) (show List.Nodup [("word":Str),("one":Str),("other":Str),("task":Str)] by decide +kernel)) (aH (aC (i:=1) (show List.Nodup [("word":Str),("one":Str),("other":Str),("task":Str)] by decide +kernel)) (aH (aC (i:=2) (show List.Nodup [("word":Str),("one":Str),("other":Str),("task":Str)] by decide +kernel)) bA)))),(gD (PW3.pt (eV (aV (cP hu30) (v3 0) gB) (dY (aV (cP hu30) (v3 1) (v3 3)))))),(v3 2)⟩)))),?_⟩;rw[show aR cM [Wk.enc ⟨tk,ors,prs,row⟩,T.str t]=[some (T.tup [T.tup (tk.map tkT),T.tup (ors.map orT),T.tup (prs.map prT),T.tup (row.map T.str)]),some (T.str t)] from rfl];have hsz:sizeLine=16777216:=rfl;have p12:prs.length<=12:=hW.ps;walk_at "";walk_at "c";refine fU prT prs (fun A ys Z H=>H=H3/\ys=((A.filter fun p=>decide (p.1=("apart":Str))&&decide (p.2.1=t)).map (·.2.2)).map T.str/\∃v0 v1 v2:Option T,Z=[v0,v1,v2,some (.str t)]) ⟨rfl,rfl,none,none,none,rfl⟩ ?_ ?_
 ·rintro ys Z H ⟨rfl,rfl,v0,v1,v2,rfl⟩;refine⟨trivial,?_,fun p hp=>Fin3.of Sub3.refl (k p hp)⟩;rw[h_,h_];exact U_ (WY _ _) (by omega)
 rintro A ⟨w,a,b⟩ B ys Z H N e ⟨rfl,rfl,v0,v1,v2,rfl⟩ hN;have hA:A.length<=12:=by have:=WK List.length e;simp only[g_,l_] at this;omega
 have hl:((A.filter fun p=>decide (p.1=("apart":Str))&&decide (p.2.1=t)).map (·.2.2)).length<=12:=by rw[h_];exact U_ (WY _ _) hA
 refine⟨trivial,?_⟩;have fY:Box (w="apart"/\a=t->N (((A.filter fun p=>decide (p.1=("apart":Str))&&decide (p.2.1=t)).map (·.2.2)).map T.str++[T.str b]) [some (.str w),some (.str a),some (.str b),some (.str t)] H):=⟨fun h=>hN _ _ _ ⟨rfl,by rw[Xo];simp [h],_,_,_,rfl⟩⟩;have fN:Box (¬(w="apart"/\a=t)->N (((A.filter fun p=>decide (p.1=("apart":Str))&&decide (p.2.1=t)).map (·.2.2)).map T.str) [some (.str w),some (.str a),some (.str b),some (.str t)] H):=⟨fun h=>hN _ _ _ ⟨rfl,by rw[Xo];simp [h],_,_,_,rfl⟩⟩;generalize ((A.filter fun p=>decide (p.1=("apart":Str))&&decide (p.2.1=t)).map (·.2.2))=cur at *;clear hN k e;simp only[prT];walk_at "";refine⟨trivial,?_⟩;by_cases h1:w="apart"
 ·simp only[h1,Yo,if_true];by_cases h2:a=t
  ·simp only[h2,Yo,if_true];have:=fY.out ⟨h1,h2⟩;rw[h1,h2] at this;exact⟨by omega,this⟩
  simp only[h2,XQ,x_,Wt];have:=fN.out fun z=>h2 z.2;rw[h1] at this;exact this
 simp only[h1,XQ,x_,Wt];exact fN.out fun z=>h1 z.1
abbrev di:List Str:=["numbers","greatest","number"]
theorem sc_greatest_numbers:FnScope di ["numbers"] (aB (top 22)):=bj
theorem iB {f:Addr}{fd:FuncData}(g:G3 K mg "greatest_numbers" (top 22) ["numbers"] f fd) (B:Bl mg) (F_has_all:Cal P w K mg base 1 "has_all" (top 20) ["number","part"] xx):Cal P w K mg base 2 "greatest_numbers" (top 22) ["numbers"] Vc:=by
 refine⟨f,fd,g,?_⟩;refine fn3 g.fn sc_greatest_numbers (fun ts H Q h=>?_) (fun cdv A outer s H E ts H3 Q hr h=>?_)
 ·obtain⟨a,fs,rfl,_⟩:=h;rfl
 obtain⟨a,fs,rfl,ha,hl,k⟩:=h;refine⟨_,(aj (aG (i:=1) sc_greatest_numbers.nd (bf ak))
   (aj (bh H_ rfl (NT rfl B.reversed_ (v3 0)) (aC (i:=2) sc_greatest_numbers.nd) (au (bu (gC (cR (aM (Nx rfl) rfl B.any_ Mf (aa (bU rfl (cC (n0:=(aB (top 22)).names) (N:=di) (N':=["other","number"]) (nt:=1) (cap:=[2]) rfl rfl (by decide +kernel)) (cL (v3 1)) (fun cl pins s H C0 fp=>⟨(aC (i:=0) (show List.Nodup [("other":Str),("number":Str)] by decide +kernel)),cX,(aQ F_has_all hr rfl (aa (v3 0) (aa (v3 1) ak)))⟩)) ak)))) (au (cj (fc T_ V_ Wr bJ (v3 1) (aa (v3 2) ak)))) aP)))
   (au (aK (Be rfl rfl B.list_ rfl B.reversed_ (v3 1)))))),?_⟩
 rw[show aR di [T.ref a]=[some (T.ref a),none,none] from rfl];have hsz:sizeLine=16777216:=rfl;refine aA fun R0 hR0=>?_;walk_at "";refine⟨by omega,fun p0 hp0=>?_⟩;walk_at "n";have hS1:Sub3 H3 (up3 H3 p0 (.lst [])):=Sub3.new hp0;have g1:up3 H3 p0 (.lst []) p0=some (.lst ((gre bC []).map bz)):=aq;generalize up3 H3 p0 (.lst [])=H1 at hS1 g1;try dsimp only
 refine aA fun R1 hR1=>?_;have ga:=hS1 _ _ ha;walk_at "";rw[<- Za];refine aW bz fs.reverse (fun A Z H=>∃(q:Addr) (v:Option T),Z=[some (.ref a),some (.ref q),v]/\Sub3 H3 H/\H3 q=none/\H q=some (.lst ((gre bC A.reverse).map bz))) ⟨p0,none,rfl,hS1,hp0,g1⟩ ?_ ?_
 ·rintro Z H ⟨q,v,rfl,hS,hq0,hq⟩;refine⟨.inl (hS _ _ ha),?_⟩;walk_at "n";rw[List.reverse_reverse] at hq;clear g1 ga;walk_at "";intro p hp;have h30:H3 p=none:=by
   cases e:H3 p with
   |none=>rfl
   |some o=>rw[hS _ _ e] at hp;cases hp
  rw[<- Za];refine Fin3.of ?_ (k p h30);intro b o hb;by_cases e:b=p
  ·subst e;rw[aq] at hb ⊢;exact hb
  rw[aD e] at hb ⊢;exact hS b o hb
 rintro A n B Z H N e ⟨q,v,rfl,hS,hq0,hq⟩ hN;refine⟨.inl (hS _ _ ha),?_⟩;have hA:A.length+1<=256:=by have:=WK List.length e;simp only[g_,l_,Xg] at this;omega
 have hN':=Box.mk hN;have eG:gre bC (A++[n]).reverse=if (gre bC A.reverse).any (fun g=>bC g n) then gre bC A.reverse else gre bC A.reverse++[n]:=by rw[List.reverse_append];rfl
 have gl:=qg bC A.reverse;rw[Xg] at gl;clear hN e k hR1 g1 ga;generalize gre bC A.reverse=G at *;walk_at "";walk_at "c";refine bZ bz (fun g=>T.bl (bC g n)) G [some (bz n)] (.inl hq) (by omega) (fun g hg Q' hq'=>?_) (fun pc hpc=>?_)
 ·clear hN';walk_at "";exact⟨(g:Int),(n:Int),rfl,hq'⟩
 have nqc:q≠pc:=bw hq hpc;have bm:(G.map fun g=>T.bl (bC g n))=(G.map fun g=>bC g n).map T.bl:=by rw[WN];rfl
 have g2:up3 H pc (.lst ((G.map fun g=>bC g n).map T.bl)) q=some (.lst (G.map bz)):=by rw[aD nqc];exact hq
 have hS2:Sub3 H3 (up3 H pc (.lst ((G.map fun g=>bC g n).map T.bl))):=hS.trans (Sub3.new hpc);rw[bm,lD,gK];generalize up3 H pc (.lst ((G.map fun g=>bC g n).map T.bl))=H5 at g2 hS2;have ea:(G.map fun g=>bC g n).any id=G.any fun g=>bC g n:=by rw[List.any_map];rfl
 rw[ea];cases hb:G.any fun g=>bC g n
 ·rw[hb] at eG;simp only[x_,Wt] at eG;clear ea bm hpc nqc;simp only[XS,if_true];walk_at "";refine⟨⟨trivial,trivial⟩,by omega,hN'.out _ _ ⟨q,_,rfl,?_,hq0,?_⟩⟩
  ·intro b o hb';by_cases e:b=q
   ·subst e;rw[hq0] at hb';cases hb'
   rw[aD e];exact hS2 b o hb'
  rw[aq,eG,B_];rfl
 rw[hb] at eG;simp only[if_true] at eG;simp only[XJ,x_,Wt];exact hN'.out _ _ ⟨q,_,rfl,hS2,hq0,by rw[eG];exact g2⟩
abbrev mC:List Str:=["self","works","beat"]
theorem IW:FnScope mC mC (aB (topm 25 0)):=bj
theorem Ja {f:Addr}{fd:FuncData}{C_Walk:Addr}(g:GI K mg C_Walk "Walk" "Walk.__init__" (topm 25 0) mC f fd) (B:Bl mg) (I_Walk:InsC K C_Walk ["works","beat","rules","whole"]) (F_rules_of:Cal P w K mg base 4 "rules_of" (top 19) ["works"] Kd) (F_number_of:Cal P w K mg base 1 "number_of" (top 15) ["works","tasks"] Eb) (F_names_of:Cal P w K mg base 1 "names_of" (top 13) ["tasks"] Ut):MkC P w K mg base C_Walk 5 "Walk" mC (Uw C_Walk):=by
 refine⟨g.at_,f,fd,g.mk_,g.b,?_⟩;refine fn3 g.fn IW (fun ts H Q h=>?_) (fun cdv A outer s H E ts H3 Q hr h=>?_)
 ·obtain⟨a,W,beat,rfl,_⟩:=h;rfl
 obtain⟨a,W,beat,rfl,hW,ha,k⟩:=h;refine⟨_,(aj (pK I_Walk (v3 0) (v3 1))
   (aj (pK I_Walk (v3 0) (v3 2))
   (aj (pK I_Walk (v3 0) (aQ F_rules_of hr rfl (aa (v3 1) ak)))
   (au (pK I_Walk (v3 0) (aQ F_number_of hr rfl (aa (v3 1) (aa (aQ F_names_of hr rfl (aa (aL ix3 (v3 1) ao) ak)) ak)))))))),?_⟩
 rw[show aR mC [T.ref a,W.enc,T.int beat]=[some (T.ref a),some (W.enc),some (T.int beat)] from rfl];have hsz:sizeLine=16777216:=rfl;have k':=Box.mk k;clear k;refine aA fun R0 hR0=>?_;walk_at "";have g1:up3 H3 a (.ins C_Walk (dw "works" W.enc [])) a=some (.ins C_Walk [("works",W.enc)]):=aq;refine⟨by decide,?_⟩;have kp1:∀b o,b≠a->H3 b=some o->up3 H3 a (.ins C_Walk (dw "works" W.enc [])) b=some o:=fun b o hb e=>by rw[aD hb];exact e
 generalize up3 H3 a (.ins C_Walk (dw "works" W.enc []))=H4 at g1 kp1 ⊢;walk_at "n";refine aA fun R1 hR1=>?_;walk_at "";refine⟨by decide,?_⟩;have e1:dw "beat" (T.int beat) [("works",W.enc)]=[(("works":Str),W.enc),(("beat":Str),.int beat)]:=by unfold dw;rw[if_neg (by decide +kernel)];rfl
 rw[e1];have g2:up3 H4 a (.ins C_Walk [("works",W.enc),("beat",.int beat)]) a=some (.ins C_Walk [("works",W.enc),("beat",.int beat)]):=aq;have kp2:∀b o,b≠a->H3 b=some o->up3 H4 a (.ins C_Walk [("works",W.enc),("beat",.int beat)]) b=some o:=fun b o hb e=>by rw[aD hb];exact kp1 b o hb e
 generalize up3 H4 a (.ins C_Walk [("works",W.enc),("beat",.int beat)])=H5 at g2 kp2 ⊢;clear g1 kp1 e1;walk_at "n";refine aA fun R2 hR2=>?_;walk_at "";refine⟨W,rfl,hW,fun p hp=>?_⟩;have nap:a≠p:=bw g2 hp;have g3:up3 H5 p (.lst (W.tasks.map (ruT W (W.tasks.map (·.1))))) p=some (.lst (W.tasks.map (ruT W (W.tasks.map (·.1))))):=aq;have g4:up3 H5 p (.lst (W.tasks.map (ruT W (W.tasks.map (·.1))))) a=some (.ins C_Walk [("works",W.enc),("beat",.int beat)]):=by rw[aD nap];exact g2
 have kp3:∀b o,b≠a->H3 b=some o->up3 H5 p (.lst (W.tasks.map (ruT W (W.tasks.map (·.1))))) b=some o:=fun b o hb e=>by rw[aD (bw (kp2 b o hb e) hp)];exact kp2 b o hb e
 generalize up3 H5 p (.lst (W.tasks.map (ruT W (W.tasks.map (·.1)))))=H6 at g3 g4 kp3 ⊢;clear g2 kp2 hp;walk_at "";refine⟨by decide,?_⟩;have e1:dw "rules" (T.ref p) [("works",W.enc),("beat",.int beat)]=[(("works":Str),W.enc),(("beat":Str),.int beat),(("rules":Str),.ref p)]:=by unfold dw;rw[if_neg (by decide +kernel)];unfold dw;rw[if_neg (by decide +kernel)];rfl
 rw[e1];have g5:up3 H6 a (.ins C_Walk [("works",W.enc),("beat",.int beat),("rules",.ref p)]) a=some (.ins C_Walk [("works",W.enc),("beat",.int beat),("rules",.ref p)]):=aq;have g6:up3 H6 a (.ins C_Walk [("works",W.enc),("beat",.int beat),("rules",.ref p)]) p=some (.lst (W.tasks.map (ruT W (W.tasks.map (·.1))))):=by rw[aD (Ne.symm nap)];exact g3
 have kp4:∀b o,b≠a->H3 b=some o->up3 H6 a (.ins C_Walk [("works",W.enc),("beat",.int beat),("rules",.ref p)]) b=some o:=fun b o hb e=>by rw[aD hb];exact kp3 b o hb e
 generalize up3 H6 a (.ins C_Walk [("works",W.enc),("beat",.int beat),("rules",.ref p)])=H7 at g5 g6 kp4 ⊢;clear g3 g4 kp3 e1;walk_at "n";walk_at "";refine⟨W.tasks,rfl,hW.t8,fun q hq=>?_⟩;have naq:a≠q:=bw g5 hq;have npq:p≠q:=bw g6 hq;try dsimp only
 refine⟨W,_,W.tasks.map (·.1),rfl,hW,.inr ⟨q,rfl,aq⟩,?_⟩;have ew:numOf (W.tasks.map (·.1)) (W.tasks.map (·.1))=(top2 W:Int) - 1:=by have h1:=jH (W:=W) (A:=nm W) fun x hx=>hx;have h2:=lR W;rw[cu];show ((bK (nm W) (nm W):Nat):Int)=_;rw[h1];omega
 rw[ew];have g7:up3 H7 q (.lst ((W.tasks.map (·.1)).map T.str)) a=some (.ins C_Walk [("works",W.enc),("beat",.int beat),("rules",.ref p)]):=by rw[aD naq];exact g5
 have g8:up3 H7 q (.lst ((W.tasks.map (·.1)).map T.str)) p=some (.lst (W.tasks.map (ruT W (W.tasks.map (·.1))))):=by rw[aD npq];exact g6
 have kp5:∀b o,b≠a->H3 b=some o->up3 H7 q (.lst ((W.tasks.map (·.1)).map T.str)) b=some o:=fun b o hb e=>by rw[aD (bw (kp4 b o hb e) hq)];exact kp4 b o hb e
 generalize up3 H7 q (.lst ((W.tasks.map (·.1)).map T.str))=H8 at g7 g8 kp5 ⊢;clear g5 g6 kp4 hq;walk_at "";refine⟨by decide,?_⟩;have e1:dw "whole" (T.int ((top2 W:Int) - 1)) [("works",W.enc),("beat",.int beat),("rules",.ref p)]=wkF W beat p:=by unfold dw;rw[if_neg (by decide +kernel)];unfold dw;rw[if_neg (by decide +kernel)];unfold dw;rw[if_neg (by decide +kernel)];rfl
 rw[e1];exact Fin3.of Sub3.refl (k'.out _ (fun b o hb e=>by rw[aD hb];exact kp5 b o hb e) ⟨p,aq,by rw[aD (Ne.symm nap)];exact g8⟩)
abbrev fM:List Str:=["self","stand","done","kind","left"]
theorem sc_fillings_at:FnScope fM ["self","stand","done"] (aB (topm 25 1)):=bj
theorem mD {f:Addr}{fd:FuncData}{C_Walk:Addr}(g:GM K C_Walk "fillings_at" "Walk.fillings_at" (topm 25 1) ["self","stand","done"] f fd) (B:Bl mg) (I_Walk:InsC K C_Walk ["works","beat","rules","whole"]) (F_parts_of:Cal P w K mg base 2 "parts_of" (top 24) ["number"] J4) (F_is_filling_number:Cal P w K mg base 2 "is_filling_number" (top 21) ["rules","beat","kind","done","number"] Ke):MtC P w K mg base C_Walk 3 "fillings_at" ["self","stand","done"] (Ux C_Walk):=by
 refine⟨g.cls,f,fd,g.mt,g.b,?_⟩;refine fn3 g.fn sc_fillings_at (fun ts H Q h=>?_) (fun cdv A outer s H E ts H3 Q hr h=>?_)
 ·obtain⟨a,W,beat,k,d,rfl,_⟩:=h;rfl
 obtain⟨a,W,beat,k,d,rfl,hW,hw,hk,hd,kk⟩:=h;refine⟨_,(aj (bu (aV Rv (v3 1) (aM bO rfl B.len_ bQ (aa (aL ix3 (gP I_Walk (v3 0)) ao) ak))) (au (aK (bf ak))) aP)
   (aj (aG (i:=3) sc_fillings_at.nd (aL ix3 (aL ix3 (gP I_Walk (v3 0)) ao) (v3 1)))
   (aj (aG (i:=4) sc_fillings_at.nd (aQ F_parts_of hr rfl (aa (aF uh (gP I_Walk (v3 0)) (v3 2)) ak)))
   (au (aK (bU rfl (cC (n0:=(aB (topm 25 1)).names) (N:=fM) (N':=["number","kind","done","self"]) (nt:=1) (cap:=[3,2,0]) rfl rfl (by decide +kernel)) (cL (v3 4)) (fun cl pins s H C0 fp=>⟨(aC (i:=0) (show List.Nodup [("number":Str),("kind":Str),("done":Str),("self":Str)] by decide +kernel)),(gD (cR (aQ F_is_filling_number hr rfl (aa (gP I_Walk (v3 3)) (aa (gP I_Walk (v3 3)) (aa (v3 1) (aa (v3 2) (aa (v3 0) ak)))))))),(v3 0)⟩))))))),?_⟩
 rw[show aR fM [T.ref a,T.int (k:Int),T.int (d:Int)]=[some (T.ref a),some (T.int (k:Int)),some (T.int (d:Int)),none,none] from rfl];have hsz:sizeLine=16777216:=rfl;have k':=Box.mk kk;clear kk;have t2:=pZ hW;have t1:=lR W;obtain⟨p,g1,g2⟩:=hw.ex;have f1:=sE (W:=W) (beat:=beat) (p:=p);have f2:=HN (W:=W) (beat:=beat) (p:=p);have f3:=CP (W:=W) (beat:=beat) (p:=p);have f4:=sG (W:=W) (beat:=beat) (p:=p);have x1:=vd hk;have g1':=Box.mk g1;have g2':=Box.mk g2;generalize wkF W beat p=fs at *;refine aA fun R0 hR0=>?_;walk_at "";rw[E_ (by omega),if_neg p_];walk_at "n";refine aA fun R1 hR1=>?_;walk_at "";walk_at "n";refine aA fun R2 hR2=>?_;walk_at "";refine⟨top2 W - 1 - d,by rw[show ((top2 W - 1 - d:Nat):Int)=(top2 W:Int) - 1 - (d:Int) by omega],by omega,fun pl hpl=>?_⟩;have n1:a≠pl:=bw g1 hpl;have n2:p≠pl:=bw g2 hpl;have efl:=yH (W:=W) (beat:=beat) (k:=k) hW hd;have hlen:(su (top2 W - 1 - d)).length<=256:=by unfold su;exact U_ (WY _ _) (by rw[A_];omega)
 have hlt:∀i∈su (top2 W - 1 - d),i<top2 W:=fun i hi=>by have:=Wu.mp (F_.mp hi).1;omega
 generalize su (top2 W - 1 - d)=ps at *;have hs1:Sub3 H3 (up3 H3 pl (.lst (ps.map bz))):=Sub3.new hpl;have h1:=hs1 _ _ g1'.out;have h2:=hs1 _ _ g2'.out;have h3:up3 H3 pl (.lst (ps.map bz)) pl=some (.lst (ps.map bz)):=aq;generalize up3 H3 pl (.lst (ps.map bz))=H4 at hs1 h1 h2 h3 ⊢;clear g1 g2 x1 f1 f4 n1 n2 hpl;walk_at "n";have hlt':=Box.mk hlt;have efl':=Box.mk efl;clear hlt efl;walk_at "";walk_at "c";refine iZ (still:=aX pl (ps.map bz)) (H:=H4) bz bz (fil W beat k d) ps [some (.str (W.row.getD k "")),some (.int (d:Int)),some (.ref a)] (.inl h3) (by omega) ?c1 ?c2 ?c3
 case c2=>exact fun i hi _ Q' hq=>hq
 case c1 =>
  intro i hi Q' hq
  have hi':=hlt'.out i hi
  have hq':=Box.mk hq
  clear k' hq
  simp only[bz]
  walk_at ""
  refine⟨W,p,beat,W.row.getD k "",pk W d,pk W i,?_,hW,h2,?_⟩
  ·
   rw[Uv hW hd,Uv hW hi']
  ·
   exact hq'.out
 case c3 =>
  intro q hq
  rw[efl'.out]
  refine Fin3.of ?_ (k'.out q (cF hs1 hq))
  intro b o hb
  by_cases e:b=q
  ·
   subst e;rw[aq] at hb ⊢;exact hb
  ·
   rw[aD e] at hb ⊢;exact hs1 b o hb
abbrev cN:List Str:=["self","fillings"]
theorem mW:FnScope cN cN (aB (topm 25 4)):=bj
theorem mX {f:Addr}{fd:FuncData}{C_Walk:Addr}(g:GM K C_Walk "dealing_of" "Walk.dealing_of" (topm 25 4) cN f fd) (B:Bl mg) (I_Walk:InsC K C_Walk ["works","beat","rules","whole"]) (F_tasks_of:Cal P w K mg base 1 "tasks_of" (top 16) ["works","number"] J9):MtC P w K mg base C_Walk 2 "dealing_of" cN (Uy C_Walk):=by
 refine⟨g.cls,f,fd,g.mt,g.b,?_⟩;refine fn3 g.fn mW (fun ts H Q h=>?_) (fun cdv A outer s H E ts H3 Q hr h=>?_)
 ·obtain⟨a,W,beat,fs,rfl,_⟩:=h;rfl
 obtain⟨a,W,beat,fs,rfl,hW,hw,hl,hf,kk⟩:=h;refine⟨_,(au (aK (bI dm rfl B.tuple_ cI (aa (bU rfl (cC (n0:=(aB (topm 25 4)).names) (N:=cN) (N':=["filling","self"]) (nt:=1) (cap:=[0]) rfl rfl (by decide +kernel)) (bY (v3 1)) (fun cl pins s H C0 fp=>⟨(aC (i:=0) (show List.Nodup [("filling":Str),("self":Str)] by decide +kernel)),cX,(aQ F_tasks_of hr rfl (aa (gP I_Walk (v3 1)) (aa (v3 0) ak)))⟩)) ak)))),?_⟩;rw[show aR cN [T.ref a,T.tup (fs.map bz)]=[some (T.ref a),some (T.tup (fs.map bz))] from rfl];have hsz:sizeLine=16777216:=rfl;have k':=Box.mk kk;clear kk;obtain⟨p,g1,g2⟩:=hw.ex;have f1:=sE (W:=W) (beat:=beat) (p:=p);generalize wkF W beat p=gs at *;walk_at "";walk_at "c";refine bZ (still:=cA) (H:=H3) bz (fun i=>sT (pk W i)) fs [some (.ref a)] trivial (by omega) ?c1 ?c2
 case c1 =>
  intro i hi Q' hq
  have hi':=hf i hi
  have ecast:((2^W.tasks.length:Nat):Int)=(2:Int)^W.tasks.length:=by push_cast;rfl
  have hq':=Box.mk hq
  clear k' hq
  simp only[bz]
  walk_at ""
  exact⟨W,(i:Int),rfl,hW,YX _,by rw[<- ecast];exact Int.ofNat_lt.mpr hi',hq'.out⟩
 case c2 =>
  intro q hq
  have kk:=k'.out
  rw[WN] at kk
  walk_at ""
  exact Fin3.of (Sub3.new hq) kk
abbrev jd:List Str:=["number","parts","worth"]
theorem sc_parts_of:FnScope jd ["number"] (aB (top 24)):=bj
theorem tD {f:Addr}{fd:FuncData}(g:G3 K mg "parts_of" (top 24) ["number"] f fd) (B:Bl mg) (F_has_all:Cal P w K mg base 1 "has_all" (top 20) ["number","part"] xx):Cal P w K mg base 2 "parts_of" (top 24) ["number"] J4:=by
 refine⟨f,fd,g,?_⟩;refine fn3 g.fn sc_parts_of (fun ts H Q h=>?_) (fun cdv A outer s H E ts H3 Q hr h=>?_)
 ·obtain⟨N,rfl,_⟩:=h;rfl
 obtain⟨N,rfl,hN,k⟩:=h;refine⟨_,(aj (aG (i:=1) sc_parts_of.nd (bf (aa ao ak)))
   (aj (aG (i:=2) sc_parts_of.nd ao)
   (aj (lw H_ (aV Jr (v3 2) (v3 0)) (aj (bu (cR (aQ F_has_all hr rfl (aa (v3 0) (aa (v3 2) ak)))) (au (aG (i:=1) sc_parts_of.nd (aF aY (v3 1) (bU rfl (cC (n0:=(aB (top 24)).names) (N:=jd) (N':=["part","worth"]) (nt:=1) (cap:=[2]) rfl rfl (by decide +kernel)) (cL (v3 1)) (fun cl pins s H C0 fp=>⟨(aC (i:=0) (show List.Nodup [("part":Str),("worth":Str)] by decide +kernel)),cX,(aF aY (v3 0) (v3 1))⟩))))) aP)
    (au (aG (i:=2) sc_parts_of.nd (aF cT (v3 2) ao)))))
   (au (aK (v3 1)))))),?_⟩
 rw[show aR jd [T.int (N:Int)]=[some (T.int (N:Int)),none,none] from rfl];have hsz:sizeLine=16777216:=rfl;have k':=Box.mk k;clear k;refine aA fun R0 hR0=>?_;walk_at "";refine⟨by decide,fun p0 hp0=>?_⟩;have hS1:Sub3 H3 (up3 H3 p0 (.lst [T.int 0])):=Sub3.new hp0;have g1:up3 H3 p0 (.lst [T.int 0]) p0=some (.lst (((List.range (2^0)).filter (bC N)).map bz)):=by
  have h0:bC N 0=true:=by rw[fW];exact Nat.and_zero N
  rw[aq,show (List.range (2^0))=[0] from rfl,Xq,h0];rfl
 generalize up3 H3 p0 (.lst [T.int 0])=H4 at hS1 g1 ⊢;walk_at "n";refine aA fun R1 hR1=>?_;walk_at "";walk_at "n";refine aA fun R2 hR2=>?_;refine⟨fun m Z H=>∃(j:Nat) (q:Addr),Z=[some (.int (N:Int)),some (.ref q),some (.int ((2^j:Nat):Int))]/\Sub3 H3 H/\H3 q=none/\H q=some (.lst (((List.range (2^j)).filter (bC N)).map bz))/\m=512 - 2^j/\(∀i,i+1=j->2^i<=N),⟨_,0,p0,rfl,hS1,hp0,g1,rfl,(fun i h=>by omega)⟩,?_⟩;rintro m Z H ⟨j,q,rfl,hS,hq0,hq,rfl,hj⟩;have hj9:2^j<=256:=by
  cases j with
  |zero=>decide
  |succ i =>
   have h1:=hj i rfl
   have h2:i<8:=by
    rcases YB i 8 with z | z
    ·
     exact z
    ·
     have:=Nat.pow_le_pow_right (n:=2) (by decide) z
     omega
   exact U_ (Nat.pow_le_pow_right (by decide) (show i+1<=8 by omega)) (by decide)
 have hp:=Nat.pow_pos (n:=j) (show 0<2 by decide);walk_at "";by_cases hle:2^j<=N
 ·have hle':decide (((2^j:Nat):Int)<=(N:Int))=true:=L_ (Int.ofNat_le.mpr hle);rw[hle',if_pos rfl];have hlen:(((List.range (2^j)).filter (bC N))).length<=256:=U_ (WY _ _) (by rw[A_];exact hj9);have est:=CN (N:=N) (k:=j);have e2:((2^j:Nat):Int)*2=((2^(j+1):Nat):Int):=by rw[Nat.pow_succ];push_cast;rfl
  have cm:CMul ((2^j:Nat):Int) 2:=.inl ⟨by omega,by omega⟩;have hpow:2^(j+1)=2^j*2:=by rw[Nat.pow_succ]
  have fin:Box (∀(q2:Addr) (H':Hp3),Sub3 H3 H'->H3 q2=none->H' q2=some (.lst (((List.range (2^(j+1))).filter (bC N)).map bz))->∃m',m'<512 - 2^j/\∃(j2:Nat) (q:Addr),([some (.int (N:Int)),some (.ref q2),some (.int (((2^j:Nat):Int)*2))]:St3)=[some (.int (N:Int)),some (.ref q),some (.int ((2^j2:Nat):Int))]/\Sub3 H3 H'/\H3 q=none/\H' q=some (.lst (((List.range (2^j2)).filter (bC N)).map bz))/\m'=512 - 2^j2/\(∀i,i+1=j2->2^i<=N)):=⟨fun q2 H' s1 s2 s3=>⟨_,by omega,j+1,q2,by rw[e2],s1,s2,s3,rfl,fun i hi=>by rw[show i=j by omega];exact hle⟩⟩;clear hj hR2 k' g1 hS1 e2 hle' hpow;generalize (List.range (2^(j+1))).filter (bC N)=nx at *;generalize hcur:(List.range (2^j)).filter (bC N)=cur at *;refine⟨(N:Int),((2^j:Nat):Int),rfl,?_⟩;rw[show decide (Builtin.bitAnd (N:Int) ((2^j:Nat):Int)=((2^j:Nat):Int))=bC N (2^j) from rfl];generalize 2^j=w2 at *;cases hb:bC N w2 with
  |false=>rw[hb] at est;simp only[x_,Wt,WD] at est;simp only[dM,x_,Wt];rw[<- est] at hq;exact⟨by first | trivial | exact cm,fin.out q _ hS hq0 hq⟩
  |true =>
  rw[hb] at est;simp only[if_true] at est;try simp only[dM,if_true]
  walk_at "c";rw[hq,wz];refine bZ bz (fun i=>bz (i+w2)) cur [some (.int (w2:Int))] (.inl hq) (by omega) (fun i hi Q' hq'=>?_) (fun pc hpc=>?_)
  ·simp only[bz] at hq' ⊢;rw[show ((i+w2:Nat):Int)=(i:Int)+(w2:Int) by push_cast;rfl] at hq';have hq2:=Box.mk hq';clear hq' fin;walk_at "";exact hq2.out
  have nqc:q≠pc:=bw hq hpc;rw[aD nqc,hq,iU];refine⟨by rw[h_,h_];omega,fun pq hpq=>?_⟩;have hS2:Sub3 H3 (up3 (up3 H pc (.lst (cur.map fun i=>bz (i+w2)))) pq (.lst (cur.map bz++cur.map fun i=>bz (i+w2)))):=(hS.trans (Sub3.new hpc)).trans (Sub3.new hpq);have h30:H3 pq=none:=cF (hS.trans (Sub3.new hpc)) hpq;have gq:up3 (up3 H pc (.lst (cur.map fun i=>bz (i+w2)))) pq (.lst (cur.map bz++cur.map fun i=>bz (i+w2))) pq=some (.lst (nx.map bz)):=by rw[aq,est,B_,WN];rfl
  generalize up3 (up3 H pc (.lst (cur.map fun i=>bz (i+w2)))) pq (.lst (cur.map bz++cur.map fun i=>bz (i+w2)))=H5 at hS2 gq ⊢;exact⟨by first | trivial | exact cm,fin.out pq _ hS2 h30 gq⟩
 have hle':decide (((2^j:Nat):Int)<=(N:Int))=false:=E_ (fun z=>hle (Int.ofNat_le.mp z));rw[hle',if_neg p_];rw[wV (by omega)] at hq;walk_at "n";walk_at "";refine Fin3.of ?_ (k'.out q hq0);intro b o hb;by_cases e:b=q
 ·subst e;rw[aq] at hb;rw[hq,hb]
 rw[aD e] at hb;exact hS b o hb
theorem tE:FnScope ["tasks"] ["tasks"] (aB (top 13)):=bj
theorem tG {f:Addr}{fd:FuncData}(g:G3 K mg "names_of" (top 13) ["tasks"] f fd) (B:Bl mg):Cal P w K mg base 1 "names_of" (top 13) ["tasks"] Ut:=by
 refine⟨f,fd,g,?_⟩;refine fn3 g.fn tE (fun ts H Q h=>?_) (fun cdv A outer s H E ts H3 Q hr h=>?_)
 ·obtain⟨tk,rfl,_⟩:=h;rfl
 obtain⟨tk,rfl,t8,k⟩:=h;refine⟨_,(au (aK (bU rfl (cC (n0:=(aB (top 13)).names) (N:=["tasks"]) (N':=["task"]) (nt:=1) (cap:=[]) rfl rfl (by decide +kernel)) (bY (v3 0)) (fun cl pins s H C0 fp=>⟨(aC (i:=0) (show List.Nodup [("task":Str)] by decide +kernel)),cX,(aL ix3 (v3 0) ao)⟩)))),?_⟩;rw[show aR ["tasks"] [T.tup (tk.map tkT)]=[some (T.tup (tk.map tkT))] from rfl];have hsz:sizeLine=16777216:=rfl;have k':=Box.mk k;clear k;walk_at "";walk_at "c";refine bZ tkT (fun t=>T.str t.1) tk [] trivial (by omega) (fun t ht Q' hq=>?_) (fun pc hpc=>?_)
 ·clear k';simp only[tkT];walk_at "";try exact hq
 have:=k'.out pc hpc;rw[WN] at this;exact Fin3.of Sub3.refl this
abbrev mF:List Str:=["works","rules","name","length","kinds","own","group","ahead","apart"]
theorem sc_rules_of:FnScope mF ["works"] (aB (top 19)):=bj
theorem tH {f:Addr}{fd:FuncData}(g:G3 K mg "rules_of" (top 19) ["works"] f fd) (B:Bl mg) (F_number_of:Cal P w K mg base 1 "number_of" (top 15) ["works","tasks"] Eb) (F_apart_from:Cal P w K mg base 1 "apart_from" (top 18) ["works","task"] Kc) (F_ahead_of:Cal P w K mg base 3 "ahead_of" (top 9) ["works","task"] Vm) (F_group_of:Cal P w K mg base 3 "group_of" (top 8) ["works","task"] Vl):Cal P w K mg base 4 "rules_of" (top 19) ["works"] Kd:=by
 refine⟨f,fd,g,?_⟩;refine fn3 g.fn sc_rules_of (fun ts H Q h=>?_) (fun cdv A outer s H E ts H3 Q hr h=>?_)
 ·obtain⟨W,rfl,_⟩:=h;rfl
 obtain⟨⟨tk,ors,prs,row⟩,rfl,hW,k⟩:=h;refine⟨_,(aj (aG (i:=1) sc_rules_of.nd (bf ak))
   (aj (bh H_ rfl (bY (aL ix3 (v3 0) ao)) (bW (n:=3) rfl (aH (aC (i:=2) sc_rules_of.nd) (aH (aC (i:=3) sc_rules_of.nd) (aH (aC (i:=4) sc_rules_of.nd) bA)))) (aj (aG (i:=5) sc_rules_of.nd (aQ F_number_of hr rfl (aa (v3 0) (aa (bG (aa (v3 2) ak)) ak))))
    (aj (aG (i:=6) sc_rules_of.nd (aQ F_number_of hr rfl (aa (v3 0) (aa (aQ F_group_of hr rfl (aa (v3 0) (aa (v3 2) ak))) ak))))
    (aj (aG (i:=7) sc_rules_of.nd (aQ F_number_of hr rfl (aa (v3 0) (aa (aQ F_ahead_of hr rfl (aa (v3 0) (aa (v3 2) ak))) ak))))
    (aj (aG (i:=8) sc_rules_of.nd (aQ F_number_of hr rfl (aa (v3 0) (aa (aQ F_apart_from hr rfl (aa (v3 0) (aa (v3 2) ak))) ak))))
    (au (cj (fc T_ V_ Wr bJ (v3 1) (aa (bG (aa (v3 5) (aa (v3 3) (aa (v3 4) (aa (v3 6) (aa (v3 7) (aa (v3 8) ak))))))) ak)))))))))
   (au (aK (v3 1))))),?_⟩
 rw[show aR mF [Wk.enc ⟨tk,ors,prs,row⟩]=[some (T.tup [T.tup (tk.map tkT),T.tup (ors.map orT),T.tup (prs.map prT),T.tup (row.map T.str)]),none,none,none,none,none,none,none,none] from rfl];have hsz:sizeLine=16777216:=rfl;have t8:tk.length<=8:=hW.t8;walk_at "";refine⟨by omega,fun p hp=>?_⟩;refine aW tkT tk (fun A Z H=>∃(v2 v3 v4 v5 v6 v7 v8:Option T) (H0:Hp3),Z=[some (T.tup [T.tup (tk.map tkT),T.tup (ors.map orT),T.tup (prs.map prT),T.tup (row.map T.str)]),some (.ref p),v2,v3,v4,v5,v6,v7,v8]/\H=up3 H0 p (.lst (A.map (ruT ⟨tk,ors,prs,row⟩ (tk.map (·.1)))))/\Sub3 H3 H0/\H3 p=none) ⟨none,none,none,none,none,none,none,H3,rfl,rfl,Sub3.refl,hp⟩ ?_ ?_
 ·rintro Z H ⟨v2,v3,v4,v5,v6,v7,v8,H0,rfl,rfl,hS,_⟩;refine⟨trivial,?_⟩;walk_at "";refine Fin3.of (fun a o e=>?_) (k p hp);by_cases h:a=p
  ·subst h;rw[aq] at e ⊢;exact e
  rw[aD h] at e ⊢;exact hS _ _ e
 rintro A ⟨nm,len,ks⟩ B Z H N e ⟨v2,v3,v4,v5,v6,v7,v8,H0,rfl,rfl,hS,_⟩ hN;have hA:A.length<=8:=by have:=WK List.length e;simp only[g_,l_] at this;omega
 refine⟨trivial,?_⟩;have fin:Box (∀q,up3 H0 p (.lst (A.map (ruT ⟨tk,ors,prs,row⟩ (tk.map (·.1))))) q=none->N [some (T.tup [T.tup (tk.map tkT),T.tup (ors.map orT),T.tup (prs.map prT),T.tup (row.map T.str)]),some (.ref p),some (.str nm),some (.int len),some (sT ks),some (.int (numOf (tk.map (·.1)) [nm])),some (.int (numOf (tk.map (·.1)) (fV ⟨tk,ors,prs,row⟩ nm))),some (.int (numOf (tk.map (·.1)) (jb ⟨tk,ors,prs,row⟩ nm))),some (.int (numOf (tk.map (·.1)) (jm ⟨tk,ors,prs,row⟩ nm)))] (up3 (up3 (up3 H0 p (.lst (A.map (ruT ⟨tk,ors,prs,row⟩ (tk.map (·.1)))))) q (.lst ((jm ⟨tk,ors,prs,row⟩ nm).map T.str))) p (.lst (A.map (ruT ⟨tk,ors,prs,row⟩ (tk.map (·.1)))++[ruT ⟨tk,ors,prs,row⟩ (tk.map (·.1)) (nm,len,ks)])))):=⟨fun q hq=>by
  obtain⟨n1,hq0⟩:=cD hq
  refine hN _ _ ⟨_,_,_,_,_,_,_,up3 H0 q (.lst ((jm ⟨tk,ors,prs,row⟩ nm).map T.str)),rfl,?_,hS.trans (Sub3.new hq0),hp⟩
  rw[B_,Ab (Ne.symm n1),oW]
  rfl⟩
 have hlA:(A.map (ruT ⟨tk,ors,prs,row⟩ (tk.map (·.1)))).length<=8:=by rw[h_];exact hA
 generalize A.map (ruT ⟨tk,ors,prs,row⟩ (tk.map (·.1)))=cur at fin hlA;clear hN e k hA;simp only[tkT];walk_at "";refine⟨trivial,by omega,⟨tk,ors,prs,row⟩,_,[nm],rfl,hW,.inl rfl,?_⟩;walk_at "";refine⟨⟨tk,ors,prs,row⟩,nm,rfl,hW,?_⟩;try dsimp only
 refine⟨⟨tk,ors,prs,row⟩,_,fV ⟨tk,ors,prs,row⟩ nm,rfl,hW,.inl rfl,?_⟩;walk_at "";refine⟨⟨tk,ors,prs,row⟩,nm,rfl,hW,?_⟩;try dsimp only
 refine⟨⟨tk,ors,prs,row⟩,_,jb ⟨tk,ors,prs,row⟩ nm,rfl,hW,.inl rfl,?_⟩;walk_at "";refine⟨⟨tk,ors,prs,row⟩,nm,rfl,hW,fun q hq=>?_⟩;obtain⟨n1,hq0⟩:=cD hq;have n1':=Ne.symm n1;try dsimp only
 refine⟨⟨tk,ors,prs,row⟩,_,jm ⟨tk,ors,prs,row⟩ nm,rfl,hW,.inr ⟨q,rfl,aq⟩,?_⟩;walk_at "";exact⟨⟨trivial,trivial⟩,by omega,by omega,fin.out q hq⟩
abbrev dX:List Str:=["rules","beat","kind","done","number","load","own","length","kinds","group","ahead","apart"]
theorem sc_is_filling_number:FnScope dX ["rules","beat","kind","done","number"] (aB (top 21)):=bj
theorem ig {f:Addr}{fd:FuncData}(g:G3 K mg "is_filling_number" (top 21) ["rules","beat","kind","done","number"] f fd) (B:Bl mg) (F_has_all:Cal P w K mg base 1 "has_all" (top 20) ["number","part"] xx) (F_may_be_done:Cal P w K mg base 1 "may_be_done" (top 11) ["kinds","kind"] Ka):Cal P w K mg base 2 "is_filling_number" (top 21) ["rules","beat","kind","done","number"] Ke:=by
 refine⟨f,fd,g,?_⟩;refine fn3 g.fn sc_is_filling_number (fun ts H Q h=>?_) (fun cdv A outer s H E ts H3 Q hr h=>?_)
 ·obtain⟨W,a,beat,kind,D,S,rfl,_⟩:=h;rfl
 have hu30:=Room.u30 hr;obtain⟨W,a,beat,kind,D,S,rfl,hW,ha,k⟩:=h;refine⟨_,(aj (aG (i:=5) sc_is_filling_number.nd ao)
   (aj (bh H_ rfl (cL (v3 0)) (bW (n:=6) rfl (aH (aC (i:=6) sc_is_filling_number.nd) (aH (aC (i:=7) sc_is_filling_number.nd) (aH (aC (i:=8) sc_is_filling_number.nd) (aH (aC (i:=9) sc_is_filling_number.nd) (aH (aC (i:=10) sc_is_filling_number.nd) (aH (aC (i:=11) sc_is_filling_number.nd) bA))))))) (au (bu (cR (aQ F_has_all hr rfl (aa (v3 4) (aa (v3 6) ak)))) (aj (bu (PW3.pt (qM (cR (aQ F_has_all hr rfl (aa (v3 3) (aa (v3 6) ak)))) (oY (gC (cR (aQ F_may_be_done hr rfl (aa (v3 8) (aa (v3 2) ak)))))))) (au (aK cz)) aP)
     (aj (bu (PW3.pt (qM (gC (cR (aQ F_has_all hr rfl (aa (v3 4) (aa (v3 9) ak))))) (oY (gC (cR (aQ F_has_all hr rfl (aa (aF Tr (v3 4) (v3 3)) (aa (v3 10) ak)))))))) (au (aK cz)) aP)
     (aj (bu (aV (iG hu30) (aF Ax (v3 4) (v3 11)) ao) (au (aK cz)) aP)
     (au (aG (i:=5) sc_is_filling_number.nd (aF aY (v3 5) (v3 7))))))) aP)))
   (au (aK (dR Jr (v3 5) (v3 1)))))),?_⟩
 rw[show aR dX [T.ref a,T.int beat,T.str kind,T.int (numOf (W.tasks.map (·.1)) D),T.int (numOf (W.tasks.map (·.1)) S)]=[some (T.ref a),some (T.int beat),some (T.str kind),some (T.int (numOf (W.tasks.map (·.1)) D)),some (T.int (numOf (W.tasks.map (·.1)) S)),none,none,none,none,none,none,none] from rfl];have hsz:sizeLine=16777216:=rfl;walk_at "";refine aW (ruT W (W.tasks.map (·.1))) W.tasks (fun A Z H=>∃(v6 v7 v8 v9 v10 v11:Option T),Z=[some (.ref a),some (.int beat),some (.str kind),some (.int (numOf (W.tasks.map (·.1)) D)),some (.int (numOf (W.tasks.map (·.1)) S)),some (.int (dq A S)),v6,v7,v8,v9,v10,v11]/\H=H3/\(A.all fun t=>!decide (t.1∈S)||okT W kind D S t)=true) ⟨none,none,none,none,none,none,rfl,rfl,rfl⟩ ?_ ?_
 ·rintro Z H ⟨v6,v7,v8,v9,v10,v11,rfl,rfl,hall⟩;refine⟨.inl ha,?_⟩;walk_at "";refine Fin3.of Sub3.refl ?_;unfold uY at k;rw[hall,Zw] at k;exact k
 rintro A t B Z H N e ⟨v6,v7,v8,v9,v10,v11,rfl,rfl,hall⟩ hN;refine⟨.inl ha,?_⟩;have htm:t∈W.tasks:=by rw[e];simp
 have htn:t.1∈W.tasks.map (·.1):=z_.mpr ⟨t,htm,rfl⟩;have gsub:∀x∈fV W t.1,x∈W.tasks.map (·.1):=fun x hx=>(F_.mp hx).1;have asub:∀x∈jb W t.1,x∈W.tasks.map (·.1):=fun x hx=>(F_.mp hx).1;have psub:∀x∈jm W t.1,x∈W.tasks.map (·.1):=fun x hx=>by obtain⟨p,hp,rfl⟩:=z_.mp hx;exact (hW.pp p (F_.mp hp).1).2.2.2
 have b1:decide (Builtin.bitAnd (numOf (W.tasks.map (·.1)) S) (numOf (W.tasks.map (·.1)) [t.1])=numOf (W.tasks.map (·.1)) [t.1])=decide (t.1∈S):=by rw[Wz,v_,v_];exact wN htn
 have b2:decide (Builtin.bitAnd (numOf (W.tasks.map (·.1)) D) (numOf (W.tasks.map (·.1)) [t.1])=numOf (W.tasks.map (·.1)) [t.1])=decide (t.1∈D):=by rw[Wz,v_,v_];exact wN htn
 have b3:decide (Builtin.bitAnd (numOf (W.tasks.map (·.1)) S) (numOf (W.tasks.map (·.1)) (fV W t.1))=numOf (W.tasks.map (·.1)) (fV W t.1))=@decide (∀x∈fV W t.1,x∈S) (Classical.propDecidable _):=by rw[Wz,v_,@v_ _ (Classical.propDecidable _),fH];exact⟨fun h x hx=>h x (gsub x hx) hx,fun h x _ hx=>h x hx⟩
 have b4:decide (Builtin.bitAnd (Builtin.bitOr (numOf (W.tasks.map (·.1)) S) (numOf (W.tasks.map (·.1)) D)) (numOf (W.tasks.map (·.1)) (jb W t.1))=numOf (W.tasks.map (·.1)) (jb W t.1))=@decide (∀x∈jb W t.1,x∈S++D) (Classical.propDecidable _):=by rw[Wz,v_,@v_ _ (Classical.propDecidable _),O9,fH];exact⟨fun h x hx=>h x (asub x hx) hx,fun h x _ hx=>h x hx⟩
 have b5:decide (Builtin.bitAnd (numOf (W.tasks.map (·.1)) S) (numOf (W.tasks.map (·.1)) (jm W t.1))=0)=@decide (∀x∈jm W t.1,x∉S) (Classical.propDecidable _):=by rw[Wz,v_,@v_ _ (Classical.propDecidable _),pQ];exact⟨fun h x hx hs=>h x (psub x hx) ⟨hs,hx⟩,fun h x _ z=>h x z.2 z.1⟩
 have fF:Box (t.1∈S->okT W kind D S t=false->Fin3 Q (.bl false) H):=⟨fun h1 h2=>by
  refine Fin3.of Sub3.refl ?_
  have e0:uY W beat kind D S=false:=by
   unfold uY
   rw[Bool.and_eq_false_iff]
   refine .inl ?_
   rw[List.all_eq_false]
   exact⟨t,htm,by simp [h1,h2]⟩
  rw[e0] at k
  exact k⟩
 have fN:Box (∀(v6 v7 v8 v9 v10 v11:Option T),(t.1∈S->okT W kind D S t=true)->N [some (.ref a),some (.int beat),some (.str kind),some (.int (numOf (W.tasks.map (·.1)) D)),some (.int (numOf (W.tasks.map (·.1)) S)),some (.int (dq A S+if t.1∈S then t.2.1 else 0)),v6,v7,v8,v9,v10,v11] H):=⟨fun v6 v7 v8 v9 v10 v11 h=>hN _ _ ⟨v6,v7,v8,v9,v10,v11,by rw[uZ],rfl,by
  rw[List.all_append,hall]
  by_cases z:t.1∈S
  ·
   simp [h z]
  ·
   simp [z]⟩⟩
 clear hN hall k e gsub asub psub htn htm;obtain⟨nm,len,ks⟩:=t;dsimp only at *;generalize numOf (W.tasks.map (·.1)) D=nD at *;generalize numOf (W.tasks.map (·.1)) S=nS at *;simp only[ruT];generalize numOf (W.tasks.map (·.1)) [nm]=n1 at *;generalize numOf (W.tasks.map (·.1)) (fV W nm)=n2 at *;generalize numOf (W.tasks.map (·.1)) (jb W nm)=n3 at *;generalize numOf (W.tasks.map (·.1)) (jm W nm)=n4 at *;unfold okT at fF fN;dsimp only at fF fN;generalize hc1:decide (nm∈D)=c1 at *;generalize hc3:@decide (∀x∈fV W nm,x∈S) (Classical.propDecidable _)=c3 at *;generalize hc4:@decide (∀x∈jb W nm,x∈S++D) (Classical.propDecidable _)=c4 at *;generalize hc5:@decide (∀x∈jm W nm,x∉S) (Classical.propDecidable _)=c5 at *;clear hc1 hc3 hc4 hc5;walk_at "";refine⟨trivial,nS,n1,rfl,?_⟩;rw[b1];by_cases hS:nm∈S
 ·simp only[hS,Yo,if_true,dM,true_implies] at fF fN ⊢;refine⟨nD,n1,rfl,?_⟩;rw[b2];cases c1 with
  |true =>
   try simp only[dM,if_true]
   exact fF.out (by simp)
  |false =>
  simp only[dM,x_,Wt];refine⟨ks,kind,rfl,?_⟩;generalize gR ks kind=c2 at *;cases c2 with
  |false=>simp only[dM,XS,if_true];exact fF.out (by simp)
  |true =>
  simp only[dM,XJ,x_,Wt];refine⟨nS,n2,rfl,?_⟩;rw[b3];cases c3 with
  |false=>simp only[dM,XS,if_true];exact fF.out (by simp)
  |true =>
  simp only[dM,XJ,x_,Wt];refine⟨Builtin.bitOr nS nD,n3,rfl,?_⟩;rw[b4];cases c4 with
  |false=>simp only[dM,XS,if_true];exact fF.out (by simp)
  |true =>
  simp only[dM,XJ,x_,Wt];try rw[b5]
  cases c5 with
  |false=>simp only[XS,if_true];exact fF.out (by simp)
  |true =>
  simp only[XJ,x_,Wt];exact fN.out _ _ _ _ _ _ (by simp)
 simp only[hS,XQ,x_,Wt,dM,Int.add_zero,false_implies] at fF fN ⊢;exact fN.out _ _ _ _ _ _ (by first | trivial | simp)
abbrev mG:List Str:=["works","number","tasks","left","task"]
theorem sc_tasks_of:FnScope mG ["works","number"] (aB (top 16)):=bj
theorem tK {f:Addr}{fd:FuncData}(g:G3 K mg "tasks_of" (top 16) ["works","number"] f fd) (B:Bl mg):Cal P w K mg base 1 "tasks_of" (top 16) ["works","number"] J9:=by
 refine⟨f,fd,g,?_⟩;refine fn3 g.fn sc_tasks_of (fun ts H Q h=>?_) (fun cdv A outer s H E ts H3 Q hr h=>?_)
 ·obtain⟨W,n,rfl,_⟩:=h;rfl
 have hu30:=Room.u30 hr;obtain⟨⟨tk,ors,prs,row⟩,n,rfl,hW,n0,n1,k⟩:=h;refine⟨_,(aj (aG (i:=2) sc_tasks_of.nd (bf ak))
   (aj (aG (i:=3) sc_tasks_of.nd (v3 1))
   (aj (bh H_ rfl (bY (aL ix3 (v3 0) ao)) (aC (i:=4) sc_tasks_of.nd) (aj (bu (aV (cP hu30) (aF aU (v3 3) ao) ao) (au (cj (fc T_ V_ Wr bJ (v3 2) (aa (aL ix3 (v3 4) ao) ak)))) aP)
    (au (aG (i:=3) sc_tasks_of.nd (aF aZ (v3 3) ao)))))
   (au (aK (bI dm rfl B.tuple_ cI (aa (v3 2) ak))))))),?_⟩
 rw[show aR mG [Wk.enc ⟨tk,ors,prs,row⟩,T.int n]=[some (T.tup [T.tup (tk.map tkT),T.tup (ors.map orT),T.tup (prs.map prT),T.tup (row.map T.str)]),some (T.int n),none,none,none] from rfl];have hsz:sizeLine=16777216:=rfl;have t8:tk.length<=8:=hW.t8;walk_at "";refine⟨by omega,fun p hp=>?_⟩;refine il (fun r Z H=>∃(A B:List (Str × Int × List Str)) (v:Option T),tk=A++B/\r=B.map tkT/\H=up3 H3 p (.lst ((pick (A.map (·.1)) n).map T.str))/\Z=[some (T.tup [T.tup (tk.map tkT),T.tup (ors.map orT),T.tup (prs.map prT),T.tup (row.map T.str)]),some (.int n),some (.ref p),some (.int (n / 2^A.length)),v]) ⟨[],tk,none,rfl,rfl,rfl,by simp⟩ ?_ ?_
 ·rintro Z H ⟨A,B,v,e1,e2,rfl,rfl⟩;have hB:B=[]:=Zc.mp e2.symm;subst hB;rw[WD] at e1;subst e1;clear e2;refine⟨trivial,?_⟩;walk_at "";exact Fin3.of (Sub3.new hp) k
 rintro x r Z H N ⟨A,B,v,e1,e2,rfl,rfl⟩ hN;cases B with
 |nil=>cases e2
 |cons t B =>
 rw[I_,List.cons.injEq] at e2;obtain⟨rfl,rfl⟩:=e2;have hlA:A.length+1<=8:=by have:=WK List.length e1;simp only[g_,l_] at this;omega
 have epk:=rR (A.map (·.1)) [t.1] n;simp only[pick,h_] at epk;have pkl:=wU (A.map (·.1)) n;rw[h_] at pkl;have epw:n / 2^A.length / 2=n / 2^(A++[t]).length:=by rw[g_,D_,Zr,Int.ediv_ediv_of_nonneg (Int.le_of_lt (Int.pow_pos (by decide)))]
 have fin:∀v,N [some (T.tup [T.tup (tk.map tkT),T.tup (ors.map orT),T.tup (prs.map prT),T.tup (row.map T.str)]),some (.int n),some (.ref p),some (.int (n / 2^A.length / 2)),v] (up3 H3 p (.lst ((pick (A.map (·.1)++[t.1]) n).map T.str))):=fun v=>by rw[epw];exact hN _ _ ⟨A++[t],B,v,by rw[e1];simp,rfl,by simp,rfl⟩
 rw[epk] at fin;replace fin:=Box.mk fin;obtain⟨nm,len,ks⟩:=t;refine⟨trivial,?_⟩;clear hN e1 k epk epw;simp only[tkT,sT];walk_at "";try simp only[true_and]
 refine⟨by decide,?_⟩;by_cases hb:n / 2^A.length%2=1
 ·simp only[hb,if_true,Yo] at fin ⊢;refine⟨by omega,?_⟩;have fo:=fin.out (some (T.tup [T.str nm,T.int len,T.tup (ks.map T.str)]));rw[B_] at fo;exact⟨⟨by decide,by decide +kernel⟩,fo⟩
 simp only[hb,Wt,XQ,x_,WD] at fin ⊢;exact⟨⟨by decide,by decide +kernel⟩,fin.out _⟩
end
def Ec (K:Frag):Bool:=K.all fun p=>!(p.2.cls==.type "list")
theorem Ed {K:Frag}{a:Addr}{o:Obj}(e:K.lookup a=some o):(a,o)∈K:=by
 induction K with
 |nil=>cases e
 |cons p r ih =>
 obtain⟨b,u⟩:=p;rw[Xr] at e;split at e
 ·rename_i h;rw[eq_of_beq h,K_ e];exact k_
 exact t_ _ (ih e)
theorem yN {K:Frag}(h:Ec K=true) {a:Addr}{o:Obj}(e:K.lookup a=some o):o.cls≠.type "list":=fun z=>by
 have hm:(a,o)∈K:=Ed e;have q:=Xe.mp h (a,o) hm;rw[z] at q;simp at q
theorem uc {n:Nat}{us:List Value}(h:us.length=n+1):∃(a:Value) (r:List Value),us=a::r/\r.length=n:=by
 cases us with
 |nil=>exact nomatch h
 |cons a r=>exact⟨a,r,rfl,Nat.succ.inj h⟩
theorem uz {us:List Value}(h:us.length=0):us=[]:=X_ h
theorem ub1 {fd:FuncData}{x0:Str}(h:∀a0:Value,bindArgs fd ⟨[a0],[]⟩=pure ([x0].zip [a0])) (us:List Value) (e:us.length=1):bindArgs fd ⟨us,[]⟩=pure ([x0].zip us):=by
 obtain⟨a0,r0,q0,e0⟩:=uc e;rw[q0,uz e0];exact h a0
theorem ub2 {fd:FuncData}{x0 x1:Str}(h:∀a0 a1:Value,bindArgs fd ⟨[a0,a1],[]⟩=pure ([x0,x1].zip [a0,a1])) (us:List Value) (e:us.length=2):bindArgs fd ⟨us,[]⟩=pure ([x0,x1].zip us):=by
 obtain⟨a0,r0,q0,e0⟩:=uc e;obtain⟨a1,r1,q1,e1⟩:=uc e0;rw[q0,q1,uz e1];exact h a0 a1
theorem ub3 {fd:FuncData}{x0 x1 x2:Str}(h:∀a0 a1 a2:Value,bindArgs fd ⟨[a0,a1,a2],[]⟩=pure ([x0,x1,x2].zip [a0,a1,a2])) (us:List Value) (e:us.length=3):bindArgs fd ⟨us,[]⟩=pure ([x0,x1,x2].zip us):=by
 obtain⟨a0,r0,q0,e0⟩:=uc e;obtain⟨a1,r1,q1,e1⟩:=uc e0;obtain⟨a2,r2,q2,e2⟩:=uc e1;rw[q0,q1,q2,uz e2];exact h a0 a1 a2
theorem ub4 {fd:FuncData}{x0 x1 x2 x3:Str}(h:∀a0 a1 a2 a3:Value,bindArgs fd ⟨[a0,a1,a2,a3],[]⟩=pure ([x0,x1,x2,x3].zip [a0,a1,a2,a3])) (us:List Value) (e:us.length=4):bindArgs fd ⟨us,[]⟩=pure ([x0,x1,x2,x3].zip us):=by
 obtain⟨a0,r0,q0,e0⟩:=uc e;obtain⟨a1,r1,q1,e1⟩:=uc e0;obtain⟨a2,r2,q2,e2⟩:=uc e1;obtain⟨a3,r3,q3,e3⟩:=uc e2;rw[q0,q1,q2,q3,uz e3];exact h a0 a1 a2 a3
theorem ub5 {fd:FuncData}{x0 x1 x2 x3 x4:Str}(h:∀a0 a1 a2 a3 a4:Value,bindArgs fd ⟨[a0,a1,a2,a3,a4],[]⟩=pure ([x0,x1,x2,x3,x4].zip [a0,a1,a2,a3,a4])) (us:List Value) (e:us.length=5):bindArgs fd ⟨us,[]⟩=pure ([x0,x1,x2,x3,x4].zip us):=by
 obtain⟨a0,r0,q0,e0⟩:=uc e;obtain⟨a1,r1,q1,e1⟩:=uc e0;obtain⟨a2,r2,q2,e2⟩:=uc e1;obtain⟨a3,r3,q3,e3⟩:=uc e2;obtain⟨a4,r4,q4,e4⟩:=uc e3;rw[q0,q1,q2,q3,q4,uz e4];exact h a0 a1 a2 a3 a4
theorem Wq {K:Frag}{h:Heap}{mg:Str->Option Value}{x:Str}{st:Stmt}{ps:List Str}{f:Addr}{oc:Value}{od an:Option Addr}{osl:Array (Option Value)}{kV doc pm cdv ct:Value}(X:K.In h) (G:h.Ns mainGlobals mg)
  (a:nsIn K mainGlobals x=some (some (.ref f))) (l:K.lookup f=some ⟨oc,od,.func (fnOf x x (bR st) (bD st) (aB st) .none kV doc pm an cdv ct),osl⟩) (c:codeIn K cdv x=true) (k:keepIn K (.ref f)=true)
  (hb:∀(kV doc pm:Value) (an:Option Addr) (cdv ct:Value) (us:List Value),us.length=ps.length->bindArgs (fnOf x x (bR st) (bD st) (aB st) .none kV doc pm an cdv ct) ⟨us,[]⟩=pure (ps.zip us)) :
  G3 K mg x st ps f (fnOf x x (bR st) (bD st) (aB st) .none kV doc pm an cdv ct) :=
 have F:=lq (st:=st) l c k
 ⟨F,F.binds hb,mg_of X G a⟩
theorem cG (i:Nat) (ps:List Str) (x:Str) (f:Addr) (m:Str) (t c:Nat) {K:Frag}{h:Heap}{mg:Str->Option Value}(X:K.In h) (G:h.Ns mainGlobals mg)
  (hb:∀(kV doc pm:Value) (an:Option Addr) (cdv ct:Value) (us:List Value),us.length=ps.length->bindArgs (fnOf x x (bR (top i)) (bD (top i)) (aB (top i)) .none kV doc pm an cdv ct) ⟨us,[]⟩=pure (ps.zip us))
  (a:nsIn K mainGlobals x=some (some (.ref f)):=by kernel_rfl) (l:K.lookup f=some (fO i x m t c):=by kernel_rfl) (e:codeIn K (.ref c) x=true:=by kernel_rfl) (k:keepIn K (.ref f)=true:=by kernel_rfl) :
  G3 K mg x (top i) ps f (fnOf x x (bR (top i)) (bD (top i)) (aB (top i)) .none .none .none (.str m t) none (.ref c) .none) :=
 Wq X G a l e k hb
def Vn:Stmt->Pos->Pos
 |.FunctionDef _ _ _ _ _ _ _ _ _ p,_=>p
 |_,p=>p
def dv:DefRec:=⟨"law",bR (top 46),bD (top 46),aB (top 46),Vn (top 46) default⟩
theorem all_ok {l:PySem.W.OpenLaw}{w:World}{h:Heap}{mg:Str->Option Value}{fa:Addr}(X:(KK w.params).In h) (G:h.Ns mainGlobals mg) (hfa:mg "law"=some (.ref fa)) :
  ∃fd:FuncData,(∀(s:Shared) (v:Value),BindsTo s fd ⟨[v],[]⟩ [("_law_script",v)])/\∀base:Heap,(KK w.params).In base->base.Ns mainGlobals mg->FnOk3 l.prog w (KK w.params) mg base 12 fa fd ["_law_script"] xm:=by
 have at_:∀{n:Str} {v:Value},nsIn (KK w.params) mainGlobals n=some (some v)->mg n=some v:=fun e=>mg_of X G e;have no_:∀{n:Str},nsIn (KK w.params) mainGlobals n=some none->mg n=none:=fun e=>PySem.W.mg_none_of X G e;have e:=hfa.symm.trans (at_ (v:=.ref 301) (by kernel_rfl));cases e;have B:Bl mg:=⟨no_ (by kernel_rfl),no_ (by kernel_rfl),no_ (by kernel_rfl),no_ (by kernel_rfl),no_ (by kernel_rfl),no_ (by kernel_rfl),no_ (by kernel_rfl),no_ (by kernel_rfl),no_ (by kernel_rfl),no_ (by kernel_rfl),no_ (by kernel_rfl),no_ (by kernel_rfl),no_ (by kernel_rfl),no_ (by kernel_rfl),no_ (by kernel_rfl),no_ (by kernel_rfl),no_ (by kernel_rfl),no_ (by kernel_rfl),no_ (by kernel_rfl),no_ (by kernel_rfl)⟩;have g__wall:=cG 0 ["k"] "_wall" 21 "__main__" 164 20 X G fun _ _ _ _ _ _=>ub1 fun _=>rfl;have g_links_of:=cG 2 ["works"] "links_of" 28 "stationrow.chains" 194 27 X G fun _ _ _ _ _ _=>ub1 fun _=>rfl;have g_reached:=cG 3 ["links","start"] "reached" 35 "stationrow.chains" 194 34 X G fun _ _ _ _ _ _=>ub2 fun _ _=>rfl;have g_led_to:=cG 4 ["works","task"] "led_to" 42 "stationrow.chains" 194 41 X G fun _ _ _ _ _ _=>ub2 fun _ _=>rfl;have g_led_from:=cG 5 ["works","task"] "led_from" 47 "stationrow.chains" 194 46 X G fun _ _ _ _ _ _=>ub2 fun _ _=>rfl;have g_in_both:=cG 6 ["works","found","other"] "in_both" 52 "stationrow.chains" 194 51 X G fun _ _ _ _ _ _=>ub3 fun _ _ _=>rfl;have g_in_first_alone:=cG 7 ["works","found","other"] "in_first_alone" 57 "stationrow.chains" 194 56 X G fun _ _ _ _ _ _=>ub3 fun _ _ _=>rfl;have g_group_of:=cG 8 ["works","task"] "group_of" 64 "stationrow.chains" 194 63 X G fun _ _ _ _ _ _=>ub2 fun _ _=>rfl;have g_ahead_of:=cG 9 ["works","task"] "ahead_of" 71 "stationrow.chains" 194 70 X G fun _ _ _ _ _ _=>ub2 fun _ _=>rfl;have g_may_be_done:=cG 11 ["kinds","kind"] "may_be_done" 78 "stationrow.checks" 261 77 X G fun _ _ _ _ _ _=>ub2 fun _ _=>rfl;have g_names_of:=cG 13 ["tasks"] "names_of" 83 "stationrow.texts" 271 82 X G fun _ _ _ _ _ _=>ub1 fun _=>rfl;have g_number_of:=cG 15 ["works","tasks"] "number_of" 90 "stationrow.sets" 279 89 X G fun _ _ _ _ _ _=>ub2 fun _ _=>rfl;have g_tasks_of:=cG 16 ["works","number"] "tasks_of" 97 "stationrow.sets" 279 96 X G fun _ _ _ _ _ _=>ub2 fun _ _=>rfl;have g_apart_from:=cG 18 ["works","task"] "apart_from" 102 "stationrow.fillings" 303 101 X G fun _ _ _ _ _ _=>ub2 fun _ _=>rfl;have g_rules_of:=cG 19 ["works"] "rules_of" 109 "stationrow.fillings" 303 108 X G fun _ _ _ _ _ _=>ub1 fun _=>rfl;have g_has_all:=cG 20 ["number","part"] "has_all" 116 "stationrow.fillings" 303 115 X G fun _ _ _ _ _ _=>ub2 fun _ _=>rfl;have g_is_filling_number:=cG 21 ["rules","beat","kind","done","number"] "is_filling_number" 123 "stationrow.fillings" 303 122 X G fun _ _ _ _ _ _=>ub5 fun _ _ _ _ _=>rfl;have g_greatest_numbers:=cG 22 ["numbers"] "greatest_numbers" 128 "stationrow.fillings" 303 127 X G fun _ _ _ _ _ _=>ub1 fun _=>rfl;have g_parts_of:=cG 24 ["number"] "parts_of" 133 "stationrow.walks" 358 132 X G fun _ _ _ _ _ _=>ub1 fun _=>rfl;have g_ways_behind:=cG 27 ["walk","stand","ways"] "ways_behind" 185 "stationrow.dealt" 428 184 X G fun _ _ _ _ _ _=>ub3 fun _ _ _=>rfl;have g_dealing_to:=cG 28 ["works","beat","many"] "dealing_to" 192 "stationrow.dealt" 428 191 X G fun _ _ _ _ _ _=>ub3 fun _ _ _=>rfl;have g_cell:=cG 30 ["_law_script","_law_k"] "_law_cell" 199 mlw 455 198 X G fun _ _ _ _ _ _=>ub2 fun _ _=>rfl;have g_word:=cG 31 ["_law_cell_here"] "_law_word" 206 mlw 455 205 X G fun _ _ _ _ _ _=>ub1 fun _=>rfl;have g_unlike:=cG 32 ["_law_words"] "_law_unlike" 213 mlw 455 212 X G fun _ _ _ _ _ _=>ub1 fun _=>rfl;have g_pool:=cG 33 ["_law_cell_here"] "_law_pool" 220 mlw 455 219 X G fun _ _ _ _ _ _=>ub1 fun _=>rfl;have g_task:=cG 34 ["_law_cell_here","_law_row","_law_pool_here","_law_unit"] "_law_task" 227 mlw 455 226 X G fun _ _ _ _ _ _=>ub4 fun _ _ _ _=>rfl;have g_links:=cG 35 ["_law_script","_law_names","_law_some_here"] "_law_links" 232 mlw 455 231 X G fun _ _ _ _ _ _=>ub3 fun _ _ _=>rfl;have g_works:=cG 36 ["_law_script","_law_most","_law_wide"] "_law_works" 237 mlw 455 236 X G fun _ _ _ _ _ _=>ub3 fun _ _ _=>rfl;have g_loads:=cG 37 ["_law_works_here","_law_stands"] "_law_loads" 244 mlw 455 243 X G fun _ _ _ _ _ _=>ub2 fun _ _=>rfl;have g_beat:=cG 38 ["_law_cell_here","_law_works_here","_law_stands"] "_law_beat" 249 mlw 455 248 X G fun _ _ _ _ _ _=>ub3 fun _ _ _=>rfl;have g_drawn:=cG 39 ["_law_script","_law_most","_law_wide"] "_law_drawn" 256 mlw 455 255 X G fun _ _ _ _ _ _=>ub3 fun _ _ _=>rfl;have g_moved:=cG 40 ["_law_works_here","_law_cell_here"] "_law_moved" 263 mlw 455 262 X G fun _ _ _ _ _ _=>ub2 fun _ _=>rfl;have g_right:=cG 41 ["_law_works_here","_law_beat_here","_law_dealing"] "_law_right" 268 mlw 455 267 X G fun _ _ _ _ _ _=>ub3 fun _ _ _=>rfl;have g_is_dealing:=cG 42 ["_law_works_here","_law_beat_here","_law_many","_law_found"] "_law_is_dealing" 273 mlw 455 272 X G fun _ _ _ _ _ _=>ub4 fun _ _ _ _=>rfl;have g_may:=cG 43 ["_law_works_here","_law_beat_here","_law_places","_law_stand"] "_law_may" 280 mlw 455 279 X G fun _ _ _ _ _ _=>ub4 fun _ _ _ _=>rfl;have g_some:=cG 44 ["_law_works_here","_law_beat_here","_law_many","_law_places"] "_law_some" 287 mlw 455 286 X G fun _ _ _ _ _ _=>ub4 fun _ _ _ _=>rfl;have g_told_right:=cG 45 ["_law_works_here","_law_beat_here","_law_many"] "_law_told_right" 294 mlw 455 293 X G fun _ _ _ _ _ _=>ub3 fun _ _ _=>rfl;have g_law:=cG 46 ["_law_script"] "law" 301 mlw 455 300 X G fun _ _ _ _ _ _=>ub1 fun _=>rfl;refine⟨fnOf "law" "law" (bR (top 46)) (bD (top 46)) (aB (top 46)) .none .none .none (.str mlw 455) none (.ref 300) .none,fun s v=>.of_eq rfl,fun base _ _=>?_⟩;have Cls_Walk:Cls (KK w.params) 174:=⟨by kernel_rfl,by kernel_rfl,by kernel_rfl,by kernel_rfl⟩;have NF_Walk:∀n∈(["works","beat","rules","whole"]:List Str),findIn (KK w.params) (.ref 174) n=some none:=fun n hn=>by
  rcases n_.mp hn with rfl | hn
  ·kernel_rfl
  rcases n_.mp hn with rfl | hn
  ·kernel_rfl
  rcases n_.mp hn with rfl | hn
  ·kernel_rfl
  rw[q_.mp hn];kernel_rfl
 have I_Walk:InsC (KK w.params) 174 ["works","beat","rules","whole"]:=⟨Cls_Walk,NF_Walk⟩;have fw___init__:Fun (KK w.params) "__init__" "Walk.__init__" (topm 25 0) 147 (fnOf "__init__" "Walk.__init__" (bR (topm 25 0)) (bD (topm 25 0)) (aB (topm 25 0)) .none .none .none (.str "stationrow.walks" 358) none (.ref 146) .none):=lq (oc:=.type "function") (od:=none) (osl:=#[]) (by kernel_rfl) (by kernel_rfl) (by kernel_rfl);have g_Walk:GI (KK w.params) mg 174 "Walk" "Walk.__init__" (topm 25 0) ["self","works","beat"] 147 _:=⟨⟨by kernel_rfl,by kernel_rfl,by kernel_rfl,by kernel_rfl⟩,fw___init__,fw___init__.binds fun _ _ _ _ _ _=>ub3 fun _ _ _=>rfl,at_ (v:=.ref 174) (by kernel_rfl)⟩;have fw_fillings_at:Fun (KK w.params) "fillings_at" "Walk.fillings_at" (topm 25 1) 152 (fnOf "fillings_at" "Walk.fillings_at" (bR (topm 25 1)) (bD (topm 25 1)) (aB (topm 25 1)) .none .none .none (.str "stationrow.walks" 358) none (.ref 151) .none):=lq (oc:=.type "function") (od:=none) (osl:=#[]) (by kernel_rfl) (by kernel_rfl) (by kernel_rfl);have g_fillings_at:GM (KK w.params) 174 "fillings_at" "Walk.fillings_at" (topm 25 1) ["self","stand","done"] 152 _:=⟨Cls_Walk,fw_fillings_at,fw_fillings_at.binds fun _ _ _ _ _ _=>ub3 fun _ _ _=>rfl,⟨by kernel_rfl,by kernel_rfl,by kernel_rfl⟩⟩;have fw_greatest_at:Fun (KK w.params) "greatest_at" "Walk.greatest_at" (topm 25 2) 159 (fnOf "greatest_at" "Walk.greatest_at" (bR (topm 25 2)) (bD (topm 25 2)) (aB (topm 25 2)) .none .none .none (.str "stationrow.walks" 358) none (.ref 158) .none):=lq (oc:=.type "function") (od:=none) (osl:=#[]) (by kernel_rfl) (by kernel_rfl) (by kernel_rfl);have g_greatest_at:GM (KK w.params) 174 "greatest_at" "Walk.greatest_at" (topm 25 2) ["self","stand","done"] 159 _:=⟨Cls_Walk,fw_greatest_at,fw_greatest_at.binds fun _ _ _ _ _ _=>ub3 fun _ _ _=>rfl,⟨by kernel_rfl,by kernel_rfl,by kernel_rfl⟩⟩;have fw_dealing_of:Fun (KK w.params) "dealing_of" "Walk.dealing_of" (topm 25 4) 171 (fnOf "dealing_of" "Walk.dealing_of" (bR (topm 25 4)) (bD (topm 25 4)) (aB (topm 25 4)) .none .none .none (.str "stationrow.walks" 358) none (.ref 170) .none):=lq (oc:=.type "function") (od:=none) (osl:=#[]) (by kernel_rfl) (by kernel_rfl) (by kernel_rfl);have g_dealing_of:GM (KK w.params) 174 "dealing_of" "Walk.dealing_of" (topm 25 4) ["self","fillings"] 171 _:=⟨Cls_Walk,fw_dealing_of,fw_dealing_of.binds fun _ _ _ _ _ _=>ub2 fun _ _=>rfl,⟨by kernel_rfl,by kernel_rfl,by kernel_rfl⟩⟩;have F_cell:=Iu (P:=l.prog) (w:=w) (base:=base) g_cell B;have F_word:=Iv (P:=l.prog) (w:=w) (base:=base) g_word B;have F_unlike:=yK (P:=l.prog) (w:=w) (base:=base) g_unlike B;have F_pool:=Iw g_pool B F_word F_unlike;have F_task:=Iz g_task B F_word;have F_links:=DR g_links B F_cell;have F_works:=DW g_works B F_cell F_pool F_task F_unlike F_links;have F_loads:=DX (P:=l.prog) (w:=w) (base:=base) g_loads B;have F_beat:=IK g_beat B F_loads;have F_drawn:=DY g_drawn B F_works F_beat F_cell;have F_moved:=DG (P:=l.prog) (w:=w) (base:=base) g_moved B;have F_number_of:=qj (P:=l.prog) (w:=w) (base:=base) g_number_of B;have F_apart_from:=mV (P:=l.prog) (w:=w) (base:=base) g_apart_from B;have F_in_first_alone:=jt (P:=l.prog) (w:=w) (base:=base) g_in_first_alone B;have F_reached:=vm (P:=l.prog) (w:=w) (base:=base) g_reached B;have F_links_of:=sU (P:=l.prog) (w:=w) (base:=base) g_links_of B;have F_led_from:=sW g_led_from B F_reached F_links_of;have F_led_to:=yM g_led_to B F_reached F_links_of;have F_ahead_of:=tu g_ahead_of B F_in_first_alone F_led_from F_led_to;have F_in_both:=vp (P:=l.prog) (w:=w) (base:=base) g_in_both B;have F_group_of:=sY g_group_of B F_in_both F_led_to F_led_from
 have F_rules_of:=tH g_rules_of B F_number_of F_apart_from F_ahead_of F_group_of;have F_names_of:=tG (P:=l.prog) (w:=w) (base:=base) g_names_of B;have M_Walk:=Ja g_Walk B I_Walk F_rules_of F_number_of F_names_of;have F_has_all:=vA (P:=l.prog) (w:=w) (base:=base) g_has_all B;have F_greatest_numbers:=iB g_greatest_numbers B F_has_all;have F_parts_of:=tD g_parts_of B F_has_all;have F_may_be_done:=mz (P:=l.prog) (w:=w) (base:=base) g_may_be_done B;have F_is_filling_number:=ig g_is_filling_number B F_has_all F_may_be_done;have M_fillings_at:=mD g_fillings_at B I_Walk F_parts_of F_is_filling_number;have M_greatest_at:=mj g_greatest_at B I_Walk F_greatest_numbers M_fillings_at
 have F_ways_behind:=lY g_ways_behind B I_Walk M_greatest_at
 have F_tasks_of:=tK (P:=l.prog) (w:=w) (base:=base) g_tasks_of B;have M_dealing_of:=mX g_dealing_of B I_Walk F_tasks_of;have F_dealing_to:=mR g_dealing_to B I_Walk M_Walk F_ways_behind M_dealing_of;have F_may:=Qm (P:=l.prog) (w:=w) (base:=base) g_may B;have F_some:=(dZ g_some B F_may (dZ g_some B F_may (dZ g_some B F_may (dZ g_some B F_may (dZ g_some B F_may (dZ g_some B F_may (dZ g_some B F_may (dZ g_some B F_may (dZ g_some B F_may (Vi (P:=l.prog) (w:=w) (base:=base) g_some))))))))));have F_right:=Ea (P:=l.prog) (w:=w) (base:=base) g_right B;have F_is_dealing:=mQ g_is_dealing B F_right;have F_told_right:=mO g_told_right B F_dealing_to F_some F_is_dealing;exact Ql g_law B F_cell F_drawn F_moved F_told_right
theorem walk {l:PySem.W.OpenLaw}{q:Program}{loose:List Str}{XP:(Str->Option Value)->Heap->Prop}{YP:World->Heap->Prop}{d:DefRec}{K:Params->Frag}(hn:l.most=some 63) (hdf:d.params.defaults=[])
  (hY:∀(w:World) (h:Heap),YP w h->(K w.params).In h) (hNL:∀w:World,Ec (K w.params)=true)
  (F:∀(w:World) (mg:Str->Option Value) (fa:Addr) (h:Heap),(K w.params).In h->h.Ns mainGlobals mg->mg d.name=some (.ref fa) ->
   ∃fd:FuncData,(∀(s:Shared) (u:Value),BindsTo s fd ⟨[u],[]⟩ [("_law_script",u)])/\∀base:Heap,(K w.params).In base->base.Ns mainGlobals mg->FnOk3 l.prog w (K w.params) mg base 12 fa fd ["_law_script"] xm) :
  PySem.W.WalkO q loose XP YP l.row.toRowW d [] (fun f vs=>PySem.call f vs):=by
 refine L2.walk_of (n:=63) (k:=12) (x:="_law_script") (CX:=fun _=>CX0) (sp:=fun w=>qP (K w.params) xm) hn (by decide) hdf ⟨rfl,by decide,by decide,rfl⟩ hY F (fun w H a ns hl hO hS=>?_) fun _ _ _ _ _ z=>z;refine⟨[.ref a],fun b=>if b=a then some (.rol (ns.map T.int)) else none,fun t _=>t=.bl true,.cons .ofRef .nil,fun b o e=>?_,⟨a,ns,rfl,if_pos rfl,hl,fun _=>rfl⟩,fun v H' t H3' _ _ r q=>?_⟩
 ·dsimp only at e;by_cases hb:b=a
  ·rw[if_pos hb] at e;cases e;subst hb;rcases hS with hS | ⟨o,its,n,hk,hc,_⟩
   ·refine⟨_,hS,?_⟩;have:∀ms:List Int,Reps (K w.params) H (ms.map T.int) (ms.map V.int):=fun ms=>by
     induction ms with
     |nil=>exact .nil
     |cons m r ih=>exact .cons .ofInt ih
    exact this ns
   exact absurd hc (yN (hNL w) hk)
  rw[if_neg hb] at e;cases e
 subst q;exact r.bl
end M
open PySem PySem.W PyProof.Rows
set_option maxRecDepth 100000 in
set_option maxHeartbeats 0 in
theorem PySem.Challenge.cw_stationrow_k40_dealt_to_so_many_holds : PySem.Challenge.rw_stationrow_k40_dealt_to_so_many.Holds := by
 refine holds_law (by kernel_rfl) fun said=>?_;refine holds_open (d:=M.dv) (kwd:=[]) (q:=M.qv) (loose:=[]) (Xt:=fun s=>xlAt M.qv [] s&&recOk (RowW.records (OpenLaw.row PySem.Challenge.rw_stationrow_k40_dealt_to_so_many).toRowW) s) (XP:=XL M.qv []) (Yf:=Hook.obs M.HK) (Ya:=Hook.val M.HK) (YP:=Hook.says M.HK) (N:=3336) M.left (Hook.of M.HK) (Hook.keeps M.HK) (fun s e=>xl_of s (Bool.and_eq_true_iff.mp e).1) XL.keeps (by kernel_rfl) (by kernel_rfl) (by kernel_rfl) (fun s e=>recFacts_of (Bool.and_eq_true_iff.mp e).2) (by kernel_rfl) (by first | assumption | kernel_rfl) (by kernel_rfl) ⟨rfl,rfl,rfl,rfl,rfl,by decide +kernel⟩ ?hw ?hc
 case hw=>w_witness2
 case hc=>exact M.walk (l:=PySem.Challenge.rw_stationrow_k40_dealt_to_so_many) rfl rfl (fun w h Y=>kIn_of Y) (fun w=>by kernel_rfl) fun w mg fa h KX G hmg=>M.all_ok KX G hmg
#print axioms PySem.Challenge.cw_stationrow_k40_dealt_to_so_many_holds
