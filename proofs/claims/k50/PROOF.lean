import PyProof.Rows.All
import PyProof.EqAt
import PyProof.EqKinds
import PyProof.TupleCall
import PyProof.NeKinds
import PyProof.StrWalks
import PyProof.Rows.SetFrom
import PyProof.WalksMore
import KE.KIntText
import PyProof.EnumMake
import PyProof.WalkInts
import PyProof.ReprRoads
import PyProof.ReprLen
import KE.KRevIter
import KE.KRevSl
import PyProof.StrCalls
import PyProof.Rows.StrFit
import KE.KDictOf
import PyProof.AttrMissHeap
import PyProof.DictItems
import KE.KDictLaws
import KE.KSortTup
import KE.KDictList
import PyProof.StrLawsTight
import PyProof.StrLawsNeg
import Wide.Line
import OpenK.KOwn
import KE.KFromBytes
import KE.KItem
import KE.KIsAll
import PySem.Challenge.RW_stationrow_k50_one_case
abbrev a_:=@PySem.wpAny_bind
abbrev b_:=@PySem.Heap.get?_push_of_some
abbrev d_:=@List.length_append
abbrev e_:=@List.length_map
abbrev g_:=@List.getElem?_eq_getElem
abbrev h_:=@List.mem_cons_of_mem
abbrev i_:=@PySem.wpAny_pure
abbrev j_:=@List.mem_cons
abbrev k_:=@List.mem_cons_self
abbrev l_:=@List.size_toArray
abbrev m_:=@List.mem_singleton
abbrev n_:=@List.length_cons
abbrev o_:=@Nat.le_refl
abbrev p_:=@decide_eq_true_iff
abbrev q_:=@List.getD_eq_getElem?_getD
abbrev t_:=@Bool.false_ne_true
abbrev u_:=@decide_eq_false
abbrev v_:=@PySem.Heap.get?_push_size
abbrev x_:=@PySem.Heap.lt_size
abbrev y_:=@List.mem_map
abbrev z_:=@List.getElem?_map
abbrev A_:=@Bool.false_eq_true
abbrev B_:=@List.mem_append
abbrev C_:=@List.map_cons
abbrev D_:=@decide_eq_true
abbrev E_:=@List.mem_filter
abbrev F_:=@Nat.ne_of_lt
abbrev G_:=@List.not_mem_nil
abbrev H_:=@List.map_append
abbrev I_:=@Int.emod_lt_of_pos
abbrev J_:=@List.length_singleton
abbrev K_:=@List.length_range
abbrev L_:=@Nat.le_trans
abbrev M_:=@Int.emod_nonneg
abbrev N_:=@Nat.lt_of_lt_of_le
abbrev O_:=@List.mem_of_getElem?
abbrev P_:=@PySem.F.plainAttrs_list
abbrev Q_:=@Option.some.inj
abbrev R_:=@List.mem_append_right
abbrev S_:=@PySem.PassesOwn.never
abbrev T_:=@PySem.F.slot_list_append
abbrev U_:=@PySem.F.type_list_append
abbrev V_:=@List.getElem?_eq_none
abbrev W_:=@Bool.eq_iff_iff
abbrev X3:=@Nat.zero_le
abbrev X4:=@PyProof.Rows.slot_tuple_getitem
abbrev X5:=@Nat.lt_trans
abbrev X6:=@congrArg
abbrev X7:=@List.mem_range
abbrev X8:=@if_false
abbrev X_:=@Bool.and_eq_true
abbrev Yb:=@List.nodup_cons
abbrev Yc:=@List.getElem?_append_right
abbrev Yd:=@List.append_nil
abbrev Ye:=@Nat.lt_irrefl
abbrev Yg:=@List.length_nil
abbrev Yh:=@Nat.ne_of_gt
abbrev Yi:=@beq_eq_false_iff_ne
abbrev Yj:=@PyProof.Rows.callWith_type1
abbrev Yk:=@List.mem_append_left
abbrev Yl:=@List.getElem_mem
abbrev Ym:=@or_false
abbrev Yn:=@List.length_replicate
abbrev Yo:=@List.map_map
abbrev Yp:=@List.getElem?_append_left
abbrev Yq:=@List.all_eq_true
abbrev Yr:=@List.replicate_succ
abbrev Ys:=@List.getElem?_range
abbrev Yt:=@PySem.wpAny_newObj_type
abbrev Yu:=@PySem.wpAny_field
abbrev Yv:=@Bool.not_true
abbrev Yw:=@List.length_reverse
abbrev Yx:=@List.length_filter_le
abbrev Yy:=@PySem.wpAny_truthy_bool
abbrev Yz:=@List.map_nil
abbrev YB:=@PySem.wpAny_callSpecial?_slot
abbrev YC:=@List.getElem?_cons_zero
abbrev YD:=@PySem.wpAny_seqItems
abbrev YF:=@Nat.lt_succ_self
abbrev YG:=@PySem.wpAny_call_entry
abbrev YH:=@List.lookup_cons
abbrev YJ:=@List.mem_flatten
abbrev YK:=@List.getElem?_eq_some_iff
abbrev YL:=@Int.toNat_natCast
abbrev YM:=@List.flatten_cons
abbrev YQ:=@Nat.lt_succ_of_lt
abbrev YS:=@PySem.wpAny_holding
abbrev YT:=@List.sum_cons
abbrev YW:=@List.forIn_cons
abbrev YX:=@List.getElem?_cons_succ
abbrev YZ:=@Array.getD_eq_getD_getElem?
abbrev Y0:=@Nat.le_of_lt
abbrev Y4:=@List.find?_cons
abbrev Y5:=@PySem.wpAny_mono
abbrev Y6:=@PySem.wpAny_Call_Name_kw
abbrev Y7:=@List.length_take
abbrev Y8:=@decide_false
abbrev Y9:=@List.getElem?_of_mem
abbrev Y_:=@List.getElem?_replicate
abbrev Za:=@of_decide_eq_true
abbrev Zb:=@decide_eq_false_iff_not
abbrev Zc:=@List.dropLast_concat_getLast
abbrev Zd:=@PyProof.Rows.KeyOrd.kle_refl
abbrev Ze:=@List.map_eq_nil_iff
abbrev Zf:=@List.getElem?_set_self
abbrev Zg:=@decide_true
abbrev Zh:=@Bool.true_and
abbrev Zi:=@List.filter_cons
abbrev Zj:=@List.cons_append
abbrev Zk:=@List.any_eq_true
abbrev Zm:=@Bool.false_and
abbrev Zn:=@beq_iff_eq
abbrev Zo:=@PySem.Heap.size_push
abbrev Zq:=@PySem.F.slot_tuple_iterator_next
abbrev Zr:=@PySem.wpAny_setField_rec
abbrev Zt:=@Array.getElem?_eq_some_iff
abbrev Zu:=@List.nodup_nil
abbrev Zv:=@List.filter_append
abbrev Zw:=@Nat.lt_of_le_of_lt
abbrev Zx:=@Bool.not_false
abbrev Zy:=@Array.getElem?_eq_getElem
abbrev Zz:=@PySem.wpAny_passesOwn
abbrev ZC:=@List.getElem?_set_ne
abbrev ZD:=@Option.isSome_map
abbrev ZF:=@List.filter_congr
abbrev ZG:=@Prod.mk.injEq
abbrev ZJ:=@Array.length_toList
abbrev ZK:=@PySem.Heap.get?_update_ne
abbrev ZL:=@PySem.wpAny_getItem_str_slice
abbrev ZM:=@List.length_eq_zero_iff
abbrev ZP:=@decide_eq_decide
abbrev ZQ:=@Nat.log2_le_self
abbrev ZR:=@List.eq_nil_of_length_eq_zero
abbrev ZS:=@PySem.SeqAt.EqAt.int_int
abbrev ZV:=@PySem.Heap.get?_update_other
abbrev ZW:=@Option.map_eq_some_iff
abbrev ZX:=@List.of_mem_zip
abbrev ZZ:=@List.nil_append
abbrev Z0:=@PySem.wpAny_specialOf
abbrev Z5:=@PySem.wpAny_pyIter_list
abbrev Z9:=@List.append_assoc
abbrev Z_:=@List.ext_getElem?
abbrev aaa:=@PyProof.Rows.KeyOrd.kle_of_klt
abbrev aab:=@Bool.not_eq_true'
abbrev aac:=@List.forIn_nil
abbrev aad:=@List.mem_iff_getElem
abbrev aae:=@List.length_drop
abbrev aaf:=@PySem.wpAny_typeOf
abbrev aag:=@PySem.wpAny_isInstance
abbrev aah:=@List.map_reverse
abbrev aai:=@List.pairwise_iff_getElem
abbrev aaj:=@PySem.Paired.length
abbrev aak:=@Option.isSome_iff_exists
abbrev aal:=@PySem.F.args_tuple_add_2
abbrev aam:=@PySem.F.slot_list_getattribute
abbrev aan:=@List.foldl_cons
abbrev aao:=@PySem.Calls.spliced_cons
abbrev aap:=@Nat.not_lt
abbrev aaq:=@Int.natCast_nonneg
abbrev aar:=@Nat.le_of_eq
abbrev aas:=@PySem.Calls.spliced_nil
abbrev aat:=@PySem.F.slot_tuple_hash
abbrev aau:=@Option.some.injEq
abbrev aav:=@decide_eq_true_eq
abbrev aaw:=@Int.pow_succ
abbrev aax:=@Nat.lt_or_ge
abbrev aay:=@List.any_cons
abbrev aaz:=@Bool.and_true
abbrev aaA:=@PySem.sizeLine_eq
abbrev aaB:=@Int.le_refl
open PySem.W (Frag InstAt LeftO callWith_K cellsFrom_some codeIn emptyDict findIn fnOf handedIn hasDictIn instObj isFn kHook keepIn kia_one kitOne kitx_dict kitx_list kitx_tuple lookIn makesIn methodObj mg_of mroIn nsIn plainGet plainGet_of plainOver recOk takerIn typeIn xlAt)
noncomputable section
open PySem PySem.Spec PyProof.Rows
set_option Elab.async false
set_option linter.all false
set_option maxRecDepth 100000
namespace L2
def bO (s:Stmt):Arguments:=match s with
 |.FunctionDef _ a _ _ _ _ _ _ _ _=>a
 |_=>{ posonlyargs:=[],args:=[],vararg:=none,kwonlyargs:=[],kw_defaults:=[],kwarg:=none,defaults:=[]}
def bC (s:Stmt):List Stmt:=match s with
 |.FunctionDef _ _ b _ _ _ _ _ _ _=>b
 |_=>[]
def au (s:Stmt):Scope:=match s with
 |.FunctionDef _ _ _ _ _ _ a _ _ _=>a
 |_=>{ kind:=.function,names:=[],isGenerator:=false,isCoroutine:=false}
end L2
namespace M
open L2
def top (i:Nat):Stmt:=PySem.Challenge.pw_stationrow_k50_one_case.main.body.getD i (.Pass ⟨0,0,0,0⟩)
def Jj:Stmt->List Stmt
 |.ClassDef _ _ _ a _ _ _ _ _ _ _=>a
 |_=>[]
def topm (i j:Nat):Stmt:=(Jj (top i)).getD j (.Pass ⟨0,0,0,0⟩)
def qv:Program:={ PySem.Challenge.pw_stationrow_k50_one_case with main:={ PySem.Challenge.pw_stationrow_k50_one_case.main with body:=([0,2,3,4,5,6,7,8,9,11,13,15,16,18,19,20,21,22,24,25,27,28,29,30,31,32,33,34,35,37,38,39,40,41,42,43,44,45,46,47,48]:List Nat).map top}}
def en (P:Params) (n:Str) (t:Nat) (v:Value):DictEntry:=⟨PyData.keyHash P n,.str n t,v⟩
def cO (n:Str) (c:Nat) (b:Bool) (a j l k:Nat):Obj:=⟨.type "code",none,.fields #[.str n a,.str n (a+1),.str "/claim/cut.py" (a+2),.int l 0,.int k 0,.int 0 0,.int 0 0,.int 3 0,.ref (c - (bif b then 5 else 3)),.bool true,.int 181 0,.ref (c - (bif b then 4 else 2)),.none,bif b then .ref (c - 3) else .none,bif b then .ref (c - 2) else .none,.ref (c - 1),.int j 0,.int l 0,.str "/claim/cut.py" (j+1)],#[]⟩
def fO (i:Nat) (n m:Str) (t c:Nat):Obj:=⟨.type "function",none,.func (fnOf n n (bO (top i)) (bC (top i)) (au (top i)) .none .none .none (.str m t) none (.ref c) .none),#[]⟩
abbrev mlw:Str := "law_stationrow_k50_one_case"
def fx (i:Nat) (n m:Str) (t c:Nat) (b:Bool) (a j l k:Nat):(Params->DictEntry) × Frag:=(fun P=>en P n (j+2) (.ref (c+1)),[(c,cO n c b a j l k),(c+1,fO i n m t c)])
def TB:List ((Params->DictEntry) × Frag):=[fx 0 "_wall" "__main__" 164 20 true 187 191 1 1,
 fx 2 "links_of" "stationrow.chains" 194 27 true 196 204 5 1,
 fx 3 "reached" "stationrow.chains" 194 34 true 207 216 12 2,
 fx 4 "led_to" "stationrow.chains" 194 41 true 219 224 22 2,
 fx 5 "led_from" "stationrow.chains" 194 46 false 227 230 24 2,
 fx 6 "in_both" "stationrow.chains" 194 51 false 233 236 26 3,
 fx 7 "in_first_alone" "stationrow.chains" 194 56 false 239 242 28 3,
 fx 8 "group_of" "stationrow.chains" 194 63 true 245 250 30 2,
 fx 9 "ahead_of" "stationrow.chains" 194 70 true 253 258 32 2,
 fx 11 "may_be_done" "stationrow.checks" 261 77 true 263 268 35 2,
 fx 13 "names_of" "stationrow.texts" 271 82 false 273 276 38 1,
 fx 15 "number_of" "stationrow.sets" 279 89 true 281 289 41 2,
 fx 16 "tasks_of" "stationrow.sets" 279 96 true 292 300 49 2,
 fx 18 "apart_from" "stationrow.fillings" 303 101 false 305 308 58 2,
 fx 19 "rules_of" "stationrow.fillings" 303 108 true 311 323 60 1,
 fx 20 "has_all" "stationrow.fillings" 303 115 true 326 331 69 2,
 fx 21 "is_filling_number" "stationrow.fillings" 303 122 true 334 349 71 5,
 fx 22 "greatest_numbers" "stationrow.fillings" 303 127 false 352 355 83 1,
 fx 24 "parts_of" "stationrow.walks" 358 132 false 360 363 90 1,
 (fun P=>en P "Walk" 427 (.ref 174),[]),
 fx 27 "length_left" "stationrow.papers" 428 184 true 430 435 122 2,
 fx 28 "dones_behind" "stationrow.papers" 428 189 false 438 441 124 3,
 fx 29 "is_done" "stationrow.papers" 428 196 true 444 456 127 2,
 fx 30 "is_left" "stationrow.papers" 428 203 true 459 466 135 4,
 fx 31 "is_less" "stationrow.papers" 428 208 false 469 472 137 4,
 fx 32 "is_ways" "stationrow.papers" 428 213 false 475 478 139 5,
 fx 33 "is_reason" "stationrow.papers" 428 220 true 481 490 143 6,
 fx 34 "are_sorted" "stationrow.papers" 428 225 false 493 496 149 2,
 fx 35 "is_paper" "stationrow.papers" 428 230 false 499 502 152 4,
 fx 37 "_law_cell" mlw 505 237 true 507 517 164 2,
 fx 38 "_law_word" mlw 505 244 true 520 528 176 1,
 fx 39 "_law_unlike" mlw 505 251 true 531 538 184 1,
 fx 40 "_law_pool" mlw 505 258 true 541 547 192 1,
 fx 41 "_law_task" mlw 505 265 true 550 566 198 4,
 fx 42 "_law_links" mlw 505 270 false 569 572 217 3,
 fx 43 "_law_works" mlw 505 275 false 575 578 242 3,
 fx 44 "_law_loads" mlw 505 282 true 581 589 259 2,
 fx 45 "_law_beat" mlw 505 287 false 592 595 264 3,
 fx 46 "_law_drawn" mlw 505 294 true 598 606 271 3,
 fx 47 "_law_moved" mlw 505 301 true 609 616 274 2,
 fx 48 "law" mlw 505 306 false 619 622 282 1]
def wcO (C N t u:Nat):Obj:=⟨.type "type",none,.cls { name:="Walk",bases:=[.type "object"],mro:=[.ref C,.type "object"],ns:=N,qualname:="Walk"},#[none,none,some (.str "Walk" t),some (.str "Walk" u),some (.builtin "object.__new__"),some (.bool true)]⟩
def nsO (P:Params) (a:List (Str × Nat × Value)) (k:Nat):Obj:=⟨.type "dict",none,.dict (a.map fun e=>en P e.1 e.2.1 e.2.2).toArray k,#[]⟩
def cQ (n q:Str) (c:Nat) (b:Bool) (a j l k:Nat):Obj:=⟨.type "code",none,.fields #[.str n a,.str q (a+1),.str "/claim/cut.py" (a+2),.int l 0,.int k 0,.int 0 0,.int 0 0,.int 3 0,.ref (c - (bif b then 5 else 3)),.bool true,.int 181 0,.ref (c - (bif b then 4 else 2)),.none,bif b then .ref (c - 3) else .none,bif b then .ref (c - 2) else .none,.ref (c - 1),.int j 0,.int l 0,.str "/claim/cut.py" (j+1)],#[]⟩
def fQ (st:Stmt) (n q m:Str) (t c:Nat):Obj:=⟨.type "function",none,.func (fnOf n q (bO st) (bC st) (au st) .none .none .none (.str m t) none (.ref c) .none),#[]⟩
def KC (P:Params):Frag:=[(146,cQ "__init__" "Walk.__init__" 146 true 378 384 100 3),
 (147,fQ (topm 25 0) "__init__" "Walk.__init__" "stationrow.walks" 358 146),
 (151,cQ "fillings_at" "Walk.fillings_at" 151 false 387 390 106 3),
 (152,fQ (topm 25 1) "fillings_at" "Walk.fillings_at" "stationrow.walks" 358 151),
 (158,cQ "greatest_at" "Walk.greatest_at" 158 true 393 399 113 3),
 (159,fQ (topm 25 2) "greatest_at" "Walk.greatest_at" "stationrow.walks" 358 158),
 (163,cQ "load_at" "Walk.load_at" 163 false 402 405 116 2),
 (164,fQ (topm 25 3) "load_at" "Walk.load_at" "stationrow.walks" 358 163),
 (173,nsO P [("__module__",373,.str "stationrow.walks" 358),("__firstlineno__",377,.int 98 376),("__init__",386,.ref 147),("fillings_at",392,.ref 152),("greatest_at",401,.ref 159),("load_at",407,.ref 164),("dealing_of",415,.ref 171),("__static_attributes__",420,.ref 172),("__dict__",422,.ref 175),("__weakref__",424,.ref 176),("__doc__",425,.none)] 4),
 (174,wcO 174 173 366 374)]
def KK (P:Params):Frag:=(3,⟨.type "dict",none,.dict ([en P "__name__" 165 (.str mlw 505),
 en P "__doc__" 166 .none,
 en P "__package__" 167 .none,
 en P "__loader__" 168 (.builtin "__main__.__loader__#opaque"),
 en P "__spec__" 169 .none,
 en P "__annotations__" 170 (.ref 6),
 en P "__builtins__" 171 (.ref 4),
 en P "__file__" 173 (.str "/claim/cut.py" 172),
 en P "__cached__" 174 .none]++TB.map fun r=>r.1 P).toArray 50,#[]⟩)::(TB.map fun r=>r.2).flatten++KC P
def HK:PySem.W.Hook:=kHook KK [3,20,21,27,28,34,35,41,42,46,47,51,52,56,57,63,64,70,71,77,78,82,83,89,90,96,97,101,102,108,109,115,116,122,123,127,128,132,133,184,185,189,190,196,197,203,204,208,209,213,214,220,221,225,226,230,231,237,238,244,245,251,252,258,259,265,266,270,271,275,276,282,283,287,288,294,295,301,302,306,307,146,147,151,152,158,159,163,164,173,174] (fun _=>by kernel_rfl)
theorem left:LeftO (PySem.W.OpenLaw.row PySem.Challenge.rw_stationrow_k50_one_case).prog qv [] (fun s=>xlAt qv [] s&&recOk (PySem.W.RowW.records (PySem.W.OpenLaw.row PySem.Challenge.rw_stationrow_k50_one_case).toRowW) s) (PySem.W.Hook.obs HK) (PySem.W.Hook.val HK) 3380:=by
 intro w;kernel_rfl
end M
namespace L2
abbrev Key:=Sum Int Str
def mH:Key->Value->Bool
 |.inl k,v=>Value.isInt k v
 |.inr x,v=>Value.isStrOf x v
def Ku (w:World):Key->Int
 |.inl k=>hashInt k
 |.inr x=>hashStr w x
theorem bN:∀{k:Key}{v:Value},mH k v=true->(∃i t,k=Sum.inl i/\v=Value.int i t)\/(∃x t,k=Sum.inr x/\v=Value.str x t)
 |.inl i,v,h=>by
  obtain⟨t,e⟩:=Value.isInt_shape (k:=i) (v:=v) h
  exact .inl ⟨i,t,rfl,e⟩
 |.inr x,v,h=>by
  obtain⟨t,e⟩:=Value.isStrOf_shape (x:=x) (v:=v) h
  exact .inr ⟨x,t,rfl,e⟩
theorem mJ (i:Int) (t:Tok):mH (.inl i) (.int i t)=true:=by simp [mH,Value.isInt]
theorem mK (x:Str) (t:Tok):mH (.inr x) (.str x t)=true:=by simp [mH,Value.isStrOf]
theorem Kv (a b:Int):decide ((Sum.inl a:Key)=Sum.inl b)=(a==b):=by
 by_cases e:a=b
 ·subst e;simp
 have h:¬(Sum.inl a:Key)=Sum.inl b:=fun q=>e (Sum.inl.inj q);rw[u_ h];exact (Yi.mpr e).symm
theorem Kz (a b:Str):decide ((Sum.inr a:Key)=Sum.inr b)=decide (a=b):=by
 by_cases e:a=b
 ·subst e;simp
 have h:¬(Sum.inr a:Key)=Sum.inr b:=fun q=>e (Sum.inr.inj q);rw[u_ h,u_ e]
theorem KD (a:Int) (b:Str):decide ((Sum.inl a:Key)=Sum.inr b)=false:=u_ (fun q=>nomatch q)
theorem KH (a:Str) (b:Int):decide ((Sum.inr a:Key)=Sum.inl b)=false:=u_ (fun q=>nomatch q)
def bx (prog:Program) (w:World):PySem.KeyKind prog w Key where
 is:=mH
 hash:=Ku w
 inj:=fun v a b f d=>by
  rcases bN f with ⟨i,t,rfl,rfl⟩ | ⟨x,t,rfl,rfl⟩
  ·
   rcases bN d with ⟨j,u,rfl,e⟩ | ⟨y,u,rfl,e⟩
   ·
    injection e with e1 _;rw[e1]
   ·
    exact nomatch e
  ·
   rcases bN d with ⟨j,u,rfl,e⟩ | ⟨y,u,rfl,e⟩
   ·
    exact nomatch e
   ·
    injection e with e1 _;rw[e1]
 byValue:=fun k v h=>by
  rcases bN h with ⟨i,t,rfl,rfl⟩ | ⟨x,t,rfl,rfl⟩ <;> rfl
 pyHash:=fun c h=>by
  rcases bN c with ⟨i,t,rfl,rfl⟩ | ⟨x,t,rfl,rfl⟩
  ·
   exact wpAny_pyHash_int h
  ·
   exact wpAny_pyHash_str h
 eqBool:=fun g c h=>by
  rcases bN g with ⟨i,t,rfl,rfl⟩ | ⟨x,t,rfl,rfl⟩
  ·
   rcases bN c with ⟨j,u,rfl,rfl⟩ | ⟨y,u,rfl,rfl⟩
   ·
    rw[Kv] at h;exact wpAny_eqBool_int h
   ·
    rw[KD] at h;exact SeqAt.EqAt.int_str i t y u _ _ _ _ h
  ·
   rcases bN c with ⟨j,u,rfl,rfl⟩ | ⟨y,u,rfl,rfl⟩
   ·
    rw[KH] at h;exact SeqAt.EqAt.str_int x t j u _ _ _ _ h
   ·
    rw[Kz] at h;exact wpAny_eqBool_str h
 «strs»:=fun k x t v h=>by
  rcases bN h with ⟨i,u,rfl,e⟩ | ⟨y,u,rfl,e⟩
  ·
   exact nomatch e
  ·
   injection e with e1 _
   subst e1
   cases v <;> rfl
theorem pZ (prog:Program) (w:World) (i:Int) (t:Tok):(bx prog w).is (.inl i) (.int i t)=true:=mJ i t
theorem qb (prog:Program) (w:World) (x:Str) (t:Tok):(bx prog w).is (.inr x) (.str x t)=true:=mK x t
inductive V where
 |non | bl (b:Bool) | int (i:Int) | str (x:Str) | byt (b:Array UInt8) | flt (b:UInt64) | ref (a:Addr) | ty (n:String)
 deriving DecidableEq
def RelV:V->Value->Prop
 |.non,u=>u=Value.none
 |.bl b,u=>u=Value.bool b
 |.int i,u=>∃t,u=Value.int i t
 |.str x,u=>∃t,u=Value.str x t
 |.byt b,u=>∃t,u=Value.bytes b t
 |.flt b,u=>∃t,u=Value.float b t
 |.ref a,u=>u=Value.ref a
 |.ty n,u=>u=Value.type n
abbrev Vals:List V->List Value->Prop:=Paired RelV
theorem Vals.length {xs:List V}{us:List Value}(r:Vals xs us):xs.length=us.length:=aaj r
theorem Vals.get:∀{xs:List V}{us:List Value}{i:Nat}{x:V},Vals xs us->xs[i]?=some x->∃u,us[i]?=some u/\RelV x u
 |_,_,_,_,.nil,e=>by simp at e
 |_,_,0,_,.cons r _,e=>by simp at e;subst e;exact⟨_,rfl,r⟩
 |_,_,i+1,x,.cons _ t,e=>by
  obtain⟨u,a,b⟩:=Vals.get (i:=i) (x:=x) t (by simpa using e)
  exact⟨u,by simpa using a,b⟩
theorem Vals.set {x:V}{u:Value}(r:RelV x u):∀{xs:List V}{us:List Value}(i:Nat),Vals xs us->Vals (xs.set i x) (us.set i u)
 |_,_,_,.nil=>.nil
 |_,_,0,.cons _ t=>.cons r t
 |_,_,i+1,.cons q t=>.cons q (Vals.set r i t)
theorem Vals.append:∀{xs ys:List V}{us ws:List Value},Vals xs us->Vals ys ws->Vals (xs++ys) (us++ws)
 |_,_,_,_,.nil,s=>s
 |_,_,_,_,.cons r t,s=>.cons r (Vals.append t s)
theorem Vals.take:∀{xs:List V}{us:List Value}(n:Nat),Vals xs us->Vals (xs.take n) (us.take n)
 |_,_,0,_=>.nil
 |_,_,_+1,.nil=>.nil
 |_,_,n+1,.cons r t=>.cons r (Vals.take n t)
theorem Vals.drop:∀{xs:List V}{us:List Value}(n:Nat),Vals xs us->Vals (xs.drop n) (us.drop n)
 |_,_,0,r=>r
 |_,_,_+1,.nil=>.nil
 |_,_,n+1,.cons _ t=>Vals.drop n t
theorem Vals.none_of:∀{xs:List V}{us:List Value}{i:Nat},Vals xs us->xs[i]?=none->us[i]?=none:=fun {xs us i} r e=>by
 have a:=r.length;have b:xs.length<=i:=List.getElem?_eq_none_iff.mp e;exact List.getElem?_eq_none_iff.mpr (by omega)
def RelO:Option V->Option Value->Prop
 |some v,some u=>RelV v u
 |none,none=>True
 |_,_=>False
def KV {a:Type}:List (a × V)->List (a × Value)->Prop:=Paired fun (p:a × V) (q:a × Value)=>p.1=q.1/\RelV p.2 q.2
def kV:Key->V
 |.inl i=>.int i
 |.inr x=>.str x
inductive HO where
 |lst (xs:List V)
 |tup (xs:List V)
 |dK (kvs:List (Key × V)) | dT (kvs:List (List Key × V))
 |set (S:Int->Bool) (n:Nat)
 |ins (C dx:Addr) (fs:List (Str × V))
 |own (x:Addr)
 |xd (fs:List (Str × V))
 |met (f x:Addr)
 |rng (lo hi:Int)
 |frz (o:Obj) (u:HO)
 |tbl (ps:Array Value)
 |ext (φ:Heap->Prop)
abbrev Hp:=Addr->Option HO
def upd (H:Hp) (a:Addr) (o:HO):Hp:=fun b=>if b=a then some o else H b
theorem cB {H:Hp}{a:Addr}{o:HO}:upd H a o a=some o:=by unfold upd;rw[if_pos rfl]
theorem aV {H:Hp}{a b:Addr}{o:HO}(h:b≠a):upd H a o b=H b:=by unfold upd;rw[if_neg h]
theorem Rh {H:Hp}{a b:Addr}{o u:HO}(h:H a=some o) (h':H b=some u) (d:o≠u):a≠b:=by
 intro e;subst e;rw[h] at h';exact d (Q_ h')
theorem bW {H:Hp}{a b:Addr}{o:HO}(h:H a=some o) (h':H b=none):a≠b:=by
 intro e;subst e;rw[h] at h';cases h'
def Tup0 (h:Heap) (a:Addr) (b:Array Value):Prop:=∃o,h.get? a=some o/\o.cls=.type "tuple"/\∃n,o.data=.seq b n/\o.dict=none
theorem Tup0.is {h:Heap}{a:Addr}{b:Array Value}(x:Tup0 h a b):IsTup h a b:=by
 obtain⟨o,c,e,n,d,_⟩:=x;exact⟨o,c,e,n,d⟩
theorem Tup0.new (h:Heap) (a:Array Value):Tup0 (h.push { cls:=.type "tuple",data:=.seq a}) h.objs.size a:=⟨_,v_ _ rfl,rfl,_,rfl,rfl⟩
section
variable (P:Program) (w:World)
def ObjOk (H:Hp) (h:Heap) (a:Addr):HO->Prop
 |.lst xs=>xs.length<=sizeLine/\∃(b:List Value) (n:Nat),Vals xs b/\h.get? a=some { cls:=.type "list",data:=.seq b.toArray n}
 |.tup xs=>xs.length<=sizeLine/\∃b:List Value,Vals xs b/\Tup0 h a b.toArray
 |.dK kvs=>kvs.length<=sizeLine/\(a==sysModules)=false/\∃vs,KV kvs vs/\h.DictOf (bx P w) a vs
 |.dT kvs=>kvs.length<=sizeLine/\(a==sysModules)=false/\∃xs:List (List Key × Addr × Value),
   Paired (fun (p:List Key × V) (q:List Key × Addr × Value)=>p.1=q.1/\H q.2.1=some (.tup (p.1.map kV))/\RelV p.2 q.2.2) kvs xs /\
   ∃o k l,h.get? a=some o/\o.ExactDict/\o.data=.dict k l/\k.toList=xs.map (entryOfKey (tupleKind (bx P w)))/\(xs.map (·.1)).Nodup
 |.set S n=>h.SetOf (intKind P w) a S n
 |.ins C e d=>H e=some (.own a)/\d.length<=1000/\e≠a/\h.get? a=some (instObj C e) /\
   ∃c,h.Ns1 e c/\(∀f,RelO (d.lookup f) (c f))/\PySem.Within c (d.map (·.1))
 |.own _=>∃o,h.get? a=some o
 |.xd d=>∃c,h.Ns1 a c/\∀f,RelO (d.lookup f) (c f)
 |.rng r m=>∃t u v,h.get? a=some { cls:=.type "range",data:=.fields #[.int r t,.int m u,.int 1 v]}
 |.frz o u=>h.get? a=some o/\ObjOk H h a u
 |.tbl ps=>h.get? a=some { cls:=.none,data:=.fields ps}
 |.met f x=>h.get? a=some (methodObj (.ref f) (.ref x))
 |.ext g=>g h/\(∃o,h.get? a=some o)/\∀j i:Heap,g j->(∀o,j.get? a=some o->i.get? a=some o)->g i
def HOk (H:Hp) (h:Heap):Prop:=∀a o,H a=some o->ObjOk P w H h a o
end
section
variable {P:Program}{w:World}{H H':Hp}{h h':Heap}{a:Addr}{o:HO}
theorem ObjOk.lt (x:ObjOk P w H h a o):a<h.objs.size:=by
 cases o with
 |lst xs=>obtain⟨_,_,_,_,e⟩:=x;exact x_ e
 |tup xs=>obtain⟨_,_,_,p⟩:=x;exact p.is.lt
 |dK kvs=>obtain⟨_,_,_,_,o,_,_,e,_⟩:=x;exact x_ e
 |dT kvs=>obtain⟨_,_,_,_,o,_,_,e,_⟩:=x;exact x_ e
 |set S n=>obtain⟨o,_,_,_,e,_⟩:=x;exact x_ e
 |ins C i b=>obtain⟨_,_,_,e,_⟩:=x;exact x_ e
 |own y=>obtain⟨_,e⟩:=x;exact x_ e
 |xd b=>obtain⟨_,⟨_,_,_,e,_⟩,_⟩:=x;exact x_ e
 |rng d c=>obtain⟨_,_,_,e⟩:=x;exact x_ e
 |frz j u=>obtain⟨e,_⟩:=x;exact x_ e
 |tbl ps=>exact x_ (show h.get? a=some _ from x)
 |met f y=>exact x_ (show h.get? a=some _ from x)
 |ext g=>obtain⟨_,⟨_,e⟩,_⟩:=x;exact x_ e
theorem Paired.mapP {d c:Type}{F G:d->c->Prop}:∀{l₁:List d}{l₂:List c},Paired F l₁ l₂->(∀a b,F a b->G a b)->Paired G l₁ l₂
 |_,_,.nil,_=>.nil
 |_,_,.cons r t,f=>.cons (f _ _ r) (Paired.mapP t f)
theorem ObjOk.stay (x:ObjOk P w H h a o) (k:∀b u,(b=a\/H b=some (.own a))->h.get? b=some u->h'.get? b=some u)
  (s:∀b,H b=some (.own a)->H' b=some (.own a)) (E:∀b xs,H b=some (.tup xs)->H' b=some (.tup xs)):ObjOk P w H' h' a o:=by
 induction o with
 |lst xs=>obtain⟨z,l,n,r,e⟩:=x;exact⟨z,l,n,r,k _ _ (.inl rfl) e⟩
 |tup xs=>obtain⟨z,l,r,g,e,c⟩:=x;exact⟨z,l,r,g,k _ _ (.inl rfl) e,c⟩
 |dK kvs=>obtain⟨z,y,vs,r,g,j,i,e,c⟩:=x;exact⟨z,y,vs,r,g,j,i,k _ _ (.inl rfl) e,c⟩
 |dT kvs=>obtain⟨z,y,xs,r,g,j,i,e,c⟩:=x;exact⟨z,y,xs,Paired.mapP r fun p q z=>⟨z.1,E _ _ z.2.1,z.2.2⟩,g,j,i,k _ _ (.inl rfl) e,c⟩
 |set S n=>obtain⟨g,j,i,t,e,c⟩:=x;exact⟨g,j,i,t,k _ _ (.inl rfl) e,c⟩
 |ins C K F=>obtain⟨d,z,B,e,m,⟨od,j,i,D,c⟩,r⟩:=x;exact⟨s _ d,z,B,k _ _ (.inl rfl) e,m,⟨od,j,i,k _ _ (.inr d) D,c⟩,r⟩
 |own y=>obtain⟨g,e⟩:=x;exact⟨g,k _ _ (.inl rfl) e⟩
 |xd F=>obtain⟨m,⟨od,j,i,e,c⟩,r⟩:=x;exact⟨m,⟨od,j,i,k _ _ (.inl rfl) e,c⟩,r⟩
 |rng I G=>obtain⟨t,u,v,e⟩:=x;exact⟨t,u,v,k _ _ (.inl rfl) e⟩
 |frz g u A=>obtain⟨e,q⟩:=x;exact⟨k _ _ (.inl rfl) e,A q⟩
 |tbl ps =>
  have e:h.get? a=some { cls:=.none,data:=.fields ps}:=x
  show h'.get? a=some { cls:=.none,data:=.fields ps}
  exact k a _ (.inl rfl) e
 |met f y =>
  have e:h.get? a=some (methodObj (.ref f) (.ref y)):=x
  show h'.get? a=some (methodObj (.ref f) (.ref y))
  exact k a _ (.inl rfl) e
 |ext J=>obtain⟨p,⟨o,e⟩,st⟩:=x;exact⟨st _ _ p fun o q=>k _ _ (.inl rfl) q,⟨o,k _ _ (.inl rfl) e⟩,st⟩
theorem HOk.lt (x:HOk P w H h) (e:H a=some o):a<h.objs.size:=(x a o e).lt
theorem HOk.fresh (x:HOk P w H h) (e:h.objs.size<=a):H a=none:=by
 cases q:H a with
 |none=>rfl
 |some u=>exact absurd (N_ (x.lt q) e) (Ye _)
theorem HOk.kept (x:HOk P w H h) (k:∀b u,h.get? b=some u->h'.get? b=some u):HOk P w H h':=fun a o e =>
 (x a o e).stay (fun b u _ q=>k b u q) (fun _ q=>q) fun _ _ q=>q
theorem HOk.laid (x:HOk P w H h) (k:∀b u,h.get? b=some u->h'.get? b=some u) (i:h.objs.size<=a) (d:ObjOk P w (upd H a o) h' a o):HOk P w (upd H a o) h':=fun b u e=>by
 have f:=x.fresh i;by_cases g:b=a
 ·subst g;rw[cB] at e;cases e;exact d
 rw[aV g] at e;exact (x b u e).stay (fun c v _ q=>k c v q) (fun c q=>by rw[aV (bW q f)];exact q) fun c xs q=>by rw[aV (bW q f)];exact q
end
def Rd (H:Hp) (a:Addr) (u:HO):Prop:=H a=some u\/∃o,H a=some (.frz o u)
theorem Rd.of {H:Hp}{a:Addr}{u:HO}(h:H a=some u):Rd H a u:=.inl h
theorem Rd.ok {P:Program}{w:World}{H:Hp}{h:Heap}{a:Addr}{u:HO}(r:Rd H a u) (x:HOk P w H h):ObjOk P w H h a u:=by
 rcases r with r | ⟨o,r⟩
 ·exact x a u r
 obtain⟨_,q⟩:=x a _ r;exact q
def Mut:Option HO->Prop
 |some (.lst _)=>True
 |some (.dK _)=>True
 |some (.dT _)=>True
 |some (.set _ _)=>True
 |some (.ins _ _ _)=>True
 |some (.ext _)=>True
 |_=>False
section
variable {P:Program}{w:World}{H:Hp}{h h':Heap}{x e:Addr}{o':HO}
theorem HOk.write (o:HOk P w H h) (mu:Mut (H x)) (n:e=x\/H e=some (.own x)) (k:∀b u,b≠e->h.get? b=some u->h'.get? b=some u) (j:∃u,h'.get? e=some u)
  (l:ObjOk P w (upd H x o') h' x o'):HOk P w (upd H x o') h':=fun b u q=>by
 have d:∀c y,H c=some (.own y)->c≠x:=fun c y r z=>by subst z;rw[r] at mu;exact mu
 have f:∀c xs,H c=some (.tup xs)->c≠x:=fun c xs r z=>by subst z;rw[r] at mu;exact mu
 by_cases g:b=x
 ·subst g;rw[cB] at q;cases q;exact l
 rw[aV g] at q;by_cases a:b=e
 ·have m:H b=some (.own x):=by
   rcases n with z | z
   ·exact absurd (a.trans z) g
   rw[a];exact z
  rw[q] at m;cases m;obtain⟨v,p⟩:=j;exact⟨v,by rw[a];exact p⟩
 refine (o b u q).stay (fun c v i r=>k c v ?_ r) (fun c r=>by rw[aV (d c b r)];exact r) fun c xs r=>by rw[aV (f c xs r)];exact r
 rcases i with rfl | i
 ·exact a
 rintro rfl;rcases n with z | z
 ·exact d c b i z
 rw[i] at z;cases z;exact g rfl
end
structure Un (fs ex:List Addr) (H H':Hp) (h h':Heap):Prop where
 keep:∀b o,h.get? b=some o->H b=none->b∉fs->b∉ex->h'.get? b=some o
 slot:∀b o,h.get? b=some o->H b=none->b∈fs->b∉ex->∃sl,h'.get? b=some { o with slots:=sl}
 free:∀b o,h.get? b=some o->H b=none->b∉ex->H' b=none
 there:∀b o,h.get? b=some o->b∉ex->∃o',h'.get? b=some o'
 tups:∀b xs,H b=some (.tup xs)->H' b=some (.tup xs)
 frzs:∀b o u,H b=some (.frz o u)->H' b=some (.frz o u)
 tbls:∀b ps,H b=some (.tbl ps)->∃more,H' b=some (.tbl (ps++more))
section
variable {fs fs' ex ex':List Addr}{H H1 H2:Hp}{h h1 h2 h':Heap}{a x e:Addr}{o:HO}
theorem Un.any (u:Un fs ex H H1 h h1) {b:Addr}{ob:Obj}(q:h.get? b=some ob) (n:H b=none) (c:b∉ex):∃d,h1.get? b=some { ob with slots:=d}:=by
 by_cases a:b∈fs
 ·exact u.slot b ob q n a c
 exact⟨ob.slots,u.keep b ob q n a c⟩
theorem Un.trans (a:Un fs ex H H1 h h1) (b:Un fs ex H1 H2 h1 h2):Un fs ex H H2 h h2 where
 keep:=fun c d q n g e=>b.keep c d (a.keep c d q n g e) (a.free c d q n e) g e
 slot:=fun c d q n g e=>by
  obtain⟨o,f⟩:=a.slot c d q n g e
  obtain⟨k,j⟩:=b.slot c _ f (a.free c d q n e) g e
  exact⟨k,j⟩
 free:=fun c d q n e=>by
  obtain⟨i,f⟩:=a.there c d q e
  exact b.free c i f (a.free c d q n e) e
 there:=fun c d q e=>by
  obtain⟨i,f⟩:=a.there c d q e
  exact b.there c i f e
 tups:=fun c xs q=>b.tups c xs (a.tups c xs q)
 frzs:=fun c d xs q=>b.frzs c d xs (a.frzs c d xs q)
 tbls:=fun c ps q=>by
  obtain⟨m,f⟩:=a.tbls c ps q
  obtain⟨l,j⟩:=b.tbls c _ f
  exact⟨m++l,by rw[j,Array.append_assoc]⟩
theorem Un.kept (k:∀b u,h.get? b=some u->h'.get? b=some u):Un fs ex H H h h' :=
 ⟨fun b a q _ _ _=>k b a q,fun b a q _ _ _=>⟨a.slots,k b a q⟩,fun _ _ _ n _=>n,fun b a q _=>⟨a,k b a q⟩,fun _ _ q=>q,fun _ _ _ q=>q,fun _ ps q=>⟨#[],by rw[q];simp⟩⟩
theorem Un.refl:Un fs ex H H h h:=Un.kept fun _ _ q=>q
theorem Un.laid (k:∀b u,h.get? b=some u->h'.get? b=some u) (d:h.objs.size<=a) (c:H a=none):Un fs ex H (upd H a o) h h' where
 keep:=fun b u q _ _ _=>k b u q
 slot:=fun b u q _ _ _=>⟨u.slots,k b u q⟩
 free:=fun b u q n _=>by rw[aV (F_ (N_ (x_ q) d))];exact n
 there:=fun b u q _=>⟨u,k b u q⟩
 tups:=fun b xs q=>by rw[aV (bW q c)];exact q
 frzs:=fun b u xs q=>by rw[aV (bW q c)];exact q
 tbls:=fun b ps q=>⟨#[],by rw[aV (bW q c),q];simp⟩
theorem Un.write (mu:Mut (H x)) (i:e=x\/H e=some (.own x)) (k:∀b u,b≠e->h.get? b=some u->h'.get? b=some u) (c:∃u,h'.get? e=some u):Un fs ex H (upd H x o) h h':=by
 have g:∀b,H b=none->b≠x:=fun b n z=>by subst z;rw[n] at mu;exact mu
 have f:∀b,H b=none->b≠e:=fun b n z=>by
  subst z;rcases i with r | r
  ·exact g b n r
  rw[n] at r;cases r
 have d:∀b u,H b=some u->¬Mut (some u)->b≠x:=fun b u q nm z=>by subst z;rw[q] at mu;exact nm mu
 refine⟨fun b u q n _ _=>k b u (f b n) q,fun b u q n _ _=>⟨u.slots,k b u (f b n) q⟩,fun b u q n _=>by rw[aV (g b n)];exact n,fun b u q _=>?_,
  fun b xs q=>by rw[aV (d b _ q fun z=>z)];exact q,fun b u xs q=>by rw[aV (d b _ q fun z=>z)];exact q,fun b ps q=>⟨#[],by rw[aV (d b _ q fun z=>z),q];simp⟩⟩
 by_cases a:b=e
 ·subst a;exact c
 exact⟨u,k b u a q⟩
theorem Un.mono (u:Un fs ex H H1 h h1) (e:∀b∈fs,b∈fs') (d:∀b∈ex,b∈ex'):Un fs' ex' H H1 h h1 :=
 ⟨fun b c q n f a=>u.keep b c q n (fun z=>f (e b z)) fun z=>a (d b z),fun _ _ q n _ a=>u.any q n fun z=>a (d _ z),fun b c q n a=>u.free b c q n fun z=>a (d b z),fun b c q a=>u.there b c q fun z=>a (d b z),u.tups,u.frzs,u.tbls⟩
end
def trk (h:Heap) (H:Hp):List Addr:=(List.range h.objs.size).filter fun a=>(H a).isSome
def nR (h:Heap) (H:Hp):Heap:=PySem.W.hideAll h (trk h H)
theorem xx (h:Heap) (H:Hp):(nR h H).objs.size=h.objs.size:=PySem.W.hideAll_size _ _
theorem yL {h:Heap}{H:Hp}{b:Addr}{o:Obj}(e:h.get? b=some o) (n:H b=none):(nR h H).get? b=some o :=
 PySem.W.hideAll_get _ e fun a=>by
  have q:(H b).isSome=true:=(E_.mp a).2;rw[n] at q;simp at q
theorem Ei {h:Heap}{H:Hp}{b:Addr}{o:Obj}(e:(nR h H).get? b=some o):h.get? b=some o/\H b=none:=by
 have a:h.get? b=some o:=PySem.W.of_hideAll (trk h H) e;refine⟨a,?_⟩;cases q:H b with
 |none=>rfl
 |some x =>
  have c:b∈trk h H:=E_.mpr ⟨X7.mpr (x_ a),by simp [q]⟩
  have z:(nR h H).get? b=none:=PySem.W.hideAll_none (trk h H) c
  rw[z] at e;cases e
def Ej (g h : Heap) (L : Addr) : List (Addr × Obj):=(List.range h.objs.size).filterMap fun a => if a = L \/ (g.get? a).isSome = true then none else (h.get? a).map fun o => (a,o)
def rest (g h:Heap) (L d:Addr):List (Addr × Obj):=(Ej g h L).filter fun p=>decide (p.1≠d)
structure Mod (K:Frag) (mg:Str->Option Value) (base:Heap):Prop where
 kin:K.In base
 glob:base.Ns mainGlobals mg
 blt:∃mb,base.Ns builtinsNs mb/\∀x:Str,x≠"__name__"->mb x=bootBuiltins x
 nolimit:base.NoLimit
structure Cx where
 prog:Program
 w:World
 K:Frag
 mg:Str->Option Value
 base:Heap
 A:Around
 N:List Str
 s₀:Shared
 H₀:Hp
 env:Env
 outer:List Env
 stack:List Env
 ex:List Addr
 fn:Str->Bool
 calm:Bool
 pn:List (Addr × Obj)
 xe:Value->Shared->Prop
def frs (l : List Env) : List Addr:=l.filterMap (·.frame)
abbrev Cx.fs (X:Cx):List Addr:=frs X.outer
def Vis (a:Scope) (x:Str):Prop:=a.names.lookup x=some .local\/a.names.lookup x=some .cell\/a.names.lookup x=some .free
def Loc (a:Scope) (x:Str):Prop:=a.names.lookup x=some .local\/a.names.lookup x=some .cell
def Look (env:Env) (h:Heap) (m:Str->Option Value) (x:Str) (u:Value):Prop :=
 (env.kindOf x=some .local/\m x=some u)\/((env.kindOf x=some .cell\/env.kindOf x=some .free)/\∃c,env.cells.lookup x=some c/\h.IsCell c (some u))
structure Cx.Ok (X:Cx):Prop where
 mod:Mod X.K X.mg X.base
 kind:X.env.scope.kind=.function
 glob:X.env.globals=mainGlobals
 blt:X.env.builtins=builtinsNs
 above:X.s₀.heap.objs.size<=X.env.locals
 inj:∀x y c,X.env.cells.lookup x=some c->X.env.cells.lookup y=some c->x=y
 has:∀x,(X.env.kindOf x=some .cell\/X.env.kindOf x=some .free)->∃c,X.env.cells.lookup x=some c
 cab:∀x c,X.fn x=true->X.env.cells.lookup x=some c->X.s₀.heap.objs.size<=c
 hd:X.calm=true->X.A.handled=none
 frames:X.A.frames=some X.stack
 stk:X.stack=X.outer\/(X.stack=X.env::X.outer/\X.env.frame=some X.env.locals)
 exf:∀b∈X.ex,b≠X.env.locals/\∀x c,X.env.cells.lookup x=some c->c≠b
 bs:∀b o,X.base.get? b=some o->X.s₀.heap.get? b=some o/\X.H₀ b=none
 bsz:X.base.objs.size<=X.s₀.heap.objs.size
 noex:∀b o,X.base.get? b=some o->b∉X.ex
 exfs:∀b∈X.ex,b∉X.fs
 funs:X.s₀.heap.FunFrames X.base X.outer
 frf:∀b∈X.fs,X.H₀ b=none
structure Inv (X:Cx) (pins:List (Addr × Obj)) (Z:List (Option V)) (H:Hp) (s:Shared):Prop where
 ok:X.Ok
 os:s.os=X.s₀.os
 bare:AllBare s.gens
 base:Un X.fs X.ex X.H₀ H X.s₀.heap s.heap
 loc:∃m,s.heap.Ns X.env.locals m/\∀(i:Nat) (x:Str) (v:V),X.N[i]?=some x->Z[i]?=some (some v)->Vis X.env.scope x->∃u,RelV v u/\Look X.env s.heap m x u
 cell:∀x c,X.env.cells.lookup x=some c->∃v,s.heap.IsCell c v
 free:H X.env.locals=none
 freeC:∀x c,X.env.cells.lookup x=some c->H c=none
 pin:∀p∈X.pn++pins,s.heap.get? p.1=some p.2/\H p.1=none/\p.1≠X.env.locals/\p.1∉X.fs/\∀v,p.2.data≠.cell v
 hok:HOk X.prog X.w H s.heap
 len:Z.length=X.N.length
section
variable {X:Cx}{pins:List (Addr × Obj)}{Z:List (Option V)}{H H':Hp}{s:Shared}{h':Heap}
theorem Cx.Ok.nofr (a:X.Ok) {b:Addr}{o:Obj}(e:X.base.get? b=some o):b∉X.fs:=fun c=>by
 have:=(a.funs.mem c).1;rw[e] at this;cases this
theorem Inv.bs (I:Inv X pins Z H s):∀b o,X.base.get? b=some o->s.heap.get? b=some o/\H b=none:=fun b o e =>
 ⟨I.base.keep b o (I.ok.bs b o e).1 (I.ok.bs b o e).2 (I.ok.nofr e) (I.ok.noex b o e),I.base.free b o (I.ok.bs b o e).1 (I.ok.bs b o e).2 (I.ok.noex b o e)⟩
theorem Inv.bk (I:Inv X pins Z H s):∀b o,X.base.get? b=some o->s.heap.get? b=some o:=fun b o e=>(I.bs b o e).1
theorem Inv.mod (I:Inv X pins Z H s):Mod X.K X.mg X.base:=I.ok.mod
theorem Inv.kIn (I:Inv X pins Z H s):X.K.In s.heap:=I.ok.mod.kin.keeps I.bk
theorem Inv.nolimit (I:Inv X pins Z H s):s.heap.NoLimit:=I.ok.mod.nolimit.keeps I.bk
theorem Inv.fr (I:Inv X pins Z H s):∃m,Fr X.base X.env.locals s.heap m :=
 let ⟨m,hn,_⟩:=I.loc
 ⟨m,hn,I.bk,L_ I.ok.bsz I.ok.above⟩
theorem Inv.lt (I:Inv X pins Z H s):X.env.locals<s.heap.objs.size:=let ⟨_,hn,_⟩:=I.loc;hn.lt
theorem Inv.sz (I:Inv X pins Z H s):X.s₀.heap.objs.size<=s.heap.objs.size:=L_ I.ok.above (Y0 I.lt)
theorem Inv.nofs (I:Inv X pins Z H s) {a:Addr}(h:s.heap.objs.size<=a):a∉X.fs:=fun b=>by
 obtain⟨_,o,c,_⟩:=I.ok.funs.mem b;exact absurd (N_ (x_ c) (L_ I.sz h)) (Ye _)
theorem Inv.cne (I:Inv X pins Z H s):∀x c,X.env.cells.lookup x=some c->c≠X.env.locals:=fun x c e z=>by
 obtain⟨v,o,d,f⟩:=I.cell x c e;obtain⟨m,⟨h,i,g,b,a,_⟩,_⟩:=I.loc;rw[z,b] at d;cases d;rw[a] at f;cases f
theorem Inv.funs (I:Inv X pins Z H s):s.heap.FunFrames X.base X.outer:=by
 have f:∀(l:List Env),(∀b∈frs l,b∈X.fs)->X.s₀.heap.FunFrames X.base l->s.heap.FunFrames X.base l:=by
  intro l;induction l with
  |nil=>intro _ _;trivial
  |cons env r p =>
  intro g n;obtain ⟨m,⟨L,o,a,h,i,j⟩,k⟩:=n;have c : L ∈ X.fs:=g L (by unfold frs; rw [List.filterMap_cons,a]; exact k_);obtain ⟨q,e⟩:=I.base.slot L o i (I.ok.frf L c) c fun z => I.ok.exfs L z c;exact ⟨m,⟨L,_,a,h,e,j⟩,p (fun b d => g b (by unfold frs; rw [List.filterMap_cons,a]; exact h_ _ d)) k⟩
 exact f X.outer (fun _ d=>d) I.ok.funs
theorem Inv.stack (I:Inv X pins Z H s):s.heap.FunFrames X.base X.stack:=by
 rcases I.ok.stk with e | ⟨e,b⟩
 ·rw[e];exact I.funs
 rw[e];obtain⟨m,a,_⟩:=I.loc;refine .cons (by rw[I.ok.kind];decide) b a ?_ I.funs;exact Heap.get?_none_of_le (L_ I.ok.bsz I.ok.above)
theorem Inv.stkSub (I:Inv X pins Z H s):∀b∈frs X.stack,b∈X.env.locals::X.fs:=fun b a=>by
 rcases I.ok.stk with e | ⟨e,c⟩
 ·rw[e] at a;exact h_ _ a
 rw [e] at a;unfold frs at a;rw [List.filterMap_cons,c] at a;exact a
theorem Inv.stkFree (I:Inv X pins Z H s):∀b∈frs X.stack,H b=none:=fun b a=>by
 rcases j_.mp (I.stkSub b a) with e | a
 ·rw[e];exact I.free
 obtain⟨_,o,c,_⟩:=I.ok.funs.mem a;exact I.base.free b o c (I.ok.frf b a) fun z=>I.ok.exfs b z a
theorem Inv.step {g':Array GenState}{t':Nat}{d':Drawn}{ch:List Addr}(I:Inv X pins Z H s)
  (t:∀b∈ch,(b∈X.ex\/X.s₀.heap.objs.size<=b)/\b≠X.env.locals/\(∀x c,X.env.cells.lookup x=some c->c≠b)/\∀p∈X.pn++pins,p.1≠b)
  (h:∀b o,b≠X.env.locals->b∉X.fs->b∉ch->s.heap.get? b=some o->H b=none->h'.get? b=some o)
  (B:∀b o,b≠X.env.locals->b∈X.fs->b∉ch->s.heap.get? b=some o->H b=none->∃P,h'.get? b=some { o with slots:=P}) (f:∀b o,b∉ch->s.heap.get? b=some o->H b=none->H' b=none)
  (C:∀b o,b∉ch->s.heap.get? b=some o->∃J,h'.get? b=some J)
  (F:∀b xs,H b=some (.tup xs)->H' b=some (.tup xs)) (K:∀b o u,H b=some (.frz o u)->H' b=some (.frz o u)) (L:∀b ps,H b=some (.tbl ps)->∃more,H' b=some (.tbl (ps++more)))
  (ns:∀m,s.heap.Ns X.env.locals m->h'.Ns X.env.locals m) (O:HOk X.prog X.w H' h') (hg:AllBare g') :
  Inv X pins Z H' { s with heap:=h',gens:=g',drawn:=d',toks:=t'}:=by
 have M:∀b o,X.s₀.heap.get? b=some o->b≠X.env.locals:=fun b o e=>F_ (N_ (x_ e) I.ok.above);have y:∀b o,X.s₀.heap.get? b=some o->b∉X.ex->b∉ch:=fun b o e a D=>by
  rcases (t b D).1 with z | z
  ·exact a z
  exact absurd (N_ (x_ e) z) (Ye _)
 have j:∀x c,X.env.cells.lookup x=some c->∀v,s.heap.IsCell c v->h'.IsCell c v:=fun x c e v ⟨o,E,N⟩=>by
  have g:c∉ch:=fun z=>(t c z).2.2.1 x c e rfl;by_cases R:c∈X.fs
  ·obtain⟨P,q⟩:=B c o (I.cne x c e) R g E (I.freeC x c e);exact⟨_,q,N⟩
  exact⟨o,h c o (I.cne x c e) R g E (I.freeC x c e),N⟩
 refine⟨I.ok,I.os,hg,⟨fun b o e n D a=>?_,fun b o e n D a=>?_,fun b o e n a=>?_,fun b o e a=>?_,fun b xs e=>F b xs (I.base.tups b xs e),fun b o xs e=>K b o xs (I.base.frzs b o xs e),fun b ps e=>?_⟩,?_,fun x c e=>?_,?_,fun x c e=>?_,fun p U=>?_,O,I.len⟩
 ·exact h b o (M b o e) D (y b o e a) (I.base.keep b o e n D a) (I.base.free b o e n a)
 ·obtain⟨P,A⟩:=I.base.slot b o e n D a;obtain⟨Q,G⟩:=B b _ (M b o e) D (y b o e a) A (I.base.free b o e n a);exact⟨Q,G⟩
 ·obtain⟨J,A⟩:=I.base.there b o e a;exact f b J (y b o e a) A (I.base.free b o e n a)
 ·obtain⟨J,A⟩:=I.base.there b o e a;exact C b J (y b o e a) A
 ·obtain⟨W,A⟩:=I.base.tbls b ps e;obtain⟨m2,G⟩:=L b _ A;exact⟨W++m2,by rw[G,Array.append_assoc]⟩
 ·obtain⟨m,V,Y⟩:=I.loc;refine⟨m,ns m V,fun i x v A G e3=>?_⟩;obtain⟨u,r,l⟩:=Y i x v A G e3;refine⟨u,r,?_⟩;rcases l with l | ⟨k,c,e,z⟩
  ·exact .inl l
  exact .inr ⟨k,c,e,j x c e _ z⟩
 ·obtain⟨v,z⟩:=I.cell x c e;exact⟨v,j x c e v z⟩
 ·obtain⟨m,⟨o,_,_,E,_⟩,_⟩:=I.loc;exact f _ o (fun z=>(t _ z).2.1 rfl) E I.free
 ·obtain⟨v,o,E,N⟩:=I.cell x c e;exact f c o (fun z=>(t c z).2.2.1 x c e rfl) E (I.freeC x c e)
 obtain⟨e,n,S,T,d⟩:=I.pin p U;have g:p.1∉ch:=fun z=>(t p.1 z).2.2.2 p U rfl;exact⟨h p.1 p.2 S T g e n,f p.1 p.2 g e n,S,T,d⟩
theorem Inv.un {t':Nat}(I:Inv X pins Z H s) (u:Un X.fs [] H H' s.heap h') (c:HOk X.prog X.w H' h'):Inv X pins Z H' { s with heap:=h',toks:=t'}:=by
 obtain⟨m,⟨o,v,l,h,r⟩,_⟩:=id I.loc;obtain⟨p,j⟩:=u.any h I.free (by simp);exact I.step (g':=s.gens) (d':=s.drawn) (ch:=[]) (fun _ z=>nomatch z) (fun b o _ g _ e n=>u.keep b o e n g (by simp)) (fun b o _ g _ e n=>u.slot b o e n g (by simp)) (fun b o _ e n=>u.free b o e n (by simp)) (fun b o _ e=>u.there b o e (by simp)) u.tups u.frzs u.tbls (fun t i=>by
  obtain⟨q,d,f,a,k⟩:=i
  rw[h] at a;cases a
  exact⟨_,d,f,j,k⟩) c I.bare
theorem Inv.call {g':Array GenState}{t':Nat}{d':Drawn}{ch:List Addr}(I:Inv X pins Z H s) (u:Un (frs X.stack) ch H H' s.heap h') (g:HOk X.prog X.w H' h') (t:AllBare g')
  (f:∀b∈ch,(b∈X.ex\/X.s₀.heap.objs.size<=b)/\b≠X.env.locals/\(∀x c,X.env.cells.lookup x=some c->c≠b)/\∀p∈X.pn++pins,p.1≠b) :
  Inv X pins Z H' { s with heap:=h',gens:=g',drawn:=d',toks:=t'}:=by
 obtain⟨m,⟨o,D,y,k,r⟩,_⟩:=id I.loc;obtain⟨A,j⟩:=u.any k I.free fun z=>(f _ z).2.1 rfl;exact I.step (ch:=ch) f (fun b o j q a e n=>u.keep b o e n (fun z=>(j_.mp (I.stkSub b z)).elim j q) a) (fun b o _ _ a e n=>u.any e n a) (fun b o a e n=>u.free b o e n a) (fun b o a e=>u.there b o e a) u.tups u.frzs u.tbls (fun C l=>by
  obtain⟨B,h,i,d,v⟩:=l
  rw[k] at d;cases d
  exact⟨_,h,i,j,v⟩) g t
theorem Inv.turned {t':Nat}{it:Addr}(I:Inv X pins Z H s) (k:∀b o,b≠it->s.heap.get? b=some o->h'.get? b=some o) (g:H it=none) (f:it≠X.env.locals)
  (t:it∈X.ex\/X.s₀.heap.objs.size<=it) (j:∀x c,X.env.cells.lookup x=some c->c≠it) (y:∀p∈X.pn++pins,p.1≠it):Inv X pins Z H { s with heap:=h',toks:=t'}:=by
 have d:∀b u,H b=some u->b≠it:=fun b u e z=>by rw[z,g] at e;cases e
 refine I.step (g':=s.gens) (d':=s.drawn) (ch:=[it]) (fun b A=>?_) (fun b o _ _ a e _=>k b o (fun z=>a (by simp [z])) e) (fun b o _ _ a e _=>⟨o.slots,k b o (fun z=>a (by simp [z])) e⟩) (fun _ _ _ _ n=>n)
  (fun b o a e=>⟨o,k b o (fun z=>a (by simp [z])) e⟩) (fun _ _ e=>e) (fun _ _ _ e=>e) (fun b ps e=>⟨#[],by rw[e];simp⟩) (fun m l=>?_) (fun b u e=>?_) I.bare
 ·have e:b=it:=by simpa using A
  subst e;exact⟨t,f,j,y⟩
 ·obtain⟨o,w,h,i,r⟩:=l;exact⟨o,w,h,k _ o (Ne.symm f) i,r⟩
 refine (I.hok b u e).stay (fun c v a q=>k c v ?_ q) (fun _ q=>q) fun _ _ q=>q;rcases a with z | z
 ·rw[z];exact d b u e
 exact d c _ z
theorem Inv.tok (I:Inv X pins Z H s) (t:Nat):Inv X pins Z H { s with toks:=t}:=I.un (h':=s.heap) (t':=t) Un.refl I.hok
theorem Inv.kept {t':Nat}(I:Inv X pins Z H s) (k:∀b u,s.heap.get? b=some u->h'.get? b=some u):Inv X pins Z H { s with heap:=h',toks:=t'}:=I.un (Un.kept k) (I.hok.kept k)
theorem Inv.laid {a:Addr}{o:HO}{t':Nat}(I:Inv X pins Z H s) (k:∀b u,s.heap.get? b=some u->h'.get? b=some u) (d:s.heap.objs.size<=a) (c:ObjOk X.prog X.w (upd H a o) h' a o) :
  Inv X pins Z (upd H a o) { s with heap:=h',toks:=t'}:=I.un (Un.laid k d (I.hok.fresh d)) (I.hok.laid k d c)
theorem Inv.write {x e:Addr}{o:HO}{t':Nat}(I:Inv X pins Z H s) (mu:Mut (H x)) (d:e=x\/H e=some (.own x)) (k:∀b u,b≠e->s.heap.get? b=some u->h'.get? b=some u) (a:∃u,h'.get? e=some u)
  (c:ObjOk X.prog X.w (upd H x o) h' x o):Inv X pins Z (upd H x o) { s with heap:=h',toks:=t'}:=I.un (Un.write mu d k a) (I.hok.write mu d k a c)
theorem Inv.pins_of {pins':List (Addr × Obj)}(I:Inv X pins Z H s) (h:∀p∈pins',s.heap.get? p.1=some p.2/\H p.1=none/\p.1≠X.env.locals/\p.1∉X.fs/\∀v,p.2.data≠.cell v):Inv X pins' Z H s :=
 ⟨I.ok,I.os,I.bare,I.base,I.loc,I.cell,I.free,I.freeC,fun p a=>(B_.mp a).elim (fun z=>I.pin p (Yk _ z)) (h p),I.hok,I.len⟩
theorem qd {N:List Str}(c:N.Nodup) {i j:Nat}{x:Str}(a:N[i]?=some x) (b:N[j]?=some x):i=j:=by
 obtain⟨g,e⟩:=YK.mp a;obtain⟨f,d⟩:=YK.mp b;exact (List.getElem_inj c).mp (e.trans d.symm)
theorem mL {M:Model}{A:Around}{E:Value->Shared->Prop}{i:Nat}{x:Str}{v:V}{u:Value}{Q:Unit->Shared->Prop}(I:Inv X pins Z H s) (hN:X.N.Nodup) (P:X.N[i]?=some x) (B:Loc X.env.scope x) (r:RelV v u)
  (h:∀s',Inv X pins (Z.set i (some v)) H s'->(∃a,Heap.SameBut a s.heap s'.heap/\(a=X.env.locals\/X.env.cells.lookup x=some a))->Q () s') (hf:X.fn x=true\/X.env.scope.names.lookup x=some .local:=by first | exact .inl rfl | exact .inr rfl | assumption):wpAny M A (storeName X.env x u) Q E s:=by
 obtain⟨m,hn,hl⟩:=id I.loc;have O:(X.env.scope.kind==.class||(X.env.scope.kind==.module&&X.env.locals != X.env.globals))=false:=by rw[I.ok.kind];rfl
 have S:i<Z.length:=by rw[I.len];exact (YK.mp P).1
 have L:=I.cne;have l:∀{a:Addr} {h':Heap},(∃o,s.heap.get? a=some o/\H a=none)->Heap.SameBut a s.heap h'->HOk X.prog X.w H h':=fun {a h'} ha f b ob e=>by
  obtain⟨_,_,C⟩:=ha;refine (I.hok b ob e).stay (fun c Y t q=>(f.2 c ?_).trans q) (fun _ q=>q) fun _ _ q=>q;rintro rfl;rcases t with rfl | t
  ·rw[C] at e;cases e
  rw[C] at t;cases t
 rcases B with F | F
 ·refine wpAny_storeName_local F hn (fun h' hn' f=>?_) O;obtain⟨oL,_,_,hoL,_⟩:=id hn;refine h _ ⟨I.ok,I.os,I.bare,⟨fun b o e n G B=>?_,fun b o e n G B=>?_,I.base.free,fun b o e B=>?_,I.base.tups,I.base.frzs,I.base.tbls⟩,⟨_,hn',fun j y v' g D e3=>?_⟩,fun y c e=>?_,I.free,I.freeC,fun p hp=>?_,l ⟨oL,hoL,I.free⟩ f,by simpa using I.len⟩ ⟨_,f,.inl rfl⟩
  ·exact (f.2 b (F_ (N_ (x_ e) I.ok.above))).trans (I.base.keep b o e n G B)
  ·obtain⟨sl,g⟩:=I.base.slot b o e n G B;exact⟨sl,(f.2 b (F_ (N_ (x_ e) I.ok.above))).trans g⟩
  ·obtain⟨o',g⟩:=I.base.there b o e B;exact⟨o',(f.2 b (F_ (N_ (x_ e) I.ok.above))).trans g⟩
  ·by_cases J:j=i
   ·subst J;rw[P] at g;cases g;rw[Zf S] at D;cases D;exact⟨u,r,.inl ⟨F,by simp⟩⟩
   rw[ZC (Ne.symm J)] at D;obtain⟨u',r',q⟩:=hl j y v' g D e3;refine⟨u',r',?_⟩;rcases q with ⟨k,e⟩ | ⟨k,c,e,z⟩
   ·refine .inl ⟨k,?_⟩;have:y≠x:=fun e=>J (qd hN g (e▸P));simp [this,e]
   exact .inr ⟨k,c,e,z.sameBut f (L y c e)⟩
  ·obtain⟨Y,z⟩:=I.cell y c e;exact⟨Y,z.sameBut f (L y c e)⟩
  obtain⟨e,n,ne,nf,d⟩:=I.pin p hp;exact⟨(f.2 p.1 ne).trans e,n,ne,nf,d⟩
 have K:X.fn x=true:=by
  rcases hf with z | z
  ·exact z
  rw[z] at F;cases F
 obtain⟨c,t⟩:=I.ok.has x (.inl F);obtain⟨Y,z⟩:=I.cell x c t;refine wpAny_storeName_cell I.ok.kind F t z (fun h' U f=>?_);obtain⟨oc,R,T⟩:=id z;refine h { s with heap:=h'} ⟨I.ok,I.os,I.bare,⟨fun b o e n G B=>?_,fun b o e n G B=>?_,I.base.free,fun b o e B=>?_,I.base.tups,I.base.frzs,I.base.tbls⟩,⟨m,hn.sameBut f (Ne.symm (L x c t)),fun j y v' g D e3=>?_⟩,fun y c' e=>?_,I.free,I.freeC,fun p hp=>?_,l ⟨oc,R,I.freeC x c t⟩ f,by simpa using I.len⟩ ⟨c,f,.inr t⟩
 ·exact (f.2 b (F_ (N_ (x_ e) (I.ok.cab x c K t)))).trans (I.base.keep b o e n G B)
 ·obtain⟨sl,g⟩:=I.base.slot b o e n G B;exact⟨sl,(f.2 b (F_ (N_ (x_ e) (I.ok.cab x c K t)))).trans g⟩
 ·obtain⟨o',g⟩:=I.base.there b o e B;exact⟨o',(f.2 b (F_ (N_ (x_ e) (I.ok.cab x c K t)))).trans g⟩
 ·by_cases J:j=i
  ·subst J;rw[P] at g;cases g;rw[Zf S] at D;cases D;exact⟨u,r,.inr ⟨.inl F,c,t,U⟩⟩
  rw[ZC (Ne.symm J)] at D;obtain⟨u',r',q⟩:=hl j y v' g D e3;refine⟨u',r',?_⟩;rcases q with q | ⟨k,c',e,z'⟩
  ·exact .inl q
  refine .inr ⟨k,c',e,z'.sameBut f ?_⟩;rintro rfl;exact J (qd hN g (I.ok.inj _ _ _ e t▸P))
 ·by_cases W:c'=c
  ·subst W;exact⟨_,U⟩
  obtain⟨w2,z2⟩:=I.cell y c' e;exact⟨w2,z2.sameBut f W⟩
 obtain⟨e,n,ne,nf,d⟩:=I.pin p hp;refine⟨(f.2 p.1 ?_).trans e,n,ne,nf,d⟩;intro q;rw[q,R] at e;have q':oc=p.2:=Q_ e;exact d Y (by rw[<- q'];exact T)
theorem qe {M:Model}{A:Around}{E:Value->Shared->Prop}{i:Nat}{x:Str}{v:V}{u:Value}{Q:Unit->Shared->Prop}(I:Inv X pins Z H s) (b:X.N.Nodup) (c:X.N[i]?=some x) (e:Loc X.env.scope x) (r:RelV v u)
  (h:∀s',Inv X pins (Z.set i (some v)) H s'->Q () s') (d:X.fn x=true\/X.env.scope.names.lookup x=some .local:=by first | exact .inl rfl | exact .inr rfl | assumption):wpAny M A (storeName X.env x u) Q E s :=
 mL I b c e r (fun s' a _=>h s' a) d
theorem Inv.call' {s':Shared}{ch:List Addr}(I:Inv X pins Z H s) (f:s'.os=s.os) (u:Un (frs X.stack) ch H H' s.heap s'.heap) (a:HOk X.prog X.w H' s'.heap) (h:AllBare s'.gens)
  (d:∀b∈ch,(b∈X.ex\/X.s₀.heap.objs.size<=b)/\b≠X.env.locals/\(∀x c,X.env.cells.lookup x=some c->c≠b)/\∀p∈X.pn++pins,p.1≠b):Inv X pins Z H' s':=by
 obtain⟨h',g',d',t',g⟩:=s';have e:g=s.os:=f;subst e;exact I.call (g':=g') (t':=t') (d':=d') u a h d
end
abbrev XK:=Value->Option Addr->Hp->Prop
abbrev St:=List (Option V)
abbrev VK:=V->Hp->Prop
abbrev TE:=St->Hp->VK->Prop
abbrev TT:=St->Hp->(Bool->Hp->Prop)->Prop
abbrev TA:=St->Hp->(List V->Hp->Prop)->Prop
structure Ends where
 nx:St->Hp->Prop
 rt:VK
 bk:St->Hp->Prop:=fun _ _=>False
 ct:St->Hp->Prop:=fun _ _=>False
abbrev TS:=Ends->St->Hp->Prop
def EP (X:Cx) (a:List (Addr × Obj)) (Z:St) (Q:VK) (u:Value) (s':Shared):Prop:=∃v b,Inv X a Z b s'/\RelV v u/\Q v b
def TP (X:Cx) (a:List (Addr × Obj)) (Z:St) (Q:Bool->Hp->Prop) (b:Bool) (s':Shared):Prop:=∃c,Inv X a Z c s'/\Q b c
def AP (X:Cx) (a:List (Addr × Obj)) (Z:St) (Q:List V->Hp->Prop) (us:List Value) (s':Shared):Prop:=∃vs b,Inv X a Z b s'/\Vals vs us/\Q vs b
def SP (X:Cx) (a:List (Addr × Obj)) (D:Ends) (f:Flow) (s':Shared):Prop :=
 match f with
 |.next=>∃c b,Inv X a c b s'/\D.nx c b
 |.brk=>∃c b,Inv X a c b s'/\D.bk c b
 |.cont=>∃c b,Inv X a c b s'/\D.ct c b
 |.ret u=>∃v c b,Inv X a c b s'/\RelV v u/\D.rt v b
def PE (X:Cx) (e:Expr) (t:TE):Prop :=
 ∀(a:List (Addr × Obj)) (s:Shared) (Z:St) (H:Hp) (Q:VK),Inv X a Z H s->t Z H Q->wpAny (model X.prog X.w) X.A (eval e X.env) (EP X a Z Q) X.xe s
def PT (X:Cx) (e:Expr) (t:TT):Prop :=
 ∀(a:List (Addr × Obj)) (s:Shared) (Z:St) (H:Hp) (Q:Bool->Hp->Prop),Inv X a Z H s->t Z H Q->wpAny (model X.prog X.w) X.A (isTrue e X.env (eval e X.env)) (TP X a Z Q) X.xe s
def PW (X:Cx) (e:Expr) (t:TT):Prop :=
 ∀(b:Sem Value) (a:List (Addr × Obj)) (s:Shared) (Z:St) (H:Hp) (Q:Bool->Hp->Prop),Inv X a Z H s->t Z H Q->wpAny (model X.prog X.w) X.A (isTrue e X.env b) (TP X a Z Q) X.xe s
theorem PW.pt {X:Cx}{e:Expr}{t:TT}(h:PW X e t):PT X e t:=h _
def PA (X:Cx) (c:List Expr) (t:TA):Prop :=
 ∀(b:Pos) (a:List (Addr × Obj)) (s:Shared) (Z:St) (H:Hp) (Q:List V->Hp->Prop),Inv X a Z H s->t Z H Q->wpAny (model X.prog X.w) X.A (spliced (backTo b (starEach c X.env))) (AP X a Z Q) X.xe s
def PS (X:Cx) (st:Stmt) (t:TS):Prop :=
 ∀(a:List (Addr × Obj)) (s:Shared) (Z:St) (H:Hp) (D:Ends),Inv X a Z H s->t D Z H->wpAny (model X.prog X.w) X.A (exec st X.env) (SP X a D) X.xe s
def PSs (X:Cx) (st:List Stmt) (t:TS):Prop :=
 ∀(a:List (Addr × Obj)) (s:Shared) (Z:St) (H:Hp) (D:Ends),Inv X a Z H s->t D Z H->wpAny (model X.prog X.w) X.A (execs st X.env) (SP X a D) X.xe s
theorem thn {c:Type}{t:Sem c}{Q b:c->Shared->Prop}{M:Model}{A:Around}{E:Value->Shared->Prop}{s:Shared}(h:wpAny M A t Q E s) (d:∀a s,Q a s->b a s):wpAny M A t b E s:=Y5 h d fun _ _ x=>x
section
variable {X:Cx}
def Ri (i:Nat):TE:=fun Z H Q=>∃v,Z[i]?=some (some v)/\Q v H
def tC (v:V):TE:=fun _ H Q=>Q v H
theorem KJ {i:Nat}{x:Str}{k:Pos}(p:X.N[i]?=some x) (t:Vis X.env.scope x) (g:(x==("__debug__":Str))=false:=by decide) (j:(x==("__classdict__":Str))=false:=by decide):PE X (.Name x k) (Ri i):=by
 intro f s Z H Q I h;obtain⟨v,e,h⟩:=h;obtain⟨m,o,w⟩:=I.loc;obtain⟨u,r,l⟩:=w i x v p e t;have d:EP X f Z Q u s:=⟨v,H,I,r,h⟩;rcases l with ⟨b,q⟩ | ⟨b,c,n,a⟩
 ·exact wpAny_Name (wpAny_loadName_local I.ok.kind b o q d) g
 rcases b with b | b
 ·exact wpAny_Name (wpAny_loadName_cell I.ok.kind b n a d) g
 exact wpAny_Name (wpAny_loadName_free I.ok.kind b n a d j) g
theorem KN {i j pos}:PE X (.Constant (.int i) j pos) (tC (.int i)):=fun _ _ _ H _ I h=>wpAny_Constant_int ⟨.int i,H,I.tok _,⟨_,rfl⟩,h⟩
theorem Rj {b j pos}:PE X (.Constant (.bool b) j pos) (tC (.bl b)):=fun _ _ _ H _ I h=>Constant_bool ⟨.bl b,H,I,rfl,h⟩
theorem KQ {x j pos}:PE X (.Constant (.str x) j pos) (tC (.str x)):=fun _ _ _ H _ I h=>Calls.Constant_str ⟨.str x,H,I.tok _,⟨_,rfl⟩,h⟩
def Gl (X:Cx) (x:Str):Prop:=X.env.kindOf x=some .globalImplicit
theorem nT {E:Value->Shared->Prop}{a:List (Addr × Obj)}{s:Shared}{Z:St}{H:Hp}{x:Str}{u:Value}{b:Pos}{Q:Value->Shared->Prop}(I:Inv X a Z H s) (e:Gl X x) (d:X.mg x=some u) (h:Q u s)
  (c:(x==("__debug__":Str))=false:=by decide):wpAny (model X.prog X.w) X.A (eval (.Name x b) X.env) Q E s :=
 Calls.Name_function_global I.ok.kind e (Calls.loadGlobal_global (by rw[I.ok.glob];exact I.mod.glob.keeps I.bk) d h) c
theorem fC {E:Value->Shared->Prop}{a:List (Addr × Obj)}{s:Shared}{Z:St}{H:Hp}{x:Str}{u:Value}{b:Pos}{Q:Value->Shared->Prop}(I:Inv X a Z H s) (j:Gl X x) (f:X.mg x=none) (g:bootBuiltins x=some u) (h:Q u s)
  (c:x≠"__name__":=by decide) (e:(x==("__debug__":Str))=false:=by decide):wpAny (model X.prog X.w) X.A (eval (.Name x b) X.env) Q E s:=by
 obtain⟨k,i,d⟩:=I.mod.blt;exact Calls.Name_function_global I.ok.kind j (Calls.loadGlobal_builtin (by rw[I.ok.glob];exact I.mod.glob.keeps I.bk) f (by rw[I.ok.blt];exact i.keeps I.bk) ((d x c).trans g) h) e
theorem Ek {x:Str}{v:V}{u:Value}{a:Pos}(d:Gl X x) (b:X.mg x=some u) (r:RelV v u) (c:(x==("__debug__":Str))=false:=by decide):PE X (.Name x a) (tC v) :=
 fun _ _ _ H _ I h=>nT I d b ⟨v,H,I,r,h⟩ c
theorem El {x:Str}{v:V}{u:Value}{a:Pos}(f:Gl X x) (d:X.mg x=none) (e:bootBuiltins x=some u) (r:RelV v u) (b:x≠"__name__":=by decide) (c:(x==("__debug__":Str))=false:=by decide):PE X (.Name x a) (tC v) :=
 fun _ _ _ H _ I h=>fC I f d e ⟨v,H,I,r,h⟩ b c
variable {a b:Expr}{ta tb:TE}{pos:Pos}
def PC (X:Cx) (op:CmpOp) (a b:Expr) (t:TE):Prop :=
 ∀(c:List (Addr × Obj)) (s:Shared) (Z:St) (H:Hp) (Q:VK),Inv X c Z H s->t Z H Q ->
  wpAny (model X.prog X.w) X.A (eval a X.env) (fun v d=>wpAny (model X.prog X.w) X.A (eval b X.env) (fun u e=>wpAny (model X.prog X.w) X.A (compareOp op v u) (EP X c Z Q) X.xe e) X.xe d) X.xe s
theorem qg (b:Expr) {op:CmpOp}(h:op≠.In) (d:op≠.NotIn):behindInMarks op b=false:=by
 have c:(op==CmpOp.In)=false:=by cases op <;> first | rfl | exact absurd rfl h
 have a:(op==CmpOp.NotIn)=false:=by cases op <;> first | rfl | exact absurd rfl d
 cases b <;> simp [behindInMarks,c,a]
def tB (t:TE):TT:=fun Z H Q=>t Z H fun x a=>∃c,x=.bl c/\Q c a
theorem KR {op:CmpOp}{t:TE}(h:PC X op a b t) (d:behindInMarks op b=false:=by first | exact qg _ (by decide) (by decide) | rfl):PE X (.Compare a [op] [b] pos) t:=fun c s Z H Q I e=>wpAny_Compare1 (h c s Z H Q I e) d
theorem sY {op:CmpOp}{t:TE}(h:PC X op a b t) (f:behindInMarks op b=false:=by first | exact qg _ (by decide) (by decide) | rfl):PT X (.Compare a [op] [b] pos) (tB t):=by
 intro e s Z H Q I i;refine wpAny_isTrue_Compare1 (thn (h e s Z H _ I i) fun v p f=>thn f fun u o g=>thn g fun c n ⟨x,j,m,l,k⟩=>?_) f;obtain⟨d,rfl,q⟩:=k;cases l;exact Yy ⟨j,m,q⟩
theorem KY {e:Expr}{t:TE}(h:PE X e t) (i:∀whole,isTrue e X.env whole=(do let v <- whole;standAt e.pos;holding [v] (truthy v)):=by intro _;rfl):PT X e (tB t):=by
 intro a s Z H Q I b;refine isTrue_plain (thn (h a s Z H _ I b) fun v k ⟨x,c,j,g,f⟩=>?_) (i _);obtain⟨d,rfl,q⟩:=f;cases g;exact Yy ⟨c,j,q⟩
variable {tA tB':TT}{rest:List Expr}
def WD (t u:TT):TT:=fun Z H Q=>t Z H fun c a=>if c=true then u Z a Q else Q false a
def tOr (t u:TT):TT:=fun Z H Q=>t Z H fun c a=>if c=true then Q true a else u Z a Q
def WF (t:TT):TT:=fun Z H Q=>t Z H fun c a=>Q (!c) a
theorem Em (d:PT X a tA):PW X (.BoolOp .And [a] pos) tA:=by
 intro g b s Z H Q I h;refine isTrue_and (thn (d b s Z H Q I h) fun c f e=>?_);cases c with
 |true=>exact isTrue_and_nil e
 |false=>exact e
theorem KZ (d:PT X a tA):PW X (.BoolOp .Or [a] pos) tA:=by
 intro g b s Z H Q I h;refine isTrue_or (thn (d b s Z H Q I h) fun c f e=>?_);cases c with
 |false=>exact isTrue_or_nil e
 |true=>exact e
theorem K1 (i:PT X a tA) (l:PW X (.BoolOp .And (b::rest) pos) tB'):PW X (.BoolOp .And (a::b::rest) pos) (WD tA tB'):=by
 intro j d s Z H Q I h;refine isTrue_and (thn (i d s Z H _ I h) fun c k ⟨e,g,f⟩=>?_);cases c with
 |true=>exact l j d k Z e Q g f
 |false=>exact⟨e,g,f⟩
theorem Rk (i:PT X a tA) (l:PW X (.BoolOp .Or (b::rest) pos) tB'):PW X (.BoolOp .Or (a::b::rest) pos) (tOr tA tB'):=by
 intro j d s Z H Q I h;refine isTrue_or (thn (i d s Z H _ I h) fun c k ⟨e,g,f⟩=>?_);cases c with
 |true=>exact⟨e,g,f⟩
 |false=>exact l j d k Z e Q g f
theorem K3 (e:PT X a tA):PT X (.UnaryOp .Not a pos) (WF tA):=by
 intro b s Z H Q I h;exact isTrue_not (e b s Z H (fun c d=>Q (!c) d) I h)
def Rm (b d:TE):TE:=fun Z H Q=>b Z H fun x a=>∃c,x=.bl c/\if c=true then d Z a Q else Q (.bl false) a
def WK (b d:TE):TE:=fun Z H Q=>b Z H fun x a=>∃c,x=.bl c/\if c=true then Q (.bl true) a else d Z a Q
theorem K4 {op}{t:TE}(h:PE X a t):PE X (.BoolOp op [a] pos) t:=fun b s Z H Q I c=>BoolOp_one (h b s Z H Q I c)
theorem K5 (i:PE X a ta) (l:PE X (.BoolOp .And (b::rest) pos) tb):PE X (.BoolOp .And (a::b::rest) pos) (Rm ta tb):=by
 intro d s Z H Q I h;refine BoolOp_and (thn (i d s Z H _ I h) fun v k ⟨x,f,g,j,e⟩=>?_);obtain⟨c,rfl,e⟩:=e;cases j;refine Yy ?_;cases c with
 |true=>exact l d k Z f Q g e
 |false=>exact⟨.bl false,f,g,rfl,e⟩
theorem Rn (i:PE X a ta) (l:PE X (.BoolOp .Or (b::rest) pos) tb):PE X (.BoolOp .Or (a::b::rest) pos) (WK ta tb):=by
 intro d s Z H Q I h;refine BoolOp_or (thn (i d s Z H _ I h) fun v k ⟨x,f,g,j,e⟩=>?_);obtain⟨c,rfl,e⟩:=e;cases j;refine Yy ?_;cases c with
 |false=>exact l d k Z f Q g e
 |true=>exact⟨.bl true,f,g,rfl,e⟩
end
def SqL (K:Frag) (H:Hp) (a:Addr) (xs:List V):Prop :=
 Rd H a (.lst xs) \/
  ∃(o:Obj) (b:Array Value) (n:Nat),K.lookup a=some o/\o.cls=.type "list"/\o.dict=none/\o.data=.seq b n/\b.size<=sizeLine/\Vals xs b.toList
def SqT (K:Frag) (H:Hp) (a:Addr) (xs:List V):Prop :=
 Rd H a (.tup xs) \/
  ∃(o:Obj) (b:Array Value) (n:Nat),K.lookup a=some o/\o.cls=.type "tuple"/\o.dict=none/\o.data=.seq b n/\b.size<=sizeLine/\Vals xs b.toList
def WL:Value->Option V
 |.none=>some .non
 |.bool b=>some (.bl b)
 |.int i _=>some (.int i)
 |.str x _=>some (.str x)
 |.bytes b _=>some (.byt b)
 |.float b _=>some (.flt b)
 |.ref a=>some (.ref a)
 |.type n=>some (.ty n)
 |_=>none
theorem RelV.abs {x:V}{u:Value}(r:RelV x u):WL u=some x:=by
 cases x with
 |non=>cases r;rfl
 |bl _=>cases r;rfl
 |int _=>obtain⟨t,rfl⟩:=r;rfl
 |str _=>obtain⟨t,rfl⟩:=r;rfl
 |byt _=>obtain⟨t,rfl⟩:=r;rfl
 |flt _=>obtain⟨t,rfl⟩:=r;rfl
 |ref _=>cases r;rfl
 |ty _=>cases r;rfl
theorem RelV.inj {x y:V}{u:Value}(r:RelV x u) (q:RelV y u):x=y:=Q_ (r.abs.symm.trans q.abs)
theorem Vals.inj {xs ys:List V}{us:List Value}(h:Vals xs us) (h':Vals ys us):xs=ys:=by
 induction h generalizing ys with
 |nil=>cases h';rfl
 |cons r t a =>
 cases h' with
 |cons b t'=>rw[r.inj b,a t']
section
variable {X:Cx}{pins:List (Addr × Obj)}{Z:St}{H:Hp}{s:Shared}{a:Addr}{xs ys:List V}
theorem SqL.of {K:Frag}(h:H a=some (.lst xs)):SqL K H a xs:=.inl (.inl h)
theorem SqT.of {K:Frag}(h:H a=some (.tup xs)):SqT K H a xs:=.inl (.inl h)
theorem Inv.list (I:Inv X pins Z H s) (h:SqL X.K H a xs):∃b:List Value,Vals xs b/\PlainL s.heap a b.toArray/\xs.length<=sizeLine:=by
 rcases h with h | ⟨o,b,n,f,g,c,d,i,r⟩
 ·obtain⟨z,b,n,r,e⟩:=h.ok I.hok;exact⟨b,r,⟨_,n,e,rfl,rfl,rfl⟩,z⟩
 refine⟨b.toList,r,⟨o,n,I.kIn a o f,g,c,by simpa using d⟩,?_⟩;have e:=r.length;simp only[ZJ] at e;omega
theorem Inv.tuple (I:Inv X pins Z H s) (h:SqT X.K H a xs):∃b:List Value,Vals xs b/\IsTup s.heap a b.toArray/\xs.length<=sizeLine:=by
 rcases h with h | ⟨o,b,n,d,f,_,c,g,r⟩
 ·obtain⟨z,b,r,p⟩:=h.ok I.hok;exact⟨b,r,p.is,z⟩
 refine⟨b.toList,r,⟨o,I.kIn a o d,f,n,by simpa using c⟩,?_⟩;have e:=r.length;simp only[ZJ] at e;omega
theorem Inv.list_inj (I:Inv X pins Z H s) (h:SqL X.K H a xs) (h':SqL X.K H a ys):xs=ys:=by
 obtain⟨b,r,⟨o,n,e,_,_,d⟩,_⟩:=I.list h;obtain⟨its',f,⟨i,g,c,_,_,d'⟩,_⟩:=I.list h';rw[e] at c;cases c;rw[d] at d';injection d' with d1 _;have:b=its':=by simpa using X6 Array.toList d1
 subst this;exact r.inj f
theorem Inv.tuple_inj (I:Inv X pins Z H s) (h:SqT X.K H a xs) (h':SqT X.K H a ys):xs=ys:=by
 obtain⟨b,r,⟨o,e,_,n,d⟩,_⟩:=I.tuple h;obtain⟨its',f,⟨i,c,_,g,d'⟩,_⟩:=I.tuple h';rw[e] at c;cases c;rw[d] at d';injection d' with d1 _;have:b=its':=by simpa using X6 Array.toList d1
 subst this;exact r.inj f
end
abbrev Cx.wish (X:Cx) (E:Value->Shared->Prop):Cx:={ X with xe:=E}
abbrev Cx.nox (X:Cx):Cx:=X.wish fun _ _=>False
theorem Cx.Ok.wish {X:Cx}(a:X.Ok) (E:Value->Shared->Prop):(X.wish E).Ok :=
 ⟨a.mod,a.kind,a.glob,a.blt,a.above,a.inj,a.has,a.cab,a.hd,a.frames,a.stk,a.exf,a.bs,a.bsz,a.noex,a.exfs,a.funs,a.frf⟩
theorem Cx.Ok.unwish {X:Cx}{E:Value->Shared->Prop}(a:(X.wish E).Ok):X.Ok :=
 ⟨a.mod,a.kind,a.glob,a.blt,a.above,a.inj,a.has,a.cab,a.hd,a.frames,a.stk,a.exf,a.bs,a.bsz,a.noex,a.exfs,a.funs,a.frf⟩
section
variable {X:Cx}{pins:List (Addr × Obj)}{Z:St}{H:Hp}{s:Shared}{E:Value->Shared->Prop}
theorem Inv.wish (I:Inv X pins Z H s) (E:Value->Shared->Prop):Inv (X.wish E) pins Z H s:=⟨I.ok.wish E,I.os,I.bare,I.base,I.loc,I.cell,I.free,I.freeC,I.pin,I.hok,I.len⟩
theorem Inv.unwish (I:Inv (X.wish E) pins Z H s):Inv X pins Z H s:=⟨I.ok.unwish,I.os,I.bare,I.base,I.loc,I.cell,I.free,I.freeC,I.pin,I.hok,I.len⟩
theorem SP.unwish {D:Ends}{f:Flow}{s':Shared}(h:SP (X.wish E) pins D f s'):SP X pins D f s':=by
 cases f with
 |next=>obtain⟨a,b,I,q⟩:=h;exact⟨a,b,I.unwish,q⟩
 |brk=>obtain⟨a,b,I,q⟩:=h;exact⟨a,b,I.unwish,q⟩
 |cont=>obtain⟨a,b,I,q⟩:=h;exact⟨a,b,I.unwish,q⟩
 |ret u=>obtain⟨v,a,b,I,r,q⟩:=h;exact⟨v,a,b,I.unwish,r,q⟩
theorem PE.nox {e:Expr}{t:TE}(h:PE X.nox e t):PE X e t:=fun a s Z H Q I d =>
 Y5 (h a s Z H Q (I.wish _) d) (fun _ _ ⟨v,c,b,r,q⟩=>⟨v,c,b.unwish,r,q⟩) fun _ _ z=>False.elim z
theorem PT.nox {e:Expr}{t:TT}(h:PT X.nox e t):PT X e t:=fun a s Z H Q I d =>
 Y5 (h a s Z H Q (I.wish _) d) (fun _ _ ⟨c,b,q⟩=>⟨c,b.unwish,q⟩) fun _ _ z=>False.elim z
theorem PSs.nox {st:List Stmt}{t:TS}(h:PSs X.nox st t):PSs X st t:=fun a s Z H D I b =>
 Y5 (h a s Z H D (I.wish _) b) (fun _ _ q=>q.unwish) fun _ _ z=>False.elim z
variable {st:Stmt}{rest:List Stmt}{t u:TS}{e:Expr}{te:TE}{pos:Pos}
def Ro:TS:=fun D Z H=>D.nx Z H
def WM (t u:TS):TS:=fun D Z H=>t { D with nx:=u D} Z H
theorem En:PSs X [] Ro:=fun _ _ Z H _ I h=>wpAny_execs_nil ⟨Z,H,I,h⟩
theorem yM (h1:PS X st t) (c:PSs X rest u):PSs X (st::rest) (WM t u):=by
 intro a s Z H D I h;refine wpAny_execs_cons (thn (h1 a s Z H { D with nx:=u D} I h) fun f e q=>?_);cases f with
 |next=>obtain⟨g,d,b,q⟩:=q;exact c a e g d D b q
 |ret v=>exact q
 |brk=>exact q
 |cont=>exact q
theorem Eo (b:PS X st t):PSs X [st] t:=by
 intro a s Z H D I h;refine wpAny_execs_cons (thn (b a s Z H D I h) fun f c q=>?_);cases f with
 |next=>exact wpAny_execs_nil q
 |ret v=>exact q
 |brk=>exact q
 |cont=>exact q
theorem Inv.quiet {a:List (Addr × Obj)}{Z:St}{H:Hp}{s:Shared}(I:Inv X a Z H s):interactive X.env=false:=by simp [interactive,I.ok.kind]
def Rp (te:TE):TS:=fun D Z H=>te Z H fun _ a=>D.nx Z a
theorem Ep (f:PE X e te) (b:swapsWith e none pos.line X.env=pure false:=by rfl):PS X (.Expr e pos) (Rp te):=by
 intro a s Z H D I h;exact wpAny_Expr_any (thn (f a s Z H _ I h) fun v j ⟨x,c,g,i,d⟩=>⟨Z,c,g,d⟩) I.quiet b
def WN (te:TE):TS:=fun D Z H=>te Z H D.rt
theorem K6 (f:PE X e te):PS X (.Return (some e) pos) (WN te):=by
 intro a s Z H D I h;exact wpAny_Return_some (thn (f a s Z H _ I h) fun v i ⟨x,b,g,d,c⟩=>⟨x,Z,b,g,d,c⟩)
def WP (c:TT) (t u:TS):TS:=fun D Z H=>c Z H fun b a=>if b=true then t D Z a else u D Z a
theorem Rq {c:Expr}{a b:List Stmt}{f:TT}(n:PT X c f) (l:PSs X a t) (m:PSs X b u):PS X (.If c a b pos) (WP f t u):=by
 intro e s Z H D I h;refine wpAny_If (thn (n e s Z H _ I h) fun d j ⟨g,k,i⟩=>?_);cases d with
 |true=>exact l e j Z g D k i
 |false=>exact m e j Z g D k i
end
abbrev TG:=V->St->Hp->(St->Hp->Prop)->Prop
abbrev TGs:=List V->St->Hp->(St->Hp->Prop)->Prop
def PG (X:Cx) (a:Expr) (t:TG):Prop :=
 ∀(b:List (Addr × Obj)) (s:Shared) (Z:St) (H:Hp) (v:V) (u:Value) (Q:St->Hp->Prop),Inv X b Z H s->RelV v u->t v Z H Q ->
  wpAny (model X.prog X.w) X.A (assign a X.env u) (fun _ s'=>∃c d,Inv X b c d s'/\Q c d) X.xe s
def PGs (X:Cx) (ts:List Expr) (t:TGs):Prop :=
 ∀(a:List (Addr × Obj)) (s:Shared) (Z:St) (H:Hp) (vs:List V) (us:List Value) (Q:St->Hp->Prop),Inv X a Z H s->Vals vs us->t vs Z H Q ->
  wpAny (model X.prog X.w) X.A (assignInOrder ((assignEach ts X.env).map (·.2)) us) (fun _ s'=>∃b c,Inv X a b c s'/\Q b c) X.xe s
abbrev yN:=V->V->V->Hp->(Hp->Prop)->Prop
def PSet (X:Cx) (t:yN):Prop :=
 ∀(a:List (Addr × Obj)) (s:Shared) (Z:St) (H:Hp) (o i v:V) (b d u:Value) (Q:Hp->Prop),Inv X a Z H s->RelV o b->RelV i d->RelV v u->t o i v H Q ->
  wpAny (model X.prog X.w) X.A (setItem b d u) (fun _ s'=>∃c,Inv X a Z c s'/\Q c) X.xe s
section
variable {X:Cx}{pos:Pos}
def Jm (i:Nat):TG:=fun v Z H Q=>Q (Z.set i (some v)) H
theorem Er {i:Nat}{x:Str}(c:X.N.Nodup) (d:X.N[i]?=some x) (f:Loc X.env.scope x) (e:X.fn x=true\/X.env.scope.names.lookup x=some .local:=by first | exact .inl rfl | exact .inr rfl | assumption):PG X (.Name x pos) (Jm i):=by
 intro a s Z H v u Q I r h;exact wpAny_assign_Name (qe I c d f r (fun s' b=>⟨_,H,b,h⟩) e)
def WQ:TGs:=fun vs Z H Q=>vs=[]/\Q Z H
def Rr (t:TG) (u:TGs):TGs:=fun vs Z H Q=>∃v r,vs=v::r/\t v Z H fun a b=>u r a b Q
theorem Es:PGs X [] WQ:=by
 intro a s Z H vs us Q I r h;obtain⟨e,h⟩:=h;subst e;cases r;exact assignInOrder_nil ⟨Z,H,I,h⟩
theorem yO {e:Expr}{b:List Expr}{t:TG}{u:TGs}(k:PG X e t) (d:PGs X b u)
  (c:(assignEach (e::b) X.env).map (·.2)=assign e X.env::(assignEach b X.env).map (·.2):=by rfl):PGs X (e::b) (Rr t u):=by
 intro a s Z H vs us Q I r h;obtain⟨v,o,j,h⟩:=h;subst j;cases r with
 |cons r l =>
 rw[c];refine assignInOrder_cons (thn (k a s Z H _ _ _ I r h) fun _ g ⟨n,f,m,i⟩=>?_);exact d a g n f _ _ Q m l i
def WR (K:Frag) (n:Nat) (t:TGs):TG:=fun v Z H Q=>∃a xs,v=.ref a/\SqT K H a xs/\xs.length=n/\t xs Z H Q
theorem K7 {d:List Expr}{k:Nat}{t:TGs}{n:Nat}(y:X.calm=true) (h:PGs X d t)
  (l:(assignEach d X.env).length=n:=by rfl) (g:(assignEach d X.env).findIdx? (·.1)=none:=by rfl):PG X (.Tuple d k pos) (WR X.K n t):=by
 intro c s Z H v u Q I r f;obtain⟨a,xs,m,p,q,f⟩:=f;subst m;cases r;obtain⟨w,i,x,A⟩:=I.tuple p;refine assign_Tuple_tuple (I.ok.hd y) x (by simp [l,<- q,i.length]) g fun h' z=>?_;have j:Inv X c Z H { s with heap:=h'}:=I.kept (t':=s.toks) fun b o e=>z b o (F_ (x_ e)) e;exact h c _ Z H xs _ Q j (by simpa using i) f
def WT (a d:TE) (t:yN):TG:=fun v Z H Q=>a Z H fun o c=>d Z c fun i b=>t o i v b fun H3=>Q Z H3
theorem K8 {o i:Expr}{d e:TE}{t:yN}(w:PE X o d) (g:PE X i e) (f:PSet X t)
  (p:∀v,assign (.Subscript o i pos) X.env v=(do
   let b <- holding [v] (eval o X.env)
   let c <- holding [v,b] (eval i X.env)
   standAt pos
   holding [v,b,c] (setItem b c v)
   release [v,b,c] []):=by intro _;rfl):PG X (.Subscript o i pos) (WT d e t):=by
 intro a s Z H v u Q I r h;rw[p];refine a_ (YS (thn (w a s Z H _ I h) fun b D ⟨x,z,l,k,B⟩=>?_));refine a_ (YS (thn (g a D Z z _ l B) fun c m ⟨y,n,C,A,j⟩=>?_));refine a_ (wpAny_standAt (a_ (YS (thn (f a m Z n x y v b c u _ C k A r j) fun _ F ⟨H3,q,E⟩=>?_))));exact wpAny_release ⟨Z,H3,q,E⟩
def Rt (te:TE) (g:TG):TS:=fun D Z H=>te Z H fun x a=>g x Z a D.nx
theorem K9 {b e:Expr}{te:TE}{g:TG}(l:PE X e te) (o:PG X b g) (c:swapsWithSole [b] e pos.line X.env=pure false:=by rfl) (d:swappedStores [b] e X.env=pure none:=by rfl)
  (k:(assignEach [b] X.env).map (·.2)=[assign b X.env]:=by rfl):PS X (.Assign [b] e pos) (Rt te g):=by
 intro a s Z H D I h;refine wpAny_Assign_stores (thn (l a s Z H _ I h) fun v m ⟨x,f,n,j,i⟩=>?_) c d;rw[k];exact thn (o a m Z f x v _ n j i) fun _ p q=>q
theorem La {i:Nat}{x:Str}{e:Expr}{te:TE}{a:Pos}(d:X.N.Nodup) (f:X.N[i]?=some x) (p:Loc X.env.scope x) (n:PE X e te) (c:swapsWith e (some (.Name x a)) pos.line X.env=pure false:=by rfl) (m:X.fn x=true\/X.env.scope.names.lookup x=some .local:=by first | exact .inl rfl | exact .inr rfl | assumption) :
  PS X (.Assign [.Name x a] e pos) (Rt te (Jm i)):=by
 intro b s Z H D I h;refine wpAny_Assign_Name (thn (n b s Z H _ I h) fun v r ⟨y,g,o,k,j⟩=>?_) c;exact qe o d f p k (fun q l=>⟨_,g,l,j⟩) m
def Lb (c:TT) (g:TS):TS:=fun D Z H=>∃W:Nat->St->Hp->Prop,(∃m,W m Z H)/\∀m Z H,W m Z H ->
 c Z H fun b d=>if b=true then ∃N:St->Hp->Prop,(∀f a,N f a->∃e,e<m/\W e f a)/\g { D with nx:=N,ct:=N,bk:=D.nx} Z d else D.nx Z d
theorem yP {c:Expr}{d:List Stmt}{z:TT}{y:TS}(B:PassesOwn (model X.prog X.w) X.A X.env X.xe) (M:PT X c z) (F:PSs X d y):PS X (.While c d [] pos) (Lb z y):=by
 intro a s Z H D I h;obtain⟨W,⟨O,L⟩,g⟩:=h;refine wpAny_While (codeAny_whileLoop (fun n s'=>∃t r,Inv X a t r s'/\W n t r) ?_ O ⟨Z,H,I,L⟩);rintro n P ⟨j,C,G,J⟩;refine Zz B (thn (M a P j C _ G (g n j C J)) fun b K ⟨u,E,i⟩=>?_);cases b with
 |true =>
  obtain⟨N,x,i⟩:=i;rw[if_pos rfl];refine Zz B (thn (F a K j u _ E i) fun f Q k=>?_);cases f with
  |next=>obtain⟨e,H3,q,p⟩:=k;obtain⟨l,o,m⟩:=x e H3 p;exact⟨l,o,e,H3,q,m⟩
  |cont=>obtain⟨e,H3,q,p⟩:=k;obtain⟨l,o,m⟩:=x e H3 p;exact⟨l,o,e,H3,q,m⟩
  |brk=>exact k
  |ret v=>exact k
 |false =>
 rw[if_neg t_];exact wpAny_execs_nil ⟨j,u,E,i⟩
end
structure It where
 go:Nat->Hp->Prop
 yld:Nat->Hp->V->Hp->Prop
 stop:Nat->Hp->Prop
def jN (X:Cx) (a:List (Addr × Obj)) (H:Hp) (b:Addr):Prop :=
 H b=none/\b≠X.env.locals/\b∉X.fs/\(b∈X.ex\/X.s₀.heap.objs.size<=b)/\(∀x c,X.env.cells.lookup x=some c->c≠b)/\∀p∈X.pn++a,p.1≠b
theorem Inv.fpOk {X:Cx}{a:List (Addr × Obj)}{Z:St}{H f:Hp}{s:Shared}{b:Addr}(I:Inv X a Z H s) (d:s.heap.objs.size<=b) (g:f b=none):jN X a f b:=by
 refine⟨g,Yh (N_ I.lt d),I.nofs d,.inr (L_ I.sz d),fun x c e z=>?_,fun p h z=>?_⟩
 ·obtain⟨v,q⟩:=I.cell x c e;exact absurd (N_ q.lt (by rw[z];exact d)) (Ye _)
 exact absurd (N_ (x_ (I.pin p h).1) (by rw[z];exact d)) (Ye _)
structure Turn (P:Program) (w:World) (K:Frag) (tg:Expr) (J:It) (fp:List Addr) (it:Addr) (tn:Nat->Heap->Prop):Prop where
 mem:it∈fp
 obj:∀i h,tn i h->∀b∈fp,∃o,h.get? b=some o/\∀v,o.data≠.cell v
 keep:∀i h h',tn i h->(∀b∈fp,∀o,h.get? b=some o->h'.get? b=some o)->tn i h'
 item:∀(X:Cx),X.prog=P->X.w=w->X.K=K->X.calm=true->∀(i:Nat) (pins:List (Addr × Obj)) (s:Shared) (Z:St) (H:Hp) (E:Value->Shared->Prop),Inv X pins Z H s->(∀b∈fp,jN X pins H b)->tn i s.heap->J.go i H ->
  wpAny (model P w) X.A (pyNext (.ref it)) (fun r s1=>∃u,r=some u /\
   wpAny (model P w) X.A (letOwnedTupleGo tg (.ref it) u) (fun _ s2=>∃x H',Inv X pins Z H' s2/\RelV x u/\J.yld i H x H'/\tn (i+1) s2.heap/\∀b∈fp,H' b=none) E s1) E s
 done:∀(X:Cx),X.prog=P->X.w=w->X.K=K->X.calm=true->∀(i:Nat) (pins:List (Addr × Obj)) (s:Shared) (Z:St) (H:Hp) (E:Value->Shared->Prop),Inv X pins Z H s->(∀b∈fp,jN X pins H b)->tn i s.heap->J.stop i H ->
  wpAny (model P w) X.A (pyNext (.ref it)) (fun r s1=>r=none/\Inv X pins Z H s1) E s
 self:∀(A:Around) (i:Nat) (s:Shared) (Q:Value->Shared->Prop) (E:Value->Shared->Prop),tn i s.heap->Q (.ref it) s->wpAny (model P w) A (pyIter (.ref it)) Q E s
abbrev TI:=St->Hp->(It->Hp->Prop)->Prop
def PIE (X:Cx) (a:List (Addr × Obj)) (Z:St) (g:Expr) (R:It->Hp->Prop) (c:Value) (f:Shared):Prop :=
 ∃(it:Addr) (d:List Addr) (e:Nat->Heap->Prop) (J:It) (H':Hp),c=.ref it/\Inv X a Z H' f/\Turn X.prog X.w X.K g J d it e/\e 0 f.heap/\(∀b∈d,jN X a H' b)/\R J H'
def PI (X:Cx) (d b:Expr) (c:TI):Prop :=
 ∀(a:List (Addr × Obj)) (s:Shared) (Z:St) (H:Hp) (R:It->Hp->Prop),Inv X a Z H s->c Z H R ->
  wpAny (model X.prog X.w) X.A (eval b X.env) (fun v e=>wpAny (model X.prog X.w) X.A (pyIter v) (PIE X a Z d R) X.xe e) X.xe s
theorem vG {M:Model}{A:Around}{E:Value->Shared->Prop}{s:Shared}{b:Expr}{it:Addr}{u:Value}{o:Obj}{n:String}{vs:Array Value}{Q:Unit->Shared->Prop}(d:s.heap.get? it=some o) (f:o.cls=.type n) (e:o.data=.fields vs)
  (c:["enumerate","zip","dict_itemiterator","dict_reverseitemiterator","odict_iterator","itertools.zip_longest","itertools.pairwise"].contains n=false) (a:Q () s):wpAny M A (letOwnedTupleGo b (.ref it) u) Q E s:=by
 unfold letOwnedTupleGo;cases b <;> first
  |exact i_ a
  | (cases u <;> first
    |exact i_ a
    | (refine a_ (wpAny_load d ?_)
       rw[f,e]
       show wpAny M A (if (["enumerate","zip","dict_itemiterator","dict_reverseitemiterator","odict_iterator","itertools.zip_longest","itertools.pairwise"].contains n&&vs[0]?==some (rawInt _))=true then _ else _) Q E s
       rw[if_neg (by intro h;rw[c,Zm] at h;cases h)]
       exact i_ a))
def Itl (K:Frag) (a:Addr):It :=
 ⟨fun i H=>∃xs x,SqL K H a xs/\xs[i]?=some x,fun i H x b=>b=H/\∀xs,SqL K H a xs->xs[i]?=some x,fun i H=>∃xs,SqL K H a xs/\xs.length<=i⟩
def Itt (K:Frag) (a:Addr):It :=
 ⟨fun i H=>∃xs x,SqT K H a xs/\xs[i]?=some x,fun i H x b=>b=H/\∀xs,SqT K H a xs->xs[i]?=some x,fun i H=>∃xs,SqT K H a xs/\xs.length<=i⟩
def Itr (a:Int) (n:Nat):It:=⟨fun i _=>i<n,fun i H x b=>b=H/\x=.int (a+i),fun i _=>n<=i⟩
theorem xF {P:Program}{w:World}{K:Frag}{T:Expr}(a it:Addr):Turn P w K T (Itl K a) [it] it (fun i h=>h.IsListIter it a i) where
 mem:=by simp
 obj:=fun i h st b g=>by
  have e:b=it:=by simpa using g
  subst e
  obtain⟨o,e,c,d⟩:=st
  exact⟨o,e,fun v z=>by rw[d] at z;cases z⟩
 keep:=fun i h h' st k=>st.at fun o e=>k it (by simp) o e
 item:=by
  intro X B G C L i f s Z H E I m st F
  subst B G C
  obtain⟨xs,x,l,J⟩:=F
  obtain⟨r,y,p,M⟩:=I.list l
  obtain⟨u,U,S⟩:=y.get J
  obtain⟨q,A,R,t,n,D⟩:=m it (by simp)
  refine wpAny_pyNext_list_item st p.isList (x:=u) (by simpa using U) fun h' j V=>?_
  have Q:Inv X f Z H { s with heap:=h'}:=I.turned (t':=s.toks) (fun b o g e=>(V.2 b g).trans e) q A t n D
  obtain⟨o,e,c,d⟩:=id j
  exact⟨u,rfl,vG (s:={ s with heap:=h'}) e c d (by decide) ⟨x,H,Q,S,⟨rfl,fun ys N=>by rw[I.list_inj N l];exact J⟩,j,fun b g=>(m b g).1⟩⟩
 done:=by
  intro X B G C L i f s Z H E I m st F
  subst B G C
  obtain⟨xs,l,J⟩:=F
  obtain⟨r,y,p,M⟩:=I.list l
  obtain⟨q,A,R,t,n,D⟩:=m it (by simp)
  have W:=y.length
  exact wpAny_pyNext_list_end (I.ok.hd L) st p.isList (by simp;omega) fun h' O=>⟨rfl,I.turned (t':=s.toks) (fun b o g e=>O b o g e) q A t n D⟩
 self:=fun _ _ _ _ _ st h=>wpAny_pyIter_listiter st h
theorem sZ {P:Program}{w:World}{K:Frag}{T:Expr}(a it:Addr):Turn P w K T (Itt K a) [it] it (fun i h=>h.IsTupleIter it a i) where
 mem:=by simp
 obj:=fun i h st b g=>by
  have e:b=it:=by simpa using g
  subst e
  obtain⟨o,e,c,d⟩:=st
  exact⟨o,e,fun v z=>by rw[d] at z;cases z⟩
 keep:=fun i h h' st k=>st.at fun o e=>k it (by simp) o e
 item:=by
  intro X B G C L i f s Z H E I n st F
  subst B G C
  obtain⟨xs,x,m,J⟩:=F
  obtain⟨j,y,p,M⟩:=I.tuple m
  obtain⟨u,U,S⟩:=y.get J
  obtain⟨r,A,R,t,q,D⟩:=n it (by simp)
  refine wpAny_pyNext_tuple_item st (show s.heap.IsTuple a j.toArray from p) (x:=u) (by simpa using U) fun h' l V=>?_
  have Q:Inv X f Z H { s with heap:=h'}:=I.turned (t':=s.toks) (fun b o g e=>(V.2 b g).trans e) r A t q D
  obtain⟨o,e,c,d⟩:=id l
  exact⟨u,rfl,vG (s:={ s with heap:=h'}) e c d (by decide) ⟨x,H,Q,S,⟨rfl,fun ys N=>by rw[I.tuple_inj N m];exact J⟩,l,fun b g=>(n b g).1⟩⟩
 done:=by
  intro X B G C L i f s Z H E I n st F
  subst B G C
  obtain⟨xs,m,J⟩:=F
  obtain⟨j,y,p,M⟩:=I.tuple m
  obtain⟨r,A,R,t,q,D⟩:=n it (by simp)
  have W:=y.length
  exact wpAny_pyNext_tuple_end (I.ok.hd L) st (show s.heap.IsTuple a j.toArray from p) (by simp;omega) fun h' O=>⟨rfl,I.turned (t':=s.toks) (fun b o g e=>O b o g e) r A t q D⟩
 self:=fun _ _ _ _ _ st h=>wpAny_pyIter_tupleiter st h
theorem tu {P:Program}{w:World}{K:Frag}{G:Expr}(it:Addr) (f:Int) (n:Nat):Turn P w K G (Itr f n) [it] it (fun i h=>IsRangeIter h it (f+(i:Nat)*1) ((n:Int) - (i:Nat)) 1) where
 mem:=by simp
 obj:=fun i h st b c=>by
  have e:b=it:=by simpa using c
  subst e
  exact⟨_,st,fun v z=>by
   have L:Data.fields _=Data.cell v:=z
   cases L⟩
 keep:=fun i h h' st k=>k it (by simp) _ st
 item:=by
  intro X q A r x i a s Z H E I g st y
  subst q A r
  obtain⟨l,p,F,m,j,u⟩:=g it (by simp)
  have W:=Walks.range (prog:=X.prog) (w:=X.w) (I.ok.hd x) it f 1 n
  refine W.item i s _ _ y st fun v h' tk D d J=>?_
  obtain⟨t,rfl⟩:=D
  have C:Inv X a Z H { s with heap:=h',toks:=tk}:=I.turned (fun b o c e=>J b o (by simpa using c) e) l p m j u
  refine⟨_,rfl,vG (s:={ s with heap:=h',toks:=tk}) (n:="range_iterator") d rfl rfl (by decide) ⟨.int (f+i),H,C,⟨t,?_⟩,⟨rfl,rfl⟩,d,fun b c=>(g b c).1⟩⟩
  rw[Int.mul_one]
 done:=by
  intro X q A r x i a s Z H E I g st y
  subst q A r
  obtain⟨l,p,F,m,j,u⟩:=g it (by simp)
  exact wpAny_pyNext_range_end (I.ok.hd x) st (by have:n<=i:=y;omega) fun h' B=>⟨rfl,I.turned (t':=s.toks) (fun b o c e=>B b o c e) l p m j u⟩
 self:=fun _ _ _ _ _ st h=>wpAny_pyIter_rangeiter st h
section
variable {X:Cx}{tg:Expr}
def Ru (K:Frag) (c:TE):TI:=fun Z H R=>c Z H fun x b=>∃a,x=.ref a/\(∃xs,SqL K b a xs)/\R (Itl K a) b
def WW (K:Frag) (c:TE):TI:=fun Z H R=>c Z H fun x b=>∃a,x=.ref a/\(∃xs,SqT K b a xs)/\R (Itt K a) b
theorem Et {l:Expr}{g:TE}(n:PE X l g):PI X tg l (Ru X.K g):=by
 intro c s Z H R I h;refine thn (n c s Z H _ I h) fun v d ⟨x,i,f,j,m⟩=>?_;obtain⟨a,e,⟨xs,k⟩,q⟩:=m;subst e;cases j;obtain⟨t,w,p,u⟩:=f.list k;refine Z5 p.isList ?_;refine⟨d.heap.objs.size,[d.heap.objs.size],_,_,i,rfl,f.kept (t':=d.toks) fun b o e=>b_ _ e,xF a _,⟨_,v_ _ rfl,rfl,rfl⟩,fun b r=>?_,q⟩;have e:b=d.heap.objs.size:=by simpa using r
 subst e;exact f.fpOk (o_ _) (f.hok.fresh (o_ _))
theorem Ld {l:Expr}{i:TE}(r:PE X l i):PI X tg l (WW X.K i):=by
 intro c s Z H R I h;refine thn (r c s Z H _ I h) fun v d ⟨x,j,f,k,n⟩=>?_;obtain⟨a,e,⟨xs,m⟩,q⟩:=n;subst e;cases k;obtain⟨g,w,p,u⟩:=f.tuple m;refine wpAny_pyIter_tuple (show d.heap.IsTuple a g.toArray from p) ?_;refine⟨d.heap.objs.size,[d.heap.objs.size],_,_,j,rfl,f.kept (t':=d.toks) fun b o e=>b_ _ e,sZ a _,⟨_,v_ _ rfl,rfl,rfl⟩,fun b t=>?_,q⟩;have e:b=d.heap.objs.size:=by simpa using t
 subst e;exact f.fpOk (o_ _) (f.hok.fresh (o_ _))
theorem qi {d:List (Addr × Obj)}{Z:St}{H:Hp}{s:Shared}{R:It->Hp->Prop}{E:Value->Shared->Prop}{a c:Int}{t u v:Tok}{tk:Nat}(I:Inv X d Z H s) (j : -(2^62)<=a) (g:a<2^62) (k : -(2^62)<=c) (h:c<2^62)
  (q:R (Itr a (c - a).toNat) H):wpAny (model X.prog X.w) X.A (pyIter (.ref s.heap.objs.size)) (PIE X d Z tg R) E { s with heap:=s.heap.push { cls:=.type "range",data:=.fields #[.int a t,.int c u,.int 1 v]},toks:=tk}:=by
 refine wpAny_pyIter_range (IsRange.new ..) (small_one j g k h) ?_;have f:Inv X d Z H { s with heap:=s.heap.push { cls:=.type "range",data:=.fields #[.int a t,.int c u,.int 1 v]},toks:=tk}:=I.kept fun b o e=>b_ _ e;refine⟨(s.heap.push { cls:=.type "range",data:=.fields #[.int a t,.int c u,.int 1 v]}).objs.size,[(s.heap.push { cls:=.type "range",data:=.fields #[.int a t,.int c u,.int 1 v]}).objs.size],_,_,H,rfl,
  f.kept (t':=tk) fun b o e=>b_ _ e,tu _ a (c - a).toNat,?_,fun b l=>?_,q⟩
 ·have m:a+((0:Nat):Int)*1=a:=by simp
  have i:(((c - a).toNat:Nat):Int) - ((0:Nat):Int)=Builtin.Range.rangeSize a c 1:=by rw[rangeSize_one];split <;> omega
  show IsRangeIter _ _ (a+((0:Nat):Int)*1) ((((c - a).toNat:Nat):Int) - ((0:Nat):Int)) 1;rw[m,i];exact v_ _ rfl
 have e:b=(s.heap.push { cls:=.type "range",data:=.fields #[.int a t,.int c u,.int 1 v]}).objs.size:=by simpa using l
 subst e;exact f.fpOk (o_ _) (f.hok.fresh (o_ _))
def Rv (a:TA):TI:=fun Z H R=>a Z H fun vs b=>∃j:Int,vs=[.int j] /\ -(2^62)<=j/\j<2^62/\R (Itr 0 j.toNat) b
def Rx (a:TA):TI:=fun Z H R=>a Z H fun vs b=>∃i j:Int,vs=[.int i,.int j]/\(-(2^62)<=i/\i<2^62 /\ -(2^62)<=j/\j<2^62)/\R (Itr i (j - i).toNat) b
theorem xG {a:Expr}{f:TA}{p c:Pos}(u:Gl X "range") (l:X.mg "range"=none) (k:PA X [a] f) (g:starEach [a] X.env=[(false,eval a X.env)]:=by rfl):PI X tg (.Call (.Name "range" p) [a] [] c) (Rv f):=by
 intro b s Z H R I h;refine Call_ (fC I u l boot_range (Yj (thn (k c b s Z H _ I h) fun us w ⟨vs,v,o,m,d⟩=>?_) g rfl));obtain⟨j,e,d,i,q⟩:=d;subst e;cases m with
 |cons r n =>
 cases n;obtain⟨t,rfl⟩:=r;exact call_range_1 (qi o (by omega) (by omega) d i (by simpa using q))
theorem xH {a b:Expr}{l:TA}{p d:Pos}(z:Gl X "range") (w:X.mg "range"=none) (v:PA X [a,b] l) (m:starEach [a,b] X.env=[(false,eval a X.env),(false,eval b X.env)]:=by rfl) (f:starEach [b] X.env=[(false,eval b X.env)]:=by rfl) :
  PI X tg (.Call (.Name "range" p) [a,b] [] d) (Rx l):=by
 intro c s Z H R I h;refine Call_ (fC I z w boot_range (Yj (thn (v d c s Z H _ I h) fun us C ⟨vs,B,y,x,g⟩=>?_) (by rw[m,f]) (by rw[f];rfl)));obtain⟨i,j,e,⟨g,u,o,n⟩,q⟩:=g;subst e;cases x with
 |cons r k =>
 cases k with
 |cons A k =>
 cases k;obtain⟨t,rfl⟩:=r;obtain⟨t',rfl⟩:=A;exact call_range_2 (qi y g u o n q)
def WX (e:TI) (g:TG) (h:TS):TS:=fun D Z H=>e Z H fun J f=>∃W:Nat->Nat->St->Hp->Prop,(∃m,W 0 m Z f)/\∀i m Z H,W i m Z H ->
 (J.stop i H/\D.nx Z H)\/(J.go i H/\∃N:St->Hp->Prop,(∀c a,N c a->∃b,b<m/\W (i+1) b c a)/\∀x a,J.yld i H x a->g x Z a fun j d=>h { D with nx:=N,ct:=N,bk:=D.nx} j d)
def j6 (a : List Addr) (h : Heap) : List (Addr × Obj):=a.filterMap fun b => (h.get? b).map fun o => (b,o)
theorem fW {a : List Addr} {h : Heap} {b : Addr} {o : Obj} (c : b ∈ a) (e : h.get? b = some o) : (b,o) ∈ j6 a h:=List.mem_filterMap.mpr ⟨b,c,by rw [e]; rfl⟩
theorem xJ {a:List Addr}{h:Heap}{p:Addr × Obj}(f:p∈j6 a h):p.1∈a/\h.get? p.1=some p.2:=by
 obtain ⟨b,c,e⟩:=List.mem_filterMap.mp f;cases q : h.get? b with
 |none=>rw[q] at e;cases e
 |some o =>
 rw[q] at e;have d:(b,o)=p:=Q_ e;subst d;exact⟨c,q⟩
theorem Inv.pinned {a:List (Addr × Obj)}{Z:St}{H:Hp}{s:Shared}{c:List Addr}(I:Inv X a Z H s) (l:∀b∈c,jN X a H b) (h:∀b∈c,∃o,s.heap.get? b=some o/\∀v,o.data≠.cell v):Inv X (a++j6 c s.heap) Z H s :=
 I.pins_of fun p j=>(B_.mp j).elim (fun z=>I.pin p (R_ _ z)) fun z=>by
  obtain⟨g,e⟩:=xJ z;obtain⟨m,k,i,_⟩:=l p.1 g;obtain⟨o,f,d⟩:=h p.1 g;rw[e] at f;cases f;exact⟨e,m,k,i,d⟩
theorem Inv.unpinned {a pl:List (Addr × Obj)}{Z:St}{H:Hp}{s:Shared}(I:Inv X (a++pl) Z H s):Inv X a Z H s:=I.pins_of fun p b=>I.pin p (R_ _ (Yk _ b))
theorem Le {l:Expr}{B:List Stmt}{wi:TI}{g:TG}{tb:TS}{S:Pos}(R:PassesOwn (model X.prog X.w) X.A X.env X.xe) (hc:X.calm=true) (hi:PI X tg l wi) (hg:PG X tg g) (j:PSs X B tb)
  (hs:∀x,foldedSetIterable l X.env x=pure x:=by intro _;rfl):PS X (.For tg l B [] S) (WX wi g tb):=by
 intro a s Z H D I h;refine wpAny_For (thn (hi a s Z H _ I h) fun v s1 h1=>thn h1 fun itv s2 h2=>?_) hs;obtain⟨it,L,tn,J,H2,e,I2,T,U,f2,W,⟨m0,w0⟩,P⟩:=h2;subst e
 have t:∀{y:Hp},(∀b∈L,y b=none)->∀b∈L,jN X a y b:=fun hn b j=>⟨hn b j,(f2 b j).2⟩;refine codeAny_forLoop_any (fun n s'=>∃i F y,Inv X a F y s'/\tn i s'.heap/\(∀b∈L,y b=none)/\W i n F y) ?_ m0 ⟨0,Z,H2,I2,U,fun b j=>(f2 b j).1,w0⟩;rintro n s3 ⟨i,G,H3,I3,O,K,w3⟩;rcases P i n G H3 w3 with ⟨Q,qn⟩ | ⟨go,N,hN,M⟩
 ·refine Zz R (thn (T.done X rfl rfl rfl hc i a s3 G H3 X.xe I3 (t K) O Q) fun r s4 ⟨V,I4⟩=>?_);subst V;exact wpAny_execs_nil ⟨G,H3,I4,qn⟩
 refine Zz R (thn (T.item X rfl rfl rfl hc i a s3 G H3 X.xe I3 (t K) O go) fun r s4 ⟨u,V,h4⟩=>?_);subst V;refine Zz R (thn h4 fun _ s5 ⟨x,H5,I5,r5,y5,C,fr5⟩=>?_);have Y:=I5.pinned (t fr5) (T.obj _ _ C);refine Zz R (thn (hg _ s5 G H5 x u _ Y r5 (M x H5 y5)) fun _ s6 ⟨Z6,H6,I6,q6⟩=>?_);refine Zz R (thn (j _ s6 Z6 H6 _ I6 q6) fun f s7 z=>?_);have p:∀{c:St} {q:Hp},Inv X (a++j6 L s5.heap) c q s7->N c q->∃m,m<n/\∃i F y,Inv X a F y s7/\tn i s7.heap/\(∀b∈L,y b=none)/\W i m F y:=fun {c q} k E=>by obtain⟨m',hm,w7⟩:=hN c q E;refine⟨m',hm,i+1,c,q,k.unpinned,T.keep _ _ _ C fun b j o e=>(k.pin (b,o) (R_ _ (R_ _ (fW j e)))).1,fun b j=>?_,w7⟩;obtain⟨o,e,d⟩:=T.obj _ _ C b j;exact (k.pin (b,o) (R_ _ (R_ _ (fW j e)))).2.1
 cases f with
 |next=>obtain⟨c,q,k,E⟩:=z;exact p k E
 |cont=>obtain⟨c,q,k,E⟩:=z;exact p k E
 |brk=>obtain⟨c,q,k,z⟩:=z;exact⟨c,q,k.unpinned,z⟩
 |ret v=>obtain⟨x7,c,q,k,r7,z⟩:=z;exact⟨x7,c,q,k.unpinned,r7,z⟩
end
abbrev R2:=V->V->Hp->VK->Prop
def OpR (X:Cx) (f:Value->Value->Sem Value) (r:R2):Prop :=
 ∀(a:List (Addr × Obj)) (s:Shared) (Z:St) (H:Hp) (x y:V) (v u:Value) (Q:VK),Inv X a Z H s->RelV x v->RelV y u->r x y H Q ->
  wpAny (model X.prog X.w) X.A (f v u) (EP X a Z Q) X.xe s
def UnR (X:Cx) (f:Value->Sem Value) (r:V->Hp->VK->Prop):Prop :=
 ∀(a:List (Addr × Obj)) (s:Shared) (Z:St) (H:Hp) (x:V) (v:Value) (Q:VK),Inv X a Z H s->RelV x v->r x H Q ->
  wpAny (model X.prog X.w) X.A (f v) (EP X a Z Q) X.xe s
def CallR (X:Cx) (f:Value) (r:List V->Hp->VK->Prop):Prop :=
 ∀(a:List (Addr × Obj)) (s:Shared) (Z:St) (H:Hp) (xs:List V) (us:List Value) (Q:VK),Inv X a Z H s->Vals xs us->r xs H Q ->
  wpAny (model X.prog X.w) X.A (call f us) (EP X a Z Q) X.xe s
def tOp (r:R2) (a c:TE):TE:=fun Z H Q=>a Z H fun x d=>c Z d fun y b=>r x y b Q
def tUn (r:V->Hp->VK->Prop) (a:TE):TE:=fun Z H Q=>a Z H fun x b=>r x b Q
def rI (C:Int->Int->Prop) (g:Int->Int->V):R2:=fun x y H Q=>∃i j,x=.int i/\y=.int j/\C i j/\Q (g i j) H
def rI0 (g:Int->Int->V):R2:=fun x y H Q=>∃i j,x=.int i/\y=.int j/\Q (g i j) H
def rU (g:Int->V):V->Hp->VK->Prop:=fun x H Q=>∃i,x=.int i/\Q (g i) H
section
variable {X:Cx}{a b c:Expr}{ta tb tc:TE}{pos:Pos}
theorem Lf (l:PE X a ta) (t:PE X b tb) {c:List (Addr × Obj)}{s:Shared}{Z:St}{H:Hp}{R:V->V->Hp->Prop}(I:Inv X c Z H s)
  (h:ta Z H fun x j=>tb Z j fun y d=>R x y d) {Q:Value->Shared->Prop} {f:Value->Value->Sem Value}
  (q:∀v u i x y d,Inv X c Z d i->RelV x v->RelV y u->R x y d->wpAny (model X.prog X.w) X.A (f v u) Q X.xe i) :
  wpAny (model X.prog X.w) X.A (eval a X.env) (fun v e=>wpAny (model X.prog X.w) X.A (eval b X.env) (fun u g=>wpAny (model X.prog X.w) X.A (f v u) Q X.xe g) X.xe e) X.xe s:=by
 refine thn (l c s Z H _ I h) fun v r ⟨x,j,z,o,n⟩=>?_;refine thn (t c r Z j _ z n) fun u i ⟨y,d,p,m,k⟩=>?_;exact q v u i x y d p o m k
theorem Ry {op:Operator}{r:R2}(e:OpR X (binaryOp op) r) (f:PE X a ta) (k:PE X b tb):PE X (.BinOp a op b pos) (tOp r ta tb):=by
 intro c s Z H Q I h;exact wpAny_BinOp (Lf f k I h fun v u i x y d g l j q=>e c i Z d x y v u Q g l j q)
theorem Rz {op:UnaryOp}{r:V->Hp->VK->Prop}(c:UnR X (unaryOp op) r) (e:PE X a ta):PE X (.UnaryOp op a pos) (tUn r ta):=by
 intro b s Z H Q I h;exact UnaryOp_ (thn (e b s Z H _ I h) fun v i ⟨x,d,j,g,f⟩=>c b i Z d x v Q j g f)
theorem opI {f:Value->Value->Sem Value}{C:Int->Int->Prop}{g:Int->Int->Int}
  (a:∀(i j:Int) (t u:Tok) (s:Shared) (Q:Value->Shared->Prop) (E:Value->Shared->Prop),C i j->Q (.int (g i j) s.toks) { s with toks:=s.toks+1}->wpAny (model X.prog X.w) X.A (f (.int i t) (.int j u)) Q E s) :
  OpR X f (rI C fun i j=>.int (g i j)):=by
 intro b s Z H x y v u Q I e c h;obtain⟨i,j,rfl,rfl,d,q⟩:=h;obtain⟨t,rfl⟩:=e;obtain⟨t',rfl⟩:=c;exact a i j t t' s _ _ d ⟨.int (g i j),H,I.tok _,⟨_,rfl⟩,q⟩
theorem Eu {f:Value->Value->Sem Value}{g:Int->Int->Int}
  (a:∀(i j:Int) (t u:Tok) (s:Shared) (Q:Value->Shared->Prop) (E:Value->Shared->Prop),Q (.int (g i j) s.toks) { s with toks:=s.toks+1}->wpAny (model X.prog X.w) X.A (f (.int i t) (.int j u)) Q E s) :
  OpR X f (rI0 fun i j=>.int (g i j)):=by
 intro b s Z H x y v u Q I d c h;obtain⟨i,j,rfl,rfl,q⟩:=h;obtain⟨t,rfl⟩:=d;obtain⟨t',rfl⟩:=c;exact a i j t t' s _ _ ⟨.int (g i j),H,I.tok _,⟨_,rfl⟩,q⟩
theorem Ew {f:Value->Value->Sem Value}{g:Int->Int->Bool}
  (a:∀(i j:Int) (t u:Tok) (s:Shared) (Q:Value->Shared->Prop) (E:Value->Shared->Prop),Q (.bool (g i j)) s->wpAny (model X.prog X.w) X.A (f (.int i t) (.int j u)) Q E s) :
  OpR X f (rI0 fun i j=>.bl (g i j)):=by
 intro b s Z H x y v u Q I d c h;obtain⟨i,j,rfl,rfl,q⟩:=h;obtain⟨t,rfl⟩:=d;obtain⟨t',rfl⟩:=c;exact a i j t t' s _ _ ⟨.bl (g i j),H,I,rfl,q⟩
def RB (i j:Int):Prop:=0<=j/\j<=1000000/\i.natAbs<2^64
def CMul (i j:Int):Prop:=(-(2^64)<i/\i<2^64)\/(-(2^64)<j/\j<2^64)
theorem CMul.ok {i j:Int}(h:CMul i j):IntMulOk i j:=by
 rcases h with ⟨a,b⟩ | ⟨a,b⟩
 ·exact .of_left (intBits_le_64 a b)
 exact .of_right (intBits_le_64 a b)
theorem op_add:OpR X (binaryOp .Add) (rI0 fun i j=>.int (i+j)):=Eu fun _ _ _ _ _ _ _ q=>add_int q
theorem Lg:OpR X (binaryOp .Sub) (rI0 fun i j=>.int (i - j)):=Eu fun _ _ _ _ _ _ _ q=>sub_int q
theorem Lh:OpR X (binaryOp .Mult) (rI CMul fun i j=>.int (i*j)):=opI fun _ _ _ _ _ _ _ a q=>mul_int q a.ok
theorem Li:OpR X (binaryOp .Mod) (rI (fun _ j=>0<j) fun i j=>.int (i%j)):=opI fun i j _ _ _ _ _ a q=>by
 have b:(0:Int)<j:=a;exact mod_int' (by omega) (by rw[Int.fmod_eq_emod_of_nonneg i (by omega)];exact q)
theorem Lj:OpR X (binaryOp .Pow) (rI RB fun i j=>.int (i^j.toNat)):=opI fun _ _ _ _ _ _ _ a q=>pow_int_small a.1 a.2.1 a.2.2 q
theorem Lk:OpR X (binaryOp .BitAnd) (rI0 fun i j=>.int (Builtin.bitAnd i j)):=Eu fun _ _ _ _ _ _ _ q=>and_int q
theorem RC:OpR X (binaryOp .BitOr) (rI0 fun i j=>.int (Builtin.bitOr i j)):=Eu fun _ _ _ _ _ _ _ q=>or_int q
theorem unI {f:Value->Sem Value}{g:Int->Int}
  (a:∀(i:Int) (t:Tok) (s:Shared) (Q:Value->Shared->Prop) (E:Value->Shared->Prop),Q (.int (g i) s.toks) { s with toks:=s.toks+1}->wpAny (model X.prog X.w) X.A (f (.int i t)) Q E s) :
  UnR X f (rU fun i=>.int (g i)):=by
 intro b s Z H x v Q I c h;obtain⟨i,rfl,q⟩:=h;obtain⟨t,rfl⟩:=c;exact a i t s _ _ ⟨.int (g i),H,I.tok _,⟨_,rfl⟩,q⟩
theorem Ln:UnR X (unaryOp .USub) (rU fun i=>.int (-i)):=unI fun _ _ _ _ _ q=>neg_int q
end
def il:V->V->Bool
 |.non,.non=>true | .non,.int _=>true | .int _,.non=>true | .non,.bl _=>true | .bl _,.non=>true | .non,.str _=>true | .str _,.non=>true
 |.int _,.int _=>true | .bl _,.bl _=>true | .str _,.str _=>true | .byt _,.byt _=>true
 |.int _,.str _=>true | .str _,.int _=>true | .bl _,.str _=>true | .str _,.bl _=>true
 |_,_=>false
def rEq:R2:=fun x y H Q=>il x y=true/\Q (.bl (decide (x=y))) H
def rNe:R2:=fun x y H Q=>il x y=true/\Q (.bl (!decide (x=y))) H
theorem vH {i j:Int}:decide (V.int i=V.int j)=(i==j):=by
 rw[W_];simp
theorem yQ {i j:Bool}:decide (V.bl i=V.bl j)=(i==j):=by
 rw[W_];simp
theorem vI {i j:Str}:decide (V.str i=V.str j)=(i==j):=by
 rw[W_];simp
theorem vJ {i j:Array UInt8}:decide (V.byt i=V.byt j)=(i.toList==j.toList):=by
 rw[W_];cases i;cases j;simp
section
variable {X:Cx}{a b c:Expr}{ta tb tc:TE}{pos:Pos}
theorem aZ {a:List (Addr × Obj)}{Z:St}{H:Hp}{s:Shared}{Q:VK}{k b:Bool}(I:Inv X a Z H s) (q:Q (.bl k) H) (e:k=b):EP X a Z Q (.bool b) s:=by
 subst e;exact⟨.bl k,H,I,rfl,q⟩
theorem RD:OpR X (compareOp .Eq) rEq:=by
 intro d s Z H x y v u Q I c a h;obtain⟨b,q⟩:=h;cases x with
 |non =>
  cases c;cases y with
  |non=>cases a;exact PySem.EqNone.eq_none_none (aZ I q (by simp))
  |bl j=>cases a;exact PySem.EqNone.eq_none_bool (aZ I q (by simp))
  |int j=>obtain⟨t',rfl⟩:=a;exact PySem.EqNone.eq_none_int (aZ I q (by simp))
  |str j=>obtain⟨t',rfl⟩:=a;exact PySem.EqNone.eq_none_str (aZ I q (by simp))
  |_=>exact absurd (show false=true from b) t_
 |bl i =>
  cases c;cases y with
  |non=>cases a;exact PySem.EqNone.eq_bool_none (aZ I q (by simp))
  |bl j=>cases a;exact eq_bool (aZ I q yQ)
  |str j=>obtain⟨t',rfl⟩:=a;exact PySem.EqMixed.eq_bool_str (aZ I q (by simp))
  |_=>exact absurd (show false=true from b) t_
 |int i =>
  obtain⟨t,rfl⟩:=c;cases y with
  |non=>cases a;exact PySem.EqNone.eq_int_none (aZ I q (by simp))
  |int j=>obtain⟨t',rfl⟩:=a;exact eq_int (aZ I q vH)
  |str j=>obtain⟨t',rfl⟩:=a;exact PySem.EqMixed.eq_int_str (aZ I q (by simp))
  |_=>exact absurd (show false=true from b) t_
 |str i =>
  obtain⟨t,rfl⟩:=c;cases y with
  |non=>cases a;exact PySem.EqNone.eq_str_none (aZ I q (by simp))
  |bl j=>cases a;exact PySem.EqMixed.eq_str_bool (aZ I q (by simp))
  |int j=>obtain⟨t',rfl⟩:=a;exact PySem.EqMixed.eq_str_int (aZ I q (by simp))
  |str j=>obtain⟨t',rfl⟩:=a;exact eq_str (aZ I q vI)
  |_=>exact absurd (show false=true from b) t_
 |byt i =>
  obtain⟨t,rfl⟩:=c;cases y with
  |byt j=>obtain⟨t',rfl⟩:=a;exact PySem.W.eq_bytes (aZ I q vJ)
  |_=>exact absurd (show false=true from b) t_
 |_=>cases y <;> exact absurd (show false=true from b) t_
theorem RG:OpR X (compareOp .NotEq) rNe:=by
 intro d s Z H x y v u Q I c a h;obtain⟨b,q⟩:=h;cases x with
 |non =>
  cases c;cases y with
  |non=>cases a;exact PySem.EqNone.ne_none_none (aZ I q (by simp))
  |bl j=>cases a;exact PySem.EqNone.ne_none_bool (aZ I q (by simp))
  |int j=>obtain⟨t',rfl⟩:=a;exact PySem.EqNone.ne_none_int (aZ I q (by simp))
  |str j=>obtain⟨t',rfl⟩:=a;exact PySem.EqNone.ne_none_str (aZ I q (by simp))
  |_=>exact absurd (show false=true from b) t_
 |bl i =>
  cases c;cases y with
  |non=>cases a;exact PySem.EqNone.ne_bool_none (aZ I q (by simp))
  |bl j=>cases a;exact ne_bool (aZ I q (X6 not yQ))
  |str j=>obtain⟨t',rfl⟩:=a;exact PySem.EqMixed.ne_bool_str (aZ I q (by simp))
  |_=>exact absurd (show false=true from b) t_
 |int i =>
  obtain⟨t,rfl⟩:=c;cases y with
  |non=>cases a;exact PySem.EqNone.ne_int_none (aZ I q (by simp))
  |int j=>obtain⟨t',rfl⟩:=a;exact ne_int (aZ I q (X6 not vH))
  |str j=>obtain⟨t',rfl⟩:=a;exact PySem.EqMixed.ne_int_str (aZ I q (by simp))
  |_=>exact absurd (show false=true from b) t_
 |str i =>
  obtain⟨t,rfl⟩:=c;cases y with
  |non=>cases a;exact PySem.EqNone.ne_str_none (aZ I q (by simp))
  |bl j=>cases a;exact PySem.EqMixed.ne_str_bool (aZ I q (by simp))
  |int j=>obtain⟨t',rfl⟩:=a;exact PySem.EqMixed.ne_str_int (aZ I q (by simp))
  |str j=>obtain⟨t',rfl⟩:=a;exact ne_str (aZ I q (X6 not vI))
  |_=>exact absurd (show false=true from b) t_
 |byt i =>
  obtain⟨t,rfl⟩:=c;cases y with
  |byt j=>obtain⟨t',rfl⟩:=a;exact PySem.W.ne_bytes (aZ I q (X6 not vJ))
  |_=>exact absurd (show false=true from b) t_
 |_=>cases y <;> exact absurd (show false=true from b) t_
theorem RJ:OpR X (compareOp .Lt) (rI0 fun i j=>.bl (decide (i<j))):=Ew fun _ _ _ _ _ _ _ q=>lt_int q
theorem RK:OpR X (compareOp .LtE) (rI0 fun i j=>.bl (decide (i<=j))):=Ew fun _ _ _ _ _ _ _ q=>le_int q
theorem RL:OpR X (compareOp .Gt) (rI0 fun i j=>.bl (decide (j<i))):=Ew fun _ _ _ _ _ _ _ q=>gt_int q
theorem RM:OpR X (compareOp .GtE) (rI0 fun i j=>.bl (decide (j<=i))):=Ew fun _ _ _ _ _ _ _ q=>ge_int q
theorem xK:OpR X (compareOp .In) (fun x y H Q=>∃i j,x=.str i/\y=.str j/\Q (.bl (!(Builtin.Str.occurrences j i 0 j.length 1).isEmpty)) H):=by
 intro a s Z H x y v u Q I c b h;obtain⟨i,j,rfl,rfl,q⟩:=h;obtain⟨t,rfl⟩:=c;obtain⟨t',rfl⟩:=b;exact in_str (aZ I q rfl)
theorem nU:OpR X (compareOp .NotIn) (fun x y H Q=>∃i j,x=.str i/\y=.str j/\Q (.bl (!(!(Builtin.Str.occurrences j i 0 j.length 1).isEmpty))) H):=by
 intro a s Z H x y v u Q I c b h;obtain⟨i,j,rfl,rfl,q⟩:=h;obtain⟨t,rfl⟩:=c;obtain⟨t',rfl⟩:=b;exact notIn_str (aZ I q rfl)
theorem OpR.or {f:Value->Value->Sem Value}{r c:R2}(h:OpR X f r) (h':OpR X f c):OpR X f (fun x y H Q=>r x y H Q\/c x y H Q):=by
 intro a s Z H x y v u Q I d b q;rcases q with q | q
 ·exact h a s Z H x y v u Q I d b q
 exact h' a s Z H x y v u Q I d b q
theorem yR (b:Expr) {op:CmpOp}(h:op≠.In:=by decide) (d:op≠.NotIn:=by decide):behindInMarks op b=false:=by
 have c:(op==CmpOp.In)=false:=by cases op <;> first | rfl | exact absurd rfl h
 have a:(op==CmpOp.NotIn)=false:=by cases op <;> first | rfl | exact absurd rfl d
 cases b <;> simp [behindInMarks,c,a]
theorem Ex {op:CmpOp}{r:R2}(e:OpR X (compareOp op) r) (f:PE X a ta) (l:PE X b tb) (g:behindInMarks op b=false):PE X (.Compare a [op] [b] pos) (tOp r ta tb):=by
 intro c s Z H Q I h;exact wpAny_Compare1 (Lf f l I h fun v u j x y d i m k q=>e c j Z d x y v u Q i m k q) g
def Jo (t:TE):TT:=fun Z H Q=>t Z H fun x a=>∃k,x=.bl k/\Q k a
theorem Ey {op:CmpOp}{r:R2}(q:OpR X (compareOp op) r) (n:PE X a ta) (i:PE X b tb) (o:behindInMarks op b=false):PT X (.Compare a [op] [b] pos) (Jo (tOp r ta tb)):=by
 intro d s Z H Q I h;refine wpAny_isTrue_Compare1 (thn (n d s Z H _ I h) fun v D ⟨x,t,j,g,A⟩=>thn (i d D Z t _ j A) fun u l ⟨y,m,B,w,f⟩ =>
  thn (q d l Z m x y v u _ B g w f) fun c F ⟨z,H3,p,C,k,e,E⟩=>?_) o
 subst e;cases C;exact Yy ⟨H3,p,E⟩
def yS (r h:R2) (g b c:TE):TE:=fun Z H Q=>g Z H fun x d=>b Z d fun y a=>r x y a fun z H3=>∃k,z=.bl k /\
 (if k=true then c Z H3 fun f e=>h y f e Q else Q (.bl false) H3)
theorem yU {op g:CmpOp}{r n:R2}(S:OpR X (compareOp op) r) (i:OpR X (compareOp g) n) (N:PE X a ta) (B:PE X b tb) (L:PE X c tc)
  (P:lastMarks [op,g] [b,c]=false:=by with_unfolding_all rfl):PT X (.Compare a [op,g] [b,c] pos) (Jo (yS r n ta tb tc)):=by
 intro f s Z H Q I h;refine isTrue_chain (thn (N f s Z H _ I h) fun v s1 ⟨x,U,C,w,W⟩=>test_link (thn (B f s1 Z U _ C W) fun u G ⟨y,M,Y,m,p⟩ =>
  thn (S f G Z M x y v u _ Y w m p) fun d D ⟨z,H3,l,r3,k,e,j⟩=>?_)) P
 subst e;cases r3;refine Yy ?_;cases k with
 |false=>obtain⟨k',T,q⟩:=j;cases T;exact ite_ff ⟨H3,l,q⟩
 |true =>
 refine ite_tt (test_last (thn (L f D Z H3 _ l j) fun J s4 ⟨z',F,E,V,K⟩=>thn (i f s4 Z F y z' u J _ E m V K) fun d' s5 ⟨z2,O,o,R,k2,A,t⟩=>?_));subst A;cases R;exact Yy ⟨O,o,t⟩
theorem jl:(sizeLine:Nat)<2^63:=by rw[aaA];decide
theorem op_add_str:OpR X (binaryOp .Add) (fun x y H Q=>∃i j,x=.str i/\y=.str j/\i.length+j.length<=sizeLine/\Q (.str (i++j)) H):=by
 intro a s Z H x y v u Q I d c h;obtain⟨i,j,rfl,rfl,b,q⟩:=h;obtain⟨t,rfl⟩:=d;obtain⟨t',rfl⟩:=c;exact add_str (fun t' tk=>⟨.str (i++j),H,I.tok _,⟨_,rfl⟩,q⟩) b
theorem vals1 {x:V}{us:List Value}(r:Vals [x] us):∃u,us=[u]/\RelV x u:=by
 cases r with
 |cons a b=>cases b;exact⟨_,rfl,a⟩
theorem vals2 {x y:V}{us:List Value}(r:Vals [x,y] us):∃u a,us=[u,a]/\RelV x u/\RelV y a:=by
 cases r with
 |cons d c =>
 cases c with
 |cons e b=>cases b;exact⟨_,_,rfl,d,e⟩
theorem xM:CallR X (.type "int") (fun xs H Q=>(∃i,xs=[.int i]/\Q (.int i) H)\/∃k,xs=[.bl k]/\Q (.int (if k then 1 else 0)) H):=by
 intro a s Z H xs us Q I r h;rcases h with ⟨i,rfl,q⟩ | ⟨k,rfl,q⟩
 ·obtain⟨u,rfl,t,rfl⟩:=vals1 r;exact call_int_int ⟨.int i,H,I,⟨_,rfl⟩,q⟩
 obtain⟨u,rfl,b⟩:=vals1 r;cases b;exact call_int_bool ⟨.int (if k then 1 else 0),H,I.tok _,⟨_,rfl⟩,q⟩
end
structure ObjM (h:Heap) (x dx C:Addr) (mA:Str->Option Value):Prop where
 obj:h.get? x=some (instObj C dx)
 ns:h.Ns1 dx mA
 ne:dx≠x
theorem xN {h:Heap}{f:Addr}{c:Str->Option Value}(n:h.Ns1 f c):∃od,h.get? f=some od/\∀name,lookIn name od=some (c name):=by
 obtain⟨o,d,p,i,j,k,_,l⟩:=n;refine⟨o,i,fun name=>?_⟩;have e:=l name;unfold nsFind findBy at e;rw[<- Array.find?_toList] at e;unfold lookIn;rw[j];dsimp only;split
 ·rename_i y q;rw[q] at e;exact X6 some e
 rename_i q;rw[q] at e;have a:d.toList.any (·.refKey)=false:=by rw[List.any_eq_false];intro y m;obtain⟨z,t,b⟩:=k y (Array.mem_toList_iff.mp m);simp [DictEntry.refKey,b]
 have g:¬d.toList.any (·.refKey)=true:=by rw[a];exact t_
 rw[if_neg g];exact X6 some e
theorem ObjM.look {h:Heap}{x b C:Addr}{a:Str->Option Value}(I:ObjM h x b C a):∃od,InstAt h x (instObj C b) C (some od)/\∀name,lookIn name od=some (a name) :=
 let ⟨od,ho,hl⟩:=xN I.ns
 ⟨od,⟨I.obj,rfl,rfl,ho⟩,hl⟩
section
variable {prog:Program}{w:World}{A:Around}{E:Value->Shared->Prop}{s:Shared}{K:Frag}{x dx C f:Addr}{mA:Str->Option Value}{name:Str}{v:Value}
theorem Ez {a:Bool}{Q:Value->Shared->Prop}(X:K.In s.heap) (I:ObjM s.heap x dx C mA) (g:plainGet K C name=true) (d:hasDictIn K C=true)
  (c:findIn K (.ref C) name=some none) (e:mA name=some v) (b:handedIn v=true) (h:Q v { s with toks:=s.toks+1}) :
  wpAny (model prog w) A (getAttr (.ref x) name a) Q E s:=by
 obtain⟨od,J,f⟩:=I.look;exact PySem.W.get_value X J (plainGet_of g).1 (PySem.W.findObj_own d c rfl (by rw[f,e])) b h
theorem yV {pl:Sem Bool}{Q:Value × List Value->Shared->Prop}(X:K.In s.heap) (I:ObjM s.heap x dx C mA) (a:plainGet K C name=true)
  (c:findIn K (.ref C) name=some (some (.ref f))) (e:isFn K (.ref f)=true) (b:mA name=none) (h:Q (.ref f,[.ref x]) s) :
  wpAny (model prog w) A (getMethod (.ref x) name pl) Q E s:=by
 obtain⟨od,J,d⟩:=I.look;exact PySem.W.method_fn X J (plainGet_of a).1 (plainGet_of a).2 c (Zn.mp e) (by show (lookIn name od).map (·.isSome)=some false;rw[d,b];rfl) h
theorem EY {ns:List Str}{Q:Unit->Shared->Prop}(X:K.In s.heap) (I:ObjM s.heap x dx C mA)
  (j:findIn K (.ref C) "__setattr__"=some (some (.builtin "object.__setattr__"))) (l:plainOver K C=true) (p:takerIn K C name=some none) (m:hasDictIn K C=true)
  (k:PySem.Within mA ns) (hsz:ns.length<=sizeLine)
  (h:∀h',ObjM h' x dx C (fun y=>if y=name then some v else mA y)->Heap.SameBut dx s.heap h'->Q () { s with heap:=h',toks:=s.toks+2}) :
  wpAny (model prog w) A (setAttr (.ref x) name v) Q E s:=by
 obtain⟨od,J,z⟩:=I.look;refine PySem.W.set_plain X J j (PySem.W.osa_open (s:={ s with toks:=s.toks+1}) (r:=none) X J l p fun b=>?_);obtain⟨u,q,f⟩:=PySem.W.any_some m;have t:s.heap.get? x=some ⟨.ref C,some dx,.plain,#[]⟩:=I.obj;refine a_ (i_ (a_ (a_ (wpAny_loadPart t (a_ (PySem.W.Looks.here (s:={ s with toks:=s.toks+1}) (PySem.W.looks_clsIn X q) ?_))))));rw[f];refine i_ (a:=some dx) (a_ (i_ (a_ ?_)));refine wpAny_nsSet1 (s:={ s with toks:=s.toks+1}) I.ns fun h' d c=>?_;obtain⟨oD,n,o,i,g,e⟩:=d.count (PySem.Within.cons name v k);refine a_ (wpAny_lookBehind i (by rw[g];exact pastItsLine_dict (L_ e (by rw[n_];omega))) ?_);exact i_ (h _ ⟨(c.2 _ (Ne.symm I.ne)).trans I.obj,d,I.ne⟩ c)
theorem yW {R:Result->Shared->Prop}{vs:List Value}{b:List (Str × Value)}(X:K.In s.heap) (e:makesIn K C=true)
  (c:findIn K (.ref C) "__init__"=some (some (.ref f))) (i:typeIn K (.ref f)=some (.type "function"))
  (h:codeAny (model prog w) (A.under (.builtin "type.__call__" ⟨.ref C::vs,b⟩)) (.call (.ref f) ⟨.ref (s.heap.objs.size+1)::vs,b⟩) (PySem.W.InitBack (s.heap.objs.size+1) R)
   { s with heap:=(s.heap.push emptyDict).push (instObj C s.heap.objs.size)}) :
  codeAny (model prog w) A (.call (.ref C) ⟨vs,b⟩) R s:=by
 obtain⟨k,g,d,t,j⟩:=s;exact PySem.W.make_core (PySem.W.makes_of X e) (PySem.W.looks_findIn X c) (fun a=>PySem.W.bind_fn X a i) (.inl rfl) h
end
def fX (f:Str) (v:V):List (Str × V)->List (Str × V)
 |[]=>[(f,v)]
 | (g,x)::r=>if g=f then (g,v)::r else (g,x)::fX f v r
theorem jz (f g:Str) (v:V):∀c:List (Str × V),(fX f v c).lookup g=if g=f then some v else c.lookup g
 |[]=>by
  show List.lookup g [(f,v)]=_
  by_cases h:g=f
  ·
   have a:(g==f)=true:=Zn.mpr h
   simp only[List.lookup,a,if_pos h]
  ·
   have a:(g==f)=false:=Yi.mpr h
   simp only[List.lookup,a,if_neg h]
 | (k,x)::r=>by
  have d:=jz f g v r
  rw[show fX f v ((k,x)::r)=(if k=f then (k,v)::r else (k,x)::fX f v r) from rfl]
  by_cases b:k=f
  ·
   rw[if_pos b]
   by_cases h:g=k
   ·
    have a:(g==k)=true:=Zn.mpr h
    simp only[List.lookup,a,if_pos (h.trans b)]
   ·
    have a:(g==k)=false:=Yi.mpr h
    simp only[List.lookup,a,if_neg (fun e:g=f=>h (e.trans b.symm))]
  ·
   rw[if_neg b]
   by_cases h:g=k
   ·
    have a:(g==k)=true:=Zn.mpr h
    simp only[List.lookup,a,if_neg (fun e:g=f=>b (h.symm.trans e))]
   ·
    have a:(g==k)=false:=Yi.mpr h
    simp only[List.lookup,a]
    exact d
theorem jm (f:Str) (v:V):∀a:List (Str × V),f∈(fX f v a).map (·.1)/\∀g,g∈a.map (·.1)->g∈(fX f v a).map (·.1)
 |[]=>⟨by simp [fX],fun g h=>by simp at h⟩
 | (k,x)::r=>by
  obtain⟨c,d⟩:=jm f v r
  rw[show fX f v ((k,x)::r)=(if k=f then (k,v)::r else (k,x)::fX f v r) from rfl]
  by_cases b:k=f
  ·
   rw[if_pos b]
   subst b
   exact⟨by simp,fun g h=>by simpa using h⟩
  ·
   rw[if_neg b]
   refine⟨?_,fun g h=>?_⟩
   ·
    rw[C_]
    exact h_ _ c
   ·
    rw[C_] at h ⊢
    rcases j_.mp h with e | e
    ·
     exact j_.mpr (.inl e)
    ·
     exact h_ _ (d g e)
theorem jA (f:Str) (v:V):∀a:List (Str × V),(fX f v a).length<=a.length+1
 |[]=>by simp [fX]
 | (k,x)::r=>by
  have c:=jA f v r
  rw[show fX f v ((k,x)::r)=(if k=f then (k,v)::r else (k,x)::fX f v r) from rfl]
  by_cases b:k=f
  ·
   rw[if_pos b,n_,n_];omega
  ·
   rw[if_neg b,n_,n_];omega
theorem RelO.some_of {v:V}{o:Option Value}(r:RelO (some v) o):∃u,o=some u/\RelV v u:=by
 cases o with
 |none=>exact (show False from r).elim
 |some u=>exact⟨u,rfl,r⟩
theorem RelO.none_of {o:Option Value}(r:RelO none o):o=none:=by
 cases o with
 |none=>rfl
 |some u=>exact (show False from r).elim
theorem xO {v:V}{u:Value}(r:RelV v u):handedIn u=true:=by
 cases v with
 |non=>cases (show u=Value.none from r);rfl
 |bl b=>cases (show u=Value.bool b from r);rfl
 |int i=>obtain⟨t,e⟩:=(show ∃t,u=Value.int i t from r);cases e;rfl
 |str x=>obtain⟨t,e⟩:=(show ∃t,u=Value.str x t from r);cases e;rfl
 |byt b=>obtain⟨t,e⟩:=(show ∃t,u=Value.bytes b t from r);cases e;rfl
 |flt b=>obtain⟨t,e⟩:=(show ∃t,u=Value.float b t from r);cases e;rfl
 |ref a=>cases (show u=Value.ref a from r);rfl
 |ty n=>cases (show u=Value.type n from r);rfl
section
variable {P:Program}{w:World}{H H':Hp}{h h':Heap}{a C dx:Addr}{fs fs':List (Str × V)}
theorem jR (c:HOk P w H h) (e:H a=some (.ins C dx fs)):∃b,ObjM h a dx C b/\(∀f,RelO (fs.lookup f) (b f))/\PySem.Within b (fs.map (·.1))/\fs.length<=1000/\H dx=some (.own a):=by
 obtain⟨d,z,g,i,b,n,r,q⟩:=(show ObjOk P w H h a (.ins C dx fs) from c a _ e);exact⟨b,⟨i,n,g⟩,r,q,z,d⟩
end
structure Cls (K:Frag) (C:Addr):Prop where
 pg:plainGet K C Str.empty=true
 hd:hasDictIn K C=true
 po:plainOver K C=true
 sa:findIn K (.ref C) "__setattr__"=some (some (.builtin "object.__setattr__"))
theorem Cls.get {K:Frag}{C:Addr}(c:Cls K C) (f:Str):plainGet K C f=true:=c.pg
def NoAttr (K:Frag) (C:Addr) (f:Str):Prop:=findIn K (.ref C) f=some none
theorem NoAttr.taker {K:Frag}{C:Addr}{f:Str}(n:NoAttr K C f):takerIn K C f=some none:=by
 unfold takerIn;rw[show findIn K (.ref C) f=some none from n];rfl
structure Meth (K:Frag) (C:Addr) (m:Str) (f:Addr):Prop where
 at_:findIn K (.ref C) m=some (some (.ref f))
 fn:isFn K (.ref f)=true
 kp:keepIn K (.ref f)=true
section
variable {X:Cx}{pins:List (Addr × Obj)}{Z:St}{H:Hp}{s:Shared}{a C dx:Addr}{fs:List (Str × V)}{f:Str}{v:V}{A:Around}{E:Value->Shared->Prop}
theorem tD {b:Bool}{Q:Value->Shared->Prop}(I:Inv X pins Z H s) (e:H a=some (.ins C dx fs)) (c:Cls X.K C) (n:NoAttr X.K C f) (l:fs.lookup f=some v)
  (h:∀u s',Inv X pins Z H s'->RelV v u->Q u s'):wpAny (model X.prog X.w) A (getAttr (.ref a) f b) Q E s:=by
 obtain⟨g,O,r,_,_,_⟩:=jR I.hok e;obtain⟨u,i,d⟩:=RelO.some_of (v:=v) (o:=g f) (by rw[<- l];exact r f);exact Ez I.kIn O (c.get f) c.hd n i (xO d) (h u _ (I.tok _) d)
theorem tE {m:Str}{g:Addr}{pl:Sem Bool}{Q:Value × List Value->Shared->Prop}(I:Inv X pins Z H s) (e:H a=some (.ins C dx fs)) (c:Cls X.K C) (k:Meth X.K C m g) (l:fs.lookup m=none)
  (h:Q (.ref g,[.ref a]) s):wpAny (model X.prog X.w) A (getMethod (.ref a) m pl) Q E s:=by
 obtain⟨d,O,r,_,_,_⟩:=jR I.hok e;have b:d m=none:=RelO.none_of (by rw[<- l];exact r m);exact yV I.kIn O (c.get m) k.at_ k.fn b h
theorem tG {y:V}{u:Value}{Q:Unit->Shared->Prop}(I:Inv X pins Z H s) (e:H a=some (.ins C dx fs)) (c:Cls X.K C) (n:NoAttr X.K C f) (B:fs.length<1000) (m:RelV y u)
  (h:∀s',Inv X pins Z (upd H a (.ins C dx (fX f y fs))) s'->Q () s'):wpAny (model X.prog X.w) A (setAttr (.ref a) f u) Q E s:=by
 obtain⟨j,O,r,i,_,d⟩:=jR I.hok e;have l:(fs.map (·.1)).length<=sizeLine:=by rw[e_,aaA];omega
 refine EY I.kIn O c.sa c.po n.taker c.hd i l fun h' O' v=>h _ ?_;have k:∃o,h'.get? dx=some o:=let ⟨o,_,_,e',_⟩:=O'.ns;⟨o,e'⟩;refine I.write (x:=a) (e:=dx) (by rw[e];exact True.intro) (.inr d) (fun b q p z=>(v.2 b p).trans z) k ?_;refine⟨by rw[aV O.ne];exact d,?_,O.ne,O'.obj,_,O'.ns,fun g=>?_,fun g t=>?_⟩
 ·have:=jA f y fs;omega
 ·show RelO ((fX f y fs).lookup g) (if g=f then some u else j g);rw[jz];by_cases q:g=f
  ·rw[if_pos q,if_pos q];exact m
  rw[if_neg q,if_neg q];exact r g
 by_cases q:g=f
 ·rw[q];exact (jm f y fs).1
 refine (jm f y fs).2 g (i g fun z=>t ?_);show (if g=f then some u else j g)=none;rw[if_neg q];exact z
theorem Inv.made (I:Inv X pins Z H s):Inv X pins Z (upd (upd H s.heap.objs.size (.own (s.heap.objs.size+1))) (s.heap.objs.size+1) (.ins C s.heap.objs.size []))
  { s with heap:=(s.heap.push emptyDict).push (instObj C s.heap.objs.size)}:=by
 have d:(s.heap.push emptyDict).get? s.heap.objs.size=some emptyDict:=v_ s.heap rfl;have g:((s.heap.push emptyDict).push (instObj C s.heap.objs.size)).get? (s.heap.objs.size+1)=some (instObj C s.heap.objs.size):=by
  have:=v_ (s.heap.push emptyDict) (o:=instObj C s.heap.objs.size) rfl
  rwa [Zo] at this
 have i:(s.heap.push emptyDict).Ns s.heap.objs.size (fun _=>none):=⟨emptyDict,#[],_,d,rfl,(fun e j=>absurd j (by simp)),fun _=>rfl⟩;have f:=I.laid (a:=s.heap.objs.size) (o:=.own (s.heap.objs.size+1)) (h':=s.heap.push emptyDict) (t':=s.toks) (fun b u q=>b_ _ q) (o_ _) ⟨_,d⟩;refine f.laid (a:=s.heap.objs.size+1) (o:=.ins C s.heap.objs.size []) (t':=s.toks) (fun b u q=>b_ _ q) (aar (Zo _ _)) ?_;have c:s.heap.objs.size≠s.heap.objs.size+1:=F_ (YF _);refine⟨by rw[aV c,cB],X3 _,c,g,fun _=>none,(Heap.Ns1.of_empty i).at fun o q=>b_ _ q,fun _=>True.intro,fun y h=>absurd rfl h⟩
theorem Fb {prog:Program}{w:World}{env:Env}{e:Expr}{f:Str}{a:Pos}{s:Shared}{Q:Value->Shared->Prop}(b:attributeBase e f env (eval e env)=eval e env)
  (h:wpAny (model prog w) A (eval e env) (fun o s₁=>wpAny (model prog w) A (getAttr o f true) Q E s₁) E s):wpAny (model prog w) A (eval (.Attribute e f a) env) Q E s :=
 Attribute_any_ h (by rw[arm_eval_Attribute,b])
end
def WY (K:Frag) (d:TE) (f:Str):TE:=fun Z H Q=>d Z H fun x c=>∃a C e b v,x=.ref a/\c a=some (.ins C e b)/\Cls K C/\NoAttr K C f/\b.lookup f=some v/\Q v c
def W0 (K:Frag) (h e:TE) (f:Str):TS:=fun D Z H=>e Z H fun y g=>h Z g fun x c=>∃a C d b,x=.ref a/\c a=some (.ins C d b)/\Cls K C/\NoAttr K C f/\b.length<1000 /\
 D.nx Z (upd c a (.ins C d (fX f y b)))
section
variable {X:Cx}{o e value:Expr}{f:Str}{pos pos' tpos:Pos}{ta tv:TE}
theorem Lp (m:PE X e ta) (o:attributeBase e f X.env (eval e X.env)=eval e X.env):PE X (.Attribute e f pos) (WY X.K ta f):=by
 intro b s Z H Q I h;refine Fb o (thn (m b s Z H _ I h) fun u z ⟨x,i,p,r,a,C,y,A,v,d,j,c,n,l,q⟩=>?_);subst d;obtain rfl:u=Value.ref a:=r;exact tD p j c n l fun t w k g=>⟨v,i,k,g,q⟩
theorem Lq (m:PE X o ta) (j:PE X value tv) (d:swapsWith value (some (.Attribute o f pos')) pos.line X.env=pure false):PS X (.Assign [.Attribute o f pos'] value pos) (W0 X.K ta tv f):=by
 intro b s Z H D I h;refine plainObj_wpAny_Assign_Attribute (thn (j b s Z H _ I h) fun u z ⟨y,t,g,A,q⟩=>thn (m b z Z t _ g q) fun p E ⟨x,F,v,i,a,C,G,J,k,w,c,n,l,e⟩=>?_) d;subst k;obtain rfl:p=Value.ref a:=i;exact tG v w c n l A fun B r=>⟨Z,_,r,e⟩
variable {pins:List (Addr × Obj)}{Z:St}{H:Hp}{s:Shared}{A:Around}{E Q:Value->Shared->Prop}{c:Value}{b:Bool}
inductive TyOf (K:Frag) (H:Hp):V->Value->Prop where
 |non:TyOf K H .non (.type "NoneType")
 |bl (x:Bool):TyOf K H (.bl x) (.type "bool")
 |int (i:Int):TyOf K H (.int i) (.type "int")
 |str (x:Str):TyOf K H (.str x) (.type "str")
 |flt (x:UInt64):TyOf K H (.flt x) (.type "float")
 |lst {a:Addr} {xs:List V} (e:H a=some (.lst xs)):TyOf K H (.ref a) (.type "list")
 |frz {a:Addr} {o:Obj} {xs:List V} (e:H a=some (.frz o (.lst xs))):TyOf K H (.ref a) (.type "list")
 |tup {a:Addr} {xs:List V} (e:H a=some (.tup xs)):TyOf K H (.ref a) (.type "tuple")
 |dK {a:Addr} {kvs:List (Key × V)} (e:H a=some (.dK kvs)):TyOf K H (.ref a) (.type "dict")
 |dT {a:Addr} {kvs:List (List Key × V)} (e:H a=some (.dT kvs)):TyOf K H (.ref a) (.type "dict")
 |ins {a C dx:Addr} {fs:List (Str × V)} (e:H a=some (.ins C dx fs)) (cl:Cls K C) (ha:findIn K (.ref C) "__class__"=some (some (.builtin "object.__class__")))
   (hn:PySem.W.specialIn K (.builtin "object.__class__") "__get__"=some (some (.builtin "getset_descriptor.__get__"))) (htk:PySem.W.takesIn K (.builtin "object.__class__")=some true)
   (hm:mroIn K C (.type "object")=some true):TyOf K H (.ref a) (.ref C)
theorem dZ {x:V}{u t:Value}(I:Inv X pins Z H s) (f:RelV x u) (v:TyOf X.K H x t) (e:kitOne X.K t c=some b) (h:∀tk,Q (.bool b) { s with toks:=tk}) :
  wpAny (model X.prog X.w) A (call (.builtin "isinstance") [u,c]) Q E s:=by
 cases v with
 |non=>cases (show u=Value.none from f);exact kia_one PySem.W.kitx_none I.kIn True.intro e (fun z=>nomatch z) h
 |bl y=>cases (show u=Value.bool y from f);exact kia_one PySem.W.kitx_bool I.kIn True.intro e (fun z=>nomatch z) h
 |int i=>obtain⟨t,q⟩:=(show ∃t,u=Value.int i t from f);cases q;exact kia_one PySem.W.kitx_int I.kIn True.intro e (fun z=>nomatch z) h
 |str y=>obtain⟨t,q⟩:=(show ∃t,u=Value.str y t from f);cases q;exact kia_one PySem.W.kitx_str I.kIn True.intro e (fun z=>nomatch z) h
 |flt y=>obtain⟨t,q⟩:=(show ∃t,u=Value.float y t from f);cases q;exact kia_one PySem.W.kitx_float I.kIn True.intro e (fun z=>nomatch z) h
 |@lst a xs d=>cases (show u=Value.ref a from f);obtain⟨_,_,n,_,g⟩:=(show ObjOk X.prog X.w H s.heap a (.lst xs) from I.hok a _ d);exact kia_one kitx_list I.kIn ⟨_,g,rfl⟩ e (fun z=>nomatch z) h
 |@frz a G xs d=>cases (show u=Value.ref a from f);obtain⟨_,_,_,n,_,g⟩:=(show ObjOk X.prog X.w H s.heap a (.frz G (.lst xs)) from I.hok a _ d);exact kia_one kitx_list I.kIn ⟨_,g,rfl⟩ e (fun z=>nomatch z) h
 |@tup a xs d=>cases (show u=Value.ref a from f);obtain⟨_,_,_,p⟩:=(show ObjOk X.prog X.w H s.heap a (.tup xs) from I.hok a _ d);obtain⟨o,g,j,_⟩:=p;exact kia_one kitx_tuple I.kIn ⟨o,g,j⟩ e (fun z=>nomatch z) h
 |@dK a kvs d=>cases (show u=Value.ref a from f);obtain⟨_,_,vs,_,p⟩:=(show ObjOk X.prog X.w H s.heap a (.dK kvs) from I.hok a _ d);obtain⟨o,F,r,g,j,_⟩:=p;exact kia_one kitx_dict I.kIn ⟨o,g,j.1⟩ e (fun z=>nomatch z) h
 |@dT a kvs d=>cases (show u=Value.ref a from f);obtain⟨_,_,xs,_,o,F,r,g,j,_⟩:=(show ObjOk X.prog X.w H s.heap a (.dT kvs) from I.hok a _ d);exact kia_one kitx_dict I.kIn ⟨o,g,j.1⟩ e (fun z=>nomatch z) h
 |@ins a C M N d l B m k D =>
 cases (show u=Value.ref a from f);obtain⟨L,O,_⟩:=jR I.hok d;obtain⟨od,J,_⟩:=O.look;exact kia_one (PySem.W.kitx_own (l.get _) l.hd B m k D) I.kIn J e (fun z=>nomatch z) h
end
structure Room (k:Nat) (A:Around):Prop where
 hd:A.handled=none
 dp:A.depth+3*k+5<recursionLimit
 un:A.units+16*k+200<cLine
 gd:A.guards=some []
theorem Room.mono {j k:Nat}{A:Around}(r:Room k A) (h:j<=k):Room j A:=⟨r.hd,by have:=r.dp;omega,by have:=r.un;omega,r.gd⟩
theorem Room.deeper {k:Nat}{A:Around}(r:Room (k+1) A) (env:Env):Room k (A.deeper env) :=
 ⟨r.hd,by have:=r.dp;show A.depth+1+3*k+5<_;omega,by have:=r.un;show A.units+3+16*k+200<_;omega,r.gd⟩
theorem Room.in1 {k:Nat}{A:Around}(r:Room (k+1) A):Room k A.in1 :=
 ⟨r.hd,by have:=r.dp;show A.depth+3*k+5<_;omega,by have:=r.un;show A.units+1+16*k+200<_;omega,r.gd⟩
theorem tH {A:Around}{C:Addr}{us:List Value}{a:List (Str × Value)}:(A.under (.builtin "type.__call__" ⟨.ref C::us,a⟩)).depth=A.depth+1:=by
 first | rfl | simp [Around.under,Code.weight,Code.isCreation,Code.isGuard,Code.isCaller,Code.frames,Code.isFrame,guardIds]
theorem tK {A:Around}{C:Addr}{us:List Value}{a:List (Str × Value)}:(A.under (.builtin "type.__call__" ⟨.ref C::us,a⟩)).units=A.units+1:=by
 first | rfl | simp [Around.under,Code.cUnits,Code.frames,Code.isFrame]
theorem Room.make {k:Nat}{A:Around}(r:Room (k+1) A) (C:Addr) (us:List Value) (a:List (Str × Value)):Room k (A.under (.builtin "type.__call__" ⟨.ref C::us,a⟩)) :=
 ⟨r.hd,by have:=r.dp;rw[tH];omega,by have:=r.un;rw[tK];omega,by first | exact r.gd | (simp [Around.under,Code.guards,Code.isGuard,guardIds,pushGuards,r.gd])⟩
theorem Room.depth {k:Nat}{A:Around}(r:Room k A):A.depth<recursionLimit:=by have:=r.dp;omega
theorem Room.units {k:Nat}{A:Around}(r:Room k A):A.units+64<cLine:=by have:=r.un;omega
def W3:TA:=fun _ H Q=>Q [] H
def RN (a:TE) (d:TA):TA:=fun Z H Q=>a Z H fun x c=>d Z c fun xs b=>Q (x::xs) b
section
variable {X:Cx}{e:Expr}{es:List Expr}{te:TE}{t:TA}{pos:Pos}
theorem Lr:PA X [] W3:=fun _ _ _ _ H Q I h=>aas ⟨[],H,I,.nil,h⟩
theorem Fd (i:PE X e te) (f:PA X es t) (d:starEach (e::es) X.env=(false,eval e X.env)::starEach es X.env:=by rfl):PA X (e::es) (RN te t):=by
 intro b a s Z H Q I h;rw[d];show wpAny _ _ (spliced ((false,eval e X.env)::backTo b (starEach es X.env))) _ _ s;refine aao (thn (i a s Z H _ I h) fun u o ⟨x,j,p,m,l⟩=>?_);exact thn (f b a o Z j _ p l) fun us q ⟨xs,c,n,k,g⟩=>⟨x::xs,c,n,.cons m k,g⟩
def W4 (t:TA):TE:=fun Z H Q=>t Z H fun xs a=>xs.length<=sizeLine/\∀p,a p=none->Q (.ref p) (upd a p (.tup xs))
def W5 (t:TA):TE:=fun Z H Q=>t Z H fun xs a=>xs.length<=sizeLine/\∀p,a p=none->Q (.ref p) (upd a p (.lst xs))
theorem Ls {x1}(h:PA X es t):PE X (.Tuple es x1 pos) (W4 t):=by
 intro a s Z H Q I g;refine wpAny_Tuple_spliced (thn (h pos a s Z H _ I g) fun us c ⟨xs,d,f,r,z,q⟩=>⟨by rw[<- r.length];exact z,?_⟩);have i:d c.heap.objs.size=none:=f.hok.fresh (o_ _);refine⟨.ref c.heap.objs.size,upd d c.heap.objs.size (.tup xs),f.laid (t':=c.toks) (fun b u e=>b_ _ e) (o_ _) ?_,rfl,q _ i⟩;exact⟨z,us,r,⟨_,v_ _ rfl,rfl,_,rfl,rfl⟩⟩
theorem Lw (h:PA X es t):PE X (.List es pos) (W5 t):=by
 intro a s Z H Q I g;refine wpAny_List_spliced (thn (h pos a s Z H _ I g) fun us c ⟨xs,d,f,r,z,q⟩=>⟨by rw[<- r.length];exact z,?_⟩);have i:d c.heap.objs.size=none:=f.hok.fresh (o_ _);refine⟨.ref c.heap.objs.size,upd d c.heap.objs.size (.lst xs),f.laid (t':=c.toks) (fun b u e=>b_ _ e) (o_ _) ?_,rfl,q _ i⟩;exact⟨z,us,0,r,v_ _ rfl⟩
end
abbrev Sp:=List V->Hp->VK->XK->Prop
abbrev CXT:=List Env->Hp->Shared->XK->Value->Shared->Prop
structure Env0 (P:Program) (w:World) (K:Frag) (mg:Str->Option Value) (base:Heap) (A:Around) (outer:List Env) (s:Shared) (H:Hp):Prop where
 frames:A.frames=some outer
 mod:Mod K mg base
 bs:∀b o,base.get? b=some o->s.heap.get? b=some o/\H b=none
 bsz:base.objs.size<=s.heap.objs.size
 funs:s.heap.FunFrames base outer
 frf:∀b∈frs outer,H b=none
 hok:HOk P w H s.heap
 bare:AllBare s.gens
def CE (a:List Env) (P:Program) (w:World) (H:Hp) (s:Shared) (Q:VK) (u:Value) (s':Shared):Prop :=
 ∃v b,s'.os=s.os/\AllBare s'.gens/\Un (frs a) [] H b s.heap s'.heap/\HOk P w b s'.heap/\RelV v u/\Q v b
def CR (CX:CXT) (a:List Env) (P:Program) (w:World) (H:Hp) (s:Shared) (Q:VK) (E:XK) (r:Result) (s':Shared):Prop :=
 match r with
 |.ok (.ret u)=>CE a P w H s Q u s'
 |.ok _=>False
 |.error e=>CX a H s E e s'
structure FnOk (P:Program) (w:World) (K:Frag) (mg:Str->Option Value) (base:Heap) (CX:CXT) (k:Nat) (f:Addr) (fd:FuncData) (ps:List Str) (sp:Sp):Prop where
 len:∀vs H Q E,sp vs H Q E->vs.length=ps.length
 run:∀(A:Around) (outer:List Env) (s:Shared) (H:Hp) (args:Args) (us:List Value) (vs:List V) (Q:VK) (E:XK),Room k A->Env0 P w K mg base A outer s H->BindsTo s fd args (ps.zip us)->Vals vs us->sp vs H Q E ->
  codeAny (model P w) A (.call (.ref f) args) (CR CX outer P w H s Q E) s
theorem FnOk.mono {P:Program}{w:World}{K:Frag}{d:Str->Option Value}{base:Heap}{CX:CXT}{j k:Nat}{f:Addr}{c:FuncData}{ps:List Str}{sp:Sp}(F:FnOk P w K d base CX j f c ps sp) (h:j<=k) :
  FnOk P w K d base CX k f c ps sp:=⟨F.len,fun A a s H b us vs Q E e=>F.run A a s H b us vs Q E (e.mono h)⟩
theorem FnOk.imp {P:Program}{w:World}{K:Frag}{e:Str->Option Value}{base:Heap}{CX:CXT}{k:Nat}{f:Addr}{d:FuncData}{ps:List Str}{sp c:Sp}(F:FnOk P w K e base CX k f d ps sp)
  (h:∀vs H Q E,c vs H Q E->sp vs H Q E):FnOk P w K e base CX k f d ps c :=
 ⟨fun vs H Q E q=>F.len vs H Q E (h _ _ _ _ q),fun A a s H b us vs Q E i l m j g=>F.run A a s H b us vs Q E i l m j (h _ _ _ _ g)⟩
theorem Env0.make {P:Program}{w:World}{K:Frag}{b:Str->Option Value}{base:Heap}{A:Around}{a:List Env}{s:Shared}{H:Hp}(e:Env0 P w K b base A a s H) (C:Addr) (us:List Value) (c:List (Str × Value)) :
  Env0 P w K b base (A.under (.builtin "type.__call__" ⟨.ref C::us,c⟩)) a s H:=⟨by first | exact e.frames | (simpa [Around.under,Code.envs,Code.isFrame,pushEnvs] using e.frames),e.mod,e.bs,e.bsz,e.funs,e.frf,e.hok,e.bare⟩
theorem Env0.in1 {P:Program}{w:World}{K:Frag}{b:Str->Option Value}{base:Heap}{A:Around}{a:List Env}{s:Shared}{H:Hp}(e:Env0 P w K b base A a s H) :
  Env0 P w K b base A.in1 a s H:=⟨e.frames,e.mod,e.bs,e.bsz,e.funs,e.frf,e.hok,e.bare⟩
section
variable {X:Cx}{pins:List (Addr × Obj)}{Z:St}{H:Hp}{s s':Shared}
theorem Inv.env0 (I:Inv X pins Z H s):Env0 X.prog X.w X.K X.mg X.base X.A X.stack s H :=
 ⟨I.ok.frames,I.ok.mod,I.bs,L_ I.ok.bsz I.sz,I.stack,I.stkFree,I.hok,I.bare⟩
theorem Inv.after {Q:VK}{u:Value}(I:Inv X pins Z H s) (h:CE X.stack X.prog X.w H s Q u s'):EP X pins Z Q u s':=by
 obtain⟨v,j,f,a,i,c,r,q⟩:=h;obtain⟨k,g,d,t,e⟩:=s';obtain rfl:e=s.os:=f;exact⟨v,j,I.call (h':=k) (g':=g) (d':=d) (t':=t) (ch:=[]) i c a (fun b z=>absurd z (by simp)),r,q⟩
end
def RP (sp:Sp) (dvs:List V) (E:XK) (t:TA):TE:=fun Z H Q=>t Z H fun vs a=>sp (vs++dvs) a Q E
def RQ (C:Addr) (m:Str) (sp:Sp) (dvs:List V) (E:XK) (f:TE) (t:TA):TE:=fun Z H Q=>f Z H fun x b=>∃a e c,x=.ref a/\b a=some (.ins C e c)/\c.lookup m=none /\
 t Z b fun vs d=>sp (x::(vs++dvs)) d Q E
def RV (C:Addr) (sp:Sp) (dvs:List V) (E:XK) (t:TA):TE:=fun Z H Q=>t Z H fun vs b=>∀x a,b x=none->b a=none->a≠x ->
 sp (.ref x::(vs++dvs)) (upd (upd b a (.own x)) x (.ins C a [])) (fun v c=>v=.non/\Q (.ref x) c) E
def Binds (K:Frag) (b:FuncData) (ps:List Str) (a:List Value):Prop :=
 ∀(s:Shared) (us:List Value),K.In s.heap->(us++a).length=ps.length->BindsTo s b ⟨us,[]⟩ (ps.zip (us++a))
theorem Binds.all {K:Frag}{b:FuncData}{ps:List Str}(h:∀us:List Value,us.length=ps.length->bindArgs b ⟨us,[]⟩=pure (ps.zip us)):Binds K b ps []:=fun s us _ a=>by
 rw[Yd] at a ⊢;exact .of_eq (h us a)
def jn (CX:CXT) (X:Cx) (E:XK):Prop:=∀(a:List (Addr × Obj)) (Z:St) (H:Hp) (s:Shared) (e:Value) (s':Shared),Inv X a Z H s->CX X.stack H s E e s'->X.xe e s'
section
variable {X:Cx}{CX:CXT}{k:Nat}{f C:Addr}{fd:FuncData}{ps:List Str}{sp:Sp}{dvs:List V}{ds:List Value}{E:XK}{x m:Str}{p pos apos:Pos}{e o:Expr}{es:List Expr}{ta:TE}{t:TA}
theorem yX {a:List (Addr × Obj)}{Z:St}{H:Hp}{s:Shared}{Q:VK}{us:List Value}{vs:List V}(F:FnOk X.prog X.w X.K X.mg X.base CX k f fd ps sp) (g:Room k X.A) (j:Binds X.K fd ps ds) (d:Vals dvs ds) (m:jn CX X E)
  (I:Inv X a Z H s) (r:Vals vs us) (h:sp (vs++dvs) H Q E):wpAny (model X.prog X.w) X.A (call (.ref f) us) (EP X a Z Q) X.xe s:=by
 have c:Vals (vs++dvs) (us++ds):=r.append d;have i:(us++ds).length=ps.length:=by rw[<- c.length];exact F.len _ _ _ _ h
 refine wpAny_call (codeAny_mono (F.run X.A X.stack s H ⟨us,[]⟩ (us++ds) (vs++dvs) Q E g I.env0 (j s us I.kIn i) c h) fun r s' b=>?_);cases r with
 |error e=>exact m a Z H s e s' I b
 |ok l =>
 cases l with
 |ret u=>exact I.after b
 |next=>exact False.elim b
 |brk=>exact False.elim b
 |cont=>exact False.elim b
theorem Fe (F:FnOk X.prog X.w X.K X.mg X.base CX k f fd ps sp) (i:Room k X.A) (u:Gl X x) (m:X.mg x=some (.ref f)) (l:keepIn X.K (.ref f)=true) (o:Binds X.K fd ps ds) (g:Vals dvs ds) (v:jn CX X E)
  (j:PA X (e::es) t) (c:(x==("__debug__":Str))=false:=by decide) (n:starEach (e::es) X.env=(false,eval e X.env)::starEach es X.env:=by rfl) (b:(backTo pos (starEach es X.env)).any (·.1)=false:=by rfl) :
  PE X (.Call (.Name x p) (e::es) [] pos) (RP sp dvs E t):=by
 intro a s Z H Q I h;refine Y6 (nT I u m ?_ c);refine callWith_K (h₀:=X.base) I.ok.mod.kin l (thn (j pos a s Z H _ I h) fun us z ⟨vs,y,d,r,q⟩=>⟨d.kIn,?_⟩) n b;exact yX F i o g v d r q
theorem Ff {pl:Sem Bool}(B:PE X o ta) (c:Cls X.K C) (j:Meth X.K C m f) (F:FnOk X.prog X.w X.K X.mg X.base CX k f fd ps sp) (J:Room k X.A) (y:Binds X.K fd ps ds) (p:Vals dvs ds) (P:jn CX X E) (L:PA X (e::es) t)
  (d:starEach (e::es) X.env=(false,eval e X.env)::starEach es X.env:=by rfl) (g:(backTo pos (starEach es X.env)).any (·.1)=false:=by rfl)
  (D:eval (.Call (.Attribute o m apos) (e::es) [] pos) X.env=(do
   let ov <- eval o X.env
   standAt apos.atName
   let (f,first) <- holding [ov] (getMethod ov m pl)
   callWith pos f first (backTo pos (starEach (e::es) X.env)) (backToKw pos (keywordEach [] X.env))):=by rfl) :
  PE X (.Call (.Attribute o m apos) (e::es) [] pos) (RQ C m sp dvs E ta t):=by
 intro b s Z H Q I h;refine PySem.W.methodCall_KW (pl:=pl) (thn (B b s Z H _ I h) fun u O ⟨x,M,i,z,a,T,U,G,N,l,q⟩=>?_) D;subst G;obtain rfl:u=Value.ref a:=z;refine tE i N c j l ?_;refine callWith_K (first:=[.ref a]) (h₀:=X.base) I.ok.mod.kin j.kp (thn (L pos b O Z M _ i q) fun us R ⟨vs,S,n,r,v⟩=>⟨n.kIn,?_⟩) d g;exact yX (us:=.ref a::us) (vs:=.ref a::vs) F J y p P n (.cons rfl r) v
structure Mk (K:Frag) (C f:Addr):Prop where
 makes:makesIn K C=true
 init:findIn K (.ref C) "__init__"=some (some (.ref f))
 fn:isFn K (.ref f)=true
 kp:keepIn K (.ref C)=true
theorem yZ {b:List (Addr × Obj)}{Z:St}{H:Hp}{s:Shared}{Q:VK}{us:List Value}{vs:List V}(M:Mk X.K C f) (F:FnOk X.prog X.w X.K X.mg X.base CX k f fd ps sp) (j:Room (k+1) X.A) (q:Binds X.K fd ps ds) (i:Vals dvs ds)
  (z:jn CX X E) (I:Inv X b Z H s) (r:Vals vs us)
  (h:∀x dx,H x=none->H dx=none->dx≠x->sp (.ref x::(vs++dvs)) (upd (upd H dx (.own x)) x (.ins C dx [])) (fun v H2=>v=.non/\Q (.ref x) H2) E) :
  wpAny (model X.prog X.w) X.A (call (.ref C) us) (EP X b Z Q) X.xe s:=by
 have g:=h (s.heap.objs.size+1) s.heap.objs.size (I.hok.fresh (Nat.le_succ _)) (I.hok.fresh (o_ _)) (F_ (YF _));have c:=Inv.made (C:=C) I;have d:Vals (V.ref (s.heap.objs.size+1)::(vs++dvs)) (Value.ref (s.heap.objs.size+1)::(us++ds)):=.cons rfl (r.append i);have p:(Value.ref (s.heap.objs.size+1)::us++ds).length=ps.length:=by have e:=d.length;rw[F.len _ _ _ _ g] at e;exact e.symm
 refine wpAny_call (yW (f:=f) I.kIn M.makes M.init (Zn.mp M.fn) (codeAny_mono (F.run _ X.stack _ _ ⟨Value.ref (s.heap.objs.size+1)::us,[]⟩ (Value.ref (s.heap.objs.size+1)::(us++ds)) _ _ E (j.make C us [])
  (c.env0.make C us []) (q _ (Value.ref (s.heap.objs.size+1)::us) c.kIn p) d g) fun r s' a=>?_))
 cases r with
 |error e=>exact z b Z _ _ e s' c a
 |ok o =>
 cases o with
 |ret u=>obtain⟨v,l,n,m,t,y⟩:=c.after a;subst t;exact⟨m,⟨V.ref (s.heap.objs.size+1),l,n,rfl,y⟩⟩
 |next=>exact False.elim a
 |brk=>exact False.elim a
 |cont=>exact False.elim a
theorem Fg (M:Mk X.K C f) (F:FnOk X.prog X.w X.K X.mg X.base CX k f fd ps sp) (i:Room (k+1) X.A) (o:Gl X x) (l:X.mg x=some (.ref C)) (n:Binds X.K fd ps ds) (g:Vals dvs ds) (u:jn CX X E)
  (j:PA X (e::es) t) (c:(x==("__debug__":Str))=false:=by decide) (m:starEach (e::es) X.env=(false,eval e X.env)::starEach es X.env:=by rfl) (b:(backTo pos (starEach es X.env)).any (·.1)=false:=by rfl) :
  PE X (.Call (.Name x p) (e::es) [] pos) (RV C sp dvs E t):=by
 intro a s Z H Q I h;refine Y6 (nT I o l ?_ c);refine callWith_K (h₀:=X.base) I.ok.mod.kin M.kp (thn (j pos a s Z H _ I h) fun us y ⟨vs,v,d,r,q⟩=>⟨d.kIn,?_⟩) m b;exact yZ M F i n g u d r q
variable {ks:List Str}{kpos:Pos}{kws:List Keyword}{te:TE}{tk:TA}{nm:Option Str}{g:List Value->List Value->List Value}{gV:List V->List V->List V}
end
structure FnScope (N P:List Str) (sc:Scope):Prop where
 kind:sc.kind=.function
 co:sc.isCoroutine=false
 gen:sc.isGenerator=false
 nd:N.Nodup
 pre:N.take P.length=P
 par:∀x∈P,sc.names.lookup x=some .local\/sc.names.lookup x=some .cell
 nofree:∀y∈sc.names,y.2≠.free
theorem mO {b:Str->Option NameKind}{x:Str}:∀{a:List (Str × Value)}{m:Str->Option Value},(∀v,(x,v)∉a)->bindL b a m x=m x
 |[],_,_=>rfl
 | (n,v)::r,m,h=>by
  unfold bindL
  rw[mO fun w c=>h w (h_ _ c)]
  split
  ·
   have:x≠n:=by rintro rfl;exact h v k_
   simp [this]
  ·
   rfl
theorem mQ {b:Str->Option NameKind}{x:Str}:∀{a:List (Str × Value)}{m:Str->Option Value},(∀v,(x,v)∉a)->bindC b a m x=m x
 |[],_,_=>rfl
 | (n,v)::r,m,h=>by
  unfold bindC
  rw[mQ fun w c=>h w (h_ _ c)]
  split
  ·
   rfl
  ·
   have:x≠n:=by rintro rfl;exact h v k_
   simp [this]
theorem mR {a:Str->Option NameKind}{x:Str}{v:Value}:∀{P:List Str}{vs:List Value}{i:Nat}{m:Str->Option Value},P.Nodup->P[i]?=some x->vs[i]?=some v->a x=some .local ->
  bindL a (P.zip vs) m x=some v
 |[],_,_,_,_,h,_,_=>by simp at h
 |_::_,[],_,_,_,_,h,_=>by simp at h
 |p::P,w::vs,0,m,nd,h1,h2,hk=>by
  simp at h1 h2;subst h1;subst h2
  show bindL a ((p,w)::P.zip vs) m p=_
  unfold bindL
  rw[mO fun v b=>(Yb.mp nd).1 (ZX b).1,if_pos hk]
  simp
 |p::P,w::vs,i+1,m,nd,h1,h2,hk=>by
  show bindL a ((p,w)::P.zip vs) m x=_
  unfold bindL
  exact mR (i:=i) (Yb.mp nd).2 (by simpa using h1) (by simpa using h2) hk
theorem mU {a:Str->Option NameKind}{x:Str}{v:Value}:∀{P:List Str}{vs:List Value}{i:Nat}{m:Str->Option Value},P.Nodup->P[i]?=some x->vs[i]?=some v->a x≠some .local ->
  bindC a (P.zip vs) m x=some v
 |[],_,_,_,_,h,_,_=>by simp at h
 |_::_,[],_,_,_,_,h,_=>by simp at h
 |p::P,w::vs,0,m,nd,h1,h2,hk=>by
  simp at h1 h2;subst h1;subst h2
  show bindC a ((p,w)::P.zip vs) m p=_
  unfold bindC
  rw[mQ fun v b=>(Yb.mp nd).1 (ZX b).1,if_neg hk]
  simp
 |p::P,w::vs,i+1,m,nd,h1,h2,hk=>by
  show bindC a ((p,w)::P.zip vs) m x=_
  unfold bindC
  exact mU (i:=i) (Yb.mp nd).2 (by simpa using h1) (by simpa using h2) hk
def start (N:List Str) (vs:List V):St:=vs.map some++List.replicate (N.length - vs.length) none
def tL (CX:CXT) (P:Program) (w:World) (K:Frag) (mg:Str->Option Value) (base:Heap) (N:List Str) (a:Str) (scope:Scope) (f:Addr) (c:Value) (A:Around) (outer:List Env) (s:Shared) (H:Hp) (E:XK):Cx where
 prog:=P
 w:=w
 K:=K
 mg:=mg
 base:=base
 A:=A.deeper (envOfC a scope s.heap.objs.size f c)
 N:=N
 s₀:=s
 H₀:=H
 env:=envOfC a scope s.heap.objs.size f c
 outer:=outer
 stack:=envOfC a scope s.heap.objs.size f c::outer
 ex:=[]
 calm:=true
 fn:=fun _=>true
 pn:=[]
 xe:=fun e s'=>wpAny (model P w) (A.deeper (envOfC a scope s.heap.objs.size f c)) (leaving (envOfC a scope s.heap.objs.size f c) e) (fun _ b=>CX outer H s E e b) (fun d b=>CX outer H s E d b) s'
theorem iM {a:Scope}{n:Nat}{x:Str}(h:a.names.lookup x=some .cell):∃c,(cellsFrom n a.names []).lookup x=some c:=by
 have q:=cellsFrom_some a.names n [] (.inl h);exact aak.mp q
theorem xP {CX:CXT}{P:Program}{w:World}{K:Frag}{G:Str->Option Value}{base:Heap}{N ps:List Str}{g:Str}{scope:Scope}{f:Addr}{F:Value}{A:Around}{d:List Env}{s L:Shared}{H:Hp}{E:XK}{us:List Value}{vs:List V}
  (S:FnScope N ps scope) (M:A.handled=none) (l:Env0 P w K G base A d s H) (T:vs.length=ps.length) (r:Vals vs us)
  (x:InCallC s s.heap.objs.size (bindL (envOfC g scope s.heap.objs.size f F).kindOf (ps.zip us) fun _=>none) (cellsFrom (s.heap.objs.size+1) scope.names []) (bindC (envOfC g scope s.heap.objs.size f F).kindOf (ps.zip us) fun _=>none) L) :
  Inv (tL CX P w K G base N g scope f F A d s H E) [] (start N vs) H L:=by
 have R:ps.length<=N.length:=by have:=X6 List.length S.pre;rw[Y7] at this;omega
 obtain⟨D,tk,rfl,I⟩:=x.done;have o:∀b:Addr,b∉(tL CX P w K G base N g scope f F A d s H E).ex:=fun b z=>absurd (show b∈([]:List Addr) from z) (by simp);refine⟨⟨l.mod,S.kind,rfl,rfl,o_ _,fun y z c D j=>?_,fun y m=>?_,fun y c _ h=>?_,fun _=>M,Around.frames_deeper l.frames,.inr ⟨rfl,rfl⟩,fun b z=>absurd z (o b),l.bs,l.bsz,fun b _ _=>o b,fun b z=>absurd z (o b),l.funs,l.frf⟩,
  rfl,l.bare,Un.kept I,⟨_,x.toInCall.ns,fun i y v D j U=>?_⟩,fun y c h=>⟨_,x.cell y c h⟩,l.hok.fresh (o_ _),fun y c h=>?_,fun p B=>absurd (show p∈([]:List (Addr × Obj)) from B) (by simp),l.hok.kept I,?_⟩
 ·exact name_of_addr x.apart (mem_of_lookup D) (mem_of_lookup j)
 ·have m:scope.names.lookup y=some .cell\/scope.names.lookup y=some .free:=m;rcases m with m | m
  ·exact iM m
  exact absurd rfl (S.nofree _ (mem_of_lookup m))
 ·exact Y0 (x.above y c (mem_of_lookup h))
 ·have C:i<vs.length:=by
   unfold start at j;by_cases C:i<vs.length
   ·exact C
   rw[Yc (by simpa using C)] at j;rw[Y_] at j;split at j <;> cases j
  have Q:vs[i]?=some v:=by
   unfold start at j;rw[Yp (by simpa using C),z_] at j;cases e:vs[i]? with
   |none=>rw[e] at j;cases j
   |some a=>rw[e] at j;cases j;rfl
  obtain⟨u,J,O⟩:=r.get Q;have B:ps[i]?=some y:=by rw[<- S.pre,List.getElem?_take_of_lt (by omega)];exact D
  have t:ps.Nodup:=by rw[<- S.pre];exact S.nd.sublist (List.take_sublist _ _)
  refine⟨u,O,?_⟩;rcases S.par y (O_ B) with k | k
  ·exact .inl ⟨k,mR t B J k⟩
  obtain⟨c,e⟩:=iM (n:=s.heap.objs.size+1) k;refine .inr ⟨.inl k,c,e,?_⟩;have q:=x.cell y c e;rw[mU t B J (by show scope.names.lookup y≠_;rw[k];decide)] at q;exact q
 ·exact l.hok.fresh (Y0 (x.above y c (mem_of_lookup h)))
 unfold start;show _=N.length;rw[d_,e_,Yn];omega
theorem RW {CX:CXT}{P:Program}{w:World}{K:Frag}{G:Str->Option Value}{base:Heap}{k:Nat}{f:Addr}{name c:Str}{g:Arguments}{h:List Stmt}{scope:Scope}{Z kV C X d ct oc:Value}{T od:Option Addr}
  {osl:Array (Option Value)} {N ps:List Str} {sp:Sp} (lk:K.lookup f=some ⟨oc,od,.func (fnOf name c g h scope Z kV C X T d ct),osl⟩) (O:codeIn K d c=true) (S:FnScope N ps scope)
  (D:∀vs H Q E,sp vs H Q E->vs.length=ps.length)
  (j:∀(A:Around) (a:List Env) (s:Shared) (H:Hp) (vs:List V) (Q:VK) (E:XK),Room k (A.deeper (envOfC c scope s.heap.objs.size f d))->sp vs H Q E ->
   ∃t,PSs (tL CX P w K G base N c scope f d A a s H E) h t/\t { nx:=fun _ i=>Q .non i,rt:=Q} (start N vs) H) :
  FnOk P w K G base CX (k+1) f (fnOf name c g h scope Z kV C X T d ct) ps sp:=by
 refine⟨D,fun A a s H Y us vs Q E M B hb r p=>?_⟩;have hl:=D _ _ _ _ p;have U:K.In s.heap:=B.mod.kin.keeps fun b o e=>(B.bs b o e).1;have R:s.heap.NoLimit:=B.mod.nolimit.keeps fun b o e=>(B.bs b o e).1;have l:∀y∈ps.zip us,scope.names.lookup y.1=some .local\/(scope.names.lookup y.1=some .cell/\((cellsFrom (s.heap.objs.size+1) scope.names []).lookup y.1).isSome=true):=fun ⟨n,v⟩ hy=>by
  rcases S.par n (ZX hy).1 with q | q
  ·exact .inl q
  exact .inr ⟨q,cellsFrom_some _ _ _ (.inl q)⟩
 refine codeAny_call_function M.depth (U _ _ lk) rfl S.co S.gen rfl (PySem.W.codeRec_of U O) (hb _ _ _ _ ?_);refine wpAny_newFunctionEnv_cells S.kind l fun env he s1 x=>?_;subst he;refine⟨R.keeps x.toInCall.keep,codeAny_func ?_⟩;obtain⟨t,ht,hq⟩:=j A a s H vs Q E (M.deeper _) p;have I:Inv (tL CX P w K G base N c scope f d A a s H E) [] (start N vs) H s1:=xP S M.hd B hl r x;refine Y5 (ht [] s1 (start N vs) H _ I hq) (fun fl s' m=>?_) fun e s' m=>m;have z:∀{F:St} {i:Hp} {v:V} {u:Value},Inv (tL CX P w K G base N c scope f d A a s H E) [] F i s'->RelV v u->Q v i->CE a P w H s Q u s' :=
  fun {F i v u} J L q=>⟨v,i,J.os,J.bare,J.base,J.hok,L,q⟩
 cases fl with
 |ret u=>obtain⟨v,F,i,J,L,q⟩:=m;exact z J L q
 |next=>obtain⟨F,i,J,q⟩:=m;exact z (v:=V.non) (u:=Value.none) J rfl q
 |brk=>obtain⟨_,_,_,q⟩:=m;exact False.elim q
 |cont =>
 obtain⟨_,_,_,q⟩:=m;exact False.elim q
section
variable {X:Cx}{x:Str}{p pos:Pos}{e:Expr}{es:List Expr}{t:TA}{id T:String}{r:List V->Hp->VK->Prop}
def tCB (r:List V->Hp->VK->Prop) (t:TA):TE:=fun Z H Q=>t Z H fun vs a=>r vs a Q
theorem za (u:CallR X (.builtin id) r) (q:Gl X x) (i:X.mg x=none) (l:bootBuiltins x=some (.builtin id)) (f:PA X (e::es) t) (d:x≠"__name__":=by decide) (c:(x==("__debug__":Str))=false:=by decide)
  (m:starEach (e::es) X.env=(false,eval e X.env)::starEach es X.env:=by rfl) (b:(backTo pos (starEach es X.env)).any (·.1)=false:=by rfl):PE X (.Call (.Name x p) (e::es) [] pos) (tCB r t):=by
 intro a s Z H Q I h;refine Y6 (fC I q i l ?_ d c);exact PyProof.Rows.callWith_builtin1 (thn (f pos a s Z H _ I h) fun us n ⟨vs,g,o,j,k⟩=>u a n Z g vs us Q o j k) m b
theorem xQ (u:CallR X (.type T) r) (q:Gl X x) (i:X.mg x=none) (l:bootBuiltins x=some (.type T)) (f:PA X (e::es) t) (d:x≠"__name__":=by decide) (c:(x==("__debug__":Str))=false:=by decide)
  (m:starEach (e::es) X.env=(false,eval e X.env)::starEach es X.env:=by rfl) (b:(backTo pos (starEach es X.env)).any (·.1)=false:=by rfl):PE X (.Call (.Name x p) (e::es) [] pos) (tCB r t):=by
 intro a s Z H Q I h;refine Y6 (fC I q i l ?_ d c);exact Yj (thn (f pos a s Z H _ I h) fun us n ⟨vs,g,o,j,k⟩=>u a n Z g vs us Q o j k) m b
end
end L2
namespace HT
open PySem PyProof.Rows
def lexLt:List Int->List Int->Bool
 |[],[]=>false
 |[],_::_=>true
 |_::_,[]=>false
 |x::xs,y::ys=>if x=y then lexLt xs ys else decide (x<y)
theorem lexLt_cons (x y:Int) (xs ys:List Int):lexLt (x::xs) (y::ys)=if x=y then lexLt xs ys else decide (x<y):=rfl
theorem lexLt_nil_nil:lexLt [] []=false:=rfl
theorem j7 (y:Int) (ys:List Int):lexLt [] (y::ys)=true:=rfl
theorem j8 (x:Int) (xs:List Int):lexLt (x::xs) []=false:=rfl
theorem zb (A:Around) (s:Shared) (a:Int) (t:Tok) (c:Int) (u:Tok):∃e,SeqAt.EqAt A s (.int a t) (.int c u) e/\(e=true↔a=c) :=
 ⟨(a==c),ZS a t c u,by simp⟩
theorem zc (A:Around) (s:Shared) (a:Int) (t:Tok) (c:Int) (u:Tok) (prog:Program) (w:World) (E:Value->Shared->Prop) (Q:Value->Shared->Prop) (h:Q (.bool (decide (a<c))) s) :
  wpAny (model prog w) A (richCompare .Lt (.int a t) (.int c u)) Q E s :=
 (PyProof.Rows.lt_int h:wpAny (model prog w) A (compareOp .Lt (.int a t) (.int c u)) Q E s)
section
open PySem.SeqAt
open PySem.AutoSeq1 (wpAny_loadPart')
open PySem.MeetsSeq PySem.MeetsSeq2 PySem.MeetsSeq3
theorem lX (l b:Addr) (i f:Array Value) (n U:Nat) (N H:Option Addr) (T I:Array (Option Value)) (ns F:List Int) (K:IntsAre i.toList ns) (L:IntsAre f.toList F) :
  Meets (Builtin.«tuple.__lt__» ⟨[.ref l,.ref b],[]⟩)
   (fun _ R s=>s.heap.get? l=some { cls:=.type "tuple",dict:=N,data:=.seq i n,slots:=T}/\s.heap.get? b=some { cls:=.type "tuple",dict:=H,data:=.seq f U,slots:=I} /\
    R (.ok (.ret (.bool (lexLt ns F)))) s) :=
 .of_wp fun prog w A R s h=>by
  obtain⟨G,g,d,tk,E⟩:=s;obtain⟨Q,O,h⟩:=h;have Y:=AutoSeq1.sub_tuple_tuple;have V:i.size=ns.length:=by rw[<- K.length];simp
  have W:f.size=F.length:=by rw[<- L.length];simp
  wp_walk using wpAny_loadPart' Q,wpAny_loadPart' O,wpAny_forIn_list _ (fun rest b s'=>b.1=none/\s'=⟨G,g,d,tk,E⟩/\∃(vs ws:List Value) (k m:List Int),rest=vs.zip ws /\
   IntsAre vs k/\IntsAre ws m/\k.length+f.size=m.length+i.size/\R (.ok (.ret (.bool (lexLt k m)))) ⟨G,g,d,tk,E⟩) _
  case turn =>
   rintro⟨y,x⟩ rest b s' ⟨B,rfl,vs,ws,k,m,o,z,p,j,v⟩
   cases z with
   |nil=>rw[List.zip_nil_left] at o;cases o
   |cons a t C =>
    cases p with
    |nil=>rw[List.zip_nil_right] at o;cases o
    |cons c u D =>
     rw[List.zip_cons_cons] at o
     injection o with hyx hrest
     injection hyx with hy hx
     subst hy hx
     rw[lexLt_cons] at v
     simp only[n_] at j
     obtain⟨e,P,r⟩:=zb A.in1 ⟨G,g,d,tk,E⟩ a t c u
     refine a_ (P prog w _ _ ?_)
     cases e with
     |true =>
      rw[if_pos (r.mp rfl)] at v
      wp_walk
      exact⟨rfl,rfl,_,_,_,_,hrest,C,D,by omega,v⟩
     |false =>
      rw[if_neg (fun q=>absurd (r.mpr q) t_)] at v
      have J:=zc A.in1 ⟨G,g,d,tk,E⟩ a t c u prog w
      wp_walk using J
      exact⟨_,rfl,by simpa using v⟩
  case fin =>
   rintro⟨Z,X⟩ s' ⟨B,rfl,vs,ws,k,m,o,z,p,j,v⟩
   simp only at B
   subst B
   have M:lexLt k m=decide (i.size<f.size):=by
    cases z with
    |nil =>
     cases p with
     |nil =>
      simp only[Yg] at j
      rw[lexLt_nil_nil]
      exact (u_ (by omega)).symm
     |cons c u S =>
      simp only[Yg,n_] at j
      rw[j7]
      exact (D_ (by omega)).symm
    |cons a t M =>
     cases p with
     |nil =>
      simp only[Yg,n_] at j
      rw[j8]
      exact (u_ (by omega)).symm
     |cons c u S =>
      rw[List.zip_cons_cons] at o
      cases o
   rw[M] at v
   wp_walk
   exact⟨_,rfl,by simpa [Builtin.Tuple.tupleCompareSizes] using v⟩
  case h =>
   exact⟨rfl,rfl,i.toList,f.toList,ns,F,rfl,K,L,by omega,h⟩
variable {prog:Program}{w:World}{A:Around}{E:Value->Shared->Prop}{s:Shared}
theorem lt_tupInts {l b:Addr}{c a:Array Value}{ns g:List Int}{Q:Value->Shared->Prop}(B:IsTup s.heap l c) (v:IsTup s.heap b a) (t:IntsAre c.toList ns) (y:IntsAre a.toList g)
  (D:A.units<cLine) (h:Q (.bool (lexLt ns g)) s):wpAny (model prog w) A (compareOp .Lt (.ref l) (.ref b)) Q E s:=by
 obtain⟨⟨z,u,p,C⟩,r,q,n,m⟩:=id B;obtain⟨⟨o,i,k,j⟩,f,d,G,e⟩:=id v;simp only at q m d e;subst q m d e;exact richCompare_meets_room (op:=.Lt) ⟨_,r,rfl⟩ ⟨_,f,rfl⟩ PySem.F.slot_tuple_lt PySem.F.entry_tuple_lt (PySem.F.args_tuple_lt_2 _ _) (lX l b c a n G u i C j ns g t y)
  ⟨r,f,show Value.bool (lexLt ns g)≠Value.notImplemented/\Q (.bool (lexLt ns g)) s from ⟨(fun x=>nomatch x),h⟩⟩ D
theorem cat_tup {t b:Addr}{vs ws:List Value}{Q:Value->Shared->Prop}(v:IsTup s.heap t vs.toArray) (u:IsTup s.heap b ws.toArray) (o:vs≠[])
  (x:ws=[]->Q (.ref t) s) (y:ws≠[]->Q (.ref s.heap.objs.size) { s with heap:=s.heap.push { cls:=.type "tuple",data:=.seq (vs++ws).toArray}})
  (hsz:vs.length+ws.length<=sizeLine):wpAny (model prog w) A (binaryOp .Add (.ref t) (.ref b)) Q E s:=by
 obtain⟨⟨cls,m,data,q⟩,h,p,n,k⟩:=id v;obtain⟨⟨l,f,j,g⟩,a,c,r,d⟩:=id u;simp only at p k c d;subst p k c d;have e:vs.toArray++ws.toArray=(vs++ws).toArray:=by simp
 by_cases i:ws=[]
 ·exact concat_meets ⟨_,h,rfl⟩ ⟨_,a,rfl⟩ noFill_tuple_add seq_tuple_add PySem.F.slot_tuple_add PySem.F.entry_tuple_add (aal _ _)
   (tuple_addW1 t b vs.toArray ws.toArray n r m f q g (by simpa using o) (by simp [i])) ⟨h,a,x i⟩
 refine concat_meets ⟨_,h,rfl⟩ ⟨_,a,rfl⟩ noFill_tuple_add seq_tuple_add PySem.F.slot_tuple_add PySem.F.entry_tuple_add (aal _ _)
  (tuple_addW2 t b vs.toArray ws.toArray n r m f q g (by simpa using o) (by simpa using i) (by rw[l_,l_];exact hsz)) ⟨h,a,?_⟩
 rw[e];exact y i
def sIx (n d:Nat):Option Int->Nat
 |none=>d
 |some v=>if v<0 then (v+(n:Int)).toNat else min v.toNat n
theorem sIx_none (n d:Nat):sIx n d none=d:=rfl
theorem sIx_nat (n d k:Nat):sIx n d (some (k:Int))=min k n:=by
 show (if (k:Int)<0 then ((k:Int)+(n:Int)).toNat else min (k:Int).toNat n)=min k n;rw[if_neg (by omega),YL]
theorem Lx (n d:Nat) (b:d<=n) (o:Option Int):sIx n d o<=n:=by
 cases o with
 |none=>exact b
 |some v =>
  show (if v<0 then (v+(n:Int)).toNat else min v.toNat n)<=n
  by_cases a:v<0
  ·
   rw[if_pos a];omega
  ·
   rw[if_neg a];exact Nat.min_le_right _ _
theorem vK (v:Int) (n d:Nat):(if v<0 then max (v+(n:Int)) 0 else min v (n:Int))=((sIx n d (some v):Nat):Int):=by
 show (if v<0 then max (v+(n:Int)) 0 else min v (n:Int))=(((if v<0 then (v+(n:Int)).toNat else min v.toNat n):Nat):Int);by_cases a:v<0
 ·simp only[if_pos a];omega
 simp only[if_neg a];omega
theorem tM (a b:Option Int) (n:Nat):Builtin.Slice.sliceAdjust a b 1 (n:Int)=(((sIx n 0 a:Nat):Int),((sIx n n b:Nat):Int)):=by
 have c:¬((1:Int)<0):=by omega
 unfold Builtin.Slice.sliceAdjust;simp only[c,X8];refine Prod.ext ?_ ?_
 ·cases a with
  |none=>rfl
  |some v=>exact vK v n 0
 cases b with
 |none=>rfl
 |some v=>exact vK v n n
theorem tO (i j:Nat):Builtin.Slice.slicePlaces (i:Int) (j:Int) 1=j - i:=by
 unfold Builtin.Slice.slicePlaces;have a:(1:Int)>0:=by omega
 simp only[a,if_true,Int.ediv_one];split <;> omega
theorem ir {v:Value}{o:Option Int}{Q:Option Int->Shared->Prop}(p:IsPart v o) (h:Q o s):wpAny (model prog w) A (Builtin.Slice.slicePartIndex v) Q E s:=by
 cases p with
 |none=>exact slicePart_none h
 |int i t=>exact slicePart_int h
theorem fK {g:Addr}{e f:Value}{a b:Option Int}{n:Nat}{Q:Int × Int × Nat->Shared->Prop}(i:s.heap.IsSliceOf g e f .none) (pl:IsPart e a) (j:IsPart f b)
  (h:Q (((sIx n 0 a:Nat):Int),1,sIx n n b - sIx n 0 a) s):wpAny (model prog w) A (Builtin.Slice.sliceApplied (.ref g) (pure (n:Int))) Q E s:=by
 obtain⟨l,d,k,c⟩:=id i;unfold Builtin.Slice.sliceApplied Builtin.Slice.sliceFields;refine a_ (a_ (Yu d c (x:=e) rfl (a_ (Yu d c (x:=f) rfl (a_ (Yu d c (x:=.none) rfl (i_ ?_)))))));refine a_ (slicePart_none ?_);show wpAny _ _ (if ((1:Int)==0)=true then _ else _) _ _ s;rw[if_neg (by decide)];refine a_ (ir pl (a_ (ir j (a_ (i_ ?_)))));show wpAny _ _ (match Builtin.Slice.sliceAdjust a b 1 (n:Int) with | (a,b)=>pure (a,(1:Int),Builtin.Slice.slicePlaces a b 1)) _ _ s;rw[tM a b n];show wpAny _ _ (pure (((sIx n 0 a:Nat):Int),(1:Int),Builtin.Slice.slicePlaces ((sIx n 0 a:Nat):Int) ((sIx n n b:Nat):Int) 1)) _ _ s;rw[tO];exact i_ h
theorem zf (xs : Array Value) (i k : Nat) : ((List.range k).filterMap fun (m : Nat) => xs[((i : Int) + (m : Int) * 1).toNat]?).toArray = ((xs.toList.drop i).take k).toArray:=by
 have e:(fun (m:Nat)=>xs[((i:Int)+(m:Int)*1).toNat]?)=fun m=>xs[i+m]?:=by
  funext m;have:((i:Int)+(m:Int)*1).toNat=i+m:=by omega
  rw[this]
 rw [e];have:=pick_run xs i k;rw [List.filterMap_map] at this;have a : ((fun x => xs[x]?) ∘ fun x => i + x) = fun m => xs[i + m]?:=rfl;rw [a] at this;rw [this]
theorem getItem_tuple_cut {t k:Addr}{a:Array Value}{n o:Value}{c d:Option Int}{Q:Value->Shared->Prop}(e:IsTup s.heap t a) (l:s.heap.IsSliceOf k n o .none) (pl:IsPart n c) (v:IsPart o d)
  (u:¬(sIx a.size 0 c=0/\sIx a.size a.size d=a.size))
  (h:Q (.ref s.heap.objs.size) { s with heap:=s.heap.push { cls:=.type "tuple",data:=.seq ((a.toList.drop (sIx a.size 0 c)).take (sIx a.size a.size d - sIx a.size 0 c)).toArray}})
  (hsz:a.size<=sizeLine):wpAny (model prog w) A (getItem (.ref t) (.ref k)) Q E s:=by
 have b:sizeOk (.seq ((a.toList.drop (sIx a.size 0 c)).take (sIx a.size a.size d - sIx a.size 0 c)).toArray):=by show ((a.toList.drop (sIx a.size 0 c)).take (sIx a.size a.size d - sIx a.size 0 c)).toArray.size<=sizeLine;rw[l_,Y7,aae,ZJ];omega
 have y:sIx a.size a.size d<=a.size:=Lx _ _ (o_ _) d;obtain⟨p,j,g,r⟩:=id l;have i:s.TypeIs (.ref k) "slice":=⟨p,j,g⟩;unfold getItem;try with_reducible refine YS ?_
 first | refine a_ (i_ ?_) | skip
 refine a_ (wpAny_sequenceKey e.typeIs (by decide) ?_);refine a_ (YB (name:=Str.ofString "__getitem__") e.typeIs X4
  (YG X4 e.typeIs entry_tuple_getitem ?_ (args_tuple_getitem _ _)))
 show wpAny _ _ (Builtin.Tuple.tupleItemsOf (.ref t) >>= _) _ _ s;refine a_ (tupleItemsOf_ e ?_);refine a_ (aaf i ?_);rw[if_pos (by decide)];refine a_ (fK l pl v ?_);have f:¬((((sIx a.size 0 c:Nat):Int)==0&&(1:Int)==1&&(sIx a.size a.size d - sIx a.size 0 c)==a.size)=true):=by intro q;rw[X_,X_] at q;have z:((sIx a.size 0 c:Nat):Int)=0:=eq_of_beq q.1.1;have x:sIx a.size a.size d - sIx a.size 0 c=a.size:=eq_of_beq q.2;exact u ⟨by omega,by omega⟩
 show wpAny _ _ (if (((sIx a.size 0 c:Nat):Int)==0&&(1:Int)==1&&(sIx a.size a.size d - sIx a.size 0 c)==a.size)=true then _ else _) _ _ s;rw[if_neg f,zf];first
  |exact a_ (m:=Builtin.Tuple.tupleExact _) (Yt (i_ ⟨_,rfl,i_ h⟩) b)
  |exact a_ (m:=Builtin.Tuple.tupleExact _) (Yt (a_ (i_ (i_ ⟨_,rfl,i_ h⟩))) b)
  |exact a_ (a_ (m:=Builtin.Tuple.tupleExact _) (Yt (i_ (i_ ⟨_,rfl,i_ h⟩)) b))
  |exact a_ (a_ (m:=Builtin.Tuple.tupleExact _) (Yt (i_ ⟨_,rfl,i_ h⟩) b))
end
end HT
namespace L2
abbrev TO:=St->Hp->(Option Int->Hp->Prop)->Prop
def PO (X:Cx) (e:Option Expr) (t:TO):Prop :=
 ∀(a:List (Addr × Obj)) (s:Shared) (Z:St) (H:Hp) (Q:Option Int->Hp->Prop),Inv X a Z H s->t Z H Q ->
  wpAny (model X.prog X.w) X.A (evalPart e X.env) (fun u s'=>∃o b,Inv X a Z b s'/\IsPart u o/\Q o b) X.xe s
def Fi:TO:=fun _ H Q=>Q none H
def RX (t:TE):TO:=fun Z H Q=>t Z H fun x a=>∃i,x=.int i/\Q (some i) a
theorem intsAre_of {ns:List Int}:∀{us:List Value},Vals (ns.map V.int) us->IntsAre us ns:=by
 induction ns with
 |nil=>intro us r;rw[Yz] at r;cases r;exact .nil
 |cons n ns b =>
 intro us r;rw[C_] at r;cases r with
 |cons a c =>
 obtain⟨t,e⟩:=a;subst e;exact .cons n t (b c)
section
variable {X:Cx}{e:Expr}{te:TE}{lo hi:Option Expr}{tl th:TO}{pos p2:Pos}
theorem Fj:PO X none Fi:=by
 intro a s Z H Q I h;rw[evalPart_none];exact i_ ⟨none,H,I,.none,h⟩
theorem Fl (h:PE X e te):PO X (some e) (RX te):=by
 intro a s Z H Q I b;rw[evalPart_some];refine thn (h a s Z H _ I b) fun u j ⟨x,c,g,f,d⟩=>?_;obtain⟨i,rfl,q⟩:=d;obtain⟨t,rfl⟩:=f;exact⟨some i,c,g,.int i t,q⟩
def SlR (X:Cx) (r:V->Option Int->Option Int->Hp->VK->Prop):Prop :=
 ∀(a:List (Addr × Obj)) (s:Shared) (Z:St) (H:Hp) (x:V) (v b e:Value) (c d:Option Int) (f:Addr) (Q:VK),Inv X a Z H s->RelV x v->s.heap.IsSliceOf f b e .none->IsPart b c->IsPart e d->r x c d H Q ->
  ∃T g,typeLookup (.type T) "__getitem__"=pure (some (.builtin g))/\s.TypeIs v T/\wpAny (model X.prog X.w) X.A (getItem v (.ref f)) (EP X a Z Q) X.xe s
theorem SlR.or {r j:V->Option Int->Option Int->Hp->VK->Prop}(h:SlR X r) (h':SlR X j):SlR X (fun x b c H Q=>r x b c H Q\/j x b c H Q):=by
 intro a s Z H x v e f b c i Q I k d pl g q;rcases q with q | q
 ·exact h a s Z H x v e f b c i Q I k d pl g q
 exact h' a s Z H x v e f b c i Q I k d pl g q
def tSl (r:V->Option Int->Option Int->Hp->VK->Prop) (te:TE) (a d:TO):TE:=fun Z H Q=>te Z H fun x c=>a Z c fun l b=>d Z b fun u H3=>r x l u H3 Q
theorem qj {r:V->Option Int->Option Int->Hp->VK->Prop}(p:SlR X r) (m:PE X e te) (y:PO X lo tl) (G:PO X hi th):PE X (.Subscript e (.Slice lo hi none p2) pos) (tSl r te tl th):=by
 intro a s Z H Q I h;refine Subscript_ (thn (m a s Z H _ I h) fun v J ⟨x,C,i,g,E⟩=>?_);refine wpAny_Slice (thn (y a J Z C _ i E) fun c k ⟨l,o,F,pl,f⟩=>thn (G a k Z o _ F f) fun d s3 ⟨u,H3,t,D,K⟩=>?_);rw[evalPart_none];refine i_ ?_;have j:Inv X a Z H3 { s3 with heap:=s3.heap.push { cls:=.type "slice",data:=.fields #[c,d,.none]}}:=t.kept (t':=s3.toks) fun b M q=>b_ _ q;obtain⟨T,L,B,n,z⟩:=p a { s3 with heap:=s3.heap.push { cls:=.type "slice",data:=.fields #[c,d,.none]}} Z H3 x v c d l u s3.heap.objs.size Q j g (Heap.IsSliceOf.new ..) pl D K;show wpAny (model X.prog X.w) X.A (subscriptTail e (.Slice lo hi none p2) v (.ref s3.heap.objs.size)) (EP X a Z Q) X.xe { s3 with heap:=s3.heap.push { cls:=.type "slice",data:=.fields #[c,d,.none]}};exact tail_any (ops:=[.ref s3.heap.objs.size,v]) n B z (by with_unfolding_all rfl)
def ql (xs:List V) (a b:Option Int):List V:=(xs.drop (HT.sIx xs.length 0 a)).take (HT.sIx xs.length xs.length b - HT.sIx xs.length 0 a)
theorem jB (xs:List V) (b a:Option Int):(ql xs b a).length<=xs.length:=by
 unfold ql;rw[Y7,aae];omega
def W6 (K:Frag):V->Option Int->Option Int->Hp->VK->Prop:=fun x c b H Q=>∃a xs,x=.ref a/\SqT K H a xs /\
 ¬(HT.sIx xs.length 0 c=0/\HT.sIx xs.length xs.length b=xs.length)/\∀p,H p=none->Q (.ref p) (upd H p (.tup (ql xs c b)))
theorem sl_tup:SlR X (W6 X.K):=by
 intro g s Z H x v t u d e w Q I n k pl m h;obtain⟨a,xs,rfl,p,l,q⟩:=h;cases n;obtain⟨f,r,j,i⟩:=I.tuple p;have c:f.toArray.size=xs.length:=by rw[l_];exact r.length.symm
 refine⟨"tuple",_,X4.lookup,j.typeIs,?_⟩;refine HT.getItem_tuple_cut j k pl m (by rw[c];exact l) ?_ (by rw[c];exact i);rw[c];refine⟨.ref s.heap.objs.size,_,I.laid (t':=s.toks) (o:=.tup (ql xs d e)) (fun b y q=>b_ _ q) (o_ _) ?_,rfl,q _ (I.hok.fresh (o_ _))⟩;exact⟨L_ (jB xs d e) i,_,(r.drop (HT.sIx xs.length 0 d)).take (HT.sIx xs.length xs.length e - HT.sIx xs.length 0 d),Tup0.new _ _⟩
def W7 (K:Frag):R2:=fun x y H Q=>∃a b ns c,x=.ref a/\y=.ref b/\SqT K H a (ns.map V.int)/\SqT K H b (c.map V.int)/\Q (.bl (HT.lexLt ns c)) H
theorem Ly (m:X.A.units<cLine):OpR X (compareOp .Lt) (W7 X.K):=by
 intro e s Z H x y v u Q I r n h;obtain⟨a,b,ns,f,rfl,rfl,i,o,q⟩:=h;cases r;cases n;obtain⟨d,l,p1,_⟩:=I.tuple i;obtain⟨c,k,j,_⟩:=I.tuple o;have g:IntsAre d.toArray.toList ns:=intsAre_of l;have p:IntsAre c.toArray.toList f:=intsAre_of k;exact HT.lt_tupInts p1 j g p m ⟨.bl (HT.lexLt ns f),H,I,rfl,q⟩
def RZ (K:Frag):R2:=fun x y H Q=>∃a b xs ys,x=.ref a/\y=.ref b/\SqT K H a xs/\SqT K H b ys/\xs≠[]/\xs.length+ys.length<=sizeLine /\
 (ys=[]->Q (.ref a) H)/\(ys≠[]->∀p,H p=none->Q (.ref p) (upd H p (.tup (xs++ys))))
theorem Vals.nil_iff {xs:List V}{us:List Value}(r:Vals xs us):us=[]↔xs=[]:=by
 cases r with
 |nil=>simp
 |cons _ _=>simp
theorem op_catT:OpR X (binaryOp .Add) (RZ X.K):=by
 intro e s Z H x y v u Q I r m h;obtain⟨a,b,xs,ys,rfl,rfl,j,n,t,g,l,i⟩:=h;cases r;cases m;obtain⟨p,d,p1,_⟩:=I.tuple j;obtain⟨f,c,k,_⟩:=I.tuple n;refine HT.cat_tup p1 k (fun z=>t (d.nil_iff.mp z)) (fun z=>⟨.ref a,H,I,rfl,l (c.nil_iff.mp z)⟩) (fun z=>?_) (by rw[<- d.length,<- c.length];exact g);refine⟨.ref s.heap.objs.size,_,I.laid (t':=s.toks) (o:=.tup (xs++ys)) (fun b A q=>b_ _ q) (o_ _) ?_,rfl,i (fun w=>z (c.nil_iff.mpr w)) _ (I.hok.fresh (o_ _))⟩;exact⟨by rw[d_];exact g,_,d.append c,Tup0.new _ _⟩
end
def ixN (n:Nat) (i:Int):Option Nat:=if 0<=i then (if i<n then some i.toNat else none) else if -(n:Int)<=i then some (i+n).toNat else none
def atI {a:Type}(xs:List a) (i:Int):Option a:=(ixN xs.length i).bind fun j=>xs[j]?
theorem vL {n:Nat}{i:Int}{j:Nat}(h:ixN n i=some j):seqIndex? i n=some j/\j<n /\ -(n:Int)<=i/\i<n:=by
 unfold ixN at h;by_cases b:0<=i
 ·rw[if_pos b] at h;by_cases a:i<n
  ·rw[if_pos a] at h;have e:i.toNat=j:=Q_ h;exact⟨by rw[seqIndex_of b a,e],by omega,by omega,a⟩
  rw[if_neg a] at h;cases h
 rw[if_neg b] at h;by_cases a : -(n:Int)<=i
 ·rw[if_pos a] at h;have e:(i+n).toNat=j:=Q_ h;exact⟨by rw[seqIndex_neg (by omega) a,e],by omega,a,by omega⟩
 rw[if_neg a] at h;cases h
theorem nY {a:Type}{xs:List a}{i:Int}{v:a}(h:atI xs i=some v):∃j,seqIndex? i xs.length=some j/\xs[j]?=some v/\j<xs.length /\ -(xs.length:Int)<=i/\i<xs.length:=by
 unfold atI at h;cases e:ixN xs.length i with
 |none=>rw[e] at h;cases h
 |some j =>
 rw[e] at h;obtain⟨d,b,f,c⟩:=vL e;exact⟨j,d,h,b,f,c⟩
theorem bY {a:Type}{xs:List a}{j:Nat}{v:a}(h:xs[j]?=some v):atI xs (j:Int)=some v:=by
 have b:j<xs.length:=(YK.mp h).1;have e:ixN xs.length (j:Int)=some j:=by unfold ixN;rw[if_pos (by omega),if_pos (by omega)];simp
 unfold atI;rw[e];exact h
theorem zg {a:Type}(xs:List a) (v:a):atI (xs++[v]) (-1)=some v:=by
 have b:(xs++[v]).length=xs.length+1:=by simp
 have e:ixN (xs++[v]).length (-1)=some xs.length:=by unfold ixN;rw[b,if_neg (by decide),if_pos (by omega)];congr 1;omega
 unfold atI;rw[e];show (xs++[v])[xs.length]?=some v;simp
def vM (b:Expr):Prop:=∀o i,subscripted b false o i=operate [o,i] (getItem o i)
def IxR (X:Cx) (r:R2):Prop :=
 ∀(c a:Expr) (b:List (Addr × Obj)) (s:Shared) (Z:St) (H:Hp) (x y:V) (v u:Value) (Q:VK),Inv X b Z H s->RelV x v->RelV y u->r x y H Q ->
  subscripted a false v u=operate [v,u] (getItem v u)->wpAny (model X.prog X.w) X.A (subscriptTail c a v u) (EP X b Z Q) X.xe s
def MtR (X:Cx) (b:String) (r:V->List V->Hp->VK->Prop):Prop :=
 ∀(a:List (Addr × Obj)) (s:Shared) (Z:St) (H:Hp) (x:V) (xs:List V) (v:Value) (us:List Value) (Q:VK),Inv X a Z H s->RelV x v->Vals xs us->r x xs H Q ->
  wpAny (model X.prog X.w) X.A (call (.builtin b) (v::us)) (EP X a Z Q) X.xe s
section
variable {X:Cx}{a b:Expr}{ta tb:TE}{pos:Pos}
theorem IxR.or {r e:R2}(h:IxR X r) (h':IxR X e):IxR X (fun x y H Q=>r x y H Q\/e x y H Q):=by
 intro b a c s Z H x y v u Q I g f q d;rcases q with q | q
 ·exact h b a c s Z H x y v u Q I g f q d
 exact h' b a c s Z H x y v u Q I g f q d
theorem MtR.or {b:String}{r e:V->List V->Hp->VK->Prop}(h:MtR X b r) (h':MtR X b e):MtR X b (fun x xs H Q=>r x xs H Q\/e x xs H Q):=by
 intro a s Z H x xs v us Q I c d q;rcases q with q | q
 ·exact h a s Z H x xs v us Q I c d q
 exact h' a s Z H x xs v us Q I c d q
theorem Sd {r:R2}(f:IxR X r) (g:PE X a ta) (l:PE X b tb) (e:vM b):PE X (.Subscript a b pos) (tOp r ta tb):=by
 intro c s Z H Q I h;exact Subscript_ (Lf g l I h fun v u j x y d i m k q=>f a b c j Z d x y v u Q i m k q (e _ _))
def Sg (K:Frag):R2:=fun x y H Q=>∃p xs i v,x=.ref p/\y=.int i/\SqL K H p xs/\atI xs i=some v/\Q v H
def Sh (K:Frag):R2:=fun x y H Q=>∃p xs i v,x=.ref p/\y=.int i/\SqT K H p xs/\atI xs i=some v/\Q v H
def Sq:R2:=fun x y H Q=>∃z i c,x=.str z/\y=.int i/\z.length<=sizeLine/\atI z.cps.toList i=some c/\Q (.str ⟨#[c]⟩) H
theorem ix_list:IxR X (Sg X.K):=by
 intro d f a s Z H x y v u Q I o G h m;obtain⟨p,xs,i,z,rfl,rfl,D,C,q⟩:=h;cases o;obtain⟨t,rfl⟩:=G;obtain⟨e,r,pl,J⟩:=I.list D;obtain⟨j,c,F,M,B,A⟩:=nY C;obtain⟨w,n,k⟩:=r.get F;have E:=r.length;have L:=jl;have b:EP X a Z Q w s:=⟨z,H,I,k,q⟩;by_cases l:0<=i
 ·have g:i.toNat=j:=by rw[seqIndex_of l A] at c;exact Q_ c
  exact item_listR pl.isList l (by omega) (by rw[g];simpa using n) b m
 have g:(i+(e.toArray.size:Int)).toNat=j:=by rw[seqIndex_neg (by omega) B] at c;rw[l_,<- E];exact Q_ c
 exact subscriptTail_builtinR (x:=w) pl.isList.typeIs slot_list_getitem.lookup
  (wpAny_getItem_list_neg (Q:=fun r s'=>r=w/\EP X a Z Q r s') pl.isList (by omega) (by rw[l_] <;> omega) (by omega) (by rw[g];simpa using n) ⟨rfl,b⟩) m
theorem ix_tup:IxR X (Sh X.K):=by
 intro b c a s Z H x y v u Q I k C h f;obtain⟨p,xs,i,z,rfl,rfl,m,l,q⟩:=h;cases k;obtain⟨t,rfl⟩:=C;obtain⟨g,r,pl,D⟩:=I.tuple m;obtain⟨j,n,A,J,G,F⟩:=nY l;obtain⟨w,B,e⟩:=r.get A;have o:=r.length;have E:=jl;have d:EP X a Z Q w s:=⟨z,H,I,e,q⟩;exact subscriptTail_builtinR (x:=w) pl.typeIs slot_tuple_getitem.lookup
  (getItem_tuple (j:=j) (Q:=fun r s'=>r=w/\EP X a Z Q r s') pl (by omega) (by omega) (by rw[l_,<- o];exact n) (by simpa using B) ⟨rfl,d⟩) f
theorem Lz:IxR X Sq:=by
 intro b a d s Z H x y v u Q I w p h f;obtain⟨z,i,c,rfl,rfl,B,n,q⟩:=h;obtain⟨t,rfl⟩:=w;obtain⟨t',rfl⟩:=p;obtain⟨j,e,g,C,l,k⟩:=nY n;have o:z.cps.toList.length=z.length:=by simp [Str.length]
 rw[o] at e l k;have A:=jl;exact tail_any (typeIs_str s z t) slot_str_getitem.lookup (getItem_str (c:=c) (by
  have r:decide (i < -(2^63:Int))=false:=u_ (by omega)
  have m:decide (i ≥ 2^63)=false:=u_ (by omega)
  rw[r,m,Bool.or_false]) (by rw[e];simpa using g) ⟨.str ⟨#[c]⟩,H,I.tok _,⟨_,rfl⟩,q⟩) f
def rIx (K:Frag):R2:=fun x y H Q=>Sg K x y H Q\/Sh K x y H Q\/Sq x y H Q
theorem LC:IxR X (rIx X.K):=ix_list.or (ix_tup.or Lz)
theorem tQ (a:List Value) (n j:Nat) (u:Value):Obj.mapSeq (·.setIfInBounds j u) { cls:=.type "list",data:=.seq a.toArray n}={ cls:=.type "list",data:=.seq (a.set j u).toArray n}:=by
 simp [Obj.mapSeq]
theorem Inv.lst {b:List (Addr × Obj)}{Z:St}{H:Hp}{s:Shared}{p:Addr}{xs:List V}(I:Inv X b Z H s) (h:H p=some (.lst xs)) :
  ∃(a:List Value) (n:Nat),Vals xs a/\s.heap.get? p=some { cls:=.type "list",data:=.seq a.toArray n}/\xs.length<=sizeLine:=by
 obtain⟨z,a,n,r,e⟩:=I.hok p _ h;exact⟨a,n,r,e,z⟩
theorem Inv.lstUpd {a:List (Addr × Obj)}{Z:St}{H:Hp}{s:Shared}{p:Addr}{xs ys:List V}{c its':List Value}{n d:Nat}{f:Obj->Obj}(I:Inv X a Z H s) (h:H p=some (.lst xs))
  (i:s.heap.get? p=some { cls:=.type "list",data:=.seq c.toArray n}) (g:f { cls:=.type "list",data:=.seq c.toArray n}={ cls:=.type "list",data:=.seq its'.toArray d}) (r:Vals ys its') (j:ys.length<=sizeLine) (t:Nat) :
  Inv X a Z (upd H p (.lst ys)) { s with heap:=s.heap.update p f,toks:=t}:=by
 have e:(s.heap.update p f).get? p=some { cls:=.type "list",data:=.seq its'.toArray d}:=by rw[Heap.get?_update_self f i (by rw[g] <;> rfl),g]
 refine I.write (x:=p) (e:=p) (by rw[h];trivial) (.inl rfl) (fun b u k q=>(ZV _ _ (Ne.symm k)).trans q) ⟨_,e⟩ ?_;exact⟨j,its',d,r,e⟩
def Ss:V->V->V->Hp->(Hp->Prop)->Prop:=fun o i v H Q=>∃p xs k j,o=.ref p/\i=.int k/\H p=some (.lst xs)/\ixN xs.length k=some j/\Q (upd H p (.lst (xs.set j v)))
theorem set_list:PSet X Ss:=by
 intro b s Z H o i v E F u Q I z C B h;obtain⟨p,xs,k,j,rfl,rfl,w,A,q⟩:=h;cases z;obtain⟨t,rfl⟩:=C;obtain⟨a,n,r,f,y⟩:=I.lst w;obtain⟨c,G,x,l⟩:=vL A;have e:=r.length;have D:=jl;have m:Inv X b Z (upd H p (.lst (xs.set j v))) { s with heap:=s.heap.update p (Obj.mapSeq (·.setIfInBounds j u))} :=
  I.lstUpd w f (tQ a n j u) (r.set B j) (by rw[List.length_set];exact y) s.toks
 by_cases g:0<=k
 ·have d:k.toNat=j:=by rw[seqIndex_of g l] at c;exact Q_ c
  exact PySem.W.ki_setAt f g (by omega) (by rw[l_,<- e];exact l) (by rw[d];exact⟨_,m,q⟩)
 have d:(k+(a.toArray.size:Int)).toNat=j:=by rw[seqIndex_neg (by omega) x] at c;rw[l_,<- e];exact Q_ c
 exact PySem.W.ki_setBack f (by omega) (by rw[l_,<- e];exact x) (by omega) (by rw[d];exact⟨_,m,q⟩)
theorem nZ (b a:Option Int) (n:Nat):(sliceBounds b a none n).1=((HT.sIx n 0 b:Nat):Int)/\(sliceBounds b a none n).2.1=((HT.sIx n n a:Nat):Int)/\(sliceBounds b a none n).2.2=1:=by
 refine⟨?_,?_,rfl⟩
 ·cases b with
  |none=>simp [sliceBounds,HT.sIx]
  |some i =>
  simp only[sliceBounds,HT.sIx,Option.getD_none,show (1:Int)>0 by decide,if_true];by_cases h:i<0
  ·simp only[h,if_true] <;> omega
  simp only[h,X8] <;> omega
 cases a with
 |none=>simp [sliceBounds,HT.sIx]
 |some i =>
 simp only[sliceBounds,HT.sIx,Option.getD_none,show (1:Int)>0 by decide,if_true];by_cases h:i<0
 ·simp only[h,if_true] <;> omega
 simp only[h,X8] <;> omega
theorem lY (a:List Value) (b c:Option Int):slicePick a.toArray b c none=((a.drop (HT.sIx a.length 0 b)).take (HT.sIx a.length a.length c - HT.sIx a.length 0 b)).toArray:=by
 obtain⟨e,d,f⟩:=nZ b c a.toArray.size;unfold slicePick;rw[e,d,f];simp only[sliceRange_one,pick_run,l_] <;> rfl
def W8 (K:Frag):V->Option Int->Option Int->Hp->VK->Prop:=fun x c b H Q=>∃a xs,x=.ref a/\SqL K H a xs/\∀p,H p=none->Q (.ref p) (upd H p (.lst (ql xs c b)))
theorem sl_list:SlR X (W8 X.K):=by
 intro f s Z H x v p t d e u Q I m i pl j h;obtain⟨a,xs,rfl,n,q⟩:=h;cases m;obtain⟨l,r,g,k⟩:=I.list n;have c:=r.length;refine⟨"list",_,slot_list_getitem.lookup,g.isList.typeIs,?_⟩;refine wpAny_getItem_list_slice g.isList i pl j .none (by simp) ?_ (by rw[l_] <;> omega);rw[lY,<- c];refine⟨.ref s.heap.objs.size,_,I.laid (t':=s.toks) (o:=.lst (ql xs d e)) (fun b w q=>b_ _ q) (o_ _) ?_,rfl,q _ (I.hok.fresh (o_ _))⟩;exact⟨L_ (jB xs d e) k,_,0,(r.drop (HT.sIx xs.length 0 d)).take (HT.sIx xs.length xs.length e - HT.sIx xs.length 0 d),v_ _ rfl⟩
theorem call_len_seq:CallR X (.builtin "len") (fun xs H Q=>∃p ys,xs=[.ref p]/\(SqL X.K H p ys\/SqT X.K H p ys)/\Q (.int ys.length) H):=by
 intro e s Z H xs us Q I r h;obtain⟨p,ys,rfl,b,q⟩:=h;obtain⟨u,rfl,g⟩:=vals1 r;cases g;have i:=jl;rcases b with b | b
 ·obtain⟨d,c,pl,f⟩:=I.list b;have a:=c.length;exact Calls.call_len_list pl.isList (by simp only[l_] <;> omega) ⟨.int ys.length,H,I.tok _,⟨s.toks+1,by rw[l_,a]⟩,q⟩
 obtain⟨d,c,pl,f⟩:=I.tuple b;have a:=c.length;exact len_tuple pl (by simp only[l_] <;> omega) ⟨.int ys.length,H,I.tok _,⟨s.toks+1,by rw[l_,a]⟩,q⟩
theorem oh:CallR X (.builtin "len") (fun xs H Q=>∃z,xs=[.str z]/\z.length<=sizeLine/\Q (.int z.length) H):=by
 intro a s Z H xs us Q I r h;obtain⟨z,rfl,b,q⟩:=h;obtain⟨u,rfl,t,rfl⟩:=vals1 r;have c:=jl;exact len_str (by omega) ⟨.int z.length,H,I.tok _,⟨_,rfl⟩,q⟩
theorem CallR.or {f:Value}{r b:List V->Hp->VK->Prop}(h:CallR X f r) (h':CallR X f b):CallR X f (fun xs H Q=>r xs H Q\/b xs H Q):=by
 intro a s Z H xs us Q I c q;rcases q with q | q
 ·exact h a s Z H xs us Q I c q
 exact h' a s Z H xs us Q I c q
theorem ou:CallR X (.type "list") (fun xs H Q=>∃p ys,xs=[.ref p]/\(SqL X.K H p ys\/SqT X.K H p ys)/\∀l,H l=none->Q (.ref l) (upd H l (.lst ys))):=by
 intro f s Z H xs us Q I r h;obtain⟨p,ys,rfl,k,q⟩:=h;obtain⟨u,rfl,z⟩:=vals1 r;cases z;have m:∀(a:List Value),Vals ys a->ys.length<=sizeLine->∀(h':Heap) (d:Nat),(∀b y,s.heap.get? b=some y->h'.get? b=some y) ->
   h'.get? s.heap.objs.size=some { cls:=.type "list",dict:=none,data:=.seq a.toArray d,slots:=#[]}->EP X f Z Q (.ref s.heap.objs.size) { s with heap:=h'}:=fun a c j h' d i e =>
  ⟨.ref s.heap.objs.size,_,I.laid (t':=s.toks) i (o_ _) (show ObjOk X.prog X.w _ h' _ (.lst ys) from ⟨j,a,d,c,e⟩),rfl,q _ (I.hok.fresh (o_ _))⟩
 rcases k with k | k
 ·obtain⟨a,c,pl,j⟩:=I.list k;have g:=c.length;obtain⟨o,t,x,n,v⟩:=pl.isList;exact call_list_seq p (.inl rfl) t x v (fun h' d i e=>m a c j h' d i e) (by simp only[l_] <;> omega)
 obtain⟨a,c,pl,j⟩:=I.tuple k;have g:=c.length;obtain⟨o,t,x,n,v⟩:=pl;exact call_list_seq p (.inr rfl) t x v (fun h' d i e=>m a c j h' d i e) (by simp only[l_] <;> omega)
theorem lZ:CallR X (.type "tuple") (fun xs H Q=>∃p ys,xs=[.ref p]/\((SqL X.K H p ys/\∀l,H l=none->Q (.ref l) (upd H l (.tup ys)))\/(SqT X.K H p ys/\Q (.ref p) H))):=by
 intro a s Z H xs us Q I r h;obtain⟨p,ys,rfl,h⟩:=h;obtain⟨u,rfl,n⟩:=vals1 r;cases n;rcases h with ⟨f,q⟩ | ⟨f,q⟩
 ·obtain⟨c,d,pl,i⟩:=I.list f;have g:=d.length;refine call_tuple_list pl.isList (fun h' k=>?_) (by simp only[l_] <;> omega);have j:Inv X a Z H { s with heap:=h'}:=I.kept (t':=s.toks) k;have m:Inv X a Z (upd H h'.objs.size (.tup ys)) { s with heap:=h'.push { cls:=.type "tuple",data:=.seq c.toArray}} :=
   j.laid (t':=s.toks) (fun b o e=>b_ _ e) (o_ _) (show ObjOk X.prog X.w _ _ _ (.tup ys) from ⟨i,c,d,Tup0.new _ _⟩)
  exact⟨.ref h'.objs.size,_,m,rfl,q _ (j.hok.fresh (o_ _))⟩
 obtain⟨c,d,pl,i⟩:=I.tuple f;exact call_tuple_same pl ⟨.ref p,H,I,rfl,q⟩
def tyV (K:Frag) (T:String) (x:V) (H:Hp):Prop:=match x with
 |.str _=>T="str"
 |.int _=>T="int"
 |.ref p=>(T="list"/\∃xs,SqL K H p xs)\/(T="tuple"/\∃xs,SqT K H p xs) \/
   (T="dict"/\((∃kvs,H p=some (.dK kvs))\/∃kvs,H p=some (.dT kvs)))\/(T="set"/\∃S n,H p=some (.set S n))
 |_=>False
theorem zj {f:List (Addr × Obj)}{Z:St}{H:Hp}{s:Shared}{T:String}{x:V}{v:Value}(I:Inv X f Z H s) (r:RelV x v) (j:tyV X.K T x H) :
  s.TypeIs v T/\∀a,v=.ref a->∃q,s.heap.get? a=some q/\q.dict=none:=by
 cases x with
 |str z=>obtain⟨t,rfl⟩:=r;cases (show T="str" from j);exact⟨typeIs_str s z t,fun _ e=>nomatch e⟩
 |int i=>obtain⟨t,rfl⟩:=r;cases (show T="int" from j);exact⟨typeIs_int s i t,fun _ e=>nomatch e⟩
 |ref p =>
  cases r;rcases j with ⟨rfl,xs,w⟩ | ⟨rfl,xs,b⟩ | ⟨rfl,b⟩ | ⟨rfl,S,n,b⟩
  ·obtain⟨g,_,pl,_⟩:=I.list w;refine⟨pl.isList.typeIs,fun a e=>?_⟩;cases e;obtain⟨o,n,e,c,h,_⟩:=pl;exact⟨o,e,h⟩
  ·rcases b with b | ⟨o,g,n,b,l,h,_⟩
   ·obtain⟨_,g,r,o,m,l,n,h,u⟩:=b.ok I.hok;refine⟨⟨o,m,l⟩,fun a e=>?_⟩;cases e;exact⟨o,m,u⟩
   refine⟨⟨o,I.kIn p o b,l⟩,fun a e=>?_⟩;cases e;exact⟨o,I.kIn _ o b,h⟩
  ·have z:∃o,s.heap.get? p=some o/\o.ExactDict:=by
    rcases b with ⟨kvs,b⟩ | ⟨kvs,b⟩
    ·obtain⟨_,_,_,_,o,_,_,e,d,_⟩:=I.hok p _ b;exact⟨o,e,d⟩
    obtain⟨_,_,_,_,o,_,_,e,d,_⟩:=I.hok p _ b;exact⟨o,e,d⟩
   obtain⟨o,e,d⟩:=z;refine⟨⟨o,e,d.1⟩,fun a k=>?_⟩;cases k;exact⟨o,e,d.2.1⟩
  obtain⟨o,_,_,_,e,d,_⟩:=I.hok p _ b;refine⟨⟨o,e,d.1⟩,fun a k=>?_⟩;cases k;exact⟨o,e,d.2.1⟩
 |_=>exact False.elim j
def W9 (K:Frag) (T:String) (r:V->List V->Hp->VK->Prop) (b:TE):TE:=fun Z H Q=>b Z H fun x a=>tyV K T x a/\r x [] a Q
def tBM (K:Frag) (T:String) (r:V->List V->Hp->VK->Prop) (b:TE) (t:TA):TE:=fun Z H Q=>b Z H fun x a=>tyV K T x a/\t Z a fun xs c=>r x xs c Q
variable {o e:Expr}{es:List Expr}{to:TE}{t:TA}{name:Str}{apos cpos:Pos}{T id:String}{r:V->List V->Hp->VK->Prop}
theorem LK (j:PlainAttrs T) (d:Slot T name id) (e:typeOf (.builtin id)=pure (.type "method_descriptor")) (n:MtR X id r) (i:PE X o to)
  (b:attributeBase o name X.env (eval o X.env)=eval o X.env:=by rfl) (c:(apos.endLine==cpos.line)=true:=by rfl):PE X (.Call (.Attribute o name apos) [] [] cpos) (W9 X.K T r to):=by
 intro a s Z H Q I h;refine wpAny_Call_method0_late b c (thn (i a s Z H _ I h) fun v t ⟨x,m,g,f,l,p⟩=>?_);obtain⟨q,k⟩:=zj g f l;exact⟨T,id,j,d,e,q,k,Calls.callWith_builtin rfl (PySem.evalArgs_none (n a t Z m x [] v [] Q g f .nil p))⟩
theorem Su (u:PlainAttrs T) (f:Slot T name id) (i:typeOf (.builtin id)=pure (.type "method_descriptor")) (y:MtR X id r) (A:PE X o to) (w:PA X (e::es) t)
  (c:attributeBase o name X.env (eval o X.env)=eval o X.env:=by rfl)
  (g:((backTo cpos (starEach (e::es) X.env)).all (fun x=>!x.1)&&(backToKw cpos (keywordEach [] X.env)).all (fun x=>x.1.isSome)
   && decide ((e::es).length+([]:List Keyword).length+(if ([]:List Keyword).isEmpty then 0 else 1)<30))=true:=by rfl)
  (d:(apos.endLine==cpos.line)=true:=by rfl) (m:starEach (e::es) X.env=(false,eval e X.env)::starEach es X.env:=by rfl) (b:(backTo cpos (starEach es X.env)).any (·.1)=false:=by rfl) :
  PE X (.Call (.Attribute o name apos) (e::es) [] cpos) (tBM X.K T r to t):=by
 intro a s Z H Q I h;refine wpAny_Call_method_late c g d rfl (thn (A a s Z H _ I h) fun v J ⟨x,D,k,j,C,F⟩=>?_);obtain⟨z,B⟩:=zj k j C;refine⟨T,id,u,f,i,z,B,?_⟩;have l:=w cpos a J Z D _ k F;rw[m] at l ⊢;refine Calls.callWith_builtin (by show (false||(backTo cpos (starEach es X.env)).any (·.1))=false;rw[b] <;> rfl) (Calls.evalArgs_plain ?_);exact thn l fun us p ⟨vs,q,G,E,n⟩=>y a p Z q x vs v us Q G j E n
/- xs.append(e),list.index on a module's tuple .. are MtR facts of 06m -/
end
def MtM (X:Cx) (b:String) (r:V->List V->Hp->VK->Prop):Prop :=
 ∀(a:List (Addr × Obj)) (s:Shared) (Z:St) (H:Hp) (x:V) (xs:List V) (v:Value) (us:List Value) (Q:VK),Inv X a Z H s->RelV x v->Vals xs us->r x xs H Q ->
  wpAny (model X.prog X.w) X.A (call (.builtin b) (v::us)) (EP X a Z Q) X.xe s
theorem Vals.one {x:V}{us:List Value}(r:Vals [x] us):∃u,us=[u]/\RelV x u:=vals1 r
theorem Vals.two {x y:V}{us:List Value}(r:Vals [x,y] us):∃u v,us=[u,v]/\RelV x u/\RelV y v:=vals2 r
theorem Vals.zero:∀{us:List Value},Vals [] us->us=[]
 |_,.nil=>rfl
theorem Vals.dropLast {xs:List V}{us:List Value}(h:Vals xs us):Vals xs.dropLast us.dropLast:=by
 induction h with
 |nil=>exact .nil
 |cons r t a =>
 cases t with
 |nil=>exact .nil
 |cons q t'=>exact .cons r a
theorem Vals.eraseIdx:∀{xs:List V}{us:List Value}(i:Nat),Vals xs us->Vals (xs.eraseIdx i) (us.eraseIdx i)
 |_,_,_,.nil=>.nil
 |_,_,0,.cons _ t=>t
 |_,_,i+1,.cons r t=>.cons r (Vals.eraseIdx i t)
theorem Vals.reverse {xs:List V}{us:List Value}(h:Vals xs us):Vals xs.reverse us.reverse:=by
 induction h with
 |nil=>exact .nil
 |cons r t a=>rw[List.reverse_cons,List.reverse_cons];exact Vals.append a (.cons r .nil)
theorem Vals.rep {xs:List V}{us:List Value}(h:Vals xs us):∀k:Nat,Vals (List.replicate k xs).flatten (List.replicate k us).flatten
 |0=>.nil
 |k+1=>by
  rw[Yr,Yr,YM,YM]
  exact Vals.append h (Vals.rep h k)
theorem foldl_rep (b:List Value):∀(k:Nat) (a:List Value),
  List.foldl (fun c d=>c++d) a.toArray (List.replicate k b.toArray)=(a++(List.replicate k b).flatten).toArray
 |0,a=>by simp
 |k+1,a=>by
  have e:a.toArray++b.toArray=(a++b).toArray:=by simp
  have f:(a++b)++(List.replicate k b).flatten=a++(List.replicate (k+1) b).flatten:=by
   rw[Yr,YM,Z9]
  rw[<- f,<- foldl_rep b k (a++b),<- e,Yr,aan]
section
variable {X:Cx}{pins:List (Addr × Obj)}{Z:St}{H:Hp}{s:Shared}{l b:Addr}{xs ys zs:List V}
theorem Inv.lset {a its':List Value}{n:Nat}{f:Array Value->Array Value}{t':Nat}(I:Inv X pins Z H s) (b:H l=some (.lst xs))
  (e:s.heap.get? l=some { cls:=.type "list",data:=.seq a.toArray n}) (g:f a.toArray=its'.toArray) (d:Vals ys its') (c:ys.length<=sizeLine) :
  Inv X pins Z (upd H l (.lst ys)) { s with heap:=s.heap.update l (Obj.mapSeq f),toks:=t'}:=by
 have q:=PySem.IsL.update e f;rw[g] at q;refine I.write (x:=l) (e:=l) (by rw[b];exact trivial) (.inl rfl) (fun j u i h=>(ZV s.heap (Obj.mapSeq f) (Ne.symm i)).trans h) ⟨_,q⟩ ?_;exact⟨c,its',_,d,q⟩
theorem Inv.lnew {a:List Value}{t':Nat}(I:Inv X pins Z H s) (c:Vals ys a) (b:ys.length<=sizeLine) :
  Inv X pins Z (upd H s.heap.objs.size (.lst ys)) { s with heap:=s.heap.push { cls:=.type "list",data:=.seq a.toArray},toks:=t'} :=
 I.laid (fun _ _ q=>b_ _ q) (o_ _) ⟨b,a,0,c,v_ _ rfl⟩
theorem Inv.fresh (I:Inv X pins Z H s):H s.heap.objs.size=none:=I.hok.fresh (o_ _)
theorem Inv.lstM (I:Inv X pins Z H s) (b:H l=some (.lst xs)):xs.length<=sizeLine/\∃(a:List Value) (n:Nat),Vals xs a/\xs.length=a.length/\s.heap.get? l=some { cls:=.type "list",data:=.seq a.toArray n}:=by
 obtain⟨z,a,n,r,e⟩:=I.hok l _ b;exact⟨z,a,n,r,r.length,e⟩
theorem zm {n:Nat}(h:n<=sizeLine):Builtin.List.listTooLong n=false:=by
 unfold Builtin.List.listTooLong;exact u_ (by omega)
def Fo:V->List V->Hp->VK->Prop:=fun x vs H Q=>∃l xs y,x=.ref l/\vs=[y]/\H l=some (.lst xs)/\xs.length<sizeLine/\Q .non (upd H l (.lst (xs++[y])))
theorem xR:MtM X "list.append" Fo:=by
 intro c s Z H x vs v us Q I g f h;obtain⟨l,xs,y,rfl,rfl,b,i,q⟩:=h;cases g;obtain⟨u,rfl,d⟩:=f.one;obtain⟨z,a,n,r,j,e⟩:=I.lstM b;refine call_meets F.slot_list_append ⟨_,e,rfl⟩ F.entry_list_append (F.args_list_append_2 _ _) (list_append l a.toArray n u (by rw[l_];omega)) ⟨e,?_⟩;refine⟨.non,_,I.lset (its':=a++[u]) b e (by simp) (r.append (.cons d .nil)) ?_,rfl,q⟩;rw[d_,J_];omega
def zp:V->List V->Hp->VK->Prop:=fun x vs H Q=>∃l xs,x=.ref l/\vs=[]/\H l=some (.lst xs)/\Q .non (upd H l (.lst xs.reverse))
theorem tR:MtM X "list.reverse" zp:=by
 intro c s Z H x vs v us Q I f g h;obtain⟨l,xs,rfl,rfl,d,q⟩:=h;cases f;have b:=g.zero;subst b;obtain⟨z,a,n,r,i,e⟩:=I.lstM d;refine call_meets F.slot_list_reverse ⟨_,e,rfl⟩ F.entry_list_reverse (F.args_list_reverse_1 _) (AutoSeq1.list_reverse_list_0 l a.toArray n (by rw[l_];omega)) ⟨e,?_⟩;refine⟨.non,_,I.lset (its':=a.reverse) d e (by simp) r.reverse ?_,rfl,q⟩;rw[Yw];omega
def Xa:R2:=fun x y H Q=>∃l b xs a,x=.ref l/\y=.ref b/\H l=some (.lst xs)/\H b=some (.lst a)/\xs.length+a.length<=sizeLine/\∀p,H p=none->Q (.ref p) (upd H p (.lst (xs++a)))
theorem op_cat:OpR X (binaryOp .Add) Xa:=by
 intro d s Z H x y v u Q I p o h;obtain⟨l,b,xs,t,rfl,rfl,f,g,A,q⟩:=h;cases p;cases o;obtain⟨z,c,n,r,C,e⟩:=I.lstM f;obtain⟨w,a,B,k,j,i⟩:=I.lstM g;refine PySem.P.add_list e i ?_ (by rw[l_,l_];omega);have m:c.toArray++a.toArray=(c++a).toArray:=by simp
 rw[m];exact⟨.ref _,_,I.lnew (t':=s.toks) (r.append k) (by rw[d_];omega),rfl,q _ I.fresh⟩
def Xb:R2:=fun x y H Q=>∃l k xs,x=.ref l/\y=.int k/\H l=some (.lst xs) /\ -(2^63)<=k/\k<2^63/\xs.length*k.toNat<=sizeLine /\
 ∀p,H p=none->Q (.ref p) (upd H p (.lst (List.replicate k.toNat xs).flatten))
theorem len_rep {a:Type}(xs:List a) (k:Nat):(List.replicate k xs).flatten.length=k*xs.length:=by
 induction k with
 |zero=>simp
 |succ k b=>rw[Yr,YM,d_,b,Nat.succ_mul,Nat.add_comm]
theorem LQ:OpR X (binaryOp .Mult) Xb:=by
 intro p s Z H x y v u Q I J G h;obtain⟨l,k,xs,rfl,rfl,B,D,C,w,q⟩:=h;cases J;obtain⟨t,rfl⟩:=G;obtain⟨z,b,n,r,A,e⟩:=I.lstM B;have g:b.toArray.size*k.toNat<=sizeLine:=by rw[l_,<- A];exact w
 have i:¬b.toArray.size*k.toNat>(2^63 - 1) / 8:=by
  have:(sizeLine:Nat)<=(2^63 - 1) / 8:=by decide
  omega
 have d:¬(!Builtin.List.listFitsIndex k)=true:=by rw[fitsIndex_both D C];exact t_
 have c:¬Builtin.List.listTooLong (b.toArray.size*k.toNat)=true:=by rw[zm g];exact t_
 have f:List.foldl (fun j o=>j++o) #[] (List.replicate (if b.toArray.isEmpty=true then 0 else k.toNat) b.toArray)=(List.replicate k.toNat b).flatten.toArray:=by
  have E:∀m:Nat,List.foldl (fun j o=>j++o) #[] (List.replicate m b.toArray)=(List.replicate m b).flatten.toArray:=fun m=>by have:=foldl_rep b m [];rw[ZZ] at this;exact this
  rw[E];cases b with
  |nil=>simp
  |cons a K=>rw[if_neg (by simp)]
 refine wpAny_binaryOp_repeat_ref (T:="list") (U:="int") (by decide) ⟨_,e,rfl⟩ (fun s'=>typeIs_int s' k t) noFill_list_mul F.fills_int_mul F.slot_int_rmul repeat_list F.slot_int_index.lookup
  (call_meets F.slot_int_rmul (typeIs_int s k t) F.entry_int_rmul (F.args_int_rmul_2 _ _) (int___rmul___int_list k t l b.toArray n)
   ⟨e,rfl,⟨_,e,rfl⟩,call_meets F.slot_list_mul ⟨_,e,rfl⟩ F.entry_list_mul (F.args_list_mul_2 _ _) (AutoListH.list___mul___list_int_3 l b.toArray n k t d i c) ⟨e,?_⟩⟩)
 rw[f];exact⟨.ref _,_,I.lnew (t':=s.toks) (r.rep k.toNat) (by rw[len_rep,Nat.mul_comm];exact w),rfl,q _ I.fresh⟩
variable {prog:Program}{w:World}{A:Around}{E:Value->Shared->Prop}
set_option maxRecDepth 100000 in
end
section
variable {κ:Type} [DecidableEq κ]
def iQ (kvs:List (κ × V)) (k:κ):Option V:=(kvs.find? fun a=>decide (a.1=k)).map (·.2)
def putK (kvs:List (κ × V)) (k:κ) (v:V):List (κ × V) :=
 if (kvs.any fun a=>decide (a.1=k))=true then kvs.map (fun a=>if a.1=k then (a.1,v) else a) else kvs++[(k,v)]
def Jp (kvs:List (κ × V)) (k:κ):List (κ × V):=kvs.filter fun a=>decide (a.1≠k)
theorem iR {p:κ × V}{r:List (κ × V)}{k:κ}(e:p.1=k):iQ (p::r) k=some p.2:=by simp [iQ,Y4,e]
theorem iT {p:κ × V}{r:List (κ × V)}{k:κ}(e:¬p.1=k):iQ (p::r) k=iQ r k:=by simp [iQ,Y4,e]
theorem qm (k:κ):∀kvs:List (κ × V),(kvs.any fun a=>decide (a.1=k))=(iQ kvs k).isSome
 |[]=>rfl
 |p::r=>by
  rw[aay]
  by_cases e:p.1=k
  ·
   simp only[iR e,D_ e,Bool.true_or,Option.isSome_some]
  ·
   rw[iT e,u_ e,Bool.false_or];exact qm k r
theorem gB (kvs:List (κ × V)) (k:κ) (v:V):(putK kvs k v).length<=kvs.length+1:=by
 unfold putK;split
 ·rw[e_];omega
 rw[d_,n_,Yg];omega
theorem RelO.isSome_eq {o:Option V}{u:Option Value}(r:RelO o u):o.isSome=u.isSome:=by
 cases o with
 |none=>cases u with
  |none=>rfl
  |some _=>exact (show False from r).elim
 |some _=>cases u with
  |none=>exact (show False from r).elim
  |some _=>rfl
theorem RelO.getD {o:Option V}{u:Option Value}{d:V}{d':Value}(r:RelO o u) (a:RelV d d'):RelV (o.getD d) (u.getD d'):=by
 cases o with
 |none=>cases u with
  |none=>exact a
  |some _=>exact (show False from r).elim
 |some _=>cases u with
  |none=>exact (show False from r).elim
  |some _=>exact r
theorem KV.val {kvs:List (κ × V)}{vs:List (κ × Value)}(r:KV kvs vs) (k:κ):RelO (iQ kvs k) (valueAt vs k):=by
 unfold KV at r;induction r with
 |nil=>exact True.intro
 |@cons p q ps c h t g =>
 obtain⟨d,f⟩:=h;by_cases e:p.1=k
 ·have a:q.1=k:=d.symm.trans e;have b:valueAt (q::c) k=some q.2:=by simp [valueAt,Y4,a]
  rw[iR e,b];exact f
 have a:¬q.1=k:=fun z=>e (d.trans z);have b:valueAt (q::c) k=valueAt c k:=by simp [valueAt,Y4,a]
 rw[iT e,b];exact g
theorem KV.any {kvs:List (κ × V)}{vs:List (κ × Value)}(r:KV kvs vs) (k:κ):(kvs.any fun a=>decide (a.1=k))=vs.any fun a=>decide (a.1=k):=by
 unfold KV at r;induction r with
 |nil=>rfl
 |cons h t b=>rw[aay,aay,b,h.1]
theorem KV.repl {kvs:List (κ × V)}{vs:List (κ × Value)}(r:KV kvs vs) (k:κ) {y:V}{u:Value}(d:RelV y u) :
  KV (kvs.map fun a=>if a.1=k then (a.1,y) else a) (vs.map fun a=>if a.1=k then (a.1,u) else a):=by
 unfold KV at r ⊢;induction r with
 |nil=>exact .nil
 |@cons p q ps g h t f =>
 rw[C_,C_];refine .cons ?_ f;obtain⟨b,c⟩:=h;by_cases e:p.1=k
 ·rw[if_pos e,if_pos (b.symm.trans e)];exact⟨b,d⟩
 rw[if_neg e,if_neg (fun z=>e (b.trans z))];exact⟨b,c⟩
theorem KV.put {kvs:List (κ × V)}{vs:List (κ × Value)}(r:KV kvs vs) (k:κ) {y:V}{u:Value}(a:RelV y u):KV (putK kvs k y) (stored vs k u):=by
 unfold putK stored;rw[r.any k];by_cases e:(vs.any fun b=>decide (b.1=k))=true
 ·rw[if_pos e,if_pos e];exact r.repl k a
 rw[if_neg e,if_neg e];exact Paired.snoc r ⟨rfl,a⟩
theorem KV.drop {kvs:List (κ × V)}{vs:List (κ × Value)}(r:KV kvs vs) (k:κ):KV (Jp kvs k) (without vs k):=by
 unfold KV at r ⊢;unfold Jp without;induction r with
 |nil=>exact .nil
 |@cons p q ps i h t d =>
 obtain⟨c,g⟩:=h;rw[Zi,Zi];by_cases e:p.1=k
 ·have a:¬decide (p.1≠k)=true:=by simp [e]
  have b:¬decide (q.1≠k)=true:=by simp [c.symm.trans e]
  rw[if_neg a,if_neg b];exact d
 have f:¬q.1=k:=fun z=>e (c.trans z);have a:decide (p.1≠k)=true:=by simp [e]
 have b:decide (q.1≠k)=true:=by simp [f]
 rw[if_pos a,if_pos b];exact .cons ⟨c,g⟩ d
theorem KV.keys {kvs:List (κ × V)}{vs:List (κ × Value)}(r:KV kvs vs):kvs.map (·.1)=vs.map (·.1):=by
 unfold KV at r;induction r with
 |nil=>rfl
 |cons h t a=>rw[C_,C_,a,h.1]
theorem KV.length {kvs:List (κ × V)}{vs:List (κ × Value)}(r:KV kvs vs):kvs.length=vs.length:=aaj r
end
theorem qp {P:Program}{w:World}{k:Key}{u:Value}(r:RelV (kV k) u):(bx P w).is k u=true:=by
 cases k with
 |inl i=>obtain⟨t,e⟩:=(show ∃t,u=Value.int i t from r);subst e;exact pZ P w i t
 |inr x=>obtain⟨t,e⟩:=(show ∃t,u=Value.str x t from r);subst e;exact qb P w x t
theorem mV {P:Program}{w:World}:∀{ks:List Key}{us:List Value},Vals (ks.map kV) us->ItemsAre (bx P w) ks us
 |[],_,r=>by rw[Yz] at r;cases r;exact .nil
 |k::ks,_,r=>by
  rw[C_] at r
  cases r with
  |cons h t=>exact .cons (qp h) (mV t)
abbrev KT (H:Hp):List (List Key × V)->List (List Key × Addr × Value)->Prop:=Paired fun p q=>p.1=q.1/\H q.2.1=some (.tup (p.1.map kV))/\RelV p.2 q.2.2
theorem KT.val {H:Hp}{kvs:List (List Key × V)}{xs:List (List Key × Addr × Value)}(r:KT H kvs xs) (k:List Key):RelO (iQ kvs k) ((atKey xs k).map (·.2)):=by
 induction r with
 |nil=>exact True.intro
 |@cons p q ps c h t g =>
 obtain⟨d,_,f⟩:=h;by_cases e:p.1=k
 ·have a:q.1=k:=d.symm.trans e;have b:atKey (q::c) k=some q.2:=by simp [atKey,Y4,a]
  rw[iR e,b];exact f
 have a:¬q.1=k:=fun z=>e (d.trans z);have b:atKey (q::c) k=atKey c k:=by simp [atKey,Y4,a]
 rw[iT e,b];exact g
theorem KT.repl {H:Hp}{kvs:List (List Key × V)}{xs:List (List Key × Addr × Value)}(r:KT H kvs xs) (k:List Key) {y:V}{u:Value}(d:RelV y u) :
  KT H (kvs.map fun b=>if b.1=k then (b.1,y) else b) (xs.map (putAt k u)):=by
 induction r with
 |nil=>exact .nil
 |@cons p q ps i h t g =>
 rw[C_,C_];refine .cons ?_ g;obtain⟨a,c,f⟩:=h;unfold putAt;by_cases e:p.1=k
 ·rw[if_pos e,if_pos (a.symm.trans e)];exact⟨a,c,d⟩
 rw[if_neg e,if_neg (fun z=>e (a.trans z))];exact⟨a,c,f⟩
theorem KT.put {H:Hp}{kvs:List (List Key × V)}{xs:List (List Key × Addr × Value)}(r:KT H kvs xs) (k:List Key) {b:Addr}{y:V}{u:Value}(c:H b=some (.tup (k.map kV))) (a:RelV y u) :
  KT H (putK kvs k y) (storedH xs k b u):=by
 have e:(kvs.any fun d=>decide (d.1=k))=(atKey xs k).isSome:=by rw[qm,(r.val k).isSome_eq,ZD]
 unfold putK storedH;rw[e];by_cases q:(atKey xs k).isSome=true
 ·rw[if_pos q,if_pos q];exact r.repl k a
 rw[if_neg q,if_neg q];exact Paired.snoc r ⟨rfl,c,a⟩
theorem KT.keeps {H a:Hp}{kvs:List (List Key × V)}{xs:List (List Key × Addr × Value)}(r:KT H kvs xs) (c:∀b ys,H b=some (.tup ys)->a b=some (.tup ys)):KT a kvs xs :=
 Paired.mapP r fun _ _ z=>⟨z.1,c _ _ z.2.1,z.2.2⟩
section
variable {P:Program}{w:World}{H:Hp}{h:Heap}{a:Addr}
theorem Jq {u:HO}(b:HOk P w H h) (e:Rd H a u):ObjOk P w H h a u:=e.ok b
theorem zq {kvs:List (Key × V)}(b:HOk P w H h) (e:Rd H a (.dK kvs)):kvs.length<=sizeLine/\(a==sysModules)=false/\∃vs,KV kvs vs/\h.DictOf (bx P w) a vs :=
 show ObjOk P w H h a (.dK kvs) from Jq b e
theorem Jr {kvs:List (Key × V)}(b:HOk P w H h) (e:H a=some (.dK kvs)):kvs.length<=sizeLine/\(a==sysModules)=false/\∃vs,KV kvs vs/\h.DictOf (bx P w) a vs:=zq b (.inl e)
theorem oA {ks:List Key}(d:HOk P w H h) (e:H a=some (.tup (ks.map kV))):(tupleKind (bx P w)).is h ks a:=by
 obtain⟨_,b,r,o,f,c,n,g,_⟩:=(show ObjOk P w H h a (.tup (ks.map kV)) from d a _ e);exact⟨o,b.toArray,n,f,c,g,by simpa using mV r⟩
theorem zr {kvs:List (List Key × V)}(d:HOk P w H h) (e:Rd H a (.dT kvs)):kvs.length<=sizeLine/\(a==sysModules)=false /\
  ∃xs,KT H kvs xs/\h.DictOfH (tupleKind (bx P w)) a xs:=by
 obtain⟨z,y,xs,r,o,s,g,n,i,u,k,j⟩:=(show ObjOk P w H h a (.dT kvs) from Jq d e);refine⟨z,y,xs,r,o,s,g,n,i,u,k,fun x b=>?_,j⟩;have c:∀{l:List (List Key × V)} {m:List (List Key × Addr × Value)},KT H l m->∀x∈m,(tupleKind (bx P w)).is h x.1 x.2.1:=by
  intro l m q;induction q with
  |nil=>intro x b;exact nomatch b
  |@cons p q ps A f t v =>
  intro x b;rcases j_.mp b with e | b
  ·subst e;exact oA d (by rw[<- f.1];exact f.2.1)
  exact v x b
 exact c r x b
theorem Sv {kvs:List (List Key × V)}(b:HOk P w H h) (e:H a=some (.dT kvs)):kvs.length<=sizeLine/\(a==sysModules)=false /\
  ∃xs,KT H kvs xs/\h.DictOfH (tupleKind (bx P w)) a xs:=zr b (.inl e)
end
def DGet (H:Hp) (a:Addr) (y:V) (r:Option V):Prop :=
 (∃kvs k,Rd H a (.dK kvs)/\y=kV k/\r=iQ kvs k)\/∃kvs k b,Rd H a (.dT kvs)/\y=.ref b/\H b=some (.tup (k.map kV))/\r=iQ kvs k
def DPut (H:Hp) (a:Addr) (y v:V) (c:Hp):Prop :=
 (∃kvs k,H a=some (.dK kvs)/\y=kV k/\kvs.length<sizeLine/\c=upd H a (.dK (putK kvs k v))) \/
 ∃kvs k b,H a=some (.dT kvs)/\y=.ref b/\H b=some (.tup (k.map kV))/\kvs.length<sizeLine/\c=upd H a (.dT (putK kvs k v))
theorem DGet.k {H:Hp}{a:Addr}{kvs:List (Key × V)}{k:Key}(e:H a=some (.dK kvs)):DGet H a (kV k) (iQ kvs k):=.inl ⟨kvs,k,.inl e,rfl,rfl⟩
theorem DGet.t {H:Hp}{a b:Addr}{kvs:List (List Key × V)}{k:List Key}(e:H a=some (.dT kvs)) (c:H b=some (.tup (k.map kV))):DGet H a (.ref b) (iQ kvs k):=.inr ⟨kvs,k,b,.inl e,rfl,c,rfl⟩
theorem DPut.k {H:Hp}{a:Addr}{kvs:List (Key × V)}{k:Key}{v:V}(e:H a=some (.dK kvs)) (b:kvs.length<sizeLine):DPut H a (kV k) v (upd H a (.dK (putK kvs k v))):=.inl ⟨kvs,k,e,rfl,b,rfl⟩
theorem DPut.t {H:Hp}{a b:Addr}{kvs:List (List Key × V)}{k:List Key}{v:V}(e:H a=some (.dT kvs)) (d:H b=some (.tup (k.map kV))) (c:kvs.length<sizeLine) :
  DPut H a (.ref b) v (upd H a (.dT (putK kvs k v))):=.inr ⟨kvs,k,b,e,rfl,d,c,rfl⟩
section
variable {X:Cx}{pins:List (Addr × Obj)}{Z:St}{H:Hp}{s:Shared}{a:Addr}{y v:V}{u r:Value}{o:Option V}{A:Around}{E:Value->Shared->Prop}
theorem Inv.big (I:Inv X pins Z H s):sysModules<s.heap.objs.size:=by
 have h:mainGlobals<s.heap.objs.size:=(I.mod.glob.keeps I.bk).lt;exact X5 (by decide) h
theorem Xc {Q:Value->Shared->Prop}(m:A.units+1<cLine) (I:Inv X pins Z H s) (g:DGet H a y o) (j:RelV y u) (h:∀s',Inv X pins Z H s'->Q (.bool o.isSome) s') :
  wpAny (model X.prog X.w) A (compareOp .In u (.ref a)) Q E s:=by
 rcases g with ⟨kvs,k,e,f,l⟩ | ⟨kvs,k,b,e,f,n,l⟩
 ·subst f;obtain⟨z,d,vs,c,i⟩:=zq I.hok e;refine wpAny_in_of (qp j) d i.mapOf ?_;rw[<- (c.val k).isSome_eq,<- l];exact h _ (I.tok _)
 subst f;cases (show u=Value.ref b from j);obtain⟨z,d,xs,c,i⟩:=zr I.hok e;refine wpAny_in_heap (tupleKind_room_in1 m) (oA I.hok n) d i ?_;have q:=(c.val k).isSome_eq;rw[ZD] at q;rw[<- q,<- l];exact h _ (I.tok _)
theorem Fp {Q:Value->Shared->Prop}(m:A.units+1<cLine) (I:Inv X pins Z H s) (g:DGet H a y o) (j:RelV y u) (h:∀s',Inv X pins Z H s'->Q (.bool (!o.isSome)) s') :
  wpAny (model X.prog X.w) A (compareOp .NotIn u (.ref a)) Q E s:=by
 rcases g with ⟨kvs,k,e,f,l⟩ | ⟨kvs,k,b,e,f,n,l⟩
 ·subst f;obtain⟨z,d,vs,c,i⟩:=zq I.hok e;refine wpAny_notIn_of (qp j) d i.mapOf ?_;rw[<- (c.val k).isSome_eq,<- l];exact h _ (I.tok _)
 subst f;cases (show u=Value.ref b from j);obtain⟨z,d,xs,c,i⟩:=zr I.hok e;refine wpAny_notIn_heap (tupleKind_room_in1 m) (oA I.hok n) d i ?_;have q:=(c.val k).isSome_eq;rw[ZD] at q;rw[<- q,<- l];exact h _ (I.tok _)
theorem oE {h':Heap}{t':Nat}{d:HO}(I:Inv X pins Z H s) (mu:Mut (H a)) (f:Heap.SameBut a s.heap h') (g:∃q,h'.get? a=some q) (c:ObjOk X.prog X.w (upd H a d) h' a d) :
  Inv X pins Z (upd H a d) { s with heap:=h',toks:=t'} :=
 I.write (x:=a) (e:=a) mu (.inl rfl) (fun b q h z=>(f.2 b h).trans z) g c
theorem zu {P:Program}{w:World}{c:Hp}{h':Heap}{kvs:List (Key × V)}{vs:List (Key × Value)}(z:kvs.length<=sizeLine) (d:(a==sysModules)=false) (b:KV kvs vs) (e:h'.DictOf (bx P w) a vs) :
  ObjOk P w c h' a (.dK kvs):=⟨z,d,vs,b,e⟩
theorem xT {C:Hp}{Q:Unit->Shared->Prop}(P:A.units+1<cLine) (I:Inv X pins Z H s) (g:DPut H a y v C) (G:RelV y u) (F:RelV v r) (h:∀s',Inv X pins Z C s'->Q () s') :
  wpAny (model X.prog X.w) A (setItem (.ref a) u r) Q E s:=by
 rcases g with ⟨kvs,k,e,p,l,x⟩ | ⟨kvs,k,b,e,p,D,l,x⟩
 ·subst p x;obtain⟨z,j,vs,d,o⟩:=Jr I.hok e;have n:vs.length<=sizeLine:=by rw[<- d.length];exact z
  have t:(putK kvs k v).length<=sizeLine:=by have:=gB kvs k v;omega
  refine wpAny_setItem_pairs (hsz:=n) (qp G) o fun h' f m=>h _ ?_;have N:∃q,h'.get? a=some q:=let ⟨q,_,_,i,_⟩:=f;⟨q,i⟩;exact oE I (by rw[e];exact True.intro) m N (zu t j (d.put k F) f)
 subst p x;cases (show u=Value.ref b from G);obtain⟨z,j,xs,d,o⟩:=Sv I.hok e;have n:xs.length<=sizeLine:=by rw[<- aaj d];exact z
 have t:(putK kvs k v).length<=sizeLine:=by have:=gB kvs k v;omega
 refine wpAny_setItem_heap (hsz:=n) (tupleKind_room_in1 P) (oA I.hok D) o fun h' f m=>h _ ?_;obtain⟨q,J,K,i,O,R,M,_,L⟩:=f;refine oE I (by rw[e];exact True.intro) m ⟨q,i⟩ ⟨t,j,_,(d.put k D F).keeps fun c ys B=>?_,q,J,K,i,O,R,M,L⟩;rw[aV (Rh B e (fun z=>nomatch z))];exact B
variable {kvs:List (Key × V)}{k:Key}
end
def Xd (c e:TE):TE:=fun Z H Q=>c Z H fun y d=>e Z d fun x b=>∃a o,x=.ref a/\DGet b a y o/\Q (.bl o.isSome) b
def Fq (c e:TE):TE:=fun Z H Q=>c Z H fun y d=>e Z d fun x b=>∃a o,x=.ref a/\DGet b a y o/\Q (.bl (!o.isSome)) b
def Sw (g e d:TE):TS:=fun D Z H=>d Z H fun v f=>g Z f fun x c=>e Z c fun y H3=>∃a b,x=.ref a/\DPut H3 a y v b/\D.nx Z b
section
variable {X:Cx}{o i e value:Expr}{pos pos' tpos:Pos}{td ty tv:TE}
theorem LR (t:X.A.units+1<cLine) (d:PE X i ty) (n:PE X o td):PC X .In i o (Xd ty td):=by
 intro b s Z H Q I h;refine thn (d b s Z H _ I h) fun C v ⟨y,p,e,w,q⟩=>thn (n b v Z p _ e q) fun u B ⟨x,k,r,f,a,l,j,g,c⟩=>?_;subst j;obtain rfl:u=Value.ref a:=f;exact Xc t r g w fun z m=>⟨.bl l.isSome,k,m,rfl,c⟩
theorem xU (t:X.A.units+1<cLine) (d:PE X i ty) (n:PE X o td):PC X .NotIn i o (Fq ty td):=by
 intro b s Z H Q I h;refine thn (d b s Z H _ I h) fun C v ⟨y,p,e,w,q⟩=>thn (n b v Z p _ e q) fun u B ⟨x,k,r,f,a,l,j,g,c⟩=>?_;subst j;obtain rfl:u=Value.ref a:=f;exact Fp t r g w fun z m=>⟨.bl (!l.isSome),k,m,rfl,c⟩
theorem Ft (F:X.A.units+1<cLine) (z:PE X o td) (e:PE X i ty) (p:PE X value tv) (c:swapsWith value (some (.Subscript o i pos')) pos.line X.env=pure false) :
  PS X (.Assign [.Subscript o i pos'] value pos) (Sw td ty tv):=by
 intro b s Z H D I h;refine wpAny_Assign_Subscript (thn (p b s Z H _ I h) fun r G ⟨v,B,f,m,C⟩=>thn (z b G Z B _ f C) fun u n ⟨x,t,E,j,d⟩=>thn (e b n Z t _ E d) fun M L ⟨y,H3,w,J,a,l,q,g,K⟩=>?_) c;subst q;obtain rfl:u=Value.ref a:=j;exact xT F w g J m fun N k=>⟨Z,l,k,K⟩
end
theorem zx {P:Program}{w:World}{H:Hp}(h:Heap) (a:sysModules<h.objs.size):ObjOk P w H (h.push { cls:=.type "dict",data:=.dict #[]}) h.objs.size (.dK []) :=
 ⟨X3 _,Yi.mpr (Ne.symm (F_ a)),[],.nil,Heap.DictOf.new h⟩
section
variable {X:Cx}{pos:Pos}
end
def tU:List (TE × TE)->St->Hp->(List (V × V)->Hp->Prop)->Prop
 |[],_,H,Q=>Q [] H
 | (tk,tv)::r,Z,H,Q=>tk Z H fun x b=>tv Z b fun y a=>tU r Z a fun ps H3=>Q ((x,y)::ps) H3
abbrev VV:List (V × V)->List (Value × Value)->Prop:=Paired fun p q=>RelV p.1 q.1/\RelV p.2 q.2
def PPs (X:Cx) (d:Pos) (c:List (Option Expr)) (a:List Expr) (e:List (TE × TE)):Prop :=
 ∀(b:List (Addr × Obj)) (s:Shared) (Z:St) (H:Hp) (Q:List (V × V)->Hp->Prop),Inv X b Z H s->tU e Z H Q ->
  wpAny (model X.prog X.w) X.A (evalPairs (pairTrees c a X.env d)) (fun vs s'=>∃ps f,Inv X b Z f s'/\VV ps vs/\Q ps f) X.xe s
theorem Fv {X:Cx}{a:Pos}:PPs X a [] [] []:=fun b s Z H Q I h=>pairTrees_nil_walk ⟨[],H,I,.nil,h⟩
theorem zy {X:Cx}{b:Pos}{k v:Expr}{ks:List (Option Expr)}{vs:List Expr}{tk e:TE}{c:List (TE × TE)}(j:PE X k tk) (m:PE X v e) (o:PPs X b ks vs c) :
  PPs X b (some k::ks) (v::vs) ((tk,e)::c):=fun a s Z H Q I h =>
 pairTrees_cons_walk (thn (j a s Z H _ I h) fun u w ⟨x,q,g,i,r⟩=>thn (m a w Z q _ g r) fun C l ⟨y,n,t,z,f⟩ =>
  thn (o a l Z n _ t f) fun ws B ⟨ps,H3,p,d,A⟩=>⟨(x,y)::ps,H3,p,.cons ⟨i,z⟩ d,A⟩)
def jo (kvs a:List (Key × V)):List (Key × V):=a.foldl (fun b c=>putK b c.1 c.2) kvs
theorem KV.merge:∀{a:List (Key × V)}{b:List (Key × Value)}{kvs:List (Key × V)}{vs:List (Key × Value)},KV a b->KV kvs vs->KV (jo kvs a) (merged vs b):=by
 intro a b kvs vs r;unfold KV at r;induction r generalizing kvs vs with
 |nil=>intro q;exact q
 |@cons p q ps f h t d =>
 intro c;have e:KV (putK kvs p.1 p.2) (stored vs q.1 q.2):=by have:=c.put p.1 h.2;rw[<- h.1];exact this
 exact d e
theorem ik:∀(a kvs:List (Key × V)),(jo kvs a).length<=kvs.length+a.length
 |[],kvs=>by show kvs.length<=kvs.length+0;omega
 |p::r,kvs=>by
  have b:=ik r (putK kvs p.1 p.2)
  have c:=gB kvs p.1 p.2
  show (jo (putK kvs p.1 p.2) r).length<=_
  rw[n_];omega
theorem j9 {P:Program}{w:World}:∀{kvs:List (Key × V)}{ws:List (Value × Value)},VV (kvs.map fun e=>(kV e.1,e.2)) ws->∃d,Carries (bx P w) ws d/\KV kvs d
 |[],_,r=>by rw[Yz] at r;cases r;exact⟨[],True.intro,.nil⟩
 |p::kvs,_,r=>by
  rw[C_] at r
  cases r with
  |@cons a b g j h t =>
   obtain⟨d,c,q⟩:=j9 (P:=P) (w:=w) t
   obtain⟨i,f⟩:=b
   exact⟨(p.1,f)::d,⟨qp h.1,rfl,c⟩,.cons ⟨rfl,h.2⟩ q⟩
def Sx (a:List (TE × TE)):TE:=fun Z H Q=>∀p,H p=none->tU a Z (upd H p (.dK [])) fun ps b=>b p=some (.dK [])/\∃kvs:List (Key × V),ps=kvs.map (fun c=>(kV c.1,c.2))/\kvs.length<=15/\Q (.ref p) (upd b p (.dK (jo [] kvs)))
theorem Fw {X:Cx}{f:Pos}{b:List (Option Expr)}{d:List Expr}{k:List (TE × TE)}(h:PPs X f b d k) (g:b.all (·.isSome)=true) (J:b.length=d.length) (p:b≠[])
  (l:b.length<=15):PE X (.Dict b d f) (Sx k):=by
 intro j s Z H Q I q;have C:=I.hok.fresh (o_ s.heap.objs.size);have B:=I.laid (a:=s.heap.objs.size) (o:=.dK []) (h':=s.heap.push { cls:=.type "dict",data:=.dict #[]}) (t':=s.toks) (fun _ _ q=>b_ _ q) (o_ _) (zx s.heap I.big);refine wpAny_Dict_walk (knd:=bx X.prog X.w) g J p l (thn (h j _ Z _ _ B (q _ C)) fun ws L ⟨ps,M,n,m,e,kvs,D,N,u⟩=>?_);subst D;obtain⟨E,c,x⟩:=j9 (P:=X.prog) (w:=X.w) m;obtain⟨z,r,K,v,A⟩:=Jr n.hok e;cases v;refine⟨E,c,A,fun h' i t=>⟨.ref s.heap.objs.size,_,?_,rfl,u⟩⟩;have y:(jo [] kvs).length<=sizeLine:=by have G:=ik kvs [];rw[Yg] at G;rw[aaA];omega
 have F:∃q,h'.get? s.heap.objs.size=some q:=let ⟨q,_,_,hq,_⟩:=i;⟨q,hq⟩;exact oE n (by rw[e];exact True.intro) t F (zu y r (x.merge .nil) i)
section
variable {X:Cx}{pins:List (Addr × Obj)}{Z:St}{H:Hp}{s:Shared}{a:Addr}{y d:V}{u r:Value}{o:Option V}{A:Around}{E:Value->Shared->Prop}
end
section
variable {X:Cx}{o e f:Expr}{apos cpos:Pos}{td ty tx:TE}
variable {pins:List (Addr × Obj)}{Z:St}{H:Hp}{s:Shared}{a:Addr}{kvs:List (Key × V)}{A:Around}{E:Value->Shared->Prop}
variable {y:V}{u:Value}
end
end L2
namespace Att
open PySem PySem.W PySem.Calls PyProof.Rows
theorem jO {P:Params}{h:Heap}:∀(ns:List Int) (vs:List Value),WellAll P h vs (ns.map WData.int)->IntsAre vs ns:=by
 intro ns;induction ns with
 |nil=>intro vs w;rw[Yz] at w;cases w;exact .nil
 |cons n ns c =>
 intro vs w;rw[C_] at w;cases w with
 |cons a b =>
 cases a;exact .cons _ _ (c _ b)
theorem xV {l:OpenLaw}{n:Nat}(p:l.most=some n) {P:Params}{h:Heap}{args:List WData}{b:List Value}
  (c:l.row.toRowW.claim.pre args=true) (k:WellAll P h b args) :
  ∃a vs ns,b=[Value.ref a]/\args=[WData.list (ns.map WData.int)]/\h.get? a=some { cls:=.type "list",data:=.seq vs.toArray}/\IntsAre vs ns/\ns.length<=n:=by
 have j:WShape.hasAll [] args [.list .int]=true:=(pre_splitW c).1;have m:l.pre.holds [] { args:=args}=true:=(pre_splitW c).2;obtain⟨d,r,rfl,w,t⟩:=hasAllW_cons j;obtain rfl:=hasAllW_nil t;obtain⟨xs,rfl,x⟩:=hasW_list w;obtain⟨ns,rfl⟩:=items_int x;have e:ns.length<=n:=by
  unfold OpenLaw.pre at m;have i:(WTm.not (.lt (.lit (.int (n:Int))) (.len (.arg 0)))).holds [] { args:=[.list (ns.map .int)]}=true:=by have i:=(holds_andW m).1;rw[p] at i;exact i
  have g:=condW_of i (w_not (w_lt w_lit (w_len_list (w_arg rfl))));rw[e_] at g;refine Nat.le_of_not_lt fun q=>?_;have u:(n:Int)<((ns.length:Nat):Int):=by omega
  first
   | (rw[D_ u] at g;exact absurd g (by decide))
   | (simp at g;omega)
 cases k with
 |cons v o =>
 cases o;cases v with
 |list s f=>exact⟨_,_,ns,rfl,rfl,s,jO ns _ f,e⟩
theorem xW (l:OpenLaw) (args:List WData):l.row.toRowW.claim.post args (.bool true) args=true :=
 postW_of (r:=l.row.toRowW) (X:=(true==true))
  (show WShape.has [] (.bool true) .bool=true by first | rfl | decide | simp [WShape.has,WShape.arms,WShape.armsAll])
  (show (WTm.eq .res (.lit (.bool true))).value [] { args:=args,res:=some (.bool true),after:=args}=some (.bool (true==true)) from w_eq_bool (w_res rfl) w_lit) rfl
theorem attach_call {l:OpenLaw}{n:Nat}{q:Program}{loose:List Str}{XP:(Str->Option Value)->Heap->Prop}{YP:World->Heap->Prop}{d:DefRec}
  (F:l.most=some n) (z:d.params.defaults=[])
  (i:∀(w:World) (c b:Shared) (p u:Str->Option Value) (m:Addr) (o:Obj) (y s g:Value) (a:Addr) (vs:List Value) (ns:List Int),
   Ground q loose [] XP w c p u b.heap->YP w b.heap ->
   b.heap.get? m=some o->o.data=.func (docDef d.name d.params d.body d.scope y s g)->b.heap.CodeRec s d.name->p d.name=some (.ref m) ->
   b.heap.get? a=some { cls:=.type "list",data:=.seq vs.toArray}->IntsAre vs ns->ns.length<=n->b.gens=#[] ->
   codeAny (model l.prog w) callerA (.call (.ref m) ⟨[.ref a],[]⟩) (fun r s'=>r=.ok (.ret (.bool true))/\OldK b.heap s'.heap/\s'.os=b.os/\AllBare s'.gens) b) :
  WalkO q loose XP YP l.row.toRowW d [] (fun f vs=>PySem.call f vs):=by
 intro w c b p u G Y m o y s g P kV M E v C t L D B R j A I x O;obtain rfl:P=.none:=Dflts.none C z;obtain rfl:kV=.none:=Dflts.noKw C;obtain⟨a,vs,ns,rfl,rfl,k,e,h⟩:=xV F j x;refine enter_call (codeAny_mono (i w c b p u m o y s g a vs ns G Y M (fd_plain E) v t k e h L) fun r s' K=>?_);obtain⟨rfl,N,Q,H⟩:=K;exact⟨.inl ⟨.bool true,.bool true,[],rfl,fun _=>rfl,.bool true,xW l _,fun _=>⟨List.Pairwise.nil,fun _ J=>(nomatch J)⟩⟩,N,Q,H⟩
section
variable {prog:Program}{w:World}{A:Around}{E:Value->Shared->Prop}{s:Shared}{K:Frag}
def ledger (h : Heap) (L d : Addr) : List (Addr × Obj):=(List.range h.objs.size).filterMap fun a => if a = L \/ a = d then none else (h.get? a).map fun o => (a,o)
end
end Att
namespace L2
theorem mW:∀{vs:List Value}{ns:List Int},IntsAre vs ns->Vals (ns.map V.int) vs
 |_,_,.nil=>.nil
 |_,_,.cons n t h=>.cons ⟨t,rfl⟩ (mW h)
def Only (H:Hp):Prop:=∀b,H b=none\/∃o xs,H b=some (.frz o (.lst xs))
theorem zz {P:Program}{w:World}{K:Frag}{y O:Str->Option Value}{CX:CXT}{k:Nat}{U a:Addr}{fd:FuncData}{x:Str}{sp:Sp}{c:Shared}{vs:List Value}{ns:List Int}
  (KX:K.In c.heap) (A:c.heap.Ns mainGlobals y) (g:c.heap.Ns builtinsNs O) (R:∀x:Str,x≠"__name__"->O x=bootBuiltins x) (D:c.heap.NoLimit) (hg:c.gens=#[])
  (L:c.heap.get? a=some { cls:=.type "list",data:=.seq vs.toArray}) (X:IntsAre vs ns) (hl:ns.length<=sizeLine) (hr:Room k callerA)
  (F:∀base:Heap,K.In base->base.Ns mainGlobals y->FnOk P w K y base CX k U fd [x] sp) (l:∀(s:Shared) (u:Value),BindsTo s fd ⟨[u],[]⟩ [(x,u)])
  (Q:∀H:Hp,Only H->SqL K H a (ns.map V.int)->sp [.ref a] H (fun v _=>v=.bl true) fun _ _ _=>False)
  (M:∀H e s',CX [] H c (fun _ _ _=>False) e s'->False) :
  codeAny (model P w) callerA (.call (.ref U) ⟨[.ref a],[]⟩) (fun r s'=>r=.ok (.ret (.bool true))/\OldK c.heap s'.heap/\s'.os=c.os/\AllBare s'.gens) c:=by
 have Y:=mW X;have G:=X.length
 have j:∀H:Hp,Only H->SqL K H a (ns.map V.int)->HOk P w H c.heap->(∀b,H b≠none->b=a)->(H a≠none->K.lookup a=none) ->
   codeAny (model P w) callerA (.call (.ref U) ⟨[.ref a],[]⟩) (fun r s'=>r=.ok (.ret (.bool true))/\OldK c.heap s'.heap/\s'.os=c.os/\AllBare s'.gens) c:=by
  intro H W hS I hA hK
  have f:∀{b:Addr} {o:Obj},c.heap.get? b=some o->H b=none->(nR c.heap H).get? b=some o:=fun e n=>yL e n
  have S:∀{b:Addr} {o:Obj} {t:Array DictEntry} {B:Nat},c.heap.get? b=some o->o.data=.dict t B->H b=none:=fun {b o t B} e d=>by
   cases q:H b with
   |none=>rfl
   |some u =>
    have T:b=a:=hA b (by rw[q];simp)
    subst T
    rw[L] at e;cases e
    have d':Data.seq vs.toArray _=Data.dict t B:=d
    cases d'
  have i:∀{b:Addr} {m:Str->Option Value},c.heap.Ns b m->(nR c.heap H).Ns b m:=fun {b m} ⟨o,t,B,e,d,r⟩=>⟨o,t,B,f e (S e d),d,r⟩
  have p:K.In (nR c.heap H):=fun b o e=>f (KX b o e) (by
   cases q:H b with
   |none=>rfl
   |some u =>
    have T:b=a:=hA b (by rw[q];simp)
    subst T
    rw[hK (by rw[q];simp)] at e;cases e)
  have hM:Mod K y (nR c.heap H):=⟨p,i A,⟨O,i g,R⟩,let ⟨mc,h1,h2⟩:=D;⟨mc,i h1,h2⟩⟩
  have e0:Env0 P w K y (nR c.heap H) callerA [] c H:=⟨rfl,hM,fun b o e=>Ei e,aar (xx _ _),trivial,fun b g=>absurd (show b∈([]:List Addr) from g) (by simp),I,.of_eq hg⟩
  refine codeAny_mono ((F _ p (i A)).run callerA [] c H ⟨[.ref a],[]⟩ [.ref a] [.ref a] _ _ hr e0 (l c (.ref a)) (.cons rfl .nil) (Q H W hS)) fun r s' h=>?_
  cases r with
  |error e=>exact (M H e s' h).elim
  |ok fl =>
   cases fl with
   |next=>exact False.elim h
   |brk=>exact False.elim h
   |cont=>exact False.elim h
   |ret u =>
    obtain⟨v,H',os,C,un,E,r',q⟩:=h
    have q':v=.bl true:=q
    subst q'
    obtain rfl:u=Value.bool true:=r'
    refine⟨rfl,OldK.of_keep fun b o e=>?_,os,C⟩
    cases q:H b with
    |none=>exact un.keep b o e q (by intro z;exact absurd (show b∈([]:List Addr) from z) (by simp)) (by simp)
    |some u =>
     rcases W b with z | ⟨ob,xs,z⟩
     ·
      rw[q] at z;cases z
     ·
      have z2:=un.frzs b ob _ z
      obtain⟨Z,_⟩:=I b _ z
      obtain⟨e2,_⟩:=E b _ z2
      rw[e] at Z;cases Z
      exact e2
 cases N:K.lookup a with
 |some o =>
  have e:=KX a o N
  rw[L] at e
  cases e
  refine j (fun _=>none) (fun _=>.inl rfl) (.inr ⟨_,vs.toArray,_,N,rfl,rfl,rfl,by rw[l_,G];exact hl,by simpa using Y⟩) (fun b u z=>by have J:(none:Option HO)=some u:=z;cases J) (fun b z=>absurd rfl z) fun z=>absurd rfl z
 |none =>
 refine j (fun b=>if b=a then some (.frz { cls:=.type "list",data:=.seq vs.toArray} (.lst (ns.map V.int))) else none) (fun b=>?_) (.inl (.inr ⟨{ cls:=.type "list",data:=.seq vs.toArray},if_pos rfl⟩)) (fun b u z=>?_) (fun b z=>?_) fun _=>N
 ·by_cases g:b=a
  ·exact .inr ⟨_,_,if_pos g⟩
  exact .inl (if_neg g)
 ·by_cases g:b=a
  ·have J:=(if_pos g).symm.trans z;cases J;subst g;exact⟨L,by rw[e_];exact hl,vs,_,Y,L⟩
  have J:=(if_neg g).symm.trans z;cases J
 by_cases g:b=a
 ·exact g
 exact absurd (if_neg g) z
abbrev KOf {K:Frag}{h:Heap}(_:K.In h):Frag:=K
theorem walk_of {l:PySem.W.OpenLaw}{n k:Nat}{q:Program}{loose:List Str}{XP:(Str->Option Value)->Heap->Prop}{YP:World->Heap->Prop}{d:DefRec}{K:Params->Frag}{CX:World->CXT}{sp:World->Sp}{x:Str}
  (M:l.most=some n) (A:n<=sizeLine) (C:d.params.defaults=[]) (O:Room k callerA)
  (S:∀(w:World) (h:Heap),YP w h->(K w.params).In h)
  (F:∀(w:World) (j:Str->Option Value) (r:Addr) (h:Heap),(K w.params).In h->h.Ns mainGlobals j->j d.name=some (.ref r) ->
   ∃B:FuncData,(∀(s:Shared) (u:Value),BindsTo s B ⟨[u],[]⟩ [(x,u)]) /\
    ∀base:Heap,(K w.params).In base->base.Ns mainGlobals j->FnOk l.prog w (K w.params) j base (CX w) k r B [x] (sp w))
  (z:∀(w:World) (H:Hp) (a:Addr) (ns:List Int),ns.length<=n->Only H->SqL (K w.params) H a (ns.map V.int)->sp w [.ref a] H (fun v _=>v=.bl true) fun _ _ _=>False)
  (t:∀(w:World) (H:Hp) (s:Shared) (e:Value) (s':Shared),CX w [] H s (fun _ _ _=>False) e s'->False) :
  PySem.W.WalkO q loose XP YP l.row.toRowW d [] (fun f vs=>PySem.call f vs):=by
 refine Att.attach_call M C fun w D m j X r o Z cd R a vs ns G Y ho U P y p i c Q=>?_;have E:=S w _ Y;obtain⟨B,L,N⟩:=F w j r _ E G.T.g y;exact zz E G.T.g G.T.b G.T.builtins G.T.nolimit Q p i (L_ c A) O N L (fun H I J=>z w H a ns c I J) fun H e s'=>t w H m e s'
end L2
/- THE LAST THEOREM (shape;LID,My.* are yours):
  My.Adr: a structure of the addresses that your layer names (classes,functions);My.Txt K t: a structure (Prop) of the equations over K;
  My.txt_mk:{K} {implicit addresses ..} (e1:nsIn K mainGlobals "law"=some (some (.ref f))) (e2:K.lookup f=some ⟨oc,od,.func (fnOf "law" "law" params body scope dV kV doc pm an cdv ct),sl⟩) (e3:codeIn K cdv "law"=true) .. : ∃t,My.Txt K t
set_option maxRecDepth 100000 in
set_option maxHeartbeats 0 in
theorem PySem.Challenge.cw_LID_holds : PySem.Challenge.rw_LID.Holds := by
 w_on;o_law;k_head;(case hw=>w_witness2)
 k_fill
 refine L2.walk_of (l:=PySem.Challenge.rw_LID) (n:=63) (k:=40) (x:="script") (CX:=fun w=>..) (sp:=fun _=>My.sp_law) rfl (by decide) rfl ⟨rfl,by decide,by decide⟩ (fun w h Y=>PySem.W.kIn_of Y) ?F ?S ?C
 case F =>
  intro w o i h f G e
  have T:∃t,My.Txt (L2.KOf f) t:=by
   dsimp only[L2.KOf]                          -- K must stand as «<heap const> w.params» for k_is
   refine' My.txt_mk ?e1 ?e2 ?e3 ..
   (case e1=>PySem.W.k_is)                    -- in the order: a name->its address->its object->its parts
   (case e2=>PySem.W.k_is)
   ..
  obtain⟨t,T⟩:=T
  have g:=e.symm.trans (mg_of f G T.law)
  cases g                                       -- i is the law's own address
  exact⟨_,fun s u=>.of_eq rfl,fun base c d=>My.law_fn T c d⟩     -- if «.of_eq rfl» comes too early: refine'⟨_,?b,fun base c d=>My.law_fn T c d⟩;exact fun s u=>.of_eq rfl
 case S=>exact fun w H a ns m j p=>..
 case C=>exact ..
(the tactic k_is has no namespace: write k_is) -/
namespace L2
abbrev CX0:CXT:=fun _ _ _ _ _ _=>False
abbrev E0:XK:=fun _ _ _=>False
theorem zA {X:Cx}:jn CX0 X E0:=fun _ _ _ _ _ _ _ h=>h.elim
structure Fun (K:Frag) (x qual:Str) (st:Stmt) (f:Addr) (fd:FuncData):Prop where
 ex:∃(oc:Value) (od:Option Addr) (kV doc pm:Value) (an:Option Addr) (cdv ct:Value) (osl:Array (Option Value)),
  fd=fnOf x qual (bO st) (bC st) (au st) .none kV doc pm an cdv ct/\K.lookup f=some ⟨oc,od,.func fd,osl⟩/\codeIn K cdv qual=true
 kp:keepIn K (.ref f)=true
section
variable {P:Program}{w:World}{K:Frag}{mg:Str->Option Value}{base:Heap}
theorem Fun.ok {x b:Str}{st:Stmt}{f:Addr}{j:FuncData}{N ps:List Str}{k:Nat}{sp:Sp}(F:Fun K x b st f j) (S:FnScope N ps (au st)) (i:∀vs H Q E,sp vs H Q E->vs.length=ps.length)
  (d:∀(c:Value) (A:Around) (a:List Env) (s:Shared) (H:Hp) (vs:List V) (Q:VK) (E:XK),Room k (A.deeper (envOfC b (au st) s.heap.objs.size f c))->sp vs H Q E ->
   ∃t,PSs (tL CX0 P w K mg base N b (au st) f c A a s H E).nox (bC st) t/\t { nx:=fun _ H'=>Q .non H',rt:=Q} (start N vs) H):FnOk P w K mg base CX0 (k+1) f j ps sp:=by
 obtain⟨oc,od,kV,n,r,p,c,o,osl,rfl,m,e⟩:=F.ex;refine RW m e S i fun A a s H vs Q E l g=>?_;obtain⟨t,h,q⟩:=d c A a s H vs Q E l g;exact⟨t,h.nox,q⟩
theorem Fun.binds {x a:Str}{st:Stmt}{f:Addr}{i:FuncData}{ps:List Str}(F:Fun K x a st f i)
  (h:∀(kV c g:Value) (e:Option Addr) (b d:Value) (us:List Value),us.length=ps.length->bindArgs (fnOf x a (bO st) (bC st) (au st) .none kV c g e b d) ⟨us,[]⟩=pure (ps.zip us)):Binds K i ps []:=by
 obtain⟨oc,od,kV,c,g,e,b,d,osl,rfl,k,j⟩:=F.ex;exact .all (h kV c g e b d)
theorem kh {x a:Str}{st:Stmt}{f:Addr}{oc:Value}{od g:Option Addr}{osl:Array (Option Value)}{kV d e b h:Value}(l:K.lookup f=some ⟨oc,od,.func (fnOf x a (bO st) (bC st) (au st) .none kV d e g b h),osl⟩)
  (c:codeIn K b a=true) (k:keepIn K (.ref f)=true):Fun K x a st f (fnOf x a (bO st) (bC st) (au st) .none kV d e g b h):=⟨⟨oc,od,kV,d,e,g,b,h,osl,rfl,l,c⟩,k⟩
variable {X:Cx}
theorem pv (i:Nat) {x:Str}{b:Pos}(d:X.N[i]?=some x:=by rfl) (e:Vis X.env.scope x:=by first | exact Or.inl rfl | exact Or.inr (Or.inl rfl) | exact Or.inr (Or.inr rfl)) (c:(x==("__debug__":Str))=false:=by decide)
  (a:(x==("__classdict__":Str))=false:=by decide):PE X (.Name x b) (Ri i):=KJ d e c a
end
theorem Xe {A B:Prop}(h:B):if false=true then A else B:=by
 rw[if_neg t_];exact h
theorem Xf {A B:Prop}(h:A):if true=true then A else B:=by
 rw[if_pos rfl];exact h
section
variable {κ:Type} [DecidableEq κ]
theorem eU:∀{l:List κ}{k:κ},l.Nodup->¬k∈l->(l++[k]).Nodup
 |[],k,_,_=>by simp
 |a::r,k,h,hk=>by
  obtain⟨b,c⟩:=Yb.mp h
  show (a::(r++[k])).Nodup
  refine Yb.mpr ⟨fun m=>?_,eU c fun m=>hk (j_.mpr (Or.inr m))⟩
  rcases B_.mp m with q | q
  ·
   exact b q
  ·
   exact hk (j_.mpr (Or.inl (m_.mp q).symm))
end
abbrev NK:=Int × List Str
section
variable {prog:Program}{w:World}{A:Around}{E:Value->Shared->Prop}{s:Shared}
def qt (ns:List Str):List Key:=ns.map Sum.inr
theorem kj:∀{a b:List Str},qt a=qt b->a=b
 |[],[],_=>rfl
 |x::a,y::b,h=>by
  injection h with h1 h2
  rw[Sum.inr.inj h1,kj (a:=a) (b:=b) h2]
def NKis (prog:Program) (w:World) (h:Heap) (k:NK) (a:Addr):Prop:=∃o t b n,h.get? a=some o/\o.cls=.type "tuple"/\o.data=.seq #[.int k.1 t,.ref b] n/\IsTupleKey (bx prog w) h (qt k.2) b
def tV (w:World) (k:NK):Int:=reduceHash (Builtin.Tuple.tupleHashOf [Ku w (.inl k.1),reduceHash (Builtin.Tuple.tupleHashOf ((qt k.2).map (Ku w)))])
theorem NKis.ty {k:NK}{a:Addr}(x:NKis prog w s.heap k a):s.TypeIs (.ref a) "tuple":=let ⟨o,_,_,_,ho,hc,_⟩:=x;⟨o,ho,hc⟩
theorem NKis.inj {h:Heap}{a:Addr}{x y:NK}(r:NKis prog w h x a) (p:NKis prog w h y a):x=y:=by
 obtain⟨o,t,b,n,g,_,i,l⟩:=r;obtain⟨z,t',v,u,d,_,c,f⟩:=p;rw[g] at d;cases d;rw[i] at c;obtain⟨s,m⟩:=x;obtain⟨A,k⟩:=y;simp at c;obtain⟨⟨⟨q,_⟩,j⟩,_⟩:=c;subst q j;have e:m=k:=kj (l.inj f);rw[e]
theorem zB {z:Int}{Q:Int->Shared->Prop}(h:Q (reduceHash z) s):wpAny (model prog w) A (pyHashByItsType.reduced z) Q E s:=by
 show wpAny _ _ (if (decide (-(2:Int)^63<=z)&&decide (z<2^63))=true then _ else _) Q E s;unfold reduceHash at h;by_cases c:(decide (-(2:Int)^63<=z)&&decide (z<2^63))=true
 ·rw[if_pos c] at h ⊢;exact i_ h
 rw[if_neg c] at h ⊢;exact a_ (wpAny_rule (i_ h))
theorem Fx {k:NK}{a:Addr}{Q:Int->Shared->Prop}(j:A.units+1<cLine) (d:NKis prog w s.heap k a) (h:Q (tV w k) { s with toks:=s.toks+(k.2.length+3)}):wpAny (model prog w) A (pyHash (.ref a)) Q E s:=by
 have c:=d.ty;obtain⟨o,t,b,n,f,_,g,i⟩:=d;unfold pyHash;first | unfold pyHashByItsType | skip
 first | refine a_ (wpAny_cRoomFor_or (.inr (by omega)) ?_) | skip
 refine a_ (Z0 c aat.lookup ?_);show wpAny _ _ (if (some (Value.builtin "tuple.__hash__")==some Value.none)=true then _ else _) Q E s;rw[if_neg (by rw[beq_builtin_none];exact t_)];refine a_ (Z0 c aat.lookup ?_);show wpAny _ _ (callSpecialIfBoundUnlessNone? (.ref a) "__hash__" _ >>= _) Q E s;refine a_ (wpAny_callSpecialIfBoundUnlessNone?_slot c aat (YG aat c F.entry_tuple_hash ?_ (F.args_tuple_hash_1 _)));show wpAny _ _ (Builtin.Tuple.tupleItemsOf (.ref a) >>= _) _ _ s;refine a_ (wpAny_tupleItemsOf f g (a_ ?_));rw[<- Array.forIn_toList];show wpAny _ _ (forIn [Value.int k.1 t,Value.ref b] _ _) _ _ _;rw[YW];refine a_ (a_ ((bx prog w).pyHash (k:=.inl k.1) (mJ k.1 t) (i_ ?_)));dsimp only;rw[YW];refine a_ (a_ (wpAny_pyHash_tuple (s:={ s with toks:=s.toks+1}) j i (i_ ?_)));dsimp only;rw[aac];refine i_ (wpAny_ret_mkInt ?_);refine zB ?_;have e:k.2.length+3=1+((qt k.2).length+1)+1:=by unfold qt;rw[e_];omega
 rw[e,<- Nat.add_assoc,<- Nat.add_assoc] at h;exact h
theorem Ma {x y:NK}{a b:Addr}{R:Fin->Shared->Prop}(B:A.units<cLine) (D:NKis prog w s.heap x a) (k:NKis prog w s.heap y b) (h:R (.done (.ret (.bool (decide (x=y))))) s):wpAny (model prog w) A (Builtin.«tuple.__eq__» ⟨[.ref a,.ref b],[]⟩) R E s:=by
 have m:=k.ty;obtain⟨o,t,c,n,p,_,q,j⟩:=D;obtain⟨G,t',C,F,g,_,f,d⟩:=k;show wpAny _ _ (isInstance (.ref b) (.type "tuple") >>= _) _ _ s;refine a_ (aag m isSubtype_tuple_tuple ?_);simp only[Yv,A_,X8];refine a_ (wpAny_tupleItemsOf p q (a_ (wpAny_tupleItemsOf g f (a_ ?_))));show wpAny _ _ (forIn [(Value.int x.1 t,Value.int y.1 t'),(Value.ref c,Value.ref C)] _ _) _ _ _;rw[YW];refine a_ (a_ (wpAny_eqBool_int ?_));obtain⟨l,u⟩:=x;obtain⟨v,r⟩:=y;dsimp only at h j d ⊢;by_cases e:l=v
 ·subst e;rw[if_neg (by simp)];refine i_ ?_;dsimp only;rw[YW];refine a_ (a_ (wpAny_eqBool_tuple B j d ?_));by_cases i:u=r
  ·subst i;rw[D_ rfl] at h;rw[D_ rfl,if_neg (by decide)];refine i_ ?_;dsimp only;rw[aac];exact i_ (i_ h)
  rw[u_ (fun z=>i (kj z)),if_pos (by decide)];rw[u_ (fun z=>i (Prod.mk.inj z).2)] at h;exact a_ (i_ (i_ (i_ (i_ h))))
 rw[if_pos (by simp [e])];rw[u_ (fun z=>e (Prod.mk.inj z).1)] at h;exact a_ (i_ (i_ (i_ (i_ h))))
theorem Sy {x y:NK}{a b:Addr}{Q:Bool->Shared->Prop}(g:A.units+1<cLine) (c:NKis prog w s.heap x a) (d:NKis prog w s.heap y b) (h:Q (decide (x=y)) s):wpAny (model prog w) A (eqBool (.ref a) (.ref b)) Q E s:=by
 unfold eqBool;try with_reducible refine YS ?_
 show wpAny _ _ (if (Value.ref a==Value.ref b)=true then _ else _) Q E s;by_cases e:(Value.ref a==Value.ref b)=true
 ·rw[if_pos e];have f:a=b:=by have:=eq_of_beq e;injection this
  subst f;obtain rfl:=NKis.inj c d;exact a_ (wpAny_rule (i_ (by simpa using h)))
 rw[if_neg e];exact a_ (wpAny_richCompare_same_room (op:=.Eq) c.ty d.ty F.slot_tuple_eq (YG F.slot_tuple_eq c.ty F.entry_tuple_eq (Ma g c d ⟨_,rfl,(fun e=>nomatch e),Yy h⟩) (F.args_tuple_eq_2 _ _)) (by omega))
theorem zE {h h':Heap}{k:NK}{a d:Addr}{o:Obj}{es ep}(x:NKis prog w h k a) (f:h.get? d=some o) (i:o.data=.dict es ep) (j:Heap.SameBut d h h'):NKis prog w h' k a:=by
 obtain⟨m,t,b,n,e,p,c,l⟩:=x;have g:a≠d:=by rintro rfl;rw[e] at f;cases f;rw[i] at c;cases c
 exact⟨m,t,b,n,(j.2 a g).trans e,p,c,l.keeps f i j⟩
theorem Mf {ks:List Key}{a:Addr}{Q:Bool->Shared->Prop}(g:IsTupleKey (bx prog w) s.heap ks a) (h:Q true s):wpAny (model prog w) A (eqIsQuiet 7 (.ref a)) Q E s:=by
 have e:=g.typeIs;obtain⟨o,c,n,i,_,j,k⟩:=g;unfold eqIsQuiet;refine a_ (Z0 e F.slot_tuple_eq.lookup ?_);show wpAny _ _ (isInstance (.ref a) (.type "tuple") >>= _) _ _ s;refine a_ (aag e isSubtype_tuple_tuple ?_);simp only[Yv,A_,X8];refine a_ (YD i j (a_ ?_));show wpAny _ _ (forIn c _ _) _ _ s;rw[<- Array.forIn_toList];refine wpAny_forIn_list _ (fun rest r s'=>r.1=none/\s'=s/\∀v∈rest,carriedByValue v=true) _ ?_ ?_ _ _ ⟨rfl,rfl,k.byValue⟩
 ·rintro v rest r s' ⟨f,rfl,b⟩;rw[eqIsQuiet_byValue _ (b v k_)];refine a_ (i_ ?_);simp only[Yv,A_,X8];exact i_ ⟨rfl,rfl,fun u d=>b u (h_ _ d)⟩
 rintro⟨m,l⟩ s' ⟨f,rfl,_⟩;cases f;exact i_ h
theorem zF {k:NK}{a:Addr}{Q:Bool->Shared->Prop}(d:NKis prog w s.heap k a) (h:Q true s):wpAny (model prog w) A (eqIsQuiet 8 (.ref a)) Q E s:=by
 have c:=d.ty;obtain⟨o,t,b,n,e,_,f,g⟩:=d;unfold eqIsQuiet;refine a_ (Z0 c F.slot_tuple_eq.lookup ?_);show wpAny _ _ (isInstance (.ref a) (.type "tuple") >>= _) _ _ s;refine a_ (aag c isSubtype_tuple_tuple ?_);simp only[Yv,A_,X8];refine a_ (YD e f (a_ ?_));show wpAny _ _ (forIn (#[Value.int k.1 t,Value.ref b]:Array Value) _ _) _ _ s;rw[<- Array.forIn_toList];show wpAny _ _ (forIn [Value.int k.1 t,Value.ref b] _ _) _ _ s;rw[YW,eqIsQuiet_byValue _ rfl];refine a_ (a_ (i_ ?_));rw[if_neg (by decide)];refine i_ ?_;dsimp only;rw[YW];refine a_ (a_ (Mf g ?_));rw[if_neg (by decide)];refine i_ ?_;dsimp only;rw[aac];exact i_ (i_ h)
end
def dN (prog:Program) (w:World):HeapKind prog w NK where
 is:=NKis prog w
 hash:=tV w
 draws:=fun k=>k.2.length+3
 room:=fun A=>A.units+1<cLine
 inj:=fun d b=>NKis.inj d b
 keeps:=fun x e f g=>zE x e f g
 pyHash:=fun c a h=>Fx c a h
 eqBool:=fun c d b h=>Sy c d b h
 quiet:=fun a h=>zF a h
def KA (ks:List (NK × Addr × V)) (xs:List (NK × Addr × Value)):Prop:=Paired (fun p q=>p.1=q.1/\p.2.1=q.2.1/\RelV p.2.2 q.2.2) ks xs
def dU (ks:List (NK × Addr × V)) (k:NK):Option V:=(ks.find? fun x=>decide (x.1=k)).map (·.2.2)
def tW (ks:List (NK × Addr × V)) (k:NK) (b:Addr) (v:V):List (NK × Addr × V):=if (dU ks k).isSome then ks.map (fun x=>if x.1=k then (x.1,x.2.1,v) else x) else ks++[(k,b,v)]
theorem KA.look {ks:List (NK × Addr × V)}{xs:List (NK × Addr × Value)}(r:KA ks xs) (k:NK):RelO (dU ks k) ((atKey xs k).map (·.2)):=by
 induction r with
 |nil=>exact trivial
 |@cons p q l m h t a =>
 obtain⟨p1,f,c⟩:=p;obtain⟨g,d,i⟩:=q;obtain⟨rfl,rfl,b⟩:=h;unfold dU atKey at a ⊢;rw[Y4,Y4];by_cases e:p1=k
 ·rw[D_ (by exact e)];exact b
 rw[u_ (by exact e)];exact a
theorem KA.put {ks:List (NK × Addr × V)}{xs:List (NK × Addr × Value)}(r:KA ks xs) (k:NK) (b:Addr) {v:V}{u:Value}(a:RelV v u):KA (tW ks k b v) (storedH xs k b u):=by
 have e:=(r.look k).isSome_eq;rw[ZD] at e;unfold tW storedH;rw[e];split
 ·rename_i c;clear e c;induction r with
  |nil=>exact .nil
  |@cons p q l m h t d =>
  obtain⟨p1,i,f⟩:=p;obtain⟨j,g,o⟩:=q;obtain⟨rfl,rfl,n⟩:=h;refine .cons ?_ d;unfold putAt;dsimp only;split <;> exact⟨rfl,rfl,by assumption⟩
 exact Paired.snoc r ⟨rfl,rfl,a⟩
def dnP (w:World) (a:Addr) (ks:List (NK × Addr × V)) (h:Heap):Prop:=ks.length<=sizeLine/\(a==sysModules)=false/\∃xs,KA ks xs/\∃o b c,h.get? a=some o/\o.ExactDict/\o.data=.dict b c/\b.toList=xs.map (fun x=>⟨tV w x.1,.ref x.2.1,x.2.2⟩)/\(xs.map (·.1)).Nodup
def dnO (w:World) (a:Addr) (ks:List (NK × Addr × V)):HO:=.ext (dnP w a ks)
theorem dnO.ok {P:Program}{w b:World}{H:Hp}{h:Heap}{a:Addr}{ks:List (NK × Addr × V)}(x:dnP w a ks h):ObjOk P b H h a (dnO w a ks) :=
 ⟨x,let ⟨_,_,_,_,o,_,_,e,_⟩:=x;⟨o,e⟩,fun _ _ ⟨z,y,xs,r,o,d,c,e,q⟩ k=>⟨z,y,xs,r,o,d,c,k o e,q⟩⟩
def NKt (K:Frag) (H:Hp) (k:NK) (a:Addr):Prop:=∃b,SqT K H a [.int k.1,.ref b]/\SqT K H b (k.2.map V.str)
def NAll (K:Frag) (H:Hp) (ks:List (NK × Addr × V)):Prop:=∀x∈ks,NKt K H x.1 x.2.1
theorem NAll.put {K:Frag}{H:Hp}{ks:List (NK × Addr × V)}(h:NAll K H ks) {k:NK}{b:Addr}{v:V}(d:NKt K H k b):NAll K H (tW ks k b v):=fun x a=>by
 unfold tW at a;split at a
 ·obtain⟨y,c,rfl⟩:=y_.mp a;have:=h y c;split <;> exact this
 rcases B_.mp a with q | q
 ·exact h x q
 rw[m_.mp q];exact d
section
variable {X:Cx}{pins:List (Addr × Obj)}{Z:St}{H:Hp}{s:Shared}{a b:Addr}{v d:V}{u r:Value}{k:NK}{ks:List (NK × Addr × V)}{A:Around}{E:Value->Shared->Prop}
theorem qu:∀{ns:List Str}{a:List Value},Vals (ns.map V.str) a->ItemsAre (bx X.prog X.w) (qt ns) a
 |[],_,.nil=>.nil
 |n::ns,_,.cons h t=>by
  obtain⟨t',rfl⟩:=h
  exact .cons (mK n t') (qu t)
theorem NKt.is (I:Inv X pins Z H s) (h:NKt X.K H k a):(dN X.prog X.w).is s.heap k a:=by
 obtain⟨b,m,c⟩:=h;obtain⟨u,r,⟨o,q,l,n,p⟩,_⟩:=I.tuple m;obtain⟨its',v,⟨i,j,d,e,g⟩,_⟩:=I.tuple c;cases r with
 |cons p1 t=>cases t with
  |cons f t=>cases t with
   |nil =>
    obtain⟨t,rfl⟩:=p1
    cases (show _=Value.ref b from f)
    exact⟨o,t,b,n,q,l,p,i,_,e,j,d,g,by simpa using qu v⟩
theorem Js (I:Inv X pins Z H s) (e:H a=some (dnO X.w a ks)) (n:NAll X.K H ks):ks.length<=sizeLine/\(a==sysModules)=false/\∃xs,KA ks xs/\s.heap.DictOfH (dN X.prog X.w) a xs:=by
 obtain⟨z,h,xs,r,o,u,g,t,i,v,k,j⟩:=(show ObjOk X.prog X.w H s.heap a (dnO X.w a ks) from I.hok a _ e).1;refine⟨z,h,xs,r,o,u,g,t,i,v,k,fun x b=>?_,j⟩;have d:∀{l:List (NK × Addr × V)} {m:List (NK × Addr × Value)},KA l m->∀x∈m,∃y∈l,y.1=x.1/\y.2.1=x.2.1:=fun q=>by
  induction q with
  |nil=>intro x b;exact nomatch b
  |cons f _ B =>
  intro x b;rcases j_.mp b with rfl | b
  ·exact⟨_,.head _,f.1,f.2.1⟩
  obtain⟨y,c,z⟩:=B x b;exact⟨y,.tail _ c,z⟩
 obtain⟨y,c,A,p⟩:=d r x b;have:=(n y c).is I
 rwa [A,p] at this
theorem Xg {Q:Value->Shared->Prop}(g:A.units+30<cLine) (I:Inv X pins Z H s) (e:H a=some (dnO X.w a ks)) (n:NAll X.K H ks) (f:NKt X.K H k b) (h:∀s',Inv X pins Z H s'->Q (.bool (dU ks k).isSome) s'):wpAny (model X.prog X.w) A (compareOp .In (.ref b) (.ref a)) Q E s:=by
 obtain⟨z,d,xs,r,c⟩:=Js I e n;refine wpAny_in_heap (knd:=dN X.prog X.w) (show A.units+1+1<cLine by omega) (f.is I) d c ?_;have q:=(r.look k).isSome_eq;rw[ZD] at q;rw[<- q];exact h _ (I.tok _)
theorem Fy {Q:Value->Shared->Prop}(g:A.units+30<cLine) (I:Inv X pins Z H s) (e:H a=some (dnO X.w a ks)) (n:NAll X.K H ks) (f:NKt X.K H k b) (h:∀s',Inv X pins Z H s'->Q (.bool (!(dU ks k).isSome)) s'):wpAny (model X.prog X.w) A (compareOp .NotIn (.ref b) (.ref a)) Q E s:=by
 obtain⟨z,d,xs,r,c⟩:=Js I e n;refine wpAny_notIn_heap (knd:=dN X.prog X.w) (show A.units+1+1<cLine by omega) (f.is I) d c ?_;have q:=(r.look k).isSome_eq;rw[ZD] at q;rw[<- q];exact h _ (I.tok _)
end
theorem jC {F:Str × NameKind->Str × NameKind}(b:∀p,(F p).1=p.1) {x:Str}{k:NameKind}:∀{a:List (Str × NameKind)},a.lookup x=some k->(a.map F).lookup x=some (F (x,k)).2
 |[],h=>by cases h
 | (m,q)::r,h=>by
  have c:=b (m,q)
  rw[C_,show F (m,q)=(m,(F (m,q)).2) from Prod.ext c rfl]
  by_cases e:x=m
  ·
   subst e
   rw[List.lookup_cons_self] at h ⊢
   cases h
   rfl
  ·
   have d:(x==m)=false:=Yi.mpr e
   simp only[List.lookup,d] at h ⊢
   exact jC b h
theorem ie {env:Env}{x:Str}{a:List (Str × NameKind)}(h:a.lookup x=some .free) :
  (a.map fun (n,k)=>if (k==NameKind.free&&env.scope.kind==.function&&env.kindOf n==some .cell) then (n,NameKind.cell) else (n,k)).lookup x=some .cell \/
  (a.map fun (n,k)=>if (k==NameKind.free&&env.scope.kind==.function&&env.kindOf n==some .cell) then (n,NameKind.cell) else (n,k)).lookup x=some .free:=by
 rw[jC (F:=fun (n,k)=>if (k==NameKind.free&&env.scope.kind==.function&&env.kindOf n==some .cell) then (n,NameKind.cell) else (n,k)) (fun p=>by dsimp only;split <;> rfl) h];dsimp only;split
 ·exact .inl rfl
 exact .inr rfl
theorem km {scope:Scope}{env:Env}(h:∀y∈scope.names,y.2=.free->∃c,env.cells.lookup y.1=some c) :
  ∃d,closureFor scope env=pure d/\(∀x c,d.lookup x=some c->env.cells.lookup x=some c)/\∀y∈scope.names,y.2=.free->∃c,d.lookup y.1=some c:=by
 have key:∀(b:List (Str × NameKind)) (g:List (Str × Addr)),(∀y∈b,y.2=.free->∃c,env.cells.lookup y.1=some c)->(∀x c,g.lookup x=some c->env.cells.lookup x=some c) ->
   ∃d:List (Str × Addr),(forIn b g (fun (x:Str × NameKind) (r:List (Str × Addr))=>(do
    if x.2==.free then do
     let a <- cellOf env x.1
     pure (ForInStep.yield ((x.1,a)::r))
    else pure (ForInStep.yield r):Sem (ForInStep (List (Str × Addr))))):Sem (List (Str × Addr)))=pure d/\(∀x c,d.lookup x=some c->env.cells.lookup x=some c) /\
    (∀x c,g.lookup x=some c->∃s,d.lookup x=some s)/\∀y∈b,y.2=.free->∃c,d.lookup y.1=some c:=by
  intro b
  induction b with
  |nil=>intro g _ t;exact⟨g,rfl,t,fun x c e=>⟨c,e⟩,fun y f=>nomatch f⟩
  |cons y r A =>
   intro g v t
   obtain⟨n,k⟩:=y
   by_cases w:k=.free
   ·
    subst w
    obtain⟨c,z⟩:=v (n,.free) k_ rfl
    have i:cellOf env n=pure c:=by unfold cellOf;rw[z]
    obtain⟨d,e,o,l,p⟩:=A ((n,c)::g) (fun y f=>v y (h_ _ f)) (fun x s q=>by
     simp only[YH] at q
     cases j:x==n with
     |true=>rw[j] at q;cases q;rw[eq_of_beq j];exact z
     |false=>rw[j] at q;exact t x s q)
    refine⟨d,?_,o,fun x s q=>?_,fun y f u=>?_⟩
    ·
     rw[YW]
     show ((if (NameKind.free==NameKind.free)=true then (cellOf env n >>= fun a=>pure (ForInStep.yield ((n,a)::g))) else pure (ForInStep.yield g)) >>= _)=_
     rw[i]
     exact e
    ·
     cases j:x==n with
     |true=>exact l x c (by simp only[YH,j])
     |false=>exact l x s (by simp only[YH,j];exact q)
    ·
     rcases j_.mp f with rfl | f
     ·
      exact l n c (by simp [YH])
     ·
      exact p y f u
   ·
    obtain⟨d,e,o,l,p⟩:=A g (fun y f=>v y (h_ _ f)) t
    have B:(k==NameKind.free)=false:=by simpa using w
    refine⟨d,?_,o,l,fun y f u=>?_⟩
    ·
     rw[YW]
     show ((if (k==NameKind.free)=true then (cellOf env n >>= fun a=>pure (ForInStep.yield ((n,a)::g))) else pure (ForInStep.yield g)) >>= _)=_
     rw[B]
     exact e
    ·
     rcases j_.mp f with rfl | f
     ·
      exact absurd u w
     ·
      exact p y f u
 obtain⟨d,e,o,_,p⟩:=key scope.names [] h (fun x c q=>by simp at q);refine⟨d,?_,o,p⟩;unfold closureFor;exact X6 (fun m=>m >>= fun r=>pure r) e
def bD (X:Cx) (N':List Str) (scope:Scope) (c:List (Str × Addr)) (a:List (Addr × Obj)) (s:Shared) (H:Hp) (C:Addr) (b:List Addr):Cx where
 prog:=X.prog
 w:=X.w
 K:=X.K
 mg:=X.mg
 base:=X.base
 A:=X.A
 N:=N'
 s₀:=s
 H₀:=H
 env:=compEnvC scope c C X.env
 outer:=X.stack
 stack:=X.stack
 ex:=b
 fn:=fun x=>scope.names.lookup x==some .cell
 calm:=X.calm
 pn:=X.pn++a
 xe:=fun _ _=>False
def PIf (X:Cx) (b:List Expr) (t:TT):Prop :=
 ∀(a:List (Addr × Obj)) (s:Shared) (Z:St) (H:Hp) (Q:Bool->Hp->Prop),Inv X a Z H s->t Z H Q ->
  wpAny (model X.prog X.w) X.A (forIn b true fun c r=>if r=true then do let d <- isTrue c X.env (eval c X.env);pure (ForInStep.yield d) else pure (ForInStep.yield r)) (TP X a Z Q) X.xe s
def Xh:TT:=fun _ H Q=>Q true H
theorem Fz {X:Cx}:PIf X [] Xh:=fun _ _ _ H _ I h=>wpAny_tests_nil ⟨H,I,h⟩
theorem FJ {X:Cx}{c:Expr}{t:TT}(h:PT X c t):PIf X [c] t:=fun a s Z H Q I b=>wpAny_tests_one (h a s Z H Q I b)
section
variable {prog:Program}{w:World}{A:Around}{R:Result->Shared->Prop}{s:Shared}
theorem oF {q a l:Expr}{u:List Expr}{scope:Scope}{z:Pos}{it y:Value}{env:Env}(I:Nat->Shared->Prop)
  (C:∀n s,I n s->wpAny (model prog w) A (pyNext it) (fun r b=>match r with | .none=>R (.ok .next) b | .some v=>wpAny (model prog w) A (letOwnedTupleGo a it v) (fun _ d=>wpAny (model prog w) A (assign a env v) (fun _ k=>wpAny (model prog w) A (forIn u true fun c r=>if r=true then do let B <- isTrue c env (eval c env);pure (ForInStep.yield B) else pure (ForInStep.yield r)) (fun B e=>if B=true then wpAny (model prog w) A (eval q env) (fun x p=>wpAny (model prog w) A (call (.builtin "list.append") [y,x]) (fun _ g=>∃m,m<n/\I m g) (fun _ _=>False) p) (fun _ _=>False) e else ∃m,m<n/\I m e) (fun _ _=>False) k) (fun _ _=>False) d) (fun _ _=>False) b) (fun _ _=>False) s)
  (n:Nat) (h:I n s):codeAny (model prog w) A (.compLoop (.ListComp q [⟨a,l,u,0⟩] scope z) 0 it y env) R s:=by
 refine codeAny_loop rfl I (fun j f G=>?_) n h;show wpAny _ A ((compTurn (.ListComp q [⟨a,l,u,0⟩] scope z) 0 it y env).onRaise (fun x=>do noteFrame x env;theTreesLotGoes x)) _ _ f;refine wpAny_noted ?_;rw[compTurn_list];refine a_ (wpAny_standAt (a_ (Y5 (C j f G) (fun r b o=>?_) fun _ _ h'=>h'.elim)));cases r with
 |none=>exact i_ o
 |some v =>
 refine a_ (Y5 o (fun _ d t=>?_) fun _ _ h'=>h'.elim);refine a_ (Y5 t (fun _ k F=>a_ (Y5 F (fun B e i=>?_) fun _ _ h'=>h'.elim)) fun _ _ h'=>h'.elim);cases B with
 |false=>exact (i_ (And.intro rfl i))
 |true =>
 exact a_ (a_ (Y5 i (fun x p D=>a_ (Y5 D (fun _ g E=>i_ (i_ ⟨rfl,E⟩)) fun _ _ h'=>h'.elim)) fun _ _ h'=>h'.elim))
end
def vN (J:It) (g:TG) (tt:TT) (te:TE) (f:List V->Hp->Prop) (d:St) (a:Hp):Prop :=
 ∃W:Nat->Nat->List V->St->Hp->Prop,(∃m,W 0 m [] d a)/\∀i m ys Z H,W i m ys Z H ->
  (J.stop i H/\ys.length<=sizeLine/\f ys H) \/
  (J.go i H/\∀x h,J.yld i H x h->g x Z h fun e j=>tt e j fun b H3=>if b=true then te e H3 fun y k=>ys.length<sizeLine/\∃c,c<m/\W (i+1) c (ys++[y]) e k else ∃c,c<m/\W (i+1) c ys e H3)
def mj (nt:Nat) (cap:List Nat) (Z:St):St:=List.replicate nt none++cap.map fun j=>(Z[j]?).getD none
structure CompSc (X:Cx) (N':List Str) (nt:Nat) (cap:List Nat) (scope:Scope):Prop where
 kind:scope.kind=.function
 cells:∀y∈scope.names,y.2=.cell->scope.names.lookup y.1=some .cell
 names:∀x∈scope.names,x.2=.local->scope.names.lookup x.1=some .local
 free:∀y∈scope.names,y.2=.free->X.env.kindOf y.1=some .cell\/X.env.kindOf y.1=some .free
 len:N'.length=nt+cap.length
 caps:∀(j:Nat) (x:Str),N'[nt+j]?=some x->∃i,cap[j]?=some i/\X.N[i]?=some x/\scope.names.lookup x=some .free
theorem jP {l:Addr}{a:List Value}{n:Nat}{u:Value}{P:Program}{w:World}{A:Around}{E:Value->Shared->Prop}{s:Shared}{Q:Value->Shared->Prop}
  (e:s.heap.get? l=some { cls:=.type "list",data:=.seq a.toArray n}) (f:a.length<sizeLine)
  (h:∀h' n',h'.get? l=some { cls:=.type "list",data:=.seq (a++[u]).toArray n'}->(∀b o,b≠l->s.heap.get? b=some o->h'.get? b=some o)->Q .none { s with heap:=h'}) :
  wpAny (model P w) A (call (.builtin "list.append") [.ref l,u]) Q E s:=by
 refine call_meets F.slot_list_append ⟨_,e,rfl⟩ F.entry_list_append (F.args_list_append_2 _ _) (list_append l a.toArray n u (by rw[l_];omega)) ⟨e,?_⟩;have q:=PySem.IsL.update e (·.push u);rw[List.push_toArray] at q;exact h _ _ q (fun b o c d=>(ZV s.heap _ (Ne.symm c)).trans d)
theorem bG:∀(b:List (Str × NameKind)) (n:Nat) (a:List (Str × Addr)),cellsFrom n b a=cellsFrom n b []++a
 |[],_,_=>rfl
 | (x,k)::r,n,a=>by
  unfold cellsFrom
  split
  ·
   rw[bG r (n+1) ((x,n)::a),bG r (n+1) [(x,n)],Z9]
   rfl
  ·
   exact bG r n a
theorem dC {a:Type}(x:Str):∀(l m:List (Str × a)),(l++m).lookup x=(l.lookup x).or (m.lookup x)
 |[],_=>rfl
 | (y,v)::r,m=>by
  rw[Zj,YH,YH,dC x r m]
  cases x==y <;> rfl
theorem fZ {a:List (Str × NameKind)}{n:Nat}{b:List (Str × Addr)}{x:Str}{c:Addr}(h:(cellsFrom n a b).lookup x=some c):(cellsFrom n a []).lookup x=some c\/((cellsFrom n a []).lookup x=none/\b.lookup x=some c):=by
 rw[bG,dC] at h;cases e:(cellsFrom n a []).lookup x with
 |some d=>rw[e] at h;exact .inl h
 |none=>rw[e] at h;exact .inr ⟨rfl,h⟩
theorem iu {x:Str}{c:Addr}:∀{a:List (Str × NameKind)}{n:Nat}{b:List (Str × Addr)},(x,c)∈cellsFrom n a b->(x,NameKind.cell)∈a\/(x,c)∈b
 |[],_,_,h=>.inr h
 | (y,k)::r,n,b,h=>by
  unfold cellsFrom at h
  split at h
  ·
   rename_i d
   rcases iu h with q | q
   ·
    exact .inl (h_ _ q)
   ·
    rcases j_.mp q with q | q
    ·
     cases q
     have:k=.cell:=by simpa using d
     subst this
     exact .inl k_
    ·
     exact .inr q
  ·
   rcases iu h with q | q
   ·
    exact .inl (h_ _ q)
   ·
    exact .inr q
theorem FN {M:Model}{A:Around}{E:Value->Shared->Prop}{s:Shared}{scope:Scope}{a:Addr}{b:List (Str × Addr)}{c:Str}{env:Env}{Q:Env->Shared->Prop}
  (g:Q (newEnv scope s.heap.objs.size a (cellsFrom (s.heap.objs.size+1) scope.names b) c none .none (some env) builtinsNs) { s with heap:=pushCells (s.heap.push { cls:=.type "dict",data:=.dict #[]}) scope.names}) :
  wpAny M A (newFunctionEnv scope a b [] c none .none (some env)) Q E s:=by
 simp only[newFunctionEnv,Option.isSome_some,if_true];refine a_ (wpAny_alloc ?_);refine a_ (wpAny_layCells _ (fun name d f=>by cases e:d==NameKind.cell <;> simp [e]) _ _ _ _ ?_);rw[show ({ s with heap:=s.heap.push { cls:=.type "dict",data:=.dict #[]}}:Shared).heap.objs.size=s.heap.objs.size+1 from Zo ..];refine a_ ?_;rw[aac];exact i_ (i_ g)
theorem zG {X:Cx}{g:List (Addr × Obj)}{Z:St}{H:Hp}{s:Shared}{N':List Str}{nt:Nat}{cap:List Nat}{scope:Scope}{w:List (Str × Addr)}{T:List Addr}{h':Heap}{C:Addr}{tk:Nat}{pl:List (Addr × Obj)}
  (S:CompSc X N' nt cap scope) (I:Inv X g Z H s) (L:∀x c,w.lookup x=some c->X.env.cells.lookup x=some c) (D:∀y∈scope.names,y.2=.free->∃c,w.lookup y.1=some c)
  (hf:∀b∈T,jN X g H b) (M:∀b∈T,b<s.heap.objs.size) (l:s.heap.objs.size<C) (hn:h'.Ns C fun _=>none) (G:∀b o,s.heap.get? b=some o->h'.get? b=some o)
  (hp:∀p∈pl,h'.get? p.1=some p.2/\s.heap.objs.size=p.1/\∀v,p.2.data≠.cell v) (A:CellsOk h' (C+1) (cellsFrom (C+1) scope.names [])) :
  Inv (bD X N' scope (cellsFrom (C+1) scope.names w) g s H C T) pl (mj nt cap Z) H { s with heap:=h',toks:=tk}:=by
 have h:∀x c,(cellsFrom (C+1) scope.names w).lookup x=some c->(C+1<=c/\(cellsFrom (C+1) scope.names []).lookup x=some c)\/X.env.cells.lookup x=some c:=fun x c e=>by
  rcases fZ e with q | q
  ·exact .inl ⟨(A.empty x c (mem_of_lookup q)).2,q⟩
  exact .inr (L x c q.2)
 have P:∀x c,X.env.cells.lookup x=some c->c<s.heap.objs.size:=fun x c e=>by obtain⟨v,q⟩:=I.cell x c e;exact q.lt
 have hok:(bD X N' scope (cellsFrom (C+1) scope.names w) g s H C T).Ok:=by
  refine⟨I.ok.mod,S.kind,I.ok.glob,I.ok.blt,Y0 l,fun x y c e1 r=>?_,fun x hx=>?_,fun x c z e=>?_,I.ok.hd,I.ok.frames,.inl rfl,fun b t=>?_,I.bs,L_ I.ok.bsz I.sz,fun b o e t=>?_,fun b t z=>?_,I.stack,I.stkFree⟩
  ·rcases h x c e1 with ⟨V,p1⟩ | V
   ·rcases h y c r with ⟨K,p2⟩ | K
    ·exact name_of_addr A.apart (mem_of_lookup p1) (mem_of_lookup p2)
    exact absurd (N_ (YQ (X5 (P y c K) l)) V) (Ye _)
   rcases h y c r with ⟨K,p2⟩ | K
   ·exact absurd (N_ (YQ (X5 (P x c V) l)) K) (Ye _)
   exact I.ok.inj x y c V K
  ·have hx':(relabel scope X.env).names.lookup x=some .cell\/(relabel scope X.env).names.lookup x=some .free:=hx;have hm:∃k,(x,k)∈(relabel scope X.env).names/\(k=.cell\/k=.free):=by
    rcases hx' with z | z
    ·exact⟨_,mem_of_lookup z,.inl rfl⟩
    exact⟨_,mem_of_lookup z,.inr rfl⟩
   obtain⟨k,hm,G⟩:=hm;obtain⟨⟨n,U⟩,N,e⟩:=y_.mp hm;have E:(if (U==NameKind.free&&X.env.scope.kind==.function&&X.env.kindOf n==some .cell)=true then (n,NameKind.cell) else (n,U))=(x,k):=e;by_cases J:U=.free
   ·subst J;have en:n=x:=by split at E <;> exact X6 Prod.fst E
    subst en;obtain⟨c,Y⟩:=D (n,.free) N rfl;show ∃c,(cellsFrom (C+1) scope.names w).lookup n=some c;rw[bG,dC,Y];cases (cellsFrom (C+1) scope.names []).lookup n with
    |none=>exact⟨c,rfl⟩
    |some d=>exact⟨d,rfl⟩
   have t:(U==NameKind.free)=false:=by simpa using J
   rw[t] at E;simp only[Zm,A_,X8] at E;cases E;rcases G with rfl | rfl
   ·obtain⟨c,Y⟩:=iM (n:=C+1) (S.cells _ N rfl);refine⟨c,?_⟩;show (cellsFrom (C+1) scope.names w).lookup _=some c;rw[bG,dC,Y];rfl
   exact absurd rfl J
  ·have z':scope.names.lookup x=some .cell:=by simpa [bD] using z
   obtain⟨d,ed⟩:=iM (n:=C+1) z';have E:(cellsFrom (C+1) scope.names w).lookup x=some c:=e;rw[bG,dC,ed] at E;cases E;have:=(A.empty x _ (mem_of_lookup ed)).2;show s.heap.objs.size<=_;omega
  ·obtain⟨f0,f1,f2,f3,f4,f5⟩:=hf b t;refine⟨fun z=>absurd (M b t) (aap.mpr (by rw[show b=C from z];exact Y0 l)),fun x c e=>?_⟩;rcases h x c e with ⟨q,_⟩ | q
   ·intro z;rw[z] at q;exact absurd (N_ (YQ (X5 (M b t) l)) q) (Ye _)
   exact f4 x c q
  ·obtain⟨f0,f1,f2,f3,f4,f5⟩:=hf b t;rcases f3 with q | q
   ·exact I.ok.noex b o e q
   exact absurd (x_ (I.ok.bs b o e).1) (aap.mpr q)
  obtain⟨f0,f1,f2,f3,f4,f5⟩:=hf b t;rcases j_.mp (I.stkSub b z) with q | q
  ·exact f1 q
  exact f2 q
 obtain⟨m,hnm,hl⟩:=id I.loc;refine⟨hok,rfl,I.bare,Un.kept G,⟨_,hn,fun i x v e1 r e3=>?_⟩,fun x c e=>?_,I.hok.fresh (Y0 l),fun x c e=>?_,fun p hp'=>?_,I.hok.kept G,?_⟩
 ·-- a name of the block: one that it takes from around
  unfold mj at r;by_cases hi:i<nt
  ·rw[Yp (by simpa using hi),Y_] at r;split at r <;> cases r
  obtain⟨j,rfl⟩:∃j,i=nt+j:=⟨i - nt,by omega⟩;obtain⟨k,ck,hN,f⟩:=S.caps j x e1;rw[Yc (by simp),Yn,Nat.add_sub_cancel_left,z_,ck] at r;have B:(Z[k]?).getD none=some v:=Q_ r;have Q:Z[k]?=some (some v):=by
   cases q:Z[k]? with
   |none=>rw[q] at B;cases B
   |some z=>rw[q] at B;exact X6 some B
  have O:=S.free (x,.free) (mem_of_lookup f) rfl;obtain⟨u,ru,lk⟩:=hl k x v hN Q (.inr O);refine⟨u,ru,.inr ⟨ie f,?_⟩⟩;rcases lk with ⟨kl,_⟩ | ⟨_,c,hc,F⟩
  ·rcases O with z | z <;> (rw[kl] at z;cases z)
  obtain⟨c',R⟩:=D (x,.free) (mem_of_lookup f) rfl;have e:=L x c' R;rw[hc] at e;cases e;obtain⟨o,ho,W⟩:=F;refine⟨c,?_,o,G _ _ ho,W⟩;show (cellsFrom (C+1) scope.names w).lookup x=some c;rw[bG,dC];cases q:(cellsFrom (C+1) scope.names []).lookup x with
  |none=>exact R
  |some d =>
  rcases iu (mem_of_lookup q) with z | z
  ·have:=S.cells _ z rfl;rw[f] at this;cases this
  cases z
 ·rcases h x c e with ⟨_,q⟩ | q
  ·exact⟨none,(A.empty x c (mem_of_lookup q)).1⟩
  obtain⟨v,o,ho,W⟩:=I.cell x c q;exact⟨v,o,G _ _ ho,W⟩
 ·rcases h x c e with ⟨q,_⟩ | q
  ·exact I.hok.fresh (Y0 (N_ (YQ l) q))
  exact I.freeC x c q
 ·rcases B_.mp hp' with z | z
  ·obtain⟨e,n,n1,n2,d⟩:=I.pin p z;refine⟨G _ _ e,n,fun q=>?_,fun q=>?_,d⟩
   ·exact absurd (x_ e) (aap.mpr (by rw[show p.1=C from q];exact Y0 l))
   rcases j_.mp (I.stkSub p.1 q) with q | q
   ·exact n1 q
   exact n2 q
  obtain⟨e,n,d⟩:=hp p z;refine⟨e,I.hok.fresh (by omega),fun q=>?_,fun q=>?_,d⟩
  ·exact absurd (n.trans (show p.1=C from q)) (F_ l)
  have:=I.stkSub p.1 q;rcases j_.mp this with q | q
  ·exact absurd I.lt (aap.mpr (by rw[<- q,n];exact o_ _))
  exact I.nofs (by omega) q
 unfold mj;show _=N'.length;rw[d_,Yn,e_,S.len]
theorem HOk.track {P:Program}{w:World}{H:Hp}{h h':Heap}{a C:Addr}{o:HO}(x:HOk P w H h) (g:H a=none) (l:H C=none) (k:∀b u,b≠C->h.get? b=some u->h'.get? b=some u) (d:ObjOk P w (upd H a o) h' a o):HOk P w (upd H a o) h':=fun b u e=>by
 by_cases j:b=a
 ·subst j;rw[cB] at e;cases e;exact d
 rw[aV j] at e;have i:∀c z,H c=some z->c≠C:=fun c z q r=>by rw[r,l] at q;cases q
 refine (x b u e).stay (fun c v f q=>k c v ?_ q) (fun c q=>by rw[aV (bW q g)];exact q) fun c xs q=>by rw[aV (bW q g)];exact q
 rcases f with rfl | f
 ·exact i c u e
 exact i c _ f
theorem qw {X:Cx}{a:List (Addr × Obj)}{Z:St}{f:Hp}{s₂:Shared}{N':List Str}{nt:Nat}{cap:List Nat}{scope:Scope}{L:List (Str × Addr)}{elt tg iter:Expr}{ifs:List Expr}{pos:Pos}{g:TG}{tt:TT}{te:TE}
  {it:Addr} {l:List Addr} {tn:Nat->Heap->Prop} {J:It} {fin:List V->Hp->Prop} {E:Value->Shared->Prop} {RR:Value->Addr->Result->Shared->Prop}
  (hc:X.calm=true) (S:CompSc X N' nt cap scope) (hcl:∀x c,L.lookup x=some c->X.env.cells.lookup x=some c) (hclh:∀y∈scope.names,y.2=.free->∃c,L.lookup y.1=some c)
  (hX:∀L a s H C l,PG (bD X N' scope L a s H C l) tg g/\PIf (bD X N' scope L a s H C l) ifs tt/\PE (bD X N' scope L a s H C l) elt te)
  (I:Inv X a Z f s₂) (T:Turn X.prog X.w X.K tg J l it tn) (st:tn 0 s₂.heap) (hf:∀b∈l,jN X a f b) (hw:vN J g tt te fin (mj nt cap Z) f)
  (hRR:∀(D C:Addr) (s₄:Shared) (m:Str->Option Value) (ys:List V) (U:Hp),s₄.heap.Ns C m->s₂.heap.objs.size<=D->s₂.heap.objs.size<=C->C≠D->U D=none->U C=none->ys.length<=sizeLine->fin ys U ->
   (∀h',(∀b o,b≠C->s₄.heap.get? b=some o->h'.get? b=some o)->Inv X a Z (upd U D (.lst ys)) { s₄ with heap:=h'})->RR (.ref D) C (.ok .next) s₄) :
  wpAny (model X.prog X.w) X.A (newList []) (fun acc G=>wpAny (model X.prog X.w) X.A (newFunctionEnv scope X.env.globals L [] X.env.qual none .none (some X.env)) (fun cenv s₄ =>
   codeAny (model X.prog X.w) X.A (.compStart (.ListComp elt [⟨tg,iter,ifs,0⟩] scope pos) 0 (.ref it) acc { cenv with scope:=relabel scope X.env}) (RR acc cenv.locals) s₄) E G) E s₂:=by
 refine Yt (FN ?_);dsimp only;generalize hH2:s₂.heap.push { cls:=.type "list",dict:=none,data:=.seq ([]:List Value).toArray}=B;generalize hD:s₂.heap.objs.size=D;have hB:B.objs.size=D+1:=by rw[<- hH2,Zo,hD]
 have F:CellsOk (pushCells (B.push { cls:=.type "dict",data:=.dict #[]}) scope.names) (B.objs.size+1) (cellsFrom (B.objs.size+1) scope.names []):=by have:=cellsFrom_ok scope.names (B.push { cls:=.type "dict",data:=.dict #[]}) (B.objs.size+1) [] ⟨fun _ _ hm=>(nomatch hm),List.Pairwise.nil⟩ (by rw[Zo];exact o_ _);rw[Zo] at this;exact this
 have t:(pushCells (B.push { cls:=.type "dict",data:=.dict #[]}) scope.names).Ns B.objs.size fun _=>none:=(Heap.Ns.new B (.type "dict")).keeps (pushCells_keeps _ _);have M:∀b o,B.get? b=some o->(pushCells (B.push { cls:=.type "dict",data:=.dict #[]}) scope.names).get? b=some o:=fun b o e=>pushCells_keeps _ _ b o (b_ _ e);generalize hCe:B.objs.size=C at t F ⊢;generalize pushCells (B.push { cls:=.type "dict",data:=.dict #[]}) scope.names=O at t F M ⊢;have hCD:C=D+1:=hCe.symm.trans hB;have hDC:D≠C:=by rw[hCD];exact F_ (YF _)
 have P:s₂.heap.objs.size<C:=by rw[hD,hCD];exact YF _
 have below:∀b o,s₂.heap.get? b=some o->b≠C/\b≠D:=fun b o e=>by have:=x_ e;rw[hD] at this;exact⟨by rw[hCD];exact F_ (YQ this),F_ this⟩
 have old:∀b o,s₂.heap.get? b=some o->O.get? b=some o:=fun b o e=>M b o (hH2▸b_ _ e);have hacc:O.get? D=some { cls:=.type "list",data:=.seq ([]:List Value).toArray 0}:=M _ _ (hH2▸hD▸v_ _ rfl);have N:tn 0 O:=T.keep _ _ _ st fun b j o e=>old b o e;have hfl:∀b∈l,b<s₂.heap.objs.size:=fun b j=>by obtain⟨o,e,_⟩:=T.obj _ _ st b j;exact x_ e
 obtain⟨W,⟨m0,w0⟩,turn⟩:=hw;obtain⟨hg,hi,he⟩:=hX (cellsFrom (C+1) scope.names L) a s₂ f C l;have stat:∀{U:Hp} {k:Nat} {h:List Value},(∀b∈l,U b=none)->∀b∈l,jN (bD X N' scope (cellsFrom (C+1) scope.names L) a s₂ f C l) [(D,{ cls:=.type "list",data:=.seq h.toArray k})] U b:=fun {U k h} hn b j=>by
  obtain⟨f0,f1,f2,f3,f4,f5⟩:=hf b j;have Y:=hfl b j;refine⟨hn b j,fun z=>?_,fun z=>?_,.inl j,fun x c e=>?_,fun p hp=>?_⟩
  ·rw[show b=C from z] at Y;exact absurd Y (aap.mpr (Y0 P))
  ·rcases j_.mp (I.stkSub b z) with q | q
   ·exact f1 q
   exact f2 q
  ·rcases fZ e with q | q
   ·have:=(F.empty x c (mem_of_lookup q)).2;intro z;rw[z] at this;exact absurd (N_ (YQ (X5 Y P)) this) (Ye _)
   exact f4 x c (hcl x c q.2)
  rcases B_.mp hp with z | z
  ·exact f5 p z
  rw[m_.mp z];intro e;rw[<- (show D=b from e),hD] at Y;exact Ye _ Y
 have loop:∀G:Shared,G={ s₂ with heap:=O}->codeAny (model X.prog X.w) X.A (.compLoop (.ListComp elt [⟨tg,iter,ifs,0⟩] scope pos) 0 (.ref it) (.ref D) (compEnvC scope (cellsFrom (C+1) scope.names L) C X.env)) (RR (.ref D) C) G:=by
  rintro G rfl;refine oF (fun n s'=>∃i ys h k Z' U,Inv (bD X N' scope (cellsFrom (C+1) scope.names L) a s₂ f C l) [(D,{ cls:=.type "list",data:=.seq h.toArray k})] Z' U s'/\Vals ys h/\tn i s'.heap/\(∀b∈l,U b=none)/\W i n ys Z' U/\ys.length<=sizeLine) ?_ m0
   ⟨0,[],[],0,mj nt cap Z,f,zG (tk:=s₂.toks) S I hcl hclh hf hfl P t old (fun p hp=>?_) F,.nil,N,fun b j=>(hf b j).1,w0,X3 _⟩
  ·rintro n s3 ⟨i,ys,h,k,Z3,H3,I3,rv,st3,fr3,w3,hz⟩;have pD:=I3.pin (D,{ cls:=.type "list",data:=.seq h.toArray k}) (R_ _ (m_.mpr rfl));rcases turn i n ys Z3 H3 w3 with ⟨stop,hz',hfin⟩ | ⟨go,step⟩
   ·refine thn (T.done (bD X N' scope (cellsFrom (C+1) scope.names L) a s₂ f C l) rfl rfl rfl hc i _ s3 Z3 H3 (fun _ _=>False) I3 (stat fr3) st3 stop) fun r s4 ⟨hr,I4⟩=>?_;subst hr;obtain⟨m4,hn4,_⟩:=I4.loc;have pD4:=I4.pin (D,{ cls:=.type "list",data:=.seq h.toArray k}) (R_ _ (m_.mpr rfl));refine hRR D C s4 m4 ys H3 hn4 (by rw[hD];exact o_ _) (Y0 P) (Ne.symm hDC) pD4.2.1 I4.free hz' hfin fun h' k'=>?_;have nD:∀b u,H3 b=some u->b≠D:=fun b u e z=>by rw[z,pD4.2.1] at e;cases e
    have nDs:∀b o,s₂.heap.get? b=some o->b≠D/\b≠C:=fun b o e=>⟨(below b o e).2,(below b o e).1⟩;have B4:=I4.base;refine I.call' (s':={ s4 with heap:=h'}) (ch:=l) I4.os ⟨fun b o e n j hx=>k' b o (nDs b o e).2 (B4.keep b o e n j hx),fun b o e n j hx=>?_,fun b o e n hx=>?_,fun b o e hx=>?_,fun b xs e=>?_,fun b o u e=>?_,fun b ps e=>?_⟩ ?_ I4.bare fun b j=>?_
    ·obtain⟨sl,q⟩:=B4.slot b o e n j hx;exact⟨sl,k' b _ (nDs b o e).2 q⟩
    ·rw[aV (nDs b o e).1];exact B4.free b o e n hx
    ·obtain⟨o',q⟩:=B4.there b o e hx;exact⟨o',k' b _ (nDs b o e).2 q⟩
    ·have q:=B4.tups b xs e;rw[aV (nD _ _ q)];exact q
    ·have q:=B4.frzs b o u e;rw[aV (nD _ _ q)];exact q
    ·obtain⟨more,q⟩:=B4.tbls b ps e;exact⟨more,by rw[aV (nD _ _ q)];exact q⟩
    ·exact I4.hok.track pD4.2.1 I4.free k' ⟨hz',h,k,rv,k' D _ hDC pD4.1⟩
    obtain⟨f0,f1,f2,f3,f4,f5⟩:=hf b j;exact⟨f3,f1,f4,f5⟩
   refine thn (T.item (bD X N' scope (cellsFrom (C+1) scope.names L) a s₂ f C l) rfl rfl rfl hc i _ s3 Z3 H3 (fun _ _=>False) I3 (stat fr3) st3 go) fun r s4 ⟨u,hr,h4⟩=>?_;subst hr;refine thn h4 fun _ s5 ⟨x,H5,I5,r5,y5,st5,fr5⟩=>?_;have I5':=I5.pinned (stat fr5) (T.obj _ _ st5);refine thn (hg _ s5 Z3 H5 x u _ I5' r5 (step x H5 y5)) fun _ s6 ⟨Z6,H6,I6,q6⟩=>?_;refine thn (hi _ s6 Z6 H6 _ I6 q6) fun ok s7 ⟨H7,I7,q7⟩=>?_;have Q:∀{Z8:St} {H8:Hp} {s8:Shared},Inv (bD X N' scope (cellsFrom (C+1) scope.names L) a s₂ f C l) ([(D,{ cls:=.type "list",data:=.seq h.toArray k})]++j6 l s5.heap) Z8 H8 s8->tn (i+1) s8.heap/\∀b∈l,H8 b=none:=fun {Z8 H8 s8} I8 =>
    ⟨T.keep _ _ _ st5 fun b j o e=>(I8.pin (b,o) (R_ _ (R_ _ (fW j e)))).1,fun b j=>by
     obtain⟨o,e,d⟩:=T.obj _ _ st5 b j
     exact (I8.pin (b,o) (R_ _ (R_ _ (fW j e)))).2.1⟩
   cases ok with
   |false=>rw[if_neg t_] at q7 ⊢;obtain⟨m',hm,w7⟩:=q7;exact⟨m',hm,i+1,ys,h,k,Z6,H7,I7.unpinned,rv,(Q I7).1,(Q I7).2,w7,hz⟩
   |true =>
   rw[if_pos rfl] at q7 ⊢;refine thn (he _ s7 Z6 H7 _ I7 q7) fun uy s8 ⟨y,H8,I8,ry,hz8,m',hm,w8⟩=>?_;have R:=I8.pin (D,{ cls:=.type "list",data:=.seq h.toArray k}) (R_ _ (Yk _ (m_.mpr rfl)));have hl:=rv.length;refine jP R.1 (by omega) fun h' k' e' kk=>?_;have I9:Inv (bD X N' scope (cellsFrom (C+1) scope.names L) a s₂ f C l) [] Z6 H8 { s8 with heap:=h'}:=by
    refine Inv.turned (t':=s8.toks) (it:=D) (I8.pins_of (pins':=[]) (fun p hp=>nomatch hp)) (fun b o j e=>kk b o j e) R.2.1 R.2.2.1 (.inr (by show s₂.heap.objs.size<=D;rw[hD];exact o_ _)) (fun x c e z=>?_) (fun p hp z=>?_)
    ·rcases fZ e with q | q
     ·have:=(F.empty x c (mem_of_lookup q)).2;rw[z,hCD] at this;omega
     obtain⟨v,q⟩:=I.cell x c (hcl x c q.2);have:=q.lt;rw[z,hD] at this;exact Ye _ this
    rw[Yd] at hp;have:=x_ (I.pin p hp).1;rw[z,hD] at this;exact Ye _ this
   refine⟨m',hm,i+1,ys++[y],h++[uy],k',Z6,H8,I9.pins_of fun p hp=>?_,rv.append (.cons ry .nil),?_,(Q I8).2,w8,?_⟩
   ·rw[m_.mp hp];exact⟨e',R.2.1,R.2.2.1,R.2.2.2.1,fun v z=>by cases z⟩
   ·refine T.keep _ _ _ (Q I8).1 fun b j o e=>kk b o (fun z=>?_) e;have:=hfl b j;rw[z,hD] at this;exact Ye _ this
   rw[d_,J_];omega
  rw[m_.mp hp];exact⟨hacc,hD,fun v z=>by cases z⟩
 exact codeAny_compStart_list (loop _ rfl) (T.self _ 0 _ _ _ N (loop _ rfl))
def SJ (c:TI) (g:TG) (tt:TT) (te:TE) (nt:Nat) (cap:List Nat):TE:=fun Z H Q=>c Z H fun J b=>vN J g tt te (fun ys a=>∀p,a p=none->Q (.ref p) (upd a p (.lst ys))) (mj nt cap Z) b
theorem FP {X:Cx}{N':List Str}{nt:Nat}{cap:List Nat}{scope:Scope}{f z c:Expr}{l:List Expr}{r:Pos}{E:TI}{g:TG}{tt:TT}{te:TE}(O:X.calm=true) (S:CompSc X N' nt cap scope) (G:PI X z c E)
  (K:∀n a s H C p,PG (bD X N' scope n a s H C p) z g/\PIf (bD X N' scope n a s H C p) l tt/\PE (bD X N' scope n a s H C p) f te)
  (F:∀x,foldedSetIterable c X.env x=pure x:=by intro _;rfl):PE X (.ListComp f [⟨z,c,l,0⟩] scope r) (SJ E g tt te nt cap):=by
 intro a s Z H Q I h;rw[eval_ListComp];obtain⟨n,d,q,i⟩:=km (scope:=scope) (env:=X.env) fun y L R=>I.ok.has y.1 (S.free y L R);refine wpAny_comprehension_free (use:=none) rfl F d S.kind S.names (thn (G a s Z H _ I h) fun v s1 P=>thn P fun itv s2 V=>?_);obtain⟨it,p,tn,J,H2,rfl,I2,T,t,W,Y⟩:=V;refine qw (RR:=fun B C=>compPost (model X.prog X.w) X.A X.xe none (EP X a Z Q) B C) O S q i K I2 T t W Y fun D C s4 m ys H' N hD hC hDC U nC hz j k=>?_;refine⟨m,N,fun h' u=>?_⟩;exact⟨.ref D,_,k h' fun b o M e=>u.extBut b o M e,rfl,j D U⟩
def zH (c:TI) (g:TG) (tt:TT) (te:TE) (nt:Nat) (cap:List Nat) (i:Nat):TS:=fun D Z H=>c Z H fun J b=>vN J g tt te (fun ys a=>∀p,a p=none->D.nx (Z.set i (some (.ref p))) (upd a p (.lst ys))) (mj nt cap Z) b
theorem FQ {X:Cx}{N':List Str}{nt:Nat}{cap:List Nat}{scope:Scope}{l K f:Expr}{n:List Expr}{t j r:Pos}{wi:TI}{g:TG}{tt:TT}{te:TE}{i:Nat}{x:Str}(hc:X.calm=true) (hN:X.N.Nodup) (hi':X.N[i]?=some x) (hx:Loc X.env.scope x) (S:CompSc X N' nt cap scope) (hi:PI X K f wi)
  (hX:∀O d s H C P,PG (bD X N' scope O d s H C P) K g/\PIf (bD X N' scope O d s H C P) n tt/\PE (bD X N' scope O d s H C P) l te)
  (U:swapsWith (.ListComp l [⟨K,f,n,0⟩] scope t) (some (.Name x j)) r.line X.env=pure true:=by rfl)
  (hs:∀x,foldedSetIterable f X.env x=pure x:=by intro _;rfl) (Y:X.fn x=true\/X.env.scope.names.lookup x=some .local:=by first | exact .inl rfl | exact .inr rfl | assumption) :
  PS X (.Assign [.Name x j] (.ListComp l [⟨K,f,n,0⟩] scope t) r) (zH wi g tt te nt cap i):=by
 intro d s Z H Dn I h;rw[exec_Assign_Name_used _ _ _ _ U];obtain⟨O,u,R,E⟩:=km (scope:=scope) (env:=X.env) fun y hy Y=>I.ok.has y.1 (S.free y hy Y);refine a_ (wpAny_standAt (a_ ?_));show wpAny _ X.A (do let _ <- comprehension (.ListComp l [⟨K,f,n,0⟩] scope t) scope X.env _ (newList []) false (eval f X.env) (some (assign (.Name x j) X.env))) _ _ s;refine a_ (Y5 (wpAny_comprehension_free (use:=some (assign (.Name x j) X.env)) (Q:=fun _ s'=>SP X d Dn .next s') rfl hs u S.kind S.names
  (thn (hi d s Z H _ I h) fun v s1 h1=>thn h1 fun itv s2 h2=>?_)) (fun _ s' hq=>i_ (i_ hq)) fun _ _ e=>e)
 obtain⟨it,P,tn,J,H2,rfl,G,T,V,f2,hw⟩:=h2;refine qw (RR:=fun acc C=>compPost (model X.prog X.w) X.A X.xe (some (assign (.Name x j) X.env)) (fun _ s'=>SP X d Dn .next s') acc C) hc S R E hX G T V f2 hw fun D C s4 m ys H' hn hD M hDC nD nC hz B k=>?_;show wpAny _ X.A (assign (.Name x j) X.env (.ref D)) _ _ s4;have I4:=k s4.heap fun b o _ e=>e;have L:C≠X.env.locals:=fun z=>by have:=G.lt;rw[<- z] at this;exact absurd this (aap.mpr M)
 have F:∀y c,X.env.cells.lookup y=some c->c≠C:=fun y c e z=>by obtain⟨v,q⟩:=G.cell y c e;have:=q.lt;rw[z] at this;exact absurd this (aap.mpr M)
 refine wpAny_assign_Name (mL I4 hN hi' hx (show RelV (.ref D) (.ref D) from rfl) (fun s5 I5 ⟨a,sb,W⟩=>?_) Y);have nCa:C≠a:=by
  rcases W with rfl | W
  ·exact L
  exact fun z=>F x a W z.symm
 refine⟨m,hn.sameBut sb nCa,fun h' hs'=>⟨_,_,Inv.turned (t':=s5.toks) (it:=C) I5 (fun b o hb e=>hs'.extBut b o hb e) (by rw[aV hDC];exact nC) L (.inr (L_ G.sz M)) F (fun p hp z=>?_),B D nD⟩⟩;have:=x_ (G.pin p hp).1;rw[z] at this;exact absurd this (aap.mpr M)
def exP (e C:Addr) (d:Option Addr) (b:Bool) (h:Heap):Prop:=∃vs a,h.get? e=some ⟨.ref C,d,.fields vs,a⟩/\(b=true->vs[1]?=some .none)
def exO (e C:Addr) (d:Option Addr) (a:Bool):HO:=.ext (exP e C d a)
def dxP (c:Addr) (b:List (Str × V)) (h:Heap):Prop:=∃a,h.Ns1 c a/\(∀f,RelO (b.lookup f) (a f))/\PySem.Within a (b.map (·.1))
def dxO (b:Addr) (a:List (Str × V)):HO:=.ext (dxP b a)
section
variable {P:Program}{w:World}{H:Hp}{h:Heap}{e C dx:Addr}{d:Option Addr}{rd:Bool}{fs:List (Str × V)}
theorem exP.at {c f:Heap}(x:exP e C d rd c) (k:∀o,c.get? e=some o->f.get? e=some o):exP e C d rd f:=let ⟨vs,sl,a,b⟩:=x;⟨vs,sl,k _ a,b⟩
theorem dxP.at {c d:Heap}(x:dxP dx fs c) (k:∀o,c.get? dx=some o->d.get? dx=some o):dxP dx fs d:=let ⟨mA,a,b⟩:=x;⟨mA,a.at k,b⟩
theorem exO.ok (x:exP e C d rd h):ObjOk P w H h e (exO e C d rd):=⟨x,let ⟨_,_,a,_⟩:=x;⟨_,a⟩,fun _ _ y k=>y.at k⟩
theorem dxO.ok (x:dxP dx fs h):ObjOk P w H h dx (dxO dx fs):=⟨x,let ⟨_,⟨_,_,_,a,_⟩,_⟩:=x;⟨_,a⟩,fun _ _ y k=>y.at k⟩
theorem exO.of (x:HOk P w H h) (q:H e=some (exO e C d rd)):exP e C d rd h:=(x e _ q).1
theorem dxO.of (x:HOk P w H h) (q:H dx=some (dxO dx fs)):dxP dx fs h:=(x dx _ q).1
end
end L2
set_option maxHeartbeats 1000000
namespace L3
open L2
inductive T where
 |non | bl (b:Bool) | int (i:Int) | str (x:Str) | tup (ts:List T) | ref (a:Addr) | ty (n:String)
mutual
def Rep (K:Frag) (H:Hp):T->V->Prop
 |.non,v=>v=.non
 |.bl b,v=>v=.bl b
 |.int i,v=>v=.int i
 |.str x,v=>v=.str x
 |.tup ts,v=>∃a xs,v=.ref a/\SqT K H a xs/\Reps K H ts xs
 |.ref a,v=>v=.ref a
 |.ty n,v=>v=.ty n
def Reps (K:Frag) (H:Hp):List T->List V->Prop
 |[],xs=>xs=[]
 |t::ts,xs=>∃x r,xs=x::r/\Rep K H t x/\Reps K H ts r
end
def TupLe (K:Frag) (H b:Hp):Prop:=∀a xs,SqT K H a xs->SqT K b a xs
theorem TupLe.refl {K:Frag}{H:Hp}:TupLe K H H:=fun _ _ h=>h
theorem TupLe.trans {K:Frag}{H e d:Hp}(a:TupLe K H e) (b:TupLe K e d):TupLe K H d:=fun c xs h=>b c xs (a c xs h)
mutual
theorem Rep.mono {K:Frag}{H b:Hp}(c:TupLe K H b):∀{t:T}{v:V},Rep K H t v->Rep K b t v
 |.non,_,h=>by simp only[Rep] at h ⊢;exact h
 |.bl _,_,h=>by simp only[Rep] at h ⊢;exact h
 |.int _,_,h=>by simp only[Rep] at h ⊢;exact h
 |.str _,_,h=>by simp only[Rep] at h ⊢;exact h
 |.ref _,_,h=>by simp only[Rep] at h ⊢;exact h
 |.ty _,_,h=>by simp only[Rep] at h ⊢;exact h
 |.tup ts,_,h=>by
  simp only[Rep] at h ⊢
  obtain⟨a,xs,e,s,r⟩:=h
  exact⟨a,xs,e,c a xs s,Reps.mono c r⟩
theorem Reps.mono {K:Frag}{H c:Hp}(d:TupLe K H c):∀{ts:List T}{xs:List V},Reps K H ts xs->Reps K c ts xs
 |[],_,h=>by simp only[Reps] at h ⊢;exact h
 |t::ts,_,h=>by
  simp only[Reps] at h ⊢
  obtain⟨x,r,e,a,b⟩:=h
  exact⟨x,r,e,Rep.mono d a,Reps.mono d b⟩
end
section
variable {K:Frag}{H:Hp}
theorem Reps.nil:Reps K H [] []:=by simp only[Reps]
theorem Reps.cons {t:T}{v:V}{ts:List T}{vs:List V}(a:Rep K H t v) (b:Reps K H ts vs):Reps K H (t::ts) (v::vs):=by simp only[Reps];exact⟨v,vs,rfl,a,b⟩
theorem Reps.inv {t:T}{ts:List T}{vs:List V}(h:Reps K H (t::ts) vs):∃v r,vs=v::r/\Rep K H t v/\Reps K H ts r:=by simp only[Reps] at h;exact h
theorem Reps.inv0 {vs:List V}(h:Reps K H [] vs):vs=[]:=by simp only[Reps] at h;exact h
theorem Reps.length:∀{ts:List T}{vs:List V},Reps K H ts vs->ts.length=vs.length
 |[],_,h=>by rw[h.inv0];rfl
 |t::ts,_,h=>by obtain⟨v,r,rfl,_,b⟩:=h.inv;simp [Reps.length b]
theorem Reps.get:∀{ts:List T}{vs:List V}{i:Nat}{t:T},Reps K H ts vs->ts[i]?=some t->∃v,vs[i]?=some v/\Rep K H t v
 |[],_,_,_,_,e=>by simp at e
 |a::ts,_,0,t,h,e=>by obtain⟨v,r,rfl,q,_⟩:=h.inv;simp at e;subst e;exact⟨v,rfl,q⟩
 |a::ts,_,i+1,t,h,e=>by obtain⟨v,r,rfl,_,b⟩:=h.inv;simpa using Reps.get b (by simpa using e)
theorem Reps.get':∀{ts:List T}{vs:List V}{i:Nat}{v:V},Reps K H ts vs->vs[i]?=some v->∃t,ts[i]?=some t/\Rep K H t v
 |[],_,_,_,h,e=>by rw[h.inv0] at e;simp at e
 |a::ts,_,0,v,h,e=>by obtain⟨x,r,rfl,q,_⟩:=h.inv;simp at e;subst e;exact⟨a,rfl,q⟩
 |a::ts,_,i+1,v,h,e=>by obtain⟨x,r,rfl,_,b⟩:=h.inv;simpa using Reps.get' b (by simpa using e)
theorem Reps.append:∀{ts us:List T}{xs ys:List V},Reps K H ts xs->Reps K H us ys->Reps K H (ts++us) (xs++ys)
 |[],_,_,_,h,h'=>by rw[h.inv0];exact h'
 |t::ts,_,_,_,h,h'=>by obtain⟨v,r,rfl,a,b⟩:=h.inv;exact .cons a (Reps.append b h')
theorem Reps.take:∀{ts:List T}{xs:List V}(n:Nat),Reps K H ts xs->Reps K H (ts.take n) (xs.take n)
 |[],_,n,h=>by rw[h.inv0];simp only[List.take_nil];exact .nil
 |t::ts,_,0,h=>.nil
 |t::ts,_,n+1,h=>by obtain⟨v,r,rfl,a,b⟩:=h.inv;exact .cons a (Reps.take n b)
theorem Reps.drop:∀{ts:List T}{xs:List V}(n:Nat),Reps K H ts xs->Reps K H (ts.drop n) (xs.drop n)
 |[],_,n,h=>by rw[h.inv0];simp only[List.drop_nil];exact .nil
 |t::ts,_,0,h=>h
 |t::ts,_,n+1,h=>by obtain⟨v,r,rfl,a,b⟩:=h.inv;exact Reps.drop n b
theorem Reps.set:∀{ts:List T}{xs:List V}{t:T}{v:V}(n:Nat),Reps K H ts xs->Rep K H t v->Reps K H (ts.set n t) (xs.set n v)
 |[],_,_,_,n,h,r=>by rw[h.inv0];exact .nil
 |t::ts,_,_,_,0,h,q=>by obtain⟨v,r,rfl,a,b⟩:=h.inv;exact .cons q b
 |t::ts,_,_,_,n+1,h,q=>by obtain⟨v,r,rfl,a,b⟩:=h.inv;exact .cons a (Reps.set n b q)
theorem Reps.reverse {ts:List T}{xs:List V}(h:Reps K H ts xs):Reps K H ts.reverse xs.reverse:=by
 induction ts generalizing xs with
 |nil=>rw[h.inv0];exact .nil
 |cons t ts c=>obtain⟨v,r,rfl,a,b⟩:=h.inv;simp only[List.reverse_cons];exact (c b).append (.cons a .nil)
theorem Reps.eraseIdx:∀{ts:List T}{xs:List V}(n:Nat),Reps K H ts xs->Reps K H (ts.eraseIdx n) (xs.eraseIdx n)
 |[],_,n,h=>by rw[h.inv0];exact .nil
 |t::ts,_,0,h=>by obtain⟨v,r,rfl,a,b⟩:=h.inv;exact b
 |t::ts,_,n+1,h=>by obtain⟨v,r,rfl,a,b⟩:=h.inv;exact .cons a (Reps.eraseIdx n b)
theorem Rep.non {v:V}(h:Rep K H .non v):v=.non:=by simp only[Rep] at h;exact h
theorem Rep.bl {b:Bool}{v:V}(h:Rep K H (.bl b) v):v=.bl b:=by simp only[Rep] at h;exact h
theorem Rep.int {i:Int}{v:V}(h:Rep K H (.int i) v):v=.int i:=by simp only[Rep] at h;exact h
theorem Rep.str {x:Str}{v:V}(h:Rep K H (.str x) v):v=.str x:=by simp only[Rep] at h;exact h
theorem Rep.ref {a:Addr}{v:V}(h:Rep K H (.ref a) v):v=.ref a:=by simp only[Rep] at h;exact h
theorem Rep.ty {n:String}{v:V}(h:Rep K H (.ty n) v):v=.ty n:=by simp only[Rep] at h;exact h
theorem Rep.tup {ts:List T}{v:V}(h:Rep K H (.tup ts) v):∃a xs,v=.ref a/\SqT K H a xs/\Reps K H ts xs:=by simp only[Rep] at h;exact h
theorem Rep.ofNon:Rep K H .non .non:=by simp only[Rep]
theorem Rep.ofBl {b:Bool}:Rep K H (.bl b) (.bl b):=by simp only[Rep]
theorem Rep.ofInt {i:Int}:Rep K H (.int i) (.int i):=by simp only[Rep]
theorem Rep.ofStr {x:Str}:Rep K H (.str x) (.str x):=by simp only[Rep]
theorem Rep.ofRef {a:Addr}:Rep K H (.ref a) (.ref a):=by simp only[Rep]
theorem Rep.ofTy {n:String}:Rep K H (.ty n) (.ty n):=by simp only[Rep]
theorem Rep.ofTup {ts:List T}{a:Addr}{xs:List V}(h:SqT K H a xs) (r:Reps K H ts xs):Rep K H (.tup ts) (.ref a):=by simp only[Rep];exact⟨a,xs,rfl,h,r⟩
end
inductive O3 where
 |lst (ts:List T) | rol (ts:List T) | dct (kvs:List (Str × T)) | dcp (kvs:List (List Key × T))
 |exc (C dx:Addr) | xdt (fs:List (Str × T))
 |dci (kvs:List (Int × T)) | dif (o:Obj) (kvs:List (Int × T)) | ins (C:Addr) (fs:List (Str × T)) | dcn (w:World) (kvs:List (NK × T))
abbrev Hp3:=Addr->Option O3
def up3 (H:Hp3) (a:Addr) (o:O3):Hp3:=fun b=>if b=a then some o else H b
theorem aq {H:Hp3}{a:Addr}{o:O3}:up3 H a o a=some o:=by unfold up3;rw[if_pos rfl]
theorem aD {H:Hp3}{a b:Addr}{o:O3}(h:b≠a):up3 H a o b=H b:=by unfold up3;rw[if_neg h]
theorem oG {H:Hp3}{a:Addr}{o u:O3}:up3 (up3 H a o) a u=up3 H a u:=by funext b;unfold up3;split <;> rfl
def RepD (K:Frag) (H:Hp):List (Str × T)->List (Key × V)->Prop:=Paired fun (p:Str × T) (q:Key × V)=>q.1=Sum.inr p.1/\Rep K H p.2 q.2
def RepP (K:Frag) (H:Hp):List (List Key × T)->List (List Key × V)->Prop:=Paired fun (p:List Key × T) (q:List Key × V)=>q.1=p.1/\Rep K H p.2 q.2
def RepF (K:Frag) (H:Hp):List (Str × T)->List (Str × V)->Prop:=Paired fun (p:Str × T) (q:Str × V)=>q.1=p.1/\Rep K H p.2 q.2
def RepI (K:Frag) (H:Hp):List (Int × T)->List (Key × V)->Prop:=Paired fun (p:Int × T) (q:Key × V)=>q.1=Sum.inl p.1/\Rep K H p.2 q.2
def RepN (K:Frag) (H:Hp):List (NK × T)->List (NK × Addr × V)->Prop:=Paired fun (p:NK × T) (q:NK × Addr × V)=>q.1=p.1/\NKt K H q.1 q.2.1/\Rep K H p.2 q.2.2
def RepO (K:Frag) (H:Hp) (a:Addr):O3->Prop
 |.lst ts=>∃xs,H a=some (.lst xs)/\Reps K H ts xs
 |.rol ts=>∃xs,Rd H a (.lst xs)/\Reps K H ts xs
 |.dct kvs=>∃vs,H a=some (.dK vs)/\RepD K H kvs vs
 |.dcp kvs=>∃vs,H a=some (.dT vs)/\RepP K H kvs vs
 |.exc C c=>H a=some (exO a C (some c) false)
 |.xdt b=>∃vs,H a=some (dxO a vs)/\RepF K H b vs
 |.dci kvs=>∃vs,H a=some (.dK vs)/\RepI K H kvs vs
 |.dif o kvs=>∃vs,H a=some (.frz o (.dK vs))/\RepI K H kvs vs
 |.ins C b=>∃c vs,H a=some (.ins C c vs)/\RepF K H b vs
 |.dcn w kvs=>∃ks,H a=some (dnO w a ks)/\RepN K H kvs ks
def SimH (K:Frag) (H3:Hp3) (H:Hp):Prop:=∀a o,H3 a=some o->RepO K H a o
abbrev St3:=List (Option T)
structure SimS (K:Frag) (H:Hp) (Z3:St3) (Z:L2.St):Prop where
 len:Z3.length=Z.length
 at':∀(i:Nat) (t:T),Z3[i]?=some (some t)->∃v,Z[i]?=some (some v)/\Rep K H t v
section
variable {K:Frag}{H H':Hp}{H3:Hp3}{Z3:St3}{Z:L2.St}
theorem SimS.mono (s:SimS K H Z3 Z) (a:TupLe K H H'):SimS K H' Z3 Z:=⟨s.len,fun i t e=>let ⟨v,e',r⟩:=s.at' i t e;⟨v,e',r.mono a⟩⟩
theorem SimS.set (s:SimS K H Z3 Z) {i:Nat}{t:T}{v:V}(r:Rep K H t v):SimS K H (Z3.set i (some t)) (Z.set i (some v)):=by
 refine⟨by simp [s.len],fun j u e=>?_⟩;by_cases b:i=j
 ·subst b;by_cases a:i<Z3.length
  ·rw[Zf a] at e;have c:t=u:=Q_ (Q_ e);subst c;exact⟨v,by rw[Zf (by rw[<- s.len];exact a)],r⟩
  rw[V_ (by simpa using a)] at e;cases e
 rw[ZC b] at e;rw[ZC b];exact s.at' j u e
theorem RepD.mono {kvs:List (Str × T)}{vs:List (Key × V)}(h:RepD K H kvs vs) (c:TupLe K H H'):RepD K H' kvs vs:=Paired.mapP h fun _ _ ⟨a,b⟩=>⟨a,b.mono c⟩
theorem RepF.mono {kvs:List (Str × T)}{vs:List (Str × V)}(h:RepF K H kvs vs) (c:TupLe K H H'):RepF K H' kvs vs:=Paired.mapP h fun _ _ ⟨a,b⟩=>⟨a,b.mono c⟩
theorem RepI.mono {kvs:List (Int × T)}{vs:List (Key × V)}(h:RepI K H kvs vs) (c:TupLe K H H'):RepI K H' kvs vs:=Paired.mapP h fun _ _ ⟨a,b⟩=>⟨a,b.mono c⟩
theorem RepP.mono {kvs:List (List Key × T)}{vs:List (List Key × V)}(h:RepP K H kvs vs) (c:TupLe K H H'):RepP K H' kvs vs:=Paired.mapP h fun _ _ ⟨a,b⟩=>⟨a,b.mono c⟩
theorem NKt.mono {k:NK}{a:Addr}(h:NKt K H k a) (c:TupLe K H H'):NKt K H' k a:=let ⟨b,h1,h2⟩:=h;⟨b,c _ _ h1,c _ _ h2⟩
theorem RepN.mono {kvs:List (NK × T)}{ks:List (NK × Addr × V)}(h:RepN K H kvs ks) (d:TupLe K H H'):RepN K H' kvs ks:=Paired.mapP h fun _ _ ⟨a,b,c⟩=>⟨a,NKt.mono b d,c.mono d⟩
theorem ne3 {a b:Addr}{o u:O3}(h:H3 a=some o) (h':H3 b=some u) (d:o≠u):a≠b:=by
 intro e;subst e;rw[h] at h';exact d (Q_ h')
theorem bf {a b:Addr}{o:O3}(h:H3 a=some o) (h':H3 b=none):a≠b:=by
 intro e;subst e;rw[h] at h';cases h'
theorem aL {p:Addr}{o:HO}(b:H p=none):TupLe K H (upd H p o):=fun a xs h=>by
 rcases h with (h | ⟨c,h⟩) | h
 ·exact .inl (.inl (by rw[aV (bW h b)];exact h))
 ·exact .inl (.inr ⟨c,by rw[aV (bW h b)];exact h⟩)
 exact .inr h
theorem dq {p:Addr}{o:HO}(b:Mut (H p)):TupLe K H (upd H p o):=fun a xs h=>by
 have key:∀u,H a=some u->¬Mut (some u)->a≠p:=fun u e nm z=>by subst z;rw[e] at b;exact nm b
 rcases h with (h | ⟨c,h⟩) | h
 ·exact .inl (.inl (by rw[aV (key _ h fun z=>z)];exact h))
 ·exact .inl (.inr ⟨c,by rw[aV (key _ h fun z=>z)];exact h⟩)
 exact .inr h
theorem RepO.stay {a:Addr}{o:O3}(h:RepO K H a o) (c:TupLe K H H') (b:∀u,H a=some u->H' a=some u):RepO K H' a o:=by
 cases o with
 |lst ts=>obtain⟨xs,e,r⟩:=h;exact⟨xs,b _ e,r.mono c⟩
 |rol ts =>
  obtain⟨xs,e,r⟩:=h;refine⟨xs,?_,r.mono c⟩;rcases e with e | ⟨g,e⟩
  ·exact .inl (b _ e)
  exact .inr ⟨g,b _ e⟩
 |dct kvs=>obtain⟨vs,e,r⟩:=h;exact⟨vs,b _ e,r.mono c⟩
 |dcp kvs=>obtain⟨vs,e,r⟩:=h;exact⟨vs,b _ e,r.mono c⟩
 |exc C d=>exact b _ h
 |xdt f=>obtain⟨vs,e,r⟩:=h;exact⟨vs,b _ e,r.mono c⟩
 |dci kvs=>obtain⟨vs,e,r⟩:=h;exact⟨vs,b _ e,r.mono c⟩
 |dif o kvs=>obtain⟨vs,e,r⟩:=h;exact⟨vs,b _ e,r.mono c⟩
 |ins C f=>obtain⟨d,vs,e,r⟩:=h;exact⟨d,vs,b _ e,r.mono c⟩
 |dcn w f=>obtain⟨vs,e,r⟩:=h;exact⟨vs,b _ e,r.mono c⟩
theorem SimH.new {p:Addr}{o:HO}(s:SimH K H3 H) (b:H p=none):SimH K H3 (upd H p o):=fun a u e =>
 (s a u e).stay (aL b) fun w q=>by rw[aV (bW q b)];exact q
theorem SimH.fresh {p:Addr}(s:SimH K H3 H) (a:H p=none):H3 p=none:=by
 cases e:H3 p with
 |none=>rfl
 |some o =>
  have q:=s p o e
  cases o with
  |lst ts=>obtain⟨xs,z,_⟩:=q;rw[a] at z;cases z
  |dct ts=>obtain⟨xs,z,_⟩:=q;rw[a] at z;cases z
  |dcp ts=>obtain⟨xs,z,_⟩:=q;rw[a] at z;cases z
  |exc C b=>have z:H p=_:=q;rw[a] at z;cases z
  |xdt ts=>obtain⟨xs,z,_⟩:=q;rw[a] at z;cases z
  |dci ts=>obtain⟨xs,z,_⟩:=q;rw[a] at z;cases z
  |dif o ts=>obtain⟨xs,z,_⟩:=q;rw[a] at z;cases z
  |ins C ts=>obtain⟨b,xs,z,_⟩:=q;rw[a] at z;cases z
  |dcn w ts=>obtain⟨xs,z,_⟩:=q;rw[a] at z;cases z
  |rol ts =>
   obtain⟨xs,z,_⟩:=q
   rcases z with z | ⟨c,z⟩
   ·
    rw[a] at z;cases z
   ·
    rw[a] at z;cases z
end
abbrev VK3:=T->Hp3->Prop
abbrev TE3:=St3->Hp3->VK3->Prop
abbrev TT3:=St3->Hp3->(Bool->Hp3->Prop)->Prop
abbrev TA3:=St3->Hp3->(List T->Hp3->Prop)->Prop
structure Ends3 where
 nx:St3->Hp3->Prop
 rt:VK3
 bk:St3->Hp3->Prop:=fun _ _=>False
 ct:St3->Hp3->Prop:=fun _ _=>False
abbrev TS3:=Ends3->St3->Hp3->Prop
abbrev TG3:=T->St3->Hp3->(St3->Hp3->Prop)->Prop
abbrev mq:=List T->St3->Hp3->(St3->Hp3->Prop)->Prop
abbrev R3:=T->T->Hp3->VK3->Prop
section
variable (K:Frag)
def KV3 (H:Hp) (Q3:VK3) (Q:VK):Prop:=∀v b t a,TupLe K H b->SimH K a b->Rep K b t v->Q3 t a->Q v b
def KS3 (H:Hp) (e:St3->Hp3->Prop) (N:L2.St->Hp->Prop):Prop:=∀d c a b,TupLe K H c->SimS K c a d->SimH K b c->e a b->N d c
def lft (b:TE3):TE:=fun Z H Q=>∃a H3 Q3,SimS K H a Z/\SimH K H3 H/\b a H3 Q3/\KV3 K H Q3 Q
def xX (e:TT3):TT:=fun Z H Q=>∃d H3 Q3,SimS K H d Z/\SimH K H3 H/\e d H3 Q3/\∀b c a,TupLe K H c->SimH K a c->Q3 b a->Q b c
def Xi (d:TA3):TA:=fun Z H Q=>∃c H3 Q3,SimS K H c Z/\SimH K H3 H/\d c H3 Q3/\∀vs b ts a,TupLe K H b->SimH K a b->Reps K b ts vs->Q3 ts a->Q vs b
def SM (c:TS3):TS:=fun D Z H=>∃b H3 a,SimS K H b Z/\SimH K H3 H/\c a b H3/\KS3 K H a.nx D.nx/\KV3 K H a.rt D.rt/\KS3 K H a.bk D.bk/\KS3 K H a.ct D.ct
def FT (b:TG3):TG:=fun v Z H Q=>∃t a H3 Q3,Rep K H t v/\SimS K H a Z/\SimH K H3 H/\b t a H3 Q3/\KS3 K H Q3 Q
def SN (b:mq):TGs:=fun vs Z H Q=>∃ts a H3 Q3,Reps K H ts vs/\SimS K H a Z/\SimH K H3 H/\b ts a H3 Q3/\KS3 K H Q3 Q
def zJ (c:R3):R2:=fun x y H Q=>∃b a H3 Q3,Rep K H b x/\Rep K H a y/\SimH K H3 H/\c b a H3 Q3/\KV3 K H Q3 Q
def Xj (a:List T->Hp3->VK3->Prop):List V->Hp->VK->Prop:=fun xs H Q=>∃ts H3 Q3,Reps K H ts xs/\SimH K H3 H/\a ts H3 Q3/\KV3 K H Q3 Q
def Xk (b:T->List T->Hp3->VK3->Prop):V->List V->Hp->VK->Prop:=fun x xs H Q=>∃a ts H3 Q3,Rep K H a x/\Reps K H ts xs/\SimH K H3 H/\b a ts H3 Q3/\KV3 K H Q3 Q
end
section
variable {K:Frag}{H H1:Hp}
theorem KV3.at {Q3:VK3}{Q:VK}(k:KV3 K H Q3 Q) (c:TupLe K H H1):KV3 K H1 Q3 Q:=fun v b t a l=>k v b t a (c.trans l)
theorem KS3.at {e:St3->Hp3->Prop}{N:L2.St->Hp->Prop}(k:KS3 K H e N) (f:TupLe K H H1):KS3 K H1 e N:=fun a b c d l=>k a b c d (f.trans l)
end
def PE3 (X:Cx) (e:Expr) (t:TE3):Prop:=PE X e (lft X.K t)
def PT3 (X:Cx) (e:Expr) (t:TT3):Prop:=PT X e (xX X.K t)
def PW3 (X:Cx) (e:Expr) (t:TT3):Prop:=PW X e (xX X.K t)
def PA3 (X:Cx) (a:List Expr) (t:TA3):Prop:=PA X a (Xi X.K t)
def PS3 (X:Cx) (st:Stmt) (t:TS3):Prop:=PS X st (SM X.K t)
def oH (X:Cx) (st:List Stmt) (t:TS3):Prop:=PSs X st (SM X.K t)
def PG3 (X:Cx) (e:Expr) (t:TG3):Prop:=PG X e (FT X.K t)
def FW (X:Cx) (a:List Expr) (t:mq):Prop:=PGs X a (SN X.K t)
def dD (X:Cx) (f:Value->Value->Sem Value) (r:R3):Prop:=OpR X f (zJ X.K r)
def cZ (X:Cx) (f:Value) (r:List T->Hp3->VK3->Prop):Prop:=CallR X f (Xj X.K r)
def SQ (X:Cx) (r:R3):Prop:=IxR X (zJ X.K r)
def zK (X:Cx) (a:String) (r:T->List T->Hp3->VK3->Prop):Prop:=MtR X a (Xk X.K r)
theorem PE.imp {X:Cx}{e:Expr}{t t':TE}(h:PE X e t) (w:∀Z H Q,t' Z H Q->t Z H Q):PE X e t':=fun a s Z H Q I q=>h a s Z H Q I (w Z H Q q)
theorem PT.imp {X:Cx}{e:Expr}{t t':TT}(h:PT X e t) (w:∀Z H Q,t' Z H Q->t Z H Q):PT X e t':=fun a s Z H Q I q=>h a s Z H Q I (w Z H Q q)
theorem PW.imp {X:Cx}{e:Expr}{t t':TT}(h:PW X e t) (w:∀Z H Q,t' Z H Q->t Z H Q):PW X e t':=fun b a s Z H Q I q=>h b a s Z H Q I (w Z H Q q)
theorem PA.imp {X:Cx}{c:List Expr}{t t':TA}(h:PA X c t) (w:∀Z H Q,t' Z H Q->t Z H Q):PA X c t':=fun b a s Z H Q I q=>h b a s Z H Q I (w Z H Q q)
theorem PS.imp {X:Cx}{e:Stmt}{t t':TS}(h:PS X e t) (w:∀D Z H,t' D Z H->t D Z H):PS X e t':=fun a s Z H D I q=>h a s Z H D I (w D Z H q)
theorem PSs.imp {X:Cx}{e:List Stmt}{t t':TS}(h:PSs X e t) (w:∀D Z H,t' D Z H->t D Z H):PSs X e t':=fun a s Z H D I q=>h a s Z H D I (w D Z H q)
theorem PG.imp {X:Cx}{e:Expr}{t t':TG}(h:PG X e t) (w:∀v Z H Q,t' v Z H Q->t v Z H Q):PG X e t':=fun a s Z H v u Q I r q=>h a s Z H v u Q I r (w v Z H Q q)
theorem PGs.imp {X:Cx}{e:List Expr}{t t':TGs}(h:PGs X e t) (w:∀v Z H Q,t' v Z H Q->t v Z H Q):PGs X e t':=fun a s Z H v u Q I r q=>h a s Z H v u Q I r (w v Z H Q q)
theorem OpR.imp {X:Cx}{f:Value->Value->Sem Value}{t t':R2}(h:OpR X f t) (w:∀x y H Q,t' x y H Q->t x y H Q):OpR X f t':=fun a s Z H x y v u Q I b c q=>h a s Z H x y v u Q I b c (w x y H Q q)
theorem UnR.imp {X:Cx}{f:Value->Sem Value}{t t':V->Hp->VK->Prop}(h:UnR X f t) (w:∀x H Q,t' x H Q->t x H Q):UnR X f t':=fun a s Z H x v Q I b q=>h a s Z H x v Q I b (w x H Q q)
theorem CallR.imp {X:Cx}{f:Value}{t t':List V->Hp->VK->Prop}(h:CallR X f t) (w:∀x H Q,t' x H Q->t x H Q):CallR X f t':=fun a s Z H x v Q I b q=>h a s Z H x v Q I b (w x H Q q)
theorem IxR.imp {X:Cx}{t t':R2}(h:IxR X t) (w:∀x y H Q,t' x y H Q->t x y H Q):IxR X t':=fun a b c s Z H x y v u Q I d e q=>h a b c s Z H x y v u Q I d e (w x y H Q q)
theorem MtR.imp {X:Cx}{b:String}{t t':V->List V->Hp->VK->Prop}(h:MtR X b t) (w:∀x xs H Q,t' x xs H Q->t x xs H Q):MtR X b t':=fun a s Z H x xs v us Q I c d q=>h a s Z H x xs v us Q I c d (w x xs H Q q)
section
variable {X:Cx}{pos:Pos}
def qz (i:Nat):TE3:=fun Z H Q=>match Z[i]? with
 |some (some t)=>Q t H
 |_=>False
def tC3 (t:T):TE3:=fun _ H Q=>Q t H
theorem v3 (i:Nat) {x:Str}{b:Pos}(d:X.N[i]?=some x:=by rfl) (j:Vis X.env.scope x:=by first | exact Or.inl rfl | exact Or.inr (Or.inl rfl) | exact Or.inr (Or.inr rfl)) (f:(x==("__debug__":Str))=false:=by decide)
  (a:(x==("__classdict__":Str))=false:=by decide):PE3 X (.Name x b) (qz i):=by
 refine PE.imp (pv i d j f a) ?_;rintro Z H Q ⟨m,H3,Q3,c,l,h,k⟩;unfold qz at h;split at h
 ·rename_i t e;obtain⟨v,g,r⟩:=c.at' i t e;exact⟨v,g,k v H t H3 .refl l r h⟩
 exact h.elim
theorem ak {i:Int}{j:Nat}:PE3 X (.Constant (.int i) j pos) (tC3 (.int i)):=by
 refine PE.imp KN ?_;rintro Z H Q ⟨c,H3,Q3,b,a,h,k⟩;exact k _ _ _ H3 .refl a .ofInt h
theorem cT {b:Bool}{j:Nat}:PE3 X (.Constant (.bool b) j pos) (tC3 (.bl b)):=by
 refine PE.imp Rj ?_;rintro Z H Q ⟨d,H3,Q3,c,a,h,k⟩;exact k _ _ _ H3 .refl a .ofBl h
theorem cu {x:Str}{j:Nat}:PE3 X (.Constant (.str x) j pos) (tC3 (.str x)):=by
 refine PE.imp KQ ?_;rintro Z H Q ⟨c,H3,Q3,b,a,h,k⟩;exact k _ _ _ H3 .refl a .ofStr h
theorem g3 {x:Str}{t:T}{v:V}{u:Value}(b:Gl X x) (c:X.mg x=some u) (r:RelV v u) (d:∀H,Rep X.K H t v) (a:(x==("__debug__":Str))=false:=by decide):PE3 X (.Name x pos) (tC3 t):=by
 refine PE.imp (Ek b c r a) ?_;rintro Z H Q ⟨g,H3,Q3,f,e,h,k⟩;exact k _ _ _ H3 .refl e (d H) h
variable {a b c:Expr}{ta tb tc:TE3}
def tX (r:R3) (a c:TE3):TE3:=fun Z H Q=>a Z H fun x d=>c Z d fun y b=>r x y b Q
theorem gU {r:R3}{Z:L2.St}{H:Hp}{Q:VK}(h:lft X.K (tX r ta tb) Z H Q):tOp (zJ X.K r) (lft X.K ta) (lft X.K tb) Z H Q:=by
 obtain⟨i,H3,Q3,g,n,h,k⟩:=h;exact⟨i,H3,_,g,n,h,fun x t q d a c p m=>⟨i,d,_,g.mono a,c,m,fun y s j e b f o l=>⟨q,j,e,Q3,p.mono b,o,f,l,k.at (a.trans b)⟩⟩⟩
theorem aC {op:Operator}{r:R3}(d:dD X (binaryOp op) r) (e:PE3 X a ta) (c:PE3 X b tb):PE3 X (.BinOp a op b pos) (tX r ta tb):=PE.imp (Ry d e c) fun _ _ _ h=>gU h
theorem dO {op:CmpOp}{r:R3}(e:dD X (compareOp op) r) (f:PE3 X a ta) (d:PE3 X b tb) (c:behindInMarks op b=false:=by first | exact yR _ | rfl):PE3 X (.Compare a [op] [b] pos) (tX r ta tb):=PE.imp (Ex e f d c) fun _ _ _ h=>gU h
theorem aK {r:R3}(f:SQ X r) (d:PE3 X a ta) (c:PE3 X b tb) (e:vM b:=by exact fun _ _=>rfl):PE3 X (.Subscript a b pos) (tX r ta tb):=PE.imp (Sd f d c e) fun _ _ _ h=>gU h
def iw (t:TE3):TT3:=fun Z H Q=>t Z H fun x a=>match x with
 |.bl k=>Q k a
 |_=>False
theorem bA {op:CmpOp}{r:R3}(f:dD X (compareOp op) r) (i:PE3 X a ta) (o:PE3 X b tb) (m:behindInMarks op b=false:=by first | exact yR _ | rfl):PT3 X (.Compare a [op] [b] pos) (iw (tX r ta tb)):=by
 refine PT.imp (Ey f i o m) ?_;rintro Z H Q ⟨l,H3,Q3,e,n,h,k⟩;refine gU (X:=X) ⟨l,H3,_,e,n,h,fun v g t c j d r q=>?_⟩;cases t with
 |bl b=>exact⟨b,r.bl,k b g c j d q⟩
 |_=>exact q.elim
def oJ (r g:R3) (f b c:TE3):TE3:=fun Z H Q=>f Z H fun x d=>b Z d fun y a=>r x y a fun z H3=>match z with
 |.bl k=>if k=true then c Z H3 fun w e=>g y w e Q else Q (.bl false) H3
 |_=>False
theorem xY {r A:R3}{Z:L2.St}{H:Hp}{Q:VK}(h:lft X.K (oJ r A ta tb tc) Z H Q):yS (zJ X.K r) (zJ X.K A) (lft X.K ta) (lft X.K tb) (lft X.K tc) Z H Q:=by
 obtain⟨n,H3,Q3,g,E,h,k⟩:=h;refine⟨n,H3,_,g,E,h,fun x O G l c i D I=>⟨n,l,_,g.mono c,i,I,fun y N u m a o v B=>⟨G,u,m,_,D.mono a,v,o,B,fun z L t j f d J q=>?_⟩⟩⟩;cases t with
 |bl b =>
  refine⟨b,J.bl,?_⟩;cases b with
  |true=>exact⟨n,j,_,g.mono (c.trans (a.trans f)),d,q,fun w M C p e s rw F=>⟨u,C,p,Q3,v.mono (f.trans e),rw,s,F,k.at (c.trans (a.trans (f.trans e)))⟩⟩
  |false=>exact k _ _ _ _ (c.trans (a.trans f)) d .ofBl q
 |_=>exact q.elim
variable {tA tB':TT3}{rest:List Expr}
theorem zL {op d:CmpOp}{r i:R3}(l:dD X (compareOp op) r) (e:dD X (compareOp d) i) (n:PE3 X a ta) (w:PE3 X b tb) (x:PE3 X c tc)
  (s:lastMarks [op,d] [b,c]=false:=by with_unfolding_all rfl):PT3 X (.Compare a [op,d] [b,c] pos) (iw (oJ r i ta tb tc)):=by
 refine PT.imp (yU l e n w x s) ?_;rintro Z H Q ⟨p,H3,Q3,j,u,h,k⟩;refine xY (X:=X) ⟨p,H3,_,j,u,h,fun v m t f o g r q=>?_⟩;cases t with
 |bl b=>exact⟨b,r.bl,k b m f o g q⟩
 |_=>exact q.elim
theorem cM (h:PE3 X a ta) (l:∀whole,isTrue a X.env whole=(do let v <- whole;standAt a.pos;holding [v] (truthy v)):=by intro _;rfl):PT3 X a (iw ta):=by
 refine PT.imp (KY h l) ?_;rintro Z H Q ⟨i,H3,Q3,e,j,h,k⟩;refine⟨i,H3,_,e,j,h,fun v f t c g d r q=>?_⟩;cases t with
 |bl b=>exact⟨b,r.bl,k b f c g d q⟩
 |_=>exact q.elim
def Jt (t u:TT3):TT3:=fun Z H Q=>t Z H fun c a=>if c=true then u Z a Q else Q false a
def SX (t u:TT3):TT3:=fun Z H Q=>t Z H fun c a=>if c=true then Q true a else u Z a Q
def Ju (t:TT3):TT3:=fun Z H Q=>t Z H fun c a=>Q (!c) a
theorem PW3.pt (h:PW3 X a tA):PT3 X a tA:=PW.pt h
theorem iU (b:PT3 X a tA):PW3 X (.BoolOp .And [a] pos) tA:=Em b
theorem kE (b:PT3 X a tA):PW3 X (.BoolOp .Or [a] pos) tA:=KZ b
theorem kI (o:PT3 X a tA) (s:PW3 X (.BoolOp .And (b::rest) pos) tB'):PW3 X (.BoolOp .And (a::b::rest) pos) (Jt tA tB'):=by
 refine PW.imp (K1 o s) ?_;rintro Z H Q ⟨m,H3,Q3,l,r,h,k⟩;refine⟨m,H3,_,l,r,h,fun b n f i d q=>?_⟩;cases b with
 |true=>exact⟨m,f,_,l.mono i,d,q,fun b g e j c p=>k b g e (i.trans j) c p⟩
 |false=>exact k false n f i d q
theorem qC (o:PT3 X a tA) (s:PW3 X (.BoolOp .Or (b::rest) pos) tB'):PW3 X (.BoolOp .Or (a::b::rest) pos) (SX tA tB'):=by
 refine PW.imp (Rk o s) ?_;rintro Z H Q ⟨m,H3,Q3,l,r,h,k⟩;refine⟨m,H3,_,l,r,h,fun b n f i d q=>?_⟩;cases b with
 |true=>exact k true n f i d q
 |false=>exact⟨m,f,_,l.mono i,d,q,fun b g e j c p=>k b g e (i.trans j) c p⟩
theorem fG (g:PT3 X a tA):PT3 X (.UnaryOp .Not a pos) (Ju tA):=by
 refine PT.imp (K3 g) ?_;rintro Z H Q ⟨j,H3,Q3,e,l,h,k⟩;exact⟨j,H3,_,e,l,h,fun b f c i d q=>k _ f c i d q⟩
def zM (b d:TE3):TE3:=fun Z H Q=>b Z H fun x a=>match x with
 |.bl c=>if c=true then d Z a Q else Q (.bl false) a
 |_=>False
def Jv (b d:TE3):TE3:=fun Z H Q=>b Z H fun x a=>match x with
 |.bl c=>if c=true then Q (.bl true) a else d Z a Q
 |_=>False
def Mg (a:TE3):TE3:=fun Z H Q=>a Z H fun x b=>match x with
 |.bl c=>Q (.bl (!c)) b
 |_=>False
theorem oK {op:PySem.BoolOp}{t:TE3}(h:PE3 X a t):PE3 X (.BoolOp op [a] pos) t:=K4 h
theorem oM (j:PE3 X a ta) (m:PE3 X (.BoolOp .And (b::rest) pos) tb):PE3 X (.BoolOp .And (a::b::rest) pos) (zM ta tb):=by
 refine PE.imp (K5 j m) ?_;rintro Z H Q ⟨g,H3,Q3,f,l,h,k⟩;refine⟨g,H3,_,f,l,h,fun v i t c e d r q=>?_⟩;cases t with
 |bl b =>
  refine⟨b,r.bl,?_⟩;cases b with
  |true=>exact⟨g,c,_,f.mono e,d,q,k.at e⟩
  |false=>exact k _ i _ c e d .ofBl q
 |_=>exact q.elim
theorem S5 (j:PE3 X a ta) (m:PE3 X (.BoolOp .Or (b::rest) pos) tb):PE3 X (.BoolOp .Or (a::b::rest) pos) (Jv ta tb):=by
 refine PE.imp (Rn j m) ?_;rintro Z H Q ⟨g,H3,Q3,f,l,h,k⟩;refine⟨g,H3,_,f,l,h,fun v i t c e d r q=>?_⟩;cases t with
 |bl b =>
  refine⟨b,r.bl,?_⟩;cases b with
  |true=>exact k _ i _ c e d .ofBl q
  |false=>exact⟨g,c,_,f.mono e,d,q,k.at e⟩
 |_=>exact q.elim
def Xl (t:TT3) (b d:TE3):TE3:=fun Z H Q=>t Z H fun c a=>if c=true then b Z a Q else d Z a Q
variable {e:Expr}{es:List Expr}{te:TE3}{t:TA3}
def Jw:TA3:=fun _ H Q=>Q [] H
def tY (a:TE3) (d:TA3):TA3:=fun Z H Q=>a Z H fun x c=>d Z c fun xs b=>Q (x::xs) b
theorem aj:PA3 X [] Jw:=by
 refine PA.imp Lr ?_;rintro Z H Q ⟨c,H3,Q3,b,a,h,k⟩;exact k _ _ _ _ .refl a .nil h
theorem aa (o:PE3 X e te) (n:PA3 X es t) (l:starEach (e::es) X.env=(false,eval e X.env)::starEach es X.env:=by rfl):PA3 X (e::es) (tY te t):=by
 refine PA.imp (Fd o n l) ?_;rintro Z H Q ⟨i,H3,Q3,f,u,h,k⟩;exact⟨i,H3,_,f,u,h,fun v w t c g d r q=>⟨i,c,_,f.mono g,d,q,fun vs m ts j b a s p=>k _ _ _ _ (g.trans b) a (.cons (r.mono b) s) p⟩⟩
def zN (t:TA3):TE3:=fun Z H Q=>t Z H fun xs a=>xs.length<=sizeLine/\Q (.tup xs) a
def vO (t:TA3):TE3:=fun Z H Q=>t Z H fun xs a=>xs.length<=sizeLine/\∀p,a p=none->Q (.ref p) (up3 a p (.lst xs))
theorem SimH.newTup {K:Frag}{H:Hp}{H3:Hp3}{ts:List T}{xs:List V}{p:Addr}(a:H p=none) (r:Reps K H ts xs):Rep K (upd H p (.tup xs)) (.tup ts) (.ref p) :=
 .ofTup (.of cB) (r.mono (aL a))
theorem SimH.newLst {K:Frag}{H:Hp}{H3:Hp3}{ts:List T}{xs:List V}{p:Addr}(s:SimH K H3 H) (c:H p=none) (r:Reps K H ts xs):SimH K (up3 H3 p (.lst ts)) (upd H p (.lst xs)):=fun a o e=>by
 by_cases b:a=p
 ·subst b;rw[aq] at e;cases e;exact⟨xs,cB,r.mono (aL c)⟩
 rw[aD b] at e;exact s.new c a o e
theorem bj {x1}(h:PA3 X es t):PE3 X (.Tuple es x1 pos) (zN t):=by
 refine PE.imp (Ls h) ?_;rintro Z H Q ⟨g,H3,Q3,d,f,h,k⟩;refine⟨g,H3,_,d,f,h,fun vs i ts a e b r q=>⟨by rw[<- r.length];exact q.1,fun p c=>?_⟩⟩;exact k _ _ _ a (e.trans (aL c)) (b.new c) (SimH.newTup (H3:=a) c r) q.2
theorem bh (h:PA3 X es t):PE3 X (.List es pos) (vO t):=by
 refine PE.imp (Lw h) ?_;rintro Z H Q ⟨g,H3,Q3,c,e,h,k⟩;refine⟨g,H3,_,c,e,h,fun vs i ts f d a r q=>⟨by rw[<- r.length];exact q.1,fun p b=>?_⟩⟩;exact k _ _ _ _ (d.trans (aL b)) (a.newLst b r) .ofRef (q.2 p (a.fresh b))
end
section
variable {X:Cx}{st:Stmt}{rest:List Stmt}{e c:Expr}{te:TE3}{tc:TT3}{t u:TS3}{pos:Pos}
def zO:TS3:=fun D Z H=>D.nx Z H
def vP (t u:TS3):TS3:=fun D Z H=>t { D with nx:=u D} Z H
theorem aU:oH X [] zO:=by
 refine PSs.imp En ?_;rintro D Z H ⟨e,H3,d,a,b,h,c,_⟩;exact c _ _ _ _ .refl a b h
theorem ao (n:PS3 X st t) (k:oH X rest u):oH X (st::rest) (vP t u):=by
 refine PSs.imp (yM n k) ?_;rintro D Z H ⟨m,H3,l,j,o,h,p,f,i,g⟩;exact⟨m,H3,_,j,o,h,fun s r c e a d b q=>⟨c,e,l,d,b,q,p.at a,f.at a,i.at a,g.at a⟩,f,i,g⟩
theorem aA (a:PS3 X st t):oH X [st] t:=Eo a
def zP (te:TE3):TS3:=fun D Z H=>te Z H fun _ a=>D.nx Z a
theorem cz (i:PE3 X e te) (d:swapsWith e none pos.line X.env=pure false:=by rfl):PS3 X (.Expr e pos) (zP te):=by
 refine PS.imp (Ep i d) ?_;rintro D Z H ⟨f,H3,m,b,g,h,k,_⟩;exact⟨f,H3,_,b,g,h,fun v l t j c a r q=>k _ _ _ _ c (b.mono c) a q⟩
def Jx (te:TE3):TS3:=fun D Z H=>te Z H D.rt
theorem aJ (c:PE3 X e te):PS3 X (.Return (some e) pos) (Jx te):=by
 refine PS.imp (K6 c) ?_;rintro D Z H ⟨f,H3,g,a,d,h,i,b,_⟩;exact⟨f,H3,_,a,d,h,b⟩
def Mh:TS3:=fun D _ H=>D.rt .non H
def Jy (c:TT3) (t u:TS3):TS3:=fun D Z H=>c Z H fun b a=>if b=true then t D Z a else u D Z a
theorem bK {a b:List Stmt}(s:PT3 X c tc) (o:oH X a t) (r:oH X b u):PS3 X (.If c a b pos) (Jy tc t u):=by
 refine PS.imp (Rq s o r) ?_;rintro D Z H ⟨i,H3,k,g,p,h,n,j,m,l⟩;refine⟨i,H3,_,g,p,h,fun b v f d e q=>?_⟩;cases b with
 |true=>exact⟨i,f,k,g.mono d,e,q,n.at d,j.at d,m.at d,l.at d⟩
 |false=>exact⟨i,f,k,g.mono d,e,q,n.at d,j.at d,m.at d,l.at d⟩
def f9 (i:Nat):TG3:=fun v Z H Q=>Q (Z.set i (some v)) H
theorem aG {i:Nat}{x:Str}(b:X.N.Nodup) (c:X.N[i]?=some x:=by rfl) (f:Loc X.env.scope x:=by first | exact Or.inl rfl | exact Or.inr rfl) (d:X.fn x=true\/X.env.scope.names.lookup x=some .local:=by first | exact .inl rfl | exact .inr rfl | assumption):PG3 X (.Name x pos) (f9 i):=by
 refine PG.imp (Er b c f d) ?_;rintro v Z H Q ⟨t,g,H3,Q3,r,a,e,h,k⟩;exact k _ _ _ _ .refl (a.set r) e h
def zQ:mq:=fun ts Z H Q=>match ts with
 |[]=>Q Z H
 |_=>False
def oN (t:TG3) (u:mq):mq:=fun ts Z H Q=>match ts with
 |x::r=>t x Z H fun a b=>u r a b Q
 |[]=>False
theorem bZ:FW X [] zQ:=by
 refine PGs.imp Es ?_;rintro vs Z H Q ⟨ts,c,H3,Q3,r,b,a,h,k⟩;cases ts with
 |nil=>exact⟨r.inv0,k _ _ _ _ .refl b a h⟩
 |cons _ _=>exact h.elim
theorem aH {e:Expr}{a:List Expr}{t:TG3}{u:mq}(p:PG3 X e t) (j:FW X a u)
  (l:(assignEach (e::a) X.env).map (·.2)=assign e X.env::(assignEach a X.env).map (·.2):=by rfl):FW X (e::a) (oN t u):=by
 refine PGs.imp (yO p j l) ?_;rintro vs Z H Q ⟨ts,m,H3,Q3,r,i,s,h,k⟩;cases ts with
 |nil=>exact h.elim
 |cons x ts =>
 obtain⟨v,o,rfl,n,w⟩:=r.inv;exact⟨v,o,rfl,x,m,H3,_,n,i,s,h,fun z y b d g c f q=>⟨ts,b,d,Q3,w.mono g,c,f,q,k.at g⟩⟩
def zR (n:Nat) (g:mq):TG3:=fun t Z H Q=>match t with
 |.tup ts=>ts.length=n/\g ts Z H Q
 |_=>False
theorem cN {b:List Expr}{k:Nat}{t:mq}{n:Nat}(j:X.calm=true) (h:FW X b t)
  (e:(assignEach b X.env).length=n:=by rfl) (c:(assignEach b X.env).findIdx? (·.1)=none:=by rfl):PG3 X (.Tuple b k pos) (zR n t):=by
 refine PG.imp (K7 j h e c) ?_;rintro v Z H Q ⟨t,i,H3,Q3,r,f,g,h,k⟩;cases t with
 |tup ts=>obtain⟨a,xs,rfl,s,d⟩:=r.tup;exact⟨a,xs,rfl,s,by rw[<- d.length];exact h.1,ts,i,H3,Q3,d,f,g,h.2,k⟩
 |_=>exact h.elim
def qD (te:TE3) (g:TG3):TS3:=fun D Z H=>te Z H fun x a=>g x Z a D.nx
theorem oO {a e:Expr}{te:TE3}{g:TG3}(l:PE3 X e te) (o:PG3 X a g) (j:swapsWithSole [a] e pos.line X.env=pure false:=by rfl) (k:swappedStores [a] e X.env=pure none:=by rfl)
  (m:(assignEach [a] X.env).map (·.2)=[assign a X.env]:=by rfl):PS3 X (.Assign [a] e pos) (qD te g):=by
 refine PS.imp (K9 l o j k m) ?_;rintro D Z H ⟨i,H3,u,d,n,h,p,_⟩;exact⟨i,H3,_,d,n,h,fun v s t c f b r q=>⟨t,i,c,_,r,d.mono f,b,q,p.at f⟩⟩
theorem aF {i:Nat}{x:Str}{e:Expr}{te:TE3}{a:Pos}(f:X.N.Nodup) (l:PE3 X e te) (j:X.N[i]?=some x:=by rfl) (n:Loc X.env.scope x:=by first | exact Or.inl rfl | exact Or.inr rfl)
  (g:swapsWith e (some (.Name x a)) pos.line X.env=pure false:=by rfl) (m:X.fn x=true\/X.env.scope.names.lookup x=some .local:=by first | exact .inl rfl | exact .inr rfl | assumption) :
  PS3 X (.Assign [.Name x a] e pos) (qD te (f9 i)):=by
 refine PS.imp (La f j n l g m) ?_;rintro D Z H ⟨k,H3,w,c,o,h,s,_⟩;exact⟨k,H3,_,c,o,h,fun v u t p d b r q=>s _ _ _ _ d ((c.mono d).set r) b q⟩
end
abbrev qF:=T->T->T->Hp3->(Hp3->Prop)->Prop
def Mi (K:Frag) (f:qF):yN:=fun o i v H Q=>∃d e c H3 Q3,Rep K H d o/\Rep K H e i/\Rep K H c v/\SimH K H3 H/\f d e c H3 Q3/\∀b a,TupLe K H b->SimH K a b->Q3 a->Q b
def Jz (X:Cx) (t:qF):Prop:=PSet X (Mi X.K t)
theorem PSet.imp {X:Cx}{t t':yN}(h:PSet X t) (w:∀o i v H Q,t' o i v H Q->t o i v H Q):PSet X t':=fun a s Z H o i v c f u Q I d b e q=>h a s Z H o i v c f u Q I d b e (w o i v H Q q)
section
variable {X:Cx}{pos:Pos}
def JB (a d:TE3) (t:qF):TG3:=fun v Z H Q=>a Z H fun o c=>d Z c fun i b=>t o i v b fun H3=>Q Z H3
theorem Mj {o i:Expr}{c d:TE3}{t:qF}(B:PE3 X o c) (w:PE3 X i d) (s:Jz X t)
  (A:∀v,assign (.Subscript o i pos) X.env v=(do
   let ov <- holding [v] (eval o X.env)
   let iv <- holding [v,ov] (eval i X.env)
   standAt pos
   holding [v,ov,iv] (setItem ov iv v)
   release [v,ov,iv] []):=by intro _;rfl):PG3 X (.Subscript o i pos) (JB c d t):=by
 refine PG.imp (K8 B w s A) ?_;rintro v Z H Q ⟨t,n,H3,Q3,r,e,z,h,k⟩;exact⟨n,H3,_,e,z,h,fun o G c g a f x C=>⟨n,g,_,e.mono a,f,C,fun i F d j b l y u=>⟨c,d,t,j,_,x.mono b,y,r.mono (a.trans b),l,u,fun E D p m q=>k _ _ _ _ (a.trans (b.trans p)) (e.mono (a.trans (b.trans p))) m q⟩⟩⟩
end
abbrev TI3:=St3->Hp3->(List T->(Hp3->Prop)->Hp3->Prop)->Prop
def jD (K:Frag) (J:It) (ts:List T) (still:Hp3->Prop) (H:Hp):Prop:=∀c b,TupLe K H c->SimH K b c->still b ->
 (∀i,ts.length<=i->J.stop i c)/\∀i t,ts[i]?=some t->J.go i c/\∀x a,J.yld i c x a->TupLe K c a/\SimH K b a/\Rep K a t x
def Xm (K:Frag) (d:TI3):TI:=fun Z H R=>∃c H3 R3,SimS K H c Z/\SimH K H3 H/\d c H3 R3/\∀J ts still b a,TupLe K H b->SimH K a b->jD K J ts still b->R3 ts still a->R J b
def PI3 (X:Cx) (b a:Expr) (t:TI3):Prop:=PI X b a (Xm X.K t)
theorem PI.imp {X:Cx}{b e:Expr}{t t':TI}(h:PI X b e t) (w:∀Z H R,t' Z H R->t Z H R):PI X b e t':=fun a s Z H R I q=>h a s Z H R I (w Z H R q)
def cG:Hp3->Prop:=fun _=>True
def aX (a:Addr) (ts:List T):Hp3->Prop:=fun H=>H a=some (.lst ts)\/H a=some (.rol ts)
theorem SimH.sqL {K:Frag}{H:Hp}{H3:Hp3}{a:Addr}{ts:List T}(s:SimH K H3 H) (h:aX a ts H3):∃xs,SqL K H a xs/\Reps K H ts xs:=by
 rcases h with h | h
 ·obtain⟨xs,e,r⟩:=s a _ h;exact⟨xs,.of e,r⟩
 obtain⟨xs,e,r⟩:=s a _ h;exact⟨xs,.inl e,r⟩
section
variable {X:Cx}{tg l:Expr}{tl:TE3}{pos p:Pos}
def zT (c:TE3):TI3:=fun Z H R=>c Z H fun x b=>match x with
 |.ref a=>match b a with
  |some (.lst ts)=>R ts (aX a ts) b
  |some (.rol ts)=>R ts (aX a ts) b
  |_=>False
 |_=>False
theorem mX {K:Frag}{H:Hp}{a:Addr}{ts:List T}:jD K (Itl K a) ts (aX a ts) H:=fun m h n d st=>by
 obtain⟨xs,b,c⟩:=d.sqL st;have o:=c.length;refine⟨fun i l=>⟨xs,b,by omega⟩,fun i t e=>?_⟩;obtain⟨v,f,j⟩:=c.get e;refine⟨⟨xs,v,b,f⟩,fun x g y=>?_⟩;obtain⟨k,y⟩:=y;subst k;have:=y xs b;rw[f] at this;cases this;exact⟨.refl,d,j⟩
theorem cI (p:PE3 X l tl):PI3 X tg l (zT tl):=by
 refine PI.imp (Et p) ?_;rintro Z H R ⟨m,H3,R3,j,o,h,k⟩;refine⟨m,H3,_,j,o,h,fun v g t b i c r q=>?_⟩;cases t with
 |ref a =>
  have d:(match b a with
   |some (.lst ts)=>R3 ts (aX a ts) b
   |some (.rol ts)=>R3 ts (aX a ts) b
   |_=>False):=q
  split at d
  ·
   rename_i ts e
   obtain⟨xs,f,n⟩:=c.sqL (.inl e)
   exact⟨a,r.ref,⟨xs,f⟩,k _ ts (aX a ts) g b i c mX d⟩
  ·
   rename_i ts e
   obtain⟨xs,f,n⟩:=c.sqL (.inr e)
   exact⟨a,r.ref,⟨xs,f⟩,k _ ts (aX a ts) g b i c mX d⟩
  ·
   exact d.elim
 |_=>exact q.elim
def JC (a:TE3):TI3:=fun Z H R=>a Z H fun x b=>match x with
 |.tup ts=>R ts cG b
 |_=>False
theorem zU {K:Frag}{H:Hp}{a:Addr}{ts:List T}{xs:List V}(c:SqT K H a xs) (d:Reps K H ts xs):jD K (Itt K a) ts cG H:=fun n h b l st=>by
 have o:=d.length;refine⟨fun i m=>⟨xs,b _ _ c,by omega⟩,fun i t e=>?_⟩;obtain⟨v,f,j⟩:=d.get e;refine⟨⟨xs,v,b _ _ c,f⟩,fun x g y=>?_⟩;obtain⟨k,y⟩:=y;subst k;have:=y xs (b _ _ c);rw[f] at this;cases this;exact⟨.refl,l,j.mono b⟩
theorem cH (o:PE3 X l tl):PI3 X tg l (JC tl):=by
 refine PI.imp (Ld o) ?_;rintro Z H R ⟨j,H3,R3,f,n,h,k⟩;refine⟨j,H3,_,f,n,h,fun v g t b i c r q=>?_⟩;cases t with
 |tup ts=>obtain⟨a,xs,e,d,m⟩:=r.tup;exact⟨a,e,⟨xs,d⟩,k _ ts cG g b i c (zU d m) q⟩
 |_=>exact q.elim
def dH (a:Int) (n:Nat):List T:=(List.range n).map fun (i:Nat)=>T.int (a+i)
theorem qG {K:Frag}{H:Hp}{b:Int}{n:Nat}:jD K (Itr b n) (dH b n) cG H:=fun j h k g st=>by
 refine⟨fun i a=>by unfold dH at a;simp at a;exact a,fun i t e=>?_⟩;unfold dH at e;rw[z_] at e;by_cases a:i<n
 ·rw[Ys a] at e;cases e;refine⟨a,fun x c y=>?_⟩;obtain⟨d,f⟩:=y;subst d;subst f;exact⟨.refl,g,.ofInt⟩
 rw[V_ (by simpa using a)] at e;cases e
def zV (b:TA3):TI3:=fun Z H R=>b Z H fun vs a=>match vs with
 |[.int j]=>-(2^62)<=j/\j<2^62/\R (dH 0 j.toNat) cG a
 |[.int i,.int j]=>(-(2^62)<=i/\i<2^62 /\ -(2^62)<=j/\j<2^62)/\R (dH i (j - i).toNat) cG a
 |_=>False
theorem dj {a:Expr}{e:TA3}(y:Gl X "range") (s:X.mg "range"=none) (l:PA3 X [a] e) (g:starEach [a] X.env=[(false,eval a X.env)]:=by rfl):PI3 X tg (.Call (.Name "range" p) [a] [] pos) (zV (fun Z H Q=>e Z H fun vs n=>vs.length=1/\Q vs n)):=by
 refine PI.imp (xG y s l g) ?_;rintro Z H R ⟨o,H3,R3,f,x,h,k⟩;refine⟨o,H3,_,f,x,h,fun vs i ts c m b r q=>?_⟩;obtain⟨d,q⟩:=q;cases ts with
 |nil=>cases d
 |cons t ts =>
 cases ts with
 |cons _ _=>simp at d
 |nil =>
 cases t with
 |int j=>obtain⟨v,_,rfl,w,u⟩:=r.inv;rw[u.inv0,w.int];exact⟨j,rfl,q.1,q.2.1,k _ _ _ i c m b qG q.2.2⟩
 |_=>exact q.elim
theorem xZ {a b:Expr}{g:TA3}(A:Gl X "range") (y:X.mg "range"=none) (w:PA3 X [a,b] g) (m:starEach [a,b] X.env=[(false,eval a X.env),(false,eval b X.env)]:=by rfl) (d:starEach [b] X.env=[(false,eval b X.env)]:=by rfl) :
  PI3 X tg (.Call (.Name "range" p) [a,b] [] pos) (zV (fun Z H Q=>g Z H fun vs B=>vs.length=2/\Q vs B)):=by
 refine PI.imp (xH A y w m d) ?_;rintro Z H R ⟨u,H3,R3,l,t,h,k⟩;refine⟨u,H3,_,l,t,h,fun vs n ts e x f r q=>?_⟩;obtain⟨z,q⟩:=q
 match ts,z,r with
 |[t1,t2],_,r =>
 obtain⟨v,_,rfl,s,o⟩:=r.inv;obtain⟨D,_,rfl,c,C⟩:=o.inv;cases t1 with
 |int i =>
  cases t2 with
  |int j=>rw[C.inv0,s.int,c.int];exact⟨i,j,rfl,q.1,k _ _ _ n e x f qG q.2⟩
  |_=>exact q.elim
 |_=>cases t2 <;> exact q.elim
end
def iter3 (g:TG3) (a:TS3) (D:Ends3) (still:Hp3->Prop):List T->St3->Hp3->Prop
 |[],Z,H=>still H/\D.nx Z H
 |t::r,Z,H=>still H/\g t Z H fun c b=>a { D with nx:=iter3 g a D still r,ct:=iter3 g a D still r,bk:=D.nx} c b
theorem iter3.st {g:TG3}{a:TS3}{D:Ends3}{still:Hp3->Prop}{ts:List T}{Z:St3}{H:Hp3}(h:iter3 g a D still ts Z H):still H:=by
 cases ts with
 |nil=>exact h.1
 |cons t r=>exact h.1
def JD (a:TI3) (g:TG3) (c:TS3):TS3:=fun D Z H=>a Z H fun ts still b=>iter3 g c D still ts Z b
section
variable {X:Cx}{tg iter:Expr}{pos:Pos}
theorem cg {n:List Stmt}{W:TI3}{g:TG3}{r:TS3}(hp:PassesOwn (model X.prog X.w) X.A X.env X.xe) (hc:X.calm=true) (V:PI3 X tg iter W) (hg:PG3 X tg g) (hb:oH X n r)
  (hs:∀x,foldedSetIterable iter X.env x=pure x:=by intro _;rfl):PS3 X (.For tg iter n [] pos) (JD W g r):=by
 refine PS.imp (Le hp hc V hg hb hs) ?_;rintro D Z H ⟨j,H3,F,U,sh,h,k1,k2,k3,k4⟩;refine⟨j,H3,_,U,sh,h,fun J ts still z N E I wk q=>?_⟩;refine⟨fun i m Z H=>∃j H3,TupLe X.K z H/\SimS X.K H j Z/\SimH X.K H3 H/\m=ts.length - i/\i<=ts.length/\iter3 g r F still (ts.drop i) j H3,⟨ts.length,j,N,.refl,U.mono E,I,rfl,X3 _,by simpa using q⟩,?_⟩;rintro i m Z H ⟨Z4,Y,p,v,C,rfl,V,it⟩;have w:=wk H Y p C it.st;by_cases o:i<ts.length
 ·have e:=g_ o;have ed:ts.drop i=ts[i]::ts.drop (i+1):=List.drop_eq_getElem_cons o;rw[ed] at it;obtain⟨st,it⟩:=it;obtain⟨go,yl⟩:=w.2 i _ e;refine .inr ⟨go,fun u f=>∃j H3,TupLe X.K z f/\SimS X.K f j u/\SimH X.K H3 f/\iter3 g r F still (ts.drop (i+1)) j H3,fun u f ⟨s5,h5,a,b,c,d⟩=>⟨ts.length - (i+1),by omega,s5,h5,a,b,c,rfl,o,d⟩,fun x f y=>?_⟩;obtain⟨t,G,rx⟩:=yl x f y;refine⟨ts[i],Z4,Y,_,rx,v.mono t,G,it,fun Z2 P T M O S R q2=>?_⟩;have k:TupLe X.K z P:=p.trans (t.trans O);have nx:∀(B:TupLe X.K z P),KS3 X.K P (iter3 g r F still (ts.drop (i+1))) (fun u f=>∃j H3,TupLe X.K z f/\SimS X.K f j u/\SimH X.K H3 f/\iter3 g r F still (ts.drop (i+1)) j H3) :=
   fun B u f Q L l s h q=>⟨Q,L,B.trans l,s,h,q⟩
  exact⟨T,M,_,S,R,q2,nx k,k2.at (E.trans k),k1.at (E.trans k),nx k⟩
 have e:i=ts.length:=by omega
 subst e;rw[List.drop_length] at it;exact .inl ⟨w.1 _ (o_ _),k1 _ _ _ _ (E.trans p) v C it.2⟩
def vQ (c:TT3) (g:TS3):TS3:=fun D Z H=>∃W:Nat->St3->Hp3->Prop,(∃m,W m Z H)/\∀m Z H,W m Z H ->
 c Z H fun b f=>if b=true then g { D with nx:=fun e d=>∃a,a<m/\W a e d,ct:=fun e d=>∃a,a<m/\W a e d,bk:=D.nx} Z f else D.nx Z f
theorem kJ {c:Expr}{f:List Stmt}{B:TT3}{z:TS3}(Q:PassesOwn (model X.prog X.w) X.A X.env X.xe) (I:PT3 X c B) (E:oH X f z):PS3 X (.While c f [] pos) (vQ B z):=by
 refine PS.imp (yP Q I E) ?_;rintro D Z H ⟨k,H3,U,C,F,⟨W,⟨L,G⟩,o⟩,x,P,R,T⟩;refine⟨fun m g d=>∃k H3,TupLe X.K H d/\SimS X.K d k g/\SimH X.K H3 d/\W m k H3,⟨L,k,H3,.refl,C,F,G⟩,?_⟩;rintro m S V ⟨p,v,e,i,t,O⟩;refine⟨p,v,_,i,t,o m p v O,fun b J M a n q=>?_⟩;cases b with
 |true =>
  rw[if_pos rfl] at q ⊢;have y:KS3 X.K J (fun g d=>∃j,j<m/\W j g d) (fun g d=>∃j,j<m/\∃k H3,TupLe X.K H d/\SimS X.K d k g/\SimH X.K H3 d/\W j k H3) :=
   fun g d r u l s h ⟨j,N,w⟩=>⟨j,N,r,u,e.trans (a.trans l),s,h,w⟩
  exact⟨_,fun g d h=>h,p,M,_,i.mono a,n,q,y,P.at (e.trans a),x.at (e.trans a),y⟩
 |false =>
 rw[if_neg t_] at q ⊢;exact x _ _ _ _ (e.trans a) (i.mono a) n q
end
def FZ (X:Cx) (a:List Expr) (t:TT3):Prop:=PIf X a (xX X.K t)
def vR:TT3:=fun _ H Q=>Q true H
theorem bQ {X:Cx}:FZ X [] vR:=fun a s Z H Q I ⟨d,H3,Q3,c,b,h,k⟩=>Fz a s Z H Q I (k _ _ _ .refl b h)
theorem iV {X:Cx}{c:Expr}{t:TT3}(h:PT3 X c t):FZ X [c] t:=FJ h
def oR (nt:Nat) (cap:List Nat) (Z:St3):St3:=List.replicate nt none++cap.map fun j=>(Z[j]?).getD none
theorem vU {K:Frag}{H:Hp}{a:St3}{Z:L2.St}{nt:Nat}{cap:List Nat}(s:SimS K H a Z):SimS K H (oR nt cap a) (mj nt cap Z):=by
 refine⟨by simp [oR,mj],fun i t e=>?_⟩;unfold oR at e;unfold mj;by_cases c:i<nt
 ·rw[Yp (by simpa using c),Y_] at e;split at e <;> cases e
 rw[Yc (by simpa using c),z_] at e;rw[Yc (by simpa using c),z_];simp only[Yn] at e ⊢;cases q:cap[i - nt]? with
 |none=>rw[q] at e;cases e
 |some j =>
 rw[q] at e;have b:(a[j]?).getD none=some t:=Q_ e;have d:a[j]?=some (some t):=by
  cases z:a[j]? with
  |none=>rw[z] at b;cases b
  |some y=>rw[z] at b;exact X6 some b
 obtain⟨v,f,r⟩:=s.at' j t d;exact⟨v,by simp [f],r⟩
def cIter3 (g:TG3) (tt:TT3) (te:TE3) (still:Hp3->Prop) (a:List T->Hp3->Prop):List T->List T->St3->Hp3->Prop
 |[],ys,Z,H=>still H/\ys.length<=sizeLine/\a ys H
 |t::r,ys,Z,H=>still H/\g t Z H fun c d=>tt c d fun b H3=>if b=true then te c H3 fun y e=>ys.length<sizeLine/\cIter3 g tt te still a r (ys++[y]) c e else cIter3 g tt te still a r ys c H3
theorem cIter3.st {g:TG3}{tt:TT3}{te:TE3}{still:Hp3->Prop}{a:List T->Hp3->Prop}{ts ys:List T}{Z:St3}{H:Hp3}(h:cIter3 g tt te still a ts ys Z H):still H:=by
 cases ts with
 |nil=>exact h.1
 |cons t r=>exact h.1
theorem zW {K:Frag}{J:It}{g:TG3}{tt:TT3}{te:TE3}{still:Hp3->Prop}{a:List T->Hp3->Prop}{u:List V->Hp->Prop}{ts:List T}{q:St3}{Z:L2.St}{r:Hp}{o:Hp3}
  (wk:jD K J ts still r) (Q:SimS K r q Z) (sh:SimH K o r) (h:cIter3 g tt te still a ts [] q o)
  (hf:∀ys us p H3',TupLe K r p->SimH K H3' p->Reps K p ys us->a ys H3'->u us p):vN J (FT K g) (xX K tt) (lft K te) u Z r:=by
 refine⟨fun i m us Z H=>∃q H3 ys,TupLe K r H/\SimS K H q Z/\SimH K H3 H/\Reps K H ys us/\m=ts.length - i/\i<=ts.length/\cIter3 g tt te still a (ts.drop i) ys q H3,⟨ts.length,q,o,[],.refl,Q,sh,.nil,rfl,X3 _,by simpa using h⟩,?_⟩;rintro i m us Z H ⟨X,P,ys,j,G,A,z,rfl,hi,it⟩;have w:=wk H P j A it.st;by_cases d:i<ts.length
 ·have e:=g_ d;have Y:ts.drop i=ts[i]::ts.drop (i+1):=List.drop_eq_getElem_cons d;rw[Y] at it;obtain⟨st,it⟩:=it;obtain⟨S,yl⟩:=w.2 i _ e;refine .inr ⟨S,fun x p y=>?_⟩;obtain⟨s,N,W⟩:=yl x p y;refine⟨ts[i],X,P,_,W,G.mono s,N,it,fun Z2 H2 c F I l M R=>?_⟩;refine⟨c,F,_,l,M,R,fun b H3 B k C D=>?_⟩;have f:TupLe K H H3:=s.trans (I.trans k);cases b with
  |true=>rw[if_pos rfl] at D;refine Xf ?_;refine⟨c,B,_,l.mono k,C,D,fun v H5 t E n L U O=>⟨by rw[<- z.length];exact O.1,ts.length - (i+1),by omega,c,E,ys++[t],j.trans (f.trans n),l.mono (k.trans n),L,(z.mono (f.trans n)).append (.cons U .nil),rfl,d,O.2⟩⟩
  |false =>
  rw[if_neg t_] at D;refine Xe ?_;exact⟨ts.length - (i+1),by omega,c,B,ys,j.trans f,l.mono k,C,z.mono f,rfl,d,D⟩
 have e:i=ts.length:=by omega
 subst e;rw[List.drop_length] at it;exact .inl ⟨w.1 _ (o_ _),by rw[<- z.length];exact it.2.1,hf _ _ _ _ j A z it.2.2⟩
def zX (b:TI3) (g:TG3) (tt:TT3) (te:TE3) (nt:Nat) (cap:List Nat):TE3:=fun Z H Q=>b Z H fun ts still c=>cIter3 g tt te still (fun ys a=>∀p,a p=none->Q (.ref p) (up3 a p (.lst ys))) ts [] (oR nt cap Z) c
def mY (b:TI3) (g:TG3) (tt:TT3) (te:TE3) (nt:Nat) (cap:List Nat) (i:Nat):TS3:=fun D Z H=>b Z H fun ts still c=>cIter3 g tt te still (fun ys a=>∀p,a p=none->D.nx (Z.set i (some (.ref p))) (up3 a p (.lst ys))) ts [] (oR nt cap Z) c
section
variable {X:Cx}{N':List Str}{nt:Nat}{cap:List Nat}{scope:Scope}{elt tg iter:Expr}{ifs:List Expr}{pos pos' spos:Pos}{wi:TI3}{g:TG3}{tt:TT3}{te:TE3}
theorem bz (t:X.calm=true) (S:CompSc X N' nt cap scope) (j:PI3 X tg iter wi)
  (m:∀cl pins s H C fp,PG3 (bD X N' scope cl pins s H C fp) tg g/\FZ (bD X N' scope cl pins s H C fp) ifs tt/\PE3 (bD X N' scope cl pins s H C fp) elt te)
  (i:∀x,foldedSetIterable iter X.env x=pure x:=by intro _;rfl):PE3 X (.ListComp elt [⟨tg,iter,ifs,0⟩] scope pos) (zX wi g tt te nt cap):=by
 refine PE.imp (FP (g:=FT X.K g) (tt:=xX X.K tt) (te:=lft X.K te) t S j m i) ?_;rintro Z H Q ⟨r,H3,Q3,e,o,h,k⟩;refine⟨r,H3,_,e,o,h,fun J ts still z n f c u q=>?_⟩;exact zW u (vU (e.mono f)) c q fun ys us y w b a v l p d=>k _ _ _ _ (f.trans (b.trans (aL d))) (a.newLst d v) .ofRef (l p (a.fresh d))
theorem vV {i:Nat}{x:Str}(v:X.calm=true) (A:X.N.Nodup) (S:CompSc X N' nt cap scope) (m:PI3 X tg iter wi)
  (o:∀cl pins s H C fp,PG3 (bD X N' scope cl pins s H C fp) tg g/\FZ (bD X N' scope cl pins s H C fp) ifs tt/\PE3 (bD X N' scope cl pins s H C fp) elt te)
  (k:X.N[i]?=some x:=by rfl) (F:Loc X.env.scope x:=by first | exact Or.inl rfl | exact Or.inr rfl)
  (f:swapsWith (.ListComp elt [⟨tg,iter,ifs,0⟩] scope pos) (some (.Name x pos')) spos.line X.env=pure true:=by rfl)
  (l:∀x,foldedSetIterable iter X.env x=pure x:=by intro _;rfl) (z:X.fn x=true\/X.env.scope.names.lookup x=some .local:=by first | exact .inl rfl | exact .inr rfl | assumption) :
  PS3 X (.Assign [.Name x pos'] (.ListComp elt [⟨tg,iter,ifs,0⟩] scope pos) spos) (mY wi g tt te nt cap i):=by
 refine PS.imp (FQ (g:=FT X.K g) (tt:=xX X.K tt) (te:=lft X.K te) v A k F S m o f l z) ?_;rintro D Z H ⟨u,H3,L,d,t,h,w,_⟩;refine⟨u,H3,_,d,t,h,fun J ts still I r j e y q=>?_⟩;exact zW y (vU (d.mono j)) e q fun ys us G E a b B n p c =>
  w _ _ _ _ (j.trans (a.trans (aL c))) ((d.mono (j.trans (a.trans (aL c)))).set .ofRef) (b.newLst c B) (n p (b.fresh c))
end
abbrev Sp3:=List T->Hp3->VK3->Prop
def qH (K:Frag) (sp:Sp3):Sp:=fun vs H Q _=>∃ts H3 Q3,Reps K H ts vs/\SimH K H3 H/\sp ts H3 Q3/\KV3 K H Q3 Q
def Sub3 (H b:Hp3):Prop:=∀a o,H a=some o->b a=some o
theorem Sub3.refl {H:Hp3}:Sub3 H H:=fun _ _ h=>h
theorem Sub3.trans {H e d:Hp3}(a:Sub3 H e) (b:Sub3 e d):Sub3 H d:=fun c o h=>b c o (a c o h)
theorem Sub3.new {H:Hp3}{p:Addr}{o:O3}(h:H p=none):Sub3 H (up3 H p o):=fun a u e=>by rw[aD (bf e h)];exact e
theorem SimH.sub {K:Frag}{H3 b:Hp3}{H:Hp}(s:SimH K b H) (h:Sub3 H3 b):SimH K H3 H:=fun a o e=>s a o (h a o e)
def Fin3 (Q:VK3):VK3:=fun v H=>∃a,Sub3 a H/\Q v a
theorem Fin3.of {Q:VK3}{v:T}{H a:Hp3}(h:Sub3 a H) (q:Q v a):Fin3 Q v H:=⟨a,h,q⟩
def aO (N:List Str) (ts:List T):St3:=ts.map some++List.replicate (N.length - ts.length) none
theorem yc {K:Frag}{H:Hp}{N:List Str}{ts:List T}{vs:List V}(r:Reps K H ts vs):SimS K H (aO N ts) (L2.start N vs):=by
 refine⟨by simp [aO,L2.start,r.length],fun i t e=>?_⟩;unfold aO at e;unfold L2.start;have d:=r.length;by_cases a:i<ts.length
 ·rw[Yp (by simpa using a),z_] at e;rw[Yp (by rw[e_];omega),z_];cases q:ts[i]? with
  |none=>rw[q] at e;cases e
  |some u =>
  rw[q] at e;cases e;obtain⟨v,c,b⟩:=r.get q;exact⟨v,by rw[c];rfl,b⟩
 rw[Yc (by simpa using a),Y_] at e;split at e <;> cases e
section
variable {X:Cx}{k:Nat}{f:Addr}{fd:FuncData}{ps:List Str}{sp:Sp3}{x:Str}{p pos:Pos}{e:Expr}{es:List Expr}{t:TA3}
def FnOk3 (P:Program) (w:World) (K:Frag) (a:Str->Option Value) (base:Heap) (k:Nat) (f:Addr) (b:FuncData) (ps:List Str) (sp:Sp3):Prop:=FnOk P w K a base CX0 k f b ps (qH K sp)
theorem FnOk3.mono {P:Program}{w:World}{K:Frag}{a:Str->Option Value}{base:Heap}{j k:Nat}(F:FnOk3 P w K a base j f fd ps sp) (h:j<=k):FnOk3 P w K a base k f fd ps sp:=FnOk.mono F h
def oU (sp:Sp3) (t:TA3):TE3:=fun Z H Q=>t Z H fun vs a=>sp vs a Q
theorem Ga (F:FnOk3 X.prog X.w X.K X.mg X.base k f fd ps sp) (i:Room k X.A) (z:Gl X x) (s:X.mg x=some (.ref f)) (o:keepIn X.K (.ref f)=true) (y:Binds X.K fd ps [])
  (l:PA3 X (e::es) t) (c:(x==("__debug__":Str))=false:=by decide) (u:starEach (e::es) X.env=(false,eval e X.env)::starEach es X.env:=by rfl) (b:(backTo pos (starEach es X.env)).any (·.1)=false:=by rfl) :
  PE3 X (.Call (.Name x p) (e::es) [] pos) (oU sp t):=by
 refine PE.imp (Fe (dvs:=[]) (E:=E0) F i z s o y .nil zA l c u b) ?_;rintro Z H Q ⟨n,H3,Q3,g,v,h,k⟩;refine⟨n,H3,_,g,v,h,fun vs j ts d m a r q=>?_⟩;show qH X.K sp (vs++[]) j Q E0;rw[Yd];exact⟨ts,d,Q3,r,a,q,k.at m⟩
theorem fn3 {P:Program}{w:World}{K:Frag}{m:Str->Option Value}{base:Heap}{b:Str}{st:Stmt}{N:List Str}(F:Fun K x b st f fd) (S:FnScope N ps (au st)) (j:∀ts H Q,sp ts H Q->ts.length=ps.length)
  (d:∀(c:Value) (A:Around) (a:List Env) (s:Shared) (H:Hp) (E:XK) (ts:List T) (H3:Hp3) (Q:VK3),Room k (A.deeper (envOfC b (au st) s.heap.objs.size f c))->sp ts H3 Q ->
   ∃t,oH (tL CX0 P w K m base N b (au st) f c A a s H E).nox (bC st) t/\t { nx:=fun _ g=>Fin3 Q .non g,rt:=Fin3 Q} (aO N ts) H3):FnOk3 P w K m base (k+1) f fd ps sp:=by
 refine F.ok S (fun vs H Q E ⟨ts,H3,Q3,r,n,q,k⟩=>by rw[<- r.length];exact j _ _ _ q) fun c A a s H vs Q E B ⟨ts,H3,Q3,r,n,q,k⟩=>?_;obtain⟨t,y,D⟩:=d c A a s H E ts H3 Q3 B q;exact⟨_,y,aO N ts,H3,_,yc r,n,D,fun G g C i h o e ⟨p,l,q⟩=>k _ _ _ _ h (e.sub l) .ofNon q,fun v g t i h e u ⟨p,l,q⟩=>k _ _ _ _ h (e.sub l) u q,fun _ _ _ _ _ _ _ z=>z,fun _ _ _ _ _ _ _ z=>z⟩
end
noncomputable instance:DecidableEq T:=fun a b=>Classical.propDecidable (a=b)
def pl:Nat->T->Bool
 |_,.non=>true
 |_,.int _=>true
 |_,.str _=>true
 |d+1,.tup ts=>ts.all (pl d)
 |_,_=>false
section
variable {X:Cx}{pins:List (Addr × Obj)}{Z:L2.St}{H:Hp}{s:Shared}
theorem vW (I:Inv X pins Z H s):∀(d:Nat) (x y:T) (v:V),pl d x=true->pl d y=true->Rep X.K H x v->Rep X.K H y v->x=y:=by
 intro d;induction d with
 |zero =>
  intro x y v i g c f;cases x <;> cases y <;> first
   |rfl
   | (simp only[Rep] at c f;subst c;cases f <;> rfl)
   | (simp [pl] at i;done)
   | (simp [pl] at g;done)
 |succ d w =>
 intro x y v i g c f;cases x with
 |tup ts =>
  cases y with
  |tup us =>
   obtain⟨a,xs,rfl,p,r⟩:=c.tup;obtain⟨b,ys,e,j,n⟩:=f.tup;cases e;have:=I.tuple_inj p j;subst this;simp only[pl,Yq] at i g;congr 1;have key:∀(ts us:List T) (xs:List V),(∀t∈ts,pl d t=true)->(∀t∈us,pl d t=true)->Reps X.K H ts xs->Reps X.K H us xs->ts=us:=by
    intro ts;induction ts with
    |nil =>
     intro us xs _ _ h h';rw[h.inv0] at h';cases us with
     |nil=>rfl
     |cons u us=>obtain⟨_,_,e,_⟩:=h'.inv;cases e
    |cons t ts k =>
    intro us xs p1 m h h';obtain⟨v,r,rfl,a,b⟩:=h.inv;cases us with
    |nil=>exact absurd h'.inv0 (by simp)
    |cons u us =>
    obtain⟨z,n,e,o,q⟩:=h'.inv;cases e;rw[w t u v (p1 t k_) (m u k_) a o,k us r (fun t l=>p1 t (h_ _ l)) (fun t l=>m t (h_ _ l)) b q]
   exact key ts us xs i g r n
  |_=>first | (simp only[Rep] at c f;obtain⟨a,xs,e,_⟩:=c;subst e;cases f;done) | (simp [pl] at g;done)
 |_=>cases y <;> first
  |rfl
  | (simp only[Rep] at c f;subst c;cases f <;> rfl)
  | (simp [pl] at i;done)
  | (simp [pl] at g;done)
  | (simp only[Rep] at c f;obtain⟨a,xs,e,_⟩:=f;subst e;cases c;done)
theorem units_in1 (A:Around):A.in1.units=A.units+1:=by rfl
theorem kO {a:Type} [DecidableEq (Option a)] (ts us:List a):((List.range (min ts.length us.length)).all (fun j=>decide (ts[j]?=us[j]?))&&ts.length==us.length)=true↔ts=us:=by
 rw[X_,Yq,Zn];constructor
 ·rintro⟨h,b⟩;refine Z_ fun i=>?_;by_cases c:i<ts.length
  ·exact Za (h i (X7.mpr (by omega)))
  rw[V_ (by omega),V_ (by omega)]
 rintro rfl;exact⟨fun i _=>by simp,rfl⟩
theorem Gb {us:List Value}{i:Nat}(h:i<us.toArray.size) {v:Value}(e:us[i]?=some v):us.toArray[i]=v:=by
 have:us.toArray[i]?=some v:=by simpa using e
 rw[Zy h] at this;exact Q_ this
theorem vX (I:Inv X pins Z H s):∀(d:Nat) (A:Around) (x y:T) (m l:V) (u v:Value),pl d x=true->pl d y=true->Rep X.K H x m->Rep X.K H y l->RelV m u->RelV l v->A.units+d<cLine->SeqAt.EqAt A s u v (decide (x=y)):=by
 have il:∀(A:Around) (x y:T) (m l:V) (u v:Value),pl 0 x=true->pl 0 y=true->Rep X.K H x m->Rep X.K H y l->RelV m u->RelV l v->SeqAt.EqAt A s u v (decide (x=y)):=by
  intro A x y m l u v z q g f k c;cases x with
  |non =>
   cases g.non;cases k;cases y with
   |non=>cases f.non;cases c;simp only[Zg];exact SeqAt.EqAt.same _
   |int j=>cases f.int;obtain⟨t',rfl⟩:=c;rw[u_ (by simp)];exact SeqAt.EqAt.none_int _ _
   |str j=>cases f.str;obtain⟨t',rfl⟩:=c;rw[u_ (by simp)];exact SeqAt.EqAt.none_str _ _
   |_=>simp [pl] at q
  |int i =>
   cases g.int;obtain⟨t,rfl⟩:=k;cases y with
   |non=>cases f.non;cases c;rw[u_ (by simp)];exact SeqAt.EqAt.int_none _ _
   |int j=>cases f.int;obtain⟨t',rfl⟩:=c;rw[show decide (T.int i=T.int j)=(i==j) by by_cases h:i=j <;> simp [h]];exact ZS _ _ _ _
   |str j=>cases f.str;obtain⟨t',rfl⟩:=c;rw[u_ (by simp)];exact SeqAt.EqAt.int_str _ _ _ _
   |_=>simp [pl] at q
  |str i =>
   cases g.str;obtain⟨t,rfl⟩:=k;cases y with
   |non=>cases f.non;cases c;rw[u_ (by simp)];exact SeqAt.EqAt.str_none _ _
   |int j=>cases f.int;obtain⟨t',rfl⟩:=c;rw[u_ (by simp)];exact SeqAt.EqAt.str_int _ _ _ _
   |str j=>cases f.str;obtain⟨t',rfl⟩:=c;rw[show decide (T.str i=T.str j)=(i==j) by by_cases h:i=j <;> simp [h]];exact SeqAt.EqAt.str_str _ _ _ _
   |_=>simp [pl] at q
  |_=>simp [pl] at z
 intro d;induction d with
 |zero=>intro A x y m l u v z q g f k c _;exact il A x y m l u v z q g f k c
 |succ d ih =>
 intro A x y m l u v z q g f k c hu;have p:A.units<cLine:=by omega
 cases x with
 |tup ts =>
  obtain⟨a,xs,rfl,L,r⟩:=g.tup;cases k;obtain⟨B,E,F,_⟩:=I.tuple L;cases y with
  |tup us =>
   obtain⟨b,ys,rfl,n,C⟩:=f.tup;cases c;obtain⟨its',w,o,_⟩:=I.tuple n;by_cases D:a=b
   ·subst D;have e:T.tup ts=T.tup us:=vW I (d+1) _ _ (.ref a) z q (.ofTup L r) (.ofTup n C);rw[e,D_ rfl];exact SeqAt.EqAt.same _
   have N:=r.length;have U:=C.length;have S:=E.length;have l4:=w.length;have key:=SeqAt.RcAt.tuples (A:=A) (s:=s) (e:=fun j=>decide (ts[j]?=us[j]?)) (show s.heap.IsTuple a B.toArray from F) (show s.heap.IsTuple b its'.toArray from o) p (fun j h1 h2=>by
    rw[l_] at h1 h2
    have G:j<ts.length:=by omega
    have J:j<us.length:=by omega
    obtain⟨p1,e1,q1⟩:=r.get (g_ G)
    obtain⟨p2,Q,M⟩:=C.get (g_ J)
    obtain⟨O,W,Y⟩:=E.get e1
    obtain⟨P,f2,w2⟩:=w.get Q
    rw[Gb _ W,Gb _ f2,g_ G,g_ J]
    simp only[pl,Yq] at z q
    have:=ih A.in1 ts[j] us[j] p1 p2 O P (z _ (Yl G)) (q _ (Yl J)) q1 M Y w2 (by rw[units_in1];omega)
    rw[show decide (some ts[j]=some us[j])=decide (ts[j]=us[j]) by by_cases h:ts[j]=us[j] <;> simp [h]]
    exact this)
   have R:((List.range (min B.toArray.size its'.toArray.size)).all (fun j=>decide (ts[j]?=us[j]?))&&B.toArray.size==its'.toArray.size)=decide (T.tup ts=T.tup us):=by
    rw[l_,l_,<- S,<- N,<- l4,<- U,W_,kO,p_];constructor
    ·rintro rfl;rfl
    intro h;injection h
   rw[R] at key;exact .of_refs D key
  |non=>cases f.non;cases c;rw[u_ (by simp)];exact SeqAt.EqAt.tuple_none F p
  |int j=>cases f.int;obtain⟨t',rfl⟩:=c;rw[u_ (by simp)];exact SeqAt.EqAt.tuple_int _ _ F p
  |str j=>cases f.str;obtain⟨t',rfl⟩:=c;rw[u_ (by simp)];exact SeqAt.EqAt.tuple_str _ _ F p
  |_=>simp [pl] at q
 |non =>
  cases y with
  |tup us=>obtain⟨b,ys,rfl,n,C⟩:=f.tup;cases c;obtain⟨its',w,o,_⟩:=I.tuple n;cases g.non;cases k;rw[u_ (by simp)];exact SeqAt.EqAt.none_tuple o p
  |non=>exact il A _ _ m l u v rfl rfl g f k c
  |int j=>exact il A _ _ m l u v rfl rfl g f k c
  |str j=>exact il A _ _ m l u v rfl rfl g f k c
  |_=>simp [pl] at q
 |int i =>
  cases y with
  |tup us=>obtain⟨b,ys,rfl,n,C⟩:=f.tup;cases c;obtain⟨its',w,o,_⟩:=I.tuple n;cases g.int;obtain⟨t,rfl⟩:=k;rw[u_ (by simp)];exact SeqAt.EqAt.int_tuple _ _ o p
  |non=>exact il A _ _ m l u v rfl rfl g f k c
  |int j=>exact il A _ _ m l u v rfl rfl g f k c
  |str j=>exact il A _ _ m l u v rfl rfl g f k c
  |_=>simp [pl] at q
 |str i =>
  cases y with
  |tup us=>obtain⟨b,ys,rfl,n,C⟩:=f.tup;cases c;obtain⟨its',w,o,_⟩:=I.tuple n;cases g.str;obtain⟨t,rfl⟩:=k;rw[u_ (by simp)];exact SeqAt.EqAt.str_tuple _ _ o p
  |non=>exact il A _ _ m l u v rfl rfl g f k c
  |int j=>exact il A _ _ m l u v rfl rfl g f k c
  |str j=>exact il A _ _ m l u v rfl rfl g f k c
  |_=>simp [pl] at q
 |_=>simp [pl] at z
end
def rI3 (C:Int->Int->Prop) (g:Int->Int->T):R3:=fun x y H Q=>match x,y with
 |.int i,.int j=>C i j/\Q (g i j) H
 |_,_=>False
def oV (g:Int->Int->T):R3:=fun x y H Q=>match x,y with
 |.int i,.int j=>Q (g i j) H
 |_,_=>False
section
variable {X:Cx}
theorem Gd {f:Value->Value->Sem Value}{C:Int->Int->Prop}{g:Int->Int->T}{g':Int->Int->V}(h:OpR X f (rI C g')) (d:∀i j H,Rep X.K H (g i j) (g' i j)):dD X f (rI3 C g):=by
 refine OpR.imp h ?_;rintro x y H Q ⟨l,a,H3,Q3,e,c,b,h,k⟩;cases l with
 |int i =>
  cases a with
  |int j=>exact⟨i,j,e.int,c.int,h.1,k _ _ _ _ .refl b (d i j H) h.2⟩
  |_=>exact h.elim
 |_=>exact h.elim
theorem kW {f:Value->Value->Sem Value}{g:Int->Int->T}{g':Int->Int->V}(h:OpR X f (rI0 g')) (d:∀i j H,Rep X.K H (g i j) (g' i j)):dD X f (oV g):=by
 refine OpR.imp h ?_;rintro x y H Q ⟨l,a,H3,Q3,e,c,b,h,k⟩;cases l with
 |int i =>
  cases a with
  |int j=>exact⟨i,j,e.int,c.int,k _ _ _ _ .refl b (d i j H) h⟩
  |_=>exact h.elim
 |_=>exact h.elim
def vY (_ j:Int):Prop:=0<j/\j.natAbs.log2<9000
theorem zY:OpR X (binaryOp .FloorDiv) (rI vY fun i j=>.int (i / j)):=opI fun i j _ _ _ _ _ a q=>by
 have e:i / j=i.fdiv j:=(Int.fdiv_eq_ediv_of_nonneg i (Int.le_of_lt a.1)).symm;rw[e] at q;exact floordiv_int (Int.ne_of_gt a.1) q (.inl (PyProof.noPylong_of_log2 a.2))
theorem iy:dD X (binaryOp .Sub) (oV fun i j=>.int (i - j)):=kW Lg fun _ _ _=>.ofInt
theorem aW:dD X (binaryOp .FloorDiv) (rI3 vY fun i j=>.int (i / j)):=Gd zY fun _ _ _=>.ofInt
theorem aR:dD X (binaryOp .Mod) (rI3 (fun _ j=>0<j) fun i j=>.int (i%j)):=Gd Li fun _ _ _=>.ofInt
theorem iz:dD X (binaryOp .Pow) (rI3 RB fun i j=>.int (i^j.toNat)):=Gd Lj fun _ _ _=>.ofInt
theorem S6:dD X (compareOp .Lt) (oV fun i j=>.bl (decide (i<j))):=kW RJ fun _ _ _=>.ofBl
theorem vZ:dD X (compareOp .LtE) (oV fun i j=>.bl (decide (i<=j))):=kW RK fun _ _ _=>.ofBl
theorem JF:dD X (compareOp .Gt) (oV fun i j=>.bl (decide (j<i))):=kW RL fun _ _ _=>.ofBl
theorem S7:dD X (compareOp .GtE) (oV fun i j=>.bl (decide (j<=i))):=kW RM fun _ _ _=>.ofBl
theorem cF:dD X (binaryOp .Mult) (rI3 CMul fun i j=>.int (i*j)):=Gd Lh fun _ _ _=>.ofInt
def mZ:R3:=fun x y H Q=>match x,y with
 |.int i,.int j=>Q (.int (i+j)) H
 |.str i,.str j=>i.length+j.length<=sizeLine/\Q (.str (i++j)) H
 |.ref a,.ref b=>match H a,H b with
  |some (.lst xs),some (.lst ys)=>xs.length+ys.length<=sizeLine/\∀p,H p=none->Q (.ref p) (up3 H p (.lst (xs++ys)))
  |_,_=>False
 |.tup xs,.tup ys=>xs.length+ys.length<=sizeLine/\Q (.tup (xs++ys)) H
 |_,_=>False
theorem zZ:OpR X (binaryOp .Add) (fun x y H Q=>∃a b ys,x=.ref a/\y=.ref b/\SqT X.K H a []/\SqT X.K H b ys/\Q (.ref b) H):=by
 intro p s Z H x y v u Q I B L h;obtain⟨a,b,ys,rfl,rfl,D,z,q⟩:=h;cases B;cases L;obtain⟨A,t,p1,_⟩:=I.tuple D;obtain⟨f,M,E,_⟩:=I.tuple z;cases t;obtain⟨⟨C,w,m,G⟩,r,o,n,k⟩:=id p1;obtain⟨⟨l,g,j,i⟩,e,c,J,d⟩:=id E;simp only at o k c d;subst o k c d;exact concat_meets ⟨_,r,rfl⟩ ⟨_,e,rfl⟩ noFill_tuple_add seq_tuple_add PySem.F.slot_tuple_add PySem.F.entry_tuple_add (aal _ _)
   (tuple_addW0 a b _ f.toArray n J w g G i (by simp)) ⟨r,e,⟨.ref b,H,I,rfl,q⟩⟩
theorem aY:dD X (binaryOp .Add) mZ:=by
 refine OpR.imp (op_add.or (op_add_str.or (op_cat.or (op_catT.or zZ)))) ?_;rintro x y H Q ⟨B,l,H3,Q3,n,m,c,h,k⟩;cases B with
 |int i =>
  cases l with
  |int j=>exact .inl ⟨i,j,n.int,m.int,k _ _ _ _ .refl c .ofInt h⟩
  |_=>exact h.elim
 |str i =>
  cases l with
  |str j=>exact .inr (.inl ⟨i,j,n.str,m.str,h.1,k _ _ _ _ .refl c .ofStr h.2⟩)
  |_=>exact h.elim
 |ref a =>
  cases l with
  |ref b =>
   have h':(match H3 a,H3 b with
    |some (.lst xs),some (.lst ys)=>xs.length+ys.length<=sizeLine/\∀p,H3 p=none->Q3 (.ref p) (up3 H3 p (.lst (xs++ys)))
    |_,_=>False):=h
   split at h'
   ·
    rename_i xs ys A w
    obtain⟨vs,v,g⟩:=c a _ A
    obtain⟨ws,z,f⟩:=c b _ w
    refine .inr (.inr (.inl ⟨a,b,vs,ws,n.ref,m.ref,v,z,by rw[<- g.length,<- f.length];exact h'.1,fun p d=>?_⟩))
    exact k _ _ _ _ (aL d) (c.newLst d (g.append f)) .ofRef (h'.2 p (c.fresh d))
   ·
    exact h'.elim
  |_=>exact h.elim
 |tup xs =>
  cases l with
  |tup ys =>
   obtain⟨a,vs,rfl,o,g⟩:=n.tup;obtain⟨b,ws,rfl,r,f⟩:=m.tup;by_cases t:vs=[]
   ·subst t;have u:xs=[]:=ZR g.length;subst u;exact .inr (.inr (.inr (.inr ⟨a,b,ws,rfl,rfl,o,r,k _ _ _ _ .refl c (.ofTup r f) h.2⟩)))
   refine .inr (.inr (.inr (.inl ⟨a,b,vs,ws,rfl,rfl,o,r,t,by rw[<- g.length,<- f.length];exact h.1,fun s=>?_,fun s p d=>?_⟩)))
   ·have e:ys=[]:=by have:=f.length;rw[s] at this;exact ZR this
    have q:=h.2;rw[e,Yd] at q;exact k _ _ _ _ .refl c (.ofTup o g) q
   exact k _ _ _ _ (aL d) (c.new d) (SimH.newTup (H3:=H3) d (g.append f)) h.2
  |_=>exact h.elim
 |_=>exact h.elim
variable {pins:List (Addr × Obj)}{Z:L2.St}{H:Hp}{s:Shared}
def tZ (neg:Bool):R3:=fun x y H Q=>match x,y with
 |.int i,.int j=>Q (.bl (if neg then !decide (i=j) else decide (i=j))) H
 |.str i,.str j=>Q (.bl (if neg then !decide (i=j) else decide (i=j))) H
 |.bl i,.bl j=>Q (.bl (if neg then !decide (i=j) else decide (i=j))) H
 |.non,.non=>Q (.bl (if neg then false else true)) H
 |.tup xs,.tup ys=>xs.all (pl 20)=true/\ys.all (pl 20)=true/\Q (.bl (if neg then !decide (xs=ys) else decide (xs=ys))) H
 |.ref a,.ref b=>match H a,H b with
  |some (.lst xs),some (.lst ys)=>a≠b/\xs.all (pl 20)=true/\ys.all (pl 20)=true/\Q (.bl (if neg then !decide (xs=ys) else decide (xs=ys))) H
  |_,_=>False
 |_,_=>False
theorem iW (I:Inv X pins Z H s) {ts us:List T}{xs ys:List V}{a its':List Value}{A:Around}(E:A.units+30<cLine) (f:ts.all (pl 20)=true) (i:us.all (pl 20)=true) (r:Reps X.K H ts xs) (l:Reps X.K H us ys) (c:Vals xs a) (b:Vals ys its') :
  ∀j (g:j<a.toArray.size) (k:j<its'.toArray.size),SeqAt.EqAt A.in1 s a.toArray[j] its'.toArray[j] (decide (ts[j]?=us[j]?)):=fun j g k=>by
 have z:=r.length;have C:=l.length;have B:=c.length;have D:=b.length;rw[l_] at g k;have d:j<ts.length:=by omega
 have e:j<us.length:=by omega
 obtain⟨p1,u,y⟩:=r.get (g_ d);obtain⟨w,p,m⟩:=l.get (g_ e);obtain⟨n,q,t⟩:=c.get u;obtain⟨o,x,v⟩:=b.get p;rw[Gb _ q,Gb _ x,g_ d,g_ e];rw[Yq] at f i;have:=vX I 20 A.in1 ts[j] us[j] p1 w n o (f _ (Yl d)) (i _ (Yl e)) y m t v (by rw[units_in1];omega);rw[show decide (some ts[j]=some us[j])=decide (ts[j]=us[j]) by by_cases h:ts[j]=us[j] <;> simp [h]];exact this
theorem iY {ts us:List T}:((List.range (min ts.length us.length)).all (fun j=>decide (ts[j]?=us[j]?))&&ts.length==us.length)=decide (ts=us):=by
 rw[W_,kO,p_]
theorem dI (G:X.A.units+30<cLine):dD X (compareOp .Eq) (tZ false):=by
 intro n s Z H x y v u Q I f g h;obtain⟨S,p,H3,Q3,o,t,m,h,k⟩:=h;have E:∀{x y:V},il x y=true->RelV x v->RelV y u->(k:Q (.bl (decide (x=y))) H)->wpAny (model X.prog X.w) X.A (compareOp .Eq v u) (EP X n Z Q) X.xe s:=fun {x y} a K T q=>RD n s Z H x y v u Q I K T ⟨a,q⟩;cases S with
 |int i =>
  cases p with
  |int j=>rw[o.int] at f;rw[t.int] at g;exact E rfl f g (k _ _ _ _ .refl m (by rw[show decide (V.int i=V.int j)=decide (i=j) by by_cases e:i=j <;> simp [e]];exact .ofBl) h)
  |_=>exact h.elim
 |str i =>
  cases p with
  |str j=>rw[o.str] at f;rw[t.str] at g;exact E rfl f g (k _ _ _ _ .refl m (by rw[show decide (V.str i=V.str j)=decide (i=j) by by_cases e:i=j <;> simp [e]];exact .ofBl) h)
  |_=>exact h.elim
 |bl i =>
  cases p with
  |bl j=>rw[o.bl] at f;rw[t.bl] at g;exact E rfl f g (k _ _ _ _ .refl m (by rw[show decide (V.bl i=V.bl j)=decide (i=j) by by_cases e:i=j <;> simp [e]];exact .ofBl) h)
  |_=>exact h.elim
 |non =>
  cases p with
  |non=>rw[o.non] at f;rw[t.non] at g;exact E rfl f g (k _ _ _ _ .refl m (by rw[show decide (V.non=V.non)=true by simp];exact .ofBl) h)
  |_=>exact h.elim
 |tup ts =>
  cases p with
  |tup us=>obtain⟨a,xs,rfl,J,r⟩:=o.tup;obtain⟨b,ys,rfl,F,C⟩:=t.tup;cases f;cases g;obtain⟨B,d,D,_⟩:=I.tuple J;obtain⟨its',c,l,_⟩:=I.tuple F;refine SeqAt.eq_tupleAt (e:=fun j=>decide (ts[j]?=us[j]?)) D l (by omega) (iW I G h.1 h.2.1 r C d c) ⟨.bl _,H,I,rfl,?_⟩;rw[l_,l_,<- d.length,<- c.length,<- r.length,<- C.length,iY];exact k _ _ _ _ .refl m .ofBl h.2.2
  |_=>exact h.elim
 |ref a =>
  cases p with
  |ref b =>
   have h':(match H3 a,H3 b with
    |some (.lst xs),some (.lst ys)=>a≠b/\xs.all (pl 20)=true/\ys.all (pl 20)=true/\Q3 (.bl (decide (xs=ys))) H3
    |_,_=>False):=h
   split at h'
   ·
    rename_i ts us N L
    obtain⟨xs,M,r⟩:=m a _ N
    obtain⟨ys,P,C⟩:=m b _ L
    cases o.ref;cases t.ref;cases f;cases g
    obtain⟨B,d,D,_⟩:=I.list (X:=X) (.of M)
    obtain⟨its',c,l,_⟩:=I.list (X:=X) (.of P)
    have R:B.length=ts.length:=by rw[<- d.length,<- r.length]
    have O:its'.length=us.length:=by rw[<- c.length,<- C.length]
    by_cases hsz:ts.length=us.length
    ·
     refine SeqAt.eq_listAt (e:=fun j=>decide (ts[j]?=us[j]?)) D.isList l.isList (by simp;omega) (by omega) (iW I G h'.2.1 h'.2.2.1 r C d c) ⟨.bl _,H,I,rfl,?_⟩
     have e:=iY (ts:=ts) (us:=us)
     rw[<- hsz,Nat.min_self,beq_self_eq_true,aaz] at e
     rw[l_,R,e]
     exact k _ _ _ _ .refl m .ofBl h'.2.2.2
    ·
     refine SeqAt.eq_list_lengthsAt D.isList l.isList (by simp;omega) (by omega) ⟨.bl false,H,I,rfl,?_⟩
     have e:decide (ts=us)=false:=u_ fun z=>hsz (by rw[z])
     have q:=h'.2.2.2
     rw[e] at q
     exact k _ _ _ _ .refl m .ofBl q
   ·
    exact h'.elim
  |_=>exact h.elim
 |_=>exact h.elim
theorem qI (G:X.A.units+30<cLine):dD X (compareOp .NotEq) (tZ true):=by
 intro n s Z H x y v u Q I f g h;obtain⟨S,p,H3,Q3,o,t,m,h,k⟩:=h;have E:∀{x y:V},il x y=true->RelV x v->RelV y u->(k:Q (.bl (!decide (x=y))) H)->wpAny (model X.prog X.w) X.A (compareOp .NotEq v u) (EP X n Z Q) X.xe s:=fun {x y} a K T q=>RG n s Z H x y v u Q I K T ⟨a,q⟩;cases S with
 |int i =>
  cases p with
  |int j=>rw[o.int] at f;rw[t.int] at g;exact E rfl f g (k _ _ _ _ .refl m (by rw[show decide (V.int i=V.int j)=decide (i=j) by by_cases e:i=j <;> simp [e]];exact .ofBl) h)
  |_=>exact h.elim
 |str i =>
  cases p with
  |str j=>rw[o.str] at f;rw[t.str] at g;exact E rfl f g (k _ _ _ _ .refl m (by rw[show decide (V.str i=V.str j)=decide (i=j) by by_cases e:i=j <;> simp [e]];exact .ofBl) h)
  |_=>exact h.elim
 |bl i =>
  cases p with
  |bl j=>rw[o.bl] at f;rw[t.bl] at g;exact E rfl f g (k _ _ _ _ .refl m (by rw[show decide (V.bl i=V.bl j)=decide (i=j) by by_cases e:i=j <;> simp [e]];exact .ofBl) h)
  |_=>exact h.elim
 |non =>
  cases p with
  |non=>rw[o.non] at f;rw[t.non] at g;exact E rfl f g (k _ _ _ _ .refl m (by rw[show decide (V.non=V.non)=true by simp];exact .ofBl) h)
  |_=>exact h.elim
 |tup ts =>
  cases p with
  |tup us=>obtain⟨a,xs,rfl,J,r⟩:=o.tup;obtain⟨b,ys,rfl,F,C⟩:=t.tup;cases f;cases g;obtain⟨B,d,D,_⟩:=I.tuple J;obtain⟨its',c,l,_⟩:=I.tuple F;refine SeqAt.RcNeAt.tuples (e:=fun j=>decide (ts[j]?=us[j]?)) D l (by omega) (iW I G h.1 h.2.1 r C d c) _ _ _ _ ⟨.bl _,H,I,rfl,?_⟩;rw[l_,l_,<- d.length,<- c.length,<- r.length,<- C.length,iY];exact k _ _ _ _ .refl m .ofBl h.2.2
  |_=>exact h.elim
 |ref a =>
  cases p with
  |ref b =>
   have h':(match H3 a,H3 b with
    |some (.lst xs),some (.lst ys)=>a≠b/\xs.all (pl 20)=true/\ys.all (pl 20)=true/\Q3 (.bl (!decide (xs=ys))) H3
    |_,_=>False):=h
   split at h'
   ·
    rename_i ts us N L
    obtain⟨xs,M,r⟩:=m a _ N
    obtain⟨ys,P,C⟩:=m b _ L
    cases o.ref;cases t.ref;cases f;cases g
    obtain⟨B,d,D,_⟩:=I.list (X:=X) (.of M)
    obtain⟨its',c,l,_⟩:=I.list (X:=X) (.of P)
    have R:B.length=ts.length:=by rw[<- d.length,<- r.length]
    have O:its'.length=us.length:=by rw[<- c.length,<- C.length]
    by_cases hsz:ts.length=us.length
    ·
     refine SeqAt.RcNeAt.lists (e:=fun j=>decide (ts[j]?=us[j]?)) D.isList l.isList (by simp;omega) (by omega) (iW I G h'.2.1 h'.2.2.1 r C d c) _ _ _ _ ⟨.bl _,H,I,rfl,?_⟩
     have e:=iY (ts:=ts) (us:=us)
     rw[<- hsz,Nat.min_self,beq_self_eq_true,aaz] at e
     rw[l_,R,e]
     exact k _ _ _ _ .refl m .ofBl h'.2.2.2
    ·
     refine SeqAt.RcNeAt.lists_lengths D.isList l.isList (by simp;omega) (by omega) _ _ _ _ ⟨.bl true,H,I,rfl,?_⟩
     have e:decide (ts=us)=false:=u_ fun z=>hsz (by rw[z])
     have q:=h'.2.2.2
     rw[e] at q
     exact k _ _ _ _ .refl m .ofBl q
   ·
    exact h'.elim
  |_=>exact h.elim
 |_=>exact h.elim
def dR (neg:Bool) (x:T) (ts:List T):Bool:=if neg then !decide (x∈ts) else decide (x∈ts)
def occ (neg:Bool) (i j:Str):Bool:=if neg then !(!(Builtin.Str.occurrences j i 0 j.length 1).isEmpty) else !(Builtin.Str.occurrences j i 0 j.length 1).isEmpty
def t7 (neg:Bool):R3:=fun x y H Q=>match y with
 |.tup ts=>pl 20 x=true/\ts.all (pl 20)=true/\Q (.bl (dR neg x ts)) H
 |.ref a=>match H a with
  |some (.lst ts)=>pl 20 x=true/\ts.all (pl 20)=true/\Q (.bl (dR neg x ts)) H
  |some (.rol ts)=>pl 20 x=true/\ts.all (pl 20)=true/\Q (.bl (dR neg x ts)) H
  |_=>False
 |.str j=>match x with
  |.str i=>Q (.bl (occ neg i j)) H
  |_=>False
 |_=>False
theorem oW (I:Inv X pins Z H s) {x:T}{ts:List T}{xs:List V}{a:List Value}(p:pl 20 x=true) (f:ts.all (pl 20)=true) (r:Reps X.K H ts xs) (n:Vals xs a) (A:Around) (O:A.units+30<cLine) {o:V}{u:Value}(E:Rep X.K H x o) (J:RelV o u) :
  ∃e:Value->Bool,(∀y,y∈a->SeqAt.EqAt A s y u (e y))/\a.any e=decide (x∈ts):=by
 rw[Yq] at f;have j:∀y,y∈a->∃t v,t∈ts/\Rep X.K H t v/\RelV v y:=fun y h=>by
  obtain⟨i,m,e⟩:=aad.mp h;have N:=n.length;have G:a[i]?=some y:=by rw[g_ m,e]
  have k:xs[i]?=some xs[i]:=g_ (by omega);obtain⟨z,w,M⟩:=n.get k;rw[G] at w;cases w;obtain⟨t,C,b⟩:=r.get' k;exact⟨t,_,O_ C,b,M⟩
 have d:∀t v y,t∈ts->Rep X.K H t v->RelV v y->(@decide (∃v,RelV v y/\Rep X.K H x v) (Classical.propDecidable _)=true↔t=x):=fun t v y g b c=>by
  rw[@p_ _ (Classical.propDecidable _)];constructor
  ·rintro⟨P,B,L⟩;cases B.inj c;exact vW I 20 t x _ (f t g) p b L
  rintro rfl;exact⟨v,c,b⟩
 refine⟨fun y=>@decide (∃v,RelV v y/\Rep X.K H x v) (Classical.propDecidable _),fun y h=>?_,?_⟩
 ·obtain⟨t,v,g,b,c⟩:=j y h;have q:=vX I 20 A t x v o y u (f t g) p b E c J (by omega);have e:@decide (∃v,RelV v y/\Rep X.K H x v) (Classical.propDecidable _)=decide (t=x):=by rw[W_,d t v y g b c,p_]
  show SeqAt.EqAt A s y u (@decide (∃v,RelV v y/\Rep X.K H x v) (Classical.propDecidable _));rw[e];exact q
 rw[W_,Zk,p_];constructor
 ·rintro⟨y,h,e⟩;obtain⟨t,v,g,b,c⟩:=j y h;rw[<- (d t v y g b c).mp e];exact g
 intro k;obtain⟨i,m,e⟩:=aad.mp k;obtain⟨v,D,l⟩:=r.get (show ts[i]?=some x by rw[g_ m,e]);obtain⟨y,F,c⟩:=n.get D;exact⟨y,O_ F,(d x v y k l c).mpr rfl⟩
theorem m5 (J:X.A.units+31<cLine):dD X (compareOp .In) (t7 false):=by
 intro c s Z H x y v u Q I z o h;obtain⟨g,G,H3,Q3,t,E,m,h,k⟩:=h;have l:X.A.in1.units+30<cLine:=by rw[units_in1];omega
 have n:∀{a:Addr} {ts:List T} {xs:List V},SqL X.K H a xs->Reps X.K H ts xs->u=.ref a->pl 20 g=true->ts.all (pl 20)=true->Q3 (.bl (dR false g ts)) H3->wpAny (model X.prog X.w) X.A (compareOp .In v u) (EP X c Z Q) X.xe s:=by intro a ts xs d r e p1 F q;subst e;obtain⟨b,f,C,_⟩:=I.list d;obtain⟨e,B,D⟩:=oW I p1 F r f X.A.in1 l t z;refine SeqAt.in_listAt e C.isList (fun y p=>B y (by simpa using p)) ⟨.bl _,H,I,rfl,?_⟩;rw[show b.toArray.any e=b.any e by simp,D];exact k _ _ _ _ .refl m .ofBl q
 cases G with
 |tup ts=>obtain⟨a,xs,rfl,d,r⟩:=E.tup;cases o;obtain⟨b,f,C,_⟩:=I.tuple d;obtain⟨e,B,D⟩:=oW I h.1 h.2.1 r f X.A.in1 l t z;refine SeqAt.in_tupleAt e C (fun y p=>B y (by simpa using p)) ⟨.bl _,H,I,rfl,?_⟩;rw[show b.toArray.any e=b.any e by simp,D];exact k _ _ _ _ .refl m .ofBl h.2.2
 |ref a =>
  have h':(match H3 a with
   |some (.lst ts)=>pl 20 g=true/\ts.all (pl 20)=true/\Q3 (.bl (dR false g ts)) H3
   |some (.rol ts)=>pl 20 g=true/\ts.all (pl 20)=true/\Q3 (.bl (dR false g ts)) H3
   |_=>False):=h
  rw[E.ref] at o
  split at h'
  ·
   rename_i ts e
   obtain⟨xs,d,r⟩:=m.sqL (.inl e)
   exact n d r o h'.1 h'.2.1 h'.2.2
  ·
   rename_i ts e
   obtain⟨xs,d,r⟩:=m.sqL (.inr e)
   exact n d r o h'.1 h'.2.1 h'.2.2
  ·
   exact h'.elim
 |str j =>
  cases g with
  |str i=>exact xK c s Z H x y v u Q I z o ⟨i,j,t.str,E.str,k _ _ _ _ .refl m .ofBl h⟩
  |_=>exact h.elim
 |_=>exact h.elim
theorem z6 (J:X.A.units+31<cLine):dD X (compareOp .NotIn) (t7 true):=by
 intro c s Z H x y v u Q I z o h;obtain⟨g,G,H3,Q3,t,E,m,h,k⟩:=h;have l:X.A.in1.units+30<cLine:=by rw[units_in1];omega
 have n:∀{a:Addr} {ts:List T} {xs:List V},SqL X.K H a xs->Reps X.K H ts xs->u=.ref a->pl 20 g=true->ts.all (pl 20)=true->Q3 (.bl (dR true g ts)) H3->wpAny (model X.prog X.w) X.A (compareOp .NotIn v u) (EP X c Z Q) X.xe s:=by intro a ts xs d r e p1 F q;subst e;obtain⟨b,f,C,_⟩:=I.list d;obtain⟨e,B,D⟩:=oW I p1 F r f X.A.in1 l t z;refine SeqAt.notIn_listAt e C.isList (fun y p=>B y (by simpa using p)) ⟨.bl _,H,I,rfl,?_⟩;rw[show b.toArray.any e=b.any e by simp,D];exact k _ _ _ _ .refl m .ofBl q
 cases G with
 |tup ts=>obtain⟨a,xs,rfl,d,r⟩:=E.tup;cases o;obtain⟨b,f,C,_⟩:=I.tuple d;obtain⟨e,B,D⟩:=oW I h.1 h.2.1 r f X.A.in1 l t z;refine SeqAt.notIn_tupleAt e C (fun y p=>B y (by simpa using p)) ⟨.bl _,H,I,rfl,?_⟩;rw[show b.toArray.any e=b.any e by simp,D];exact k _ _ _ _ .refl m .ofBl h.2.2
 |ref a =>
  have h':(match H3 a with
   |some (.lst ts)=>pl 20 g=true/\ts.all (pl 20)=true/\Q3 (.bl (dR true g ts)) H3
   |some (.rol ts)=>pl 20 g=true/\ts.all (pl 20)=true/\Q3 (.bl (dR true g ts)) H3
   |_=>False):=h
  rw[E.ref] at o
  split at h'
  ·
   rename_i ts e
   obtain⟨xs,d,r⟩:=m.sqL (.inl e)
   exact n d r o h'.1 h'.2.1 h'.2.2
  ·
   rename_i ts e
   obtain⟨xs,d,r⟩:=m.sqL (.inr e)
   exact n d r o h'.1 h'.2.1 h'.2.2
  ·
   exact h'.elim
 |str j =>
  cases g with
  |str i=>exact nU c s Z H x y v u Q I z o ⟨i,j,t.str,E.str,k _ _ _ _ .refl m .ofBl h⟩
  |_=>exact h.elim
 |_=>exact h.elim
def oq {a:Type}(o:Option a) (Q:a->Prop):Prop:=match o with
 |some v=>Q v
 |none=>False
def qJ:R3:=fun x y H Q=>match x,y with
 |.ref a,.int i=>match H a with
  |some (.lst ts)=>oq (atI ts i) fun t=>Q t H
  |some (.rol ts)=>oq (atI ts i) fun t=>Q t H
  |_=>False
 |.tup ts,.int i=>oq (atI ts i) fun t=>Q t H
 |.str z,.int i=>z.length<=sizeLine/\oq (atI z.cps.toList i) fun c=>Q (.str ⟨#[c]⟩) H
 |_,_=>False
theorem wg {K:Frag}{H:Hp}{ts:List T}{xs:List V}{i:Int}{t:T}(r:Reps K H ts xs) (h:atI ts i=some t):∃v,atI xs i=some v/\Rep K H t v:=by
 unfold atI at h ⊢;rw[<- r.length];cases e:ixN ts.length i with
 |none=>rw[e] at h;cases h
 |some j =>
 rw[e] at h;exact r.get h
theorem ix3:SQ X qJ:=by
 refine IxR.imp LC ?_;rintro x y H Q ⟨s,l,H3,Q3,j,g,f,h,k⟩;have d:∀{a:Addr} {ts:List T} {xs:List V} {i:Int},SqL X.K H a xs->Reps X.K H ts xs->x=.ref a->y=.int i->oq (atI ts i) (fun t=>Q3 t H3)->rIx X.K x y H Q:=by
  intro a ts xs i b r n p q;cases e:atI ts i with
  |none=>rw[e] at q;exact q.elim
  |some t =>
  rw[e] at q;obtain⟨v,o,m⟩:=wg r e;exact .inl ⟨a,xs,i,v,n,p,b,o,k _ _ _ _ .refl f m q⟩
 cases s with
 |ref a =>
  cases l with
  |int i =>
   have h':(match H3 a with
    |some (.lst ts)=>oq (atI ts i) fun t=>Q3 t H3
    |some (.rol ts)=>oq (atI ts i) fun t=>Q3 t H3
    |_=>False):=h
   split at h'
   ·
    rename_i ts e
    obtain⟨xs,b,r⟩:=f.sqL (.inl e)
    exact d b r j.ref g.int h'
   ·
    rename_i ts e
    obtain⟨xs,b,r⟩:=f.sqL (.inr e)
    exact d b r j.ref g.int h'
   ·
    exact h'.elim
  |_=>exact h.elim
 |tup ts =>
  cases l with
  |int i =>
   have h':oq (atI ts i) fun t=>Q3 t H3:=h
   cases e:atI ts i with
   |none=>rw[e] at h';exact h'.elim
   |some t =>
    rw[e] at h'
    obtain⟨a,xs,n,b,r⟩:=j.tup
    obtain⟨v,o,m⟩:=wg r e
    exact .inr (.inl ⟨a,xs,i,v,n,g.int,b,o,k _ _ _ _ .refl f m h'⟩)
  |_=>exact h.elim
 |str z =>
  cases l with
  |int i =>
   have h':z.length<=sizeLine/\oq (atI z.cps.toList i) fun c=>Q3 (.str ⟨#[c]⟩) H3:=h
   cases e:atI z.cps.toList i with
   |none=>rw[e] at h';exact h'.2.elim
   |some c =>
    rw[e] at h'
    exact .inr (.inr ⟨z,i,c,j.str,g.int,h'.1,e,k _ _ _ _ .refl f .ofStr h'.2⟩)
  |_=>exact h.elim
 |_=>exact h.elim
def z7:qF:=fun o i v H Q=>match o,i with
 |.ref a,.int k=>match H a with
  |some (.lst ts)=>oq (ixN ts.length k) fun j=>Q (up3 H a (.lst (ts.set j v)))
  |_=>False
 |_,_=>False
theorem SimH.wrL {K:Frag}{H:Hp}{H3:Hp3}{a:Addr}{xs:List V}{ts:List T}{c:List V}(s:SimH K H3 H) (g:H a=some (.lst xs)) (r:Reps K H ts c):SimH K (up3 H3 a (.lst ts)) (upd H a (.lst c)):=fun b o e=>by
 have f:TupLe K H (upd H a (.lst c)):=dq (by rw[g];exact trivial);by_cases d:b=a
 ·subst d;rw[aq] at e;cases e;exact⟨c,cB,r.mono f⟩
 rw[aD d] at e;exact (s b o e).stay f fun u q=>by rw[aV d];exact q
theorem yd:Jz X z7:=by
 refine PSet.imp set_list ?_;rintro o i v H Q ⟨g,l,f,H3,Q3,q,p,m,d,h,k⟩;cases g with
 |ref a =>
  cases l with
  |int n =>
   have h':(match H3 a with
    |some (.lst ts)=>oq (ixN ts.length n) fun j=>Q3 (up3 H3 a (.lst (ts.set j f)))
    |_=>False):=h
   split at h'
   ·
    rename_i ts e
    obtain⟨xs,b,r⟩:=d a _ e
    cases c:ixN ts.length n with
    |none=>rw[c] at h';exact h'.elim
    |some j =>
     rw[c] at h'
     exact⟨a,xs,n,j,q.ref,p.int,b,by rw[<- r.length];exact c,k _ _ (dq (by rw[b];exact trivial)) (d.wrL b (r.set j m)) h'⟩
   ·
    exact h'.elim
  |_=>exact h.elim
 |_=>exact h.elim
abbrev TO3:=St3->Hp3->(Option Int->Hp3->Prop)->Prop
def Xn (K:Frag) (d:TO3):TO:=fun Z H Q=>∃c H3 Q3,SimS K H c Z/\SimH K H3 H/\d c H3 Q3/\∀o b a,TupLe K H b->SimH K a b->Q3 o a->Q o b
def PO3 (X:Cx) (e:Option Expr) (t:TO3):Prop:=PO X e (Xn X.K t)
theorem PO.imp {e:Option Expr}{t t':TO}(h:PO X e t) (w:∀Z H Q,t' Z H Q->t Z H Q):PO X e t':=fun a s Z H Q I q=>h a s Z H Q I (w Z H Q q)
def qK:TO3:=fun _ H Q=>Q none H
def z8 (t:TE3):TO3:=fun Z H Q=>t Z H fun x a=>match x with
 |.int i=>Q (some i) a
 |_=>False
theorem dJ:PO3 X none qK:=by
 refine PO.imp Fj ?_;rintro Z H Q ⟨c,H3,Q3,b,a,h,k⟩;exact k _ _ _ .refl a h
theorem du {e:Expr}{te:TE3}(h:PE3 X e te):PO3 X (some e) (z8 te):=by
 refine PO.imp (Fl h) ?_;rintro Z H Q ⟨g,H3,Q3,b,d,h,k⟩;refine⟨g,H3,_,b,d,h,fun v j t f c a r q=>?_⟩;cases t with
 |int i=>exact⟨i,r.int,k _ _ _ c a q⟩
 |_=>exact q.elim
theorem Ml:SlR X (fun x g m H Q=>∃z,x=.str z/\z.length<=sizeLine/\Q (.str (Txt.slice z g m)) H):=by
 intro b s Z H x v A B g m C Q I y w pl p h;obtain⟨z,rfl,f,q⟩:=h;obtain⟨t,rfl⟩:=y;refine⟨"str",_,F.slot_str_getitem.lookup,typeIs_str _ _ _,?_⟩;obtain⟨o,e,c,d⟩:=w;have a:∀(t':Tok) (k:Nat),EP X b Z Q (.str (Txt.slice z g m) t') { s with toks:=k}:=fun t' k=>⟨.str _,H,I.tok k,⟨t',rfl⟩,q⟩;cases pl with
 |none =>
  cases p with
  |none=>exact ZL (l:=none) (u:=none) (st:=none) ⟨o,e,c,d⟩ rfl (post_val_or_str ⟨L_ (Txt.slice_le z _ _) f,a⟩)
  |int j n=>exact ZL (l:=none) (u:=some (j,n)) (st:=none) ⟨o,e,c,d⟩ rfl (post_val_or_str ⟨L_ (Txt.slice_le z _ _) f,a⟩)
 |int i r =>
 cases p with
 |none=>exact ZL (l:=some (i,r)) (u:=none) (st:=none) ⟨o,e,c,d⟩ rfl (post_val_or_str ⟨L_ (Txt.slice_le z _ _) f,a⟩)
 |int j n=>exact ZL (l:=some (i,r)) (u:=some (j,n)) (st:=none) ⟨o,e,c,d⟩ rfl (post_val_or_str ⟨L_ (Txt.slice_le z _ _) f,a⟩)
def dm (ts:List T) (a b:Option Int):List T:=(ts.drop (HT.sIx ts.length 0 a)).take (HT.sIx ts.length ts.length b - HT.sIx ts.length 0 a)
def Ge:T->Option Int->Option Int->Hp3->VK3->Prop:=fun x c b H Q=>match x with
 |.ref a=>match H a with
  |some (.lst ts)=>∀p,H p=none->Q (.ref p) (up3 H p (.lst (dm ts c b)))
  |some (.rol ts)=>∀p,H p=none->Q (.ref p) (up3 H p (.lst (dm ts c b)))
  |_=>False
 |.tup ts=>¬(HT.sIx ts.length 0 c=0/\HT.sIx ts.length ts.length b=ts.length)/\Q (.tup (dm ts c b)) H
 |.str z=>z.length<=sizeLine/\Q (.str (Txt.slice z c b)) H
 |_=>False
def S8 (te:TE3) (a d:TO3):TE3:=fun Z H Q=>te Z H fun x c=>a Z c fun l b=>d Z b fun u H3=>Ge x l u H3 Q
theorem jT {K:Frag}{H:Hp}{ts:List T}{xs:List V}(r:Reps K H ts xs) (b a:Option Int):Reps K H (dm ts b a) (ql xs b a):=by
 unfold dm ql;rw[<- r.length];exact (r.drop _).take _
theorem gC {e:Expr}{C B:Option Expr}{te:TE3}{D E:TO3}{K s:Pos}(J:PE3 X e te) (L:PO3 X C D) (O:PO3 X B E):PE3 X (.Subscript e (.Slice C B none K) s) (S8 te D E):=by
 refine PE.imp (qj (sl_list.or (sl_tup.or Ml)) J L O) ?_;rintro Z H Q ⟨y,H3,Q3,q,I,h,k⟩;refine⟨y,H3,_,q,I,h,fun x S M v i t G N=>⟨y,v,_,q.mono i,t,N,fun l R w g A F=>⟨y,w,_,q.mono (i.trans g),A,F,fun u P c n b j=>?_⟩⟩⟩;have o:=k.at (i.trans (g.trans n));have f:=G.mono (g.trans n);cases M with
 |ref a =>
  have h':(match c a with
   |some (.lst ts)=>∀p,c p=none->Q3 (.ref p) (up3 c p (.lst (dm ts l u)))
   |some (.rol ts)=>∀p,c p=none->Q3 (.ref p) (up3 c p (.lst (dm ts l u)))
   |_=>False):=j
  split at h'
  ·
   rename_i ts e
   obtain⟨xs,m,r⟩:=b.sqL (.inl e)
   exact .inl ⟨a,xs,f.ref,m,fun p d=>o _ _ _ _ (aL d) (b.newLst d (jT r l u)) .ofRef (h' p (b.fresh d))⟩
  ·
   rename_i ts e
   obtain⟨xs,m,r⟩:=b.sqL (.inr e)
   exact .inl ⟨a,xs,f.ref,m,fun p d=>o _ _ _ _ (aL d) (b.newLst d (jT r l u)) .ofRef (h' p (b.fresh d))⟩
  ·
   exact h'.elim
 |tup ts=>obtain⟨a,xs,rfl,m,r⟩:=f.tup;refine .inr (.inl ⟨a,xs,rfl,m,by rw[<- r.length];exact j.1,fun p d=>o _ _ _ _ (aL d) (b.new d) (SimH.newTup (H3:=c) d (jT r l u)) j.2⟩)
 |str z=>exact .inr (.inr ⟨z,f.str,j.1,o _ _ _ _ .refl b .ofStr j.2⟩)
 |_=>exact j.elim
def aP (k:Str):List (Str × T)->Option T
 |[]=>none
 | (k',v)::r=>if k'=k then some v else aP k r
def put3 (k:Str) (v:T) (kvs:List (Str × T)):List (Str × T) :=
 if (kvs.any fun a=>decide (a.1=k))=true then kvs.map (fun a=>if a.1=k then (a.1,v) else a) else kvs++[(k,v)]
def r3D:R3:=fun x y H Q=>match x,y with
 |.ref a,.str k=>match H a with
  |some (.dct kvs)=>oq (aP k kvs) fun t=>Q t H
  |_=>False
 |_,_=>False
def z9 (f d c:TE3):TS3:=fun D Z H=>c Z H fun v e=>f Z e fun x b=>d Z b fun y H3=>match x,y with
 |.ref a,.str k=>match H3 a with
  |some (.dct kvs)=>kvs.length<sizeLine/\D.nx Z (up3 H3 a (.dct (put3 k v kvs)))
  |_=>False
 |_,_=>False
theorem Gf {K:Frag}{H:Hp}{k:Str}{t:T}{v:V}(n:Rep K H t v) {kvs:List (Str × T)}{vs:List (Key × V)}(r:RepD K H kvs vs):RepD K H (put3 k t kvs) (putK vs (Sum.inr k:Key) v):=by
 have e:∀{kvs:List (Str × T)} {vs:List (Key × V)},RepD K H kvs vs->(kvs.any fun c=>decide (c.1=k))=(vs.any fun c=>decide (c.1=(Sum.inr k:Key)))/\RepD K H (kvs.map (fun c=>if c.1=k then (c.1,t) else c)) (vs.map (fun c=>if c.1=(Sum.inr k:Key) then (c.1,v) else c)):=by
  intro kvs;induction kvs with
  |nil=>intro vs r;cases r;exact⟨rfl,.nil⟩
  |cons p l u =>
  intro vs r;cases r with
  |cons q s =>
  rename_i b w;obtain⟨j,g⟩:=u s;obtain⟨o,m⟩:=q;obtain⟨y,x⟩:=b;simp only at o m;subst o;by_cases d:p.1=k
  ·refine⟨by simp [d],?_⟩;simp only[C_,d,if_true];exact .cons ⟨rfl,n⟩ g
  have f:¬(Sum.inr p.1:Key)=Sum.inr k:=fun z=>d (Sum.inr.inj z);refine⟨by simp only[aay,d,f,Y8,Bool.false_or];exact j,?_⟩;simp only[C_,d,f,X8];exact .cons ⟨rfl,m⟩ g
 obtain⟨j,g⟩:=e r;unfold put3 putK;rw[j];split
 ·exact g
 have i:∀{a:List (Str × T)} {b:List (Key × V)},RepD K H a b->RepD K H (a++[(k,t)]) (b++[((Sum.inr k:Key),v)]):=fun h=>Paired.snoc h ⟨rfl,n⟩;exact i r
theorem SimH.wrD {K:Frag}{H:Hp}{H3:Hp3}{a:Addr}{h:List (Key × V)}{kvs:List (Str × T)}{c:List (Key × V)}(s:SimH K H3 H) (g:H a=some (.dK h)) (r:RepD K H kvs c):SimH K (up3 H3 a (.dct kvs)) (upd H a (.dK c)):=fun b o e=>by
 have f:TupLe K H (upd H a (.dK c)):=dq (by rw[g];exact trivial);by_cases d:b=a
 ·subst d;rw[aq] at e;cases e;exact⟨c,cB,r.mono f⟩
 rw[aD d] at e;exact (s b o e).stay f fun u q=>by rw[aV d];exact q
theorem Gg {o i b:Expr}{I t q:TE3}{j g:Pos}(W:X.A.units+1<cLine) (T:PE3 X o I) (M:PE3 X i t) (P:PE3 X b q) (J:swapsWith b (some (.Subscript o i g)) j.line X.env=pure false:=by rfl) :
  PS3 X (.Assign [.Subscript o i g] b j) (z9 I t q):=by
 refine PS.imp (Ft W T M P J) ?_;rintro D Z H ⟨s,H3,U,p,Q,h,R,_⟩;refine⟨s,H3,_,p,Q,h,fun v H1 q B f z O V=>⟨s,B,_,p.mono f,z,V,fun x H2 S C d F N L=>⟨s,C,_,p.mono (f.trans d),F,L,fun y G t m c n Y E=>?_⟩⟩⟩;cases S with
 |ref a =>
  cases t with
  |str key =>
   have h':(match m a with
    |some (.dct kvs)=>kvs.length<sizeLine/\U.nx s (up3 m a (.dct (put3 key q kvs)))
    |_=>False):=E
   split at h'
   ·
    rename_i kvs e
    obtain⟨vs,w,r⟩:=n a _ e
    have u:=O.mono (d.trans c)
    have l:TupLe X.K G (upd G a (.dK (putK vs (Sum.inr key:Key) v))):=dq (by rw[w];exact trivial)
    refine⟨a,_,(N.mono c).ref,?_,R _ _ _ _ (f.trans (d.trans (c.trans l))) (p.mono (f.trans (d.trans (c.trans l)))) (n.wrD w (Gf u r)) h'.2⟩
    rw[Y.str]
    exact DPut.k (k:=Sum.inr key) w (by rw[<- aaj r];exact h'.1)
   ·
    exact h'.elim
  |_=>exact E.elim
 |_=>exact E.elim
def Aa:List (Str × TE3)->St3->Hp3->(List (Str × T)->Hp3->Prop)->Prop
 |[],_,H,Q=>Q [] H
 | (k,tv)::r,Z,H,Q=>tv Z H fun y a=>Aa r Z a fun ps H3=>Q ((k,y)::ps) H3
def Xo (kvs a:List (Str × T)):List (Str × T):=a.foldl (fun b c=>put3 c.1 c.2 b) kvs
def Mm (a:List (Str × TE3)):TE3:=fun Z H Q=>∀p,H p=none->Aa a Z (up3 H p (.dct [])) fun ps b=>b p=some (.dct [])/\ps.length<=15/\Q (.ref p) (up3 b p (.dct (Xo [] ps)))
variable {x:Str}{p pos:Pos}{e:Expr}{es:List Expr}{t:TA3}{id Ty:String}{r:List T->Hp3->VK3->Prop}
def Mp (r:List T->Hp3->VK3->Prop) (t:TA3):TE3:=fun Z H Q=>t Z H fun vs a=>r vs a Q
theorem aN (v:cZ X (.builtin id) r) (u:Gl X x) (m:X.mg x=none) (o:bootBuiltins x=some (.builtin id)) (i:PA3 X (e::es) t) (f:x≠"__name__":=by decide) (c:(x==("__debug__":Str))=false:=by decide)
  (n:starEach (e::es) X.env=(false,eval e X.env)::starEach es X.env:=by rfl) (b:(backTo pos (starEach es X.env)).any (·.1)=false:=by rfl):PE3 X (.Call (.Name x p) (e::es) [] pos) (Mp r t):=by
 refine PE.imp (za v u m o i f c n b) ?_;rintro Z H Q ⟨l,H3,Q3,g,s,h,k⟩;exact⟨l,H3,_,g,s,h,fun vs w ts d j a r q=>⟨ts,d,Q3,r,a,q,k.at j⟩⟩
theorem bH (v:cZ X (.type Ty) r) (u:Gl X x) (m:X.mg x=none) (o:bootBuiltins x=some (.type Ty)) (i:PA3 X (e::es) t) (f:x≠"__name__":=by decide) (c:(x==("__debug__":Str))=false:=by decide)
  (n:starEach (e::es) X.env=(false,eval e X.env)::starEach es X.env:=by rfl) (b:(backTo pos (starEach es X.env)).any (·.1)=false:=by rfl):PE3 X (.Call (.Name x p) (e::es) [] pos) (Mp r t):=by
 refine PE.imp (xQ v u m o i f c n b) ?_;rintro Z H Q ⟨l,H3,Q3,g,s,h,k⟩;exact⟨l,H3,_,g,s,h,fun vs w ts d j a r q=>⟨ts,d,Q3,r,a,q,k.at j⟩⟩
theorem S9 {n:String}(c:Gl X x) (d:X.mg x=none) (e:bootBuiltins x=some (.type n)) (b:x≠"__name__":=by decide) (a:(x==("__debug__":Str))=false:=by decide):PE3 X (.Name x pos) (tC3 (.ty n)):=by
 refine PE.imp (El (v:=.ty n) c d e rfl b a) ?_;rintro Z H Q ⟨i,H3,Q3,g,f,h,k⟩;exact k _ _ _ H3 .refl f .ofTy h
theorem Reps.one' {K:Frag}{H:Hp}{t:T}{vs:List V}(r:Reps K H [t] vs):∃v,vs=[v]/\Rep K H t v:=by
 obtain⟨v,_,rfl,a,b⟩:=r.inv;rw[b.inv0];exact⟨v,rfl,a⟩
theorem Reps.two' {K:Frag}{H:Hp}{t u:T}{vs:List V}(r:Reps K H [t,u] vs):∃v w,vs=[v,w]/\Rep K H t v/\Rep K H u w:=by
 obtain⟨v,_,rfl,a,b⟩:=r.inv;obtain⟨w,rfl,c⟩:=b.one';exact⟨v,w,rfl,a,c⟩
def wj:List T->Hp3->VK3->Prop:=fun ts H Q=>match ts with
 |[.ref a]=>match H a with
  |some (.lst xs)=>Q (.int xs.length) H
  |some (.rol xs)=>Q (.int xs.length) H
  |_=>False
 |[.tup xs]=>Q (.int xs.length) H
 |[.str z]=>z.length<=sizeLine/\Q (.int z.length) H
 |_=>False
theorem cP:cZ X (.builtin "len") wj:=by
 refine CallR.imp (call_len_seq.or oh) ?_;rintro xs H Q ⟨ts,H3,Q3,r,c,h,k⟩
 match ts,h,r with
 |[.ref a],h,r =>
  obtain⟨v,rfl,b⟩:=r.one';have h':(match H3 a with
   |some (.lst xs)=>Q3 (.int xs.length) H3
   |some (.rol xs)=>Q3 (.int xs.length) H3
   |_=>False):=h
  split at h'
  ·rename_i us e;obtain⟨ys,d,f⟩:=c.sqL (.inl e);exact .inl ⟨a,ys,by rw[b.ref],.inl d,by rw[<- f.length];exact k _ _ _ _ .refl c .ofInt h'⟩
  ·rename_i us e;obtain⟨ys,d,f⟩:=c.sqL (.inr e);exact .inl ⟨a,ys,by rw[b.ref],.inl d,by rw[<- f.length];exact k _ _ _ _ .refl c .ofInt h'⟩
  exact h'.elim
 |[.tup us],h,r=>obtain⟨v,rfl,b⟩:=r.one';obtain⟨a,ys,rfl,d,f⟩:=b.tup;exact .inl ⟨a,ys,rfl,.inr d,by rw[<- f.length];exact k _ _ _ _ .refl c .ofInt h⟩
 |[.str z],h,r =>
 obtain⟨v,rfl,b⟩:=r.one';exact .inr ⟨z,by rw[b.str],h.1,k _ _ _ _ .refl c .ofInt h.2⟩
def ue:List T->Hp3->VK3->Prop:=fun ts H Q=>match ts with
 |[.ref a]=>match H a with
  |some (.lst xs)=>∀p,H p=none->Q (.ref p) (up3 H p (.lst xs))
  |some (.rol xs)=>∀p,H p=none->Q (.ref p) (up3 H p (.lst xs))
  |_=>False
 |[.tup xs]=>∀p,H p=none->Q (.ref p) (up3 H p (.lst xs))
 |_=>False
theorem Gh:cZ X (.type "list") ue:=by
 refine CallR.imp ou ?_;rintro xs H Q ⟨ts,H3,Q3,r,c,h,k⟩
 match ts,h,r with
 |[.ref a],h,r =>
  obtain⟨v,rfl,g⟩:=r.one';have h':(match H3 a with
   |some (.lst xs)=>∀p,H3 p=none->Q3 (.ref p) (up3 H3 p (.lst xs))
   |some (.rol xs)=>∀p,H3 p=none->Q3 (.ref p) (up3 H3 p (.lst xs))
   |_=>False):=h
  split at h'
  ·rename_i us e;obtain⟨ys,d,f⟩:=c.sqL (.inl e);exact⟨a,ys,by rw[g.ref],.inl d,fun l b=>k _ _ _ _ (aL b) (c.newLst b f) .ofRef (h' l (c.fresh b))⟩
  ·rename_i us e;obtain⟨ys,d,f⟩:=c.sqL (.inr e);exact⟨a,ys,by rw[g.ref],.inl d,fun l b=>k _ _ _ _ (aL b) (c.newLst b f) .ofRef (h' l (c.fresh b))⟩
  exact h'.elim
 |[.tup us],h,r =>
 obtain⟨v,rfl,g⟩:=r.one';obtain⟨a,ys,rfl,d,f⟩:=g.tup;exact⟨a,ys,rfl,.inr d,fun l b=>k _ _ _ _ (aL b) (c.newLst b f) .ofRef (h l (c.fresh b))⟩
def oX:List T->Hp3->VK3->Prop:=fun ts H Q=>match ts with
 |[.ref a]=>match H a with
  |some (.lst xs)=>Q (.tup xs) H
  |some (.rol xs)=>Q (.tup xs) H
  |_=>False
 |[.tup xs]=>Q (.tup xs) H
 |_=>False
theorem cU:cZ X (.type "tuple") oX:=by
 refine CallR.imp lZ ?_;rintro xs H Q ⟨ts,H3,Q3,r,f,h,k⟩
 match ts,h,r with
 |[.ref a],h,r =>
  obtain⟨v,rfl,g⟩:=r.one';have h':(match H3 a with
   |some (.lst xs)=>Q3 (.tup xs) H3
   |some (.rol xs)=>Q3 (.tup xs) H3
   |_=>False):=h
  split at h'
  ·rename_i us e;obtain⟨ys,c,d⟩:=f.sqL (.inl e);exact⟨a,ys,by rw[g.ref],.inl ⟨c,fun l b=>k _ _ _ _ (aL b) (f.new b) (SimH.newTup (H3:=H3) b d) h'⟩⟩
  ·rename_i us e;obtain⟨ys,c,d⟩:=f.sqL (.inr e);exact⟨a,ys,by rw[g.ref],.inl ⟨c,fun l b=>k _ _ _ _ (aL b) (f.new b) (SimH.newTup (H3:=H3) b d) h'⟩⟩
  exact h'.elim
 |[.tup us],h,r =>
 obtain⟨v,rfl,g⟩:=r.one';obtain⟨a,ys,rfl,c,d⟩:=g.tup;exact⟨a,ys,rfl,.inr ⟨c,k _ _ _ _ .refl f (.ofTup c d) h⟩⟩
def Ab:List T->Hp3->VK3->Prop:=fun ts H Q=>match ts with
 |[.int i]=>Q (.int i) H
 |[.bl b]=>Q (.int (if b then 1 else 0)) H
 |_=>False
theorem Gi:cZ X (.type "int") Ab:=by
 refine CallR.imp xM ?_;rintro xs H Q ⟨ts,H3,Q3,r,c,h,k⟩
 match ts,h,r with
 |[.int i],h,r=>obtain⟨v,rfl,a⟩:=r.one';exact .inl ⟨i,by rw[a.int],k _ _ _ _ .refl c .ofInt h⟩
 |[.bl b],h,r =>
 obtain⟨v,rfl,a⟩:=r.one';exact .inr ⟨b,by rw[a.bl],k _ _ _ _ .refl c .ofInt h⟩
def Tc:List T->Hp3->VK3->Prop:=fun ts H Q=>match ts with
 |[.int i]=>i.natAbs.log2<1920/\Q (.str (toString i)) H
 |_=>False
def ints3:List T->Option (List Int)
 |[]=>some []
 |.int i::r=>(ints3 r).map (i::·)
 |_=>none
theorem fL:∀(ns:List Int),ints3 (ns.map T.int)=some ns
 |[]=>rfl
 |n::r=>by simp [ints3,fL r]
theorem iB {K:Frag}{H:Hp}:∀{ts:List T}{xs:List V}{us:List Value}{ns:List Int},ints3 ts=some ns->Reps K H ts xs->Vals xs us->IntsAre us ns
 |[],xs,us,ns,e,r,v=>by
  cases e
  rw[r.inv0] at v
  cases v
  exact .nil
 |.int i::l,xs,us,ns,e,r,v=>by
  obtain⟨x,h,rfl,f,d⟩:=r.inv
  cases v with
  |cons a b =>
   rw[f.int] at a
   obtain⟨t,rfl⟩:=a
   cases c:ints3 l with
   |none=>simp [ints3,c] at e
   |some g =>
    simp [ints3,c] at e
    subst e
    exact .cons _ _ (iB c d b)
 |.non::_,_,_,_,e,_,_=>by simp [ints3] at e
 |.bl _::_,_,_,_,e,_,_=>by simp [ints3] at e
 |.str _::_,_,_,_,e,_,_=>by simp [ints3] at e
 |.tup _::_,_,_,_,e,_,_=>by simp [ints3] at e
 |.ref _::_,_,_,_,e,_,_=>by simp [ints3] at e
 |.ty _::_,_,_,_,e,_,_=>by simp [ints3] at e
def JG:List T->Hp3->VK3->Prop:=fun ts H Q=>match ts with
 |[.ref a]=>match H a with
  |some (.lst xs)=>oq (ints3 xs) fun ns=>Q (.int ns.sum) H
  |some (.rol xs)=>oq (ints3 xs) fun ns=>Q (.int ns.sum) H
  |_=>False
 |_=>False
theorem uf (E:X.calm=true):cZ X (.builtin "sum") JG:=by
 intro j s Z H xs us Q I D h;obtain⟨ts,H3,Q3,r,p,h,k⟩:=h
 match ts,h,r with
 |[.ref a],h,r =>
 obtain⟨v,rfl,m⟩:=r.one';obtain⟨u,rfl,z⟩:=vals1 D;rw[m.ref] at z;cases z;have b:∀{d:List T} {ys:List V},SqL X.K H a ys->Reps X.K H d ys->oq (ints3 d) (fun ns=>Q3 (.int ns.sum) H3)->wpAny (model X.prog X.w) X.A (call (.builtin "sum") [.ref a]) (EP X j Z Q) X.xe s:=by
  intro d ys f i q;cases e:ints3 d with
  |none=>rw[e] at q;exact q.elim
  |some ns =>
  rw[e] at q;obtain⟨c,o,F,_⟩:=I.list f;have t:=iB e i o;have g:AllInts c.toArray:=t.allInts;obtain⟨l,x⟩:=g.items;have n:s.heap.IsList a (intItems l):=by rw[<- x];exact F.isList
  refine sum_intListG (I.ok.hd E) n fun h' tk t' C=>?_;have B:preSum (numAt l) l.size=ns.sum:=by have y:=nums_intItems l;rw[<- x,show c.toArray.toList=c from rfl,t.numsOf] at y;rw[preSum_eq,List.take_of_length_le (by simp),<- y]
  rw[B];exact⟨.int ns.sum,H,I.kept C,⟨t',rfl⟩,k _ _ _ _ .refl p .ofInt q⟩
 have h':(match H3 a with
  |some (.lst xs)=>oq (ints3 xs) fun ns=>Q3 (.int ns.sum) H3
  |some (.rol xs)=>oq (ints3 xs) fun ns=>Q3 (.int ns.sum) H3
  |_=>False):=h
 split at h'
 ·rename_i d e;obtain⟨ys,f,i⟩:=p.sqL (.inl e);exact b f i h'
 ·rename_i d e;obtain⟨ys,f,i⟩:=p.sqL (.inr e);exact b f i h'
 exact h'.elim
def isT (n:String):T->Hp3->Option Bool:=fun x H=>match x with
 |.non=>some (n=="NoneType")
 |.bl _=>some (n=="bool"||n=="int")
 |.int _=>some (n=="int")
 |.str _=>some (n=="str")
 |.tup _=>some (n=="tuple")
 |.ref a=>match H a with
  |some (.lst _)=>some (n=="list")
  |some (.dct _)=>some (n=="dict")
  |_=>none
 |.ty _=>none
def kY:List T->Hp3->VK3->Prop:=fun ts H Q=>match ts with
 |[x,.ty n]=>(n="str"\/n="int"\/n="bool"\/n="tuple"\/n="list")/\oq (isT n x H) fun b=>Q (.bl b) H
 |_=>False
theorem iC (K:Frag) (a b:String) (d:a="NoneType"\/a="bool"\/a="int"\/a="str"\/a="tuple"\/a="list"\/a="dict") (c:b="str"\/b="int"\/b="bool"\/b="tuple"\/b="list") :
  kitOne K (.type a) (.type b)=some (a==b||(a=="bool"&&b=="int")):=by
 rcases d with rfl | rfl | rfl | rfl | rfl | rfl | rfl <;> rcases c with rfl | rfl | rfl | rfl | rfl <;> rfl
theorem Mq:cZ X (.builtin "isinstance") kY:=by
 intro j s Z H xs us Q I C h;obtain⟨ts,H3,Q3,r,p,h,k⟩:=h
 match ts,h,r with
 |[x,.ty n],h,r =>
 obtain⟨v,w,rfl,g,F⟩:=r.two';obtain⟨G,L,rfl,f,u⟩:=vals2 C;rw[F.ty] at u;cases u;obtain⟨d,h⟩:=h;have c:∀{b:Bool},Q3 (.bl b) H3->∀tk,EP X j Z Q (.bool b) { s with toks:=tk}:=fun q tk=>⟨.bl _,H,I.tok tk,rfl,k _ _ _ _ .refl p .ofBl q⟩;cases x with
 |non=>exact dZ I f (by rw[g.non];exact .non) (iC X.K "NoneType" n (by simp) d) (c (by rcases d with rfl | rfl | rfl | rfl | rfl <;> exact h))
 |bl b=>exact dZ I f (by rw[g.bl];exact .bl b) (iC X.K "bool" n (by simp) d) (c (by rcases d with rfl | rfl | rfl | rfl | rfl <;> exact h))
 |int i=>exact dZ I f (by rw[g.int];exact .int i) (iC X.K "int" n (by simp) d) (c (by rcases d with rfl | rfl | rfl | rfl | rfl <;> exact h))
 |str z=>exact dZ I f (by rw[g.str];exact .str z) (iC X.K "str" n (by simp) d) (c (by rcases d with rfl | rfl | rfl | rfl | rfl <;> exact h))
 |tup us=>obtain⟨a,ys,rfl,y,J⟩:=g.tup;cases f;obtain⟨A,_,⟨o,D,E,_⟩,_⟩:=I.tuple y;exact kia_one kitx_tuple I.kIn ⟨o,D,E⟩ (iC X.K "tuple" n (by simp) d) (fun z=>nomatch z) (c (by rcases d with rfl | rfl | rfl | rfl | rfl <;> exact h))
 |ref a =>
  have h':oq (match H3 a with
   |some (.lst _)=>some (n=="list")
   |some (.dct _)=>some (n=="dict")
   |_=>none) fun b=>Q3 (.bl b) H3:=h
  rw[g.ref] at f
  cases e:H3 a with
  |none=>rw[e] at h';exact h'.elim
  |some o =>
   rw[e] at h'
   cases o with
   |lst t =>
    obtain⟨B,l,_⟩:=p a _ e
    exact dZ I f (.lst l) (iC X.K "list" n (by simp) d) (c (by rcases d with rfl | rfl | rfl | rfl | rfl <;> exact h'))
   |dct t =>
    obtain⟨B,l,_⟩:=p a _ e
    exact dZ I f (.dK l) (iC X.K "dict" n (by simp) d) (c (by rcases d with rfl | rfl | rfl | rfl | rfl <;> exact h'))
   |rol t=>exact h'.elim
   |dcp t=>exact h'.elim
   |exc _ _=>exact h'.elim
   |xdt _=>exact h'.elim
   |dcn _ _=>exact h'.elim
   |dci _=>exact h'.elim
   |dif _ _=>exact h'.elim
   |ins _ _=>exact h'.elim
 |ty m=>exact h.elim
variable {o:Expr}{to:TE3}{name:Str}{apos cpos:Pos}{m:T->List T->Hp3->VK3->Prop}
def ty3 (b:String):T->Hp3->Prop:=fun x H=>match x with
 |.str _=>b="str"
 |.tup _=>b="tuple"
 |.ref a=>b="list"/\match H a with
  |some (.lst _)=>True
  |some (.rol _)=>True
  |_=>False
 |_=>False
theorem JH {K:Frag}{H:Hp}{H3:Hp3}{t:T}{v:V}(d:SimH K H3 H) (r:Rep K H t v) (h:ty3 Ty t H3):tyV K Ty v H:=by
 cases t with
 |str z=>rw[r.str];exact h
 |tup ts=>obtain⟨a,xs,rfl,c,_⟩:=r.tup;exact .inr (.inl ⟨h,xs,c⟩)
 |ref a =>
  rw[r.ref];refine .inl ⟨h.1,?_⟩;have b:=h.2;cases e:H3 a with
  |none=>rw[e] at b;exact b.elim
  |some o =>
  rw[e] at b;cases o with
  |lst ts=>obtain⟨xs,c,_⟩:=d.sqL (.inl e);exact⟨xs,c⟩
  |rol ts=>obtain⟨xs,c,_⟩:=d.sqL (.inr e);exact⟨xs,c⟩
  |dct _=>exact b.elim
  |dcp _=>exact b.elim
  |exc _ _=>exact b.elim
  |xdt _=>exact b.elim
  |dcn _ _=>exact b.elim
  |dci _=>exact b.elim
  |dif _ _=>exact b.elim
  |ins _ _=>exact b.elim
 |_=>exact h.elim
def Td (d:String) (m:T->List T->Hp3->VK3->Prop) (b:TE3) (t:TA3):TE3:=fun Z H Q=>b Z H fun x a=>ty3 d x a/\t Z a fun xs c=>m x xs c Q
theorem eV (B:PlainAttrs Ty) (f:Slot Ty name id) (l:typeOf (.builtin id)=pure (.type "method_descriptor")) (D:zK X id m) (F:PE3 X o to) (C:PA3 X (e::es) t)
  (b:attributeBase o name X.env (eval o X.env)=eval o X.env:=by rfl)
  (i:((backTo cpos (starEach (e::es) X.env)).all (fun x=>!x.1)&&(backToKw cpos (keywordEach [] X.env)).all (fun x=>x.1.isSome)
   && decide ((e::es).length+([]:List Keyword).length+(if ([]:List Keyword).isEmpty then 0 else 1)<30))=true:=by rfl)
  (c:(apos.endLine==cpos.line)=true:=by rfl) (w:starEach (e::es) X.env=(false,eval e X.env)::starEach es X.env:=by rfl) (a:(backTo cpos (starEach es X.env)).any (·.1)=false:=by rfl) :
  PE3 X (.Call (.Attribute o name apos) (e::es) [] cpos) (Td Ty m to t):=by
 refine PE.imp (Su B f l D F C b i c w a) ?_;rintro Z H Q ⟨u,H3,Q3,r,A,h,k⟩;exact⟨u,H3,_,r,A,h,fun x I E n j d s v=>⟨JH d s v.1,u,n,_,r.mono j,d,v.2,fun vs G ts p g q z y=>⟨E,ts,p,Q3,s.mono g,z,q,y,k.at (j.trans g)⟩⟩⟩
def JK:T->List T->Hp3->VK3->Prop:=fun x ts H Q=>match x,ts with
 |.ref a,[t]=>match H a with
  |some (.lst xs)=>xs.length<sizeLine/\Q .non (up3 H a (.lst (xs++[t])))
  |_=>False
 |_,_=>False
theorem bI:zK X "list.append" JK:=by
 refine MtR.imp xR ?_;rintro x xs H Q ⟨i,ts,H3,Q3,d,c,f,h,k⟩
 match i,ts,h,d,c with
 |.ref a,[t],h,d,c =>
 obtain⟨v,rfl,g⟩:=c.one';have h':(match H3 a with
  |some (.lst xs)=>xs.length<sizeLine/\Q3 .non (up3 H3 a (.lst (xs++[t])))
  |_=>False):=h
 split at h'
 ·rename_i j e;obtain⟨ys,b,r⟩:=f a _ e;exact⟨a,ys,v,d.ref,rfl,b,by rw[<- r.length];exact h'.1,k _ _ _ _ (dq (by rw[b];exact trivial)) (f.wrL b (r.append (.cons g .nil))) .ofNon h'.2⟩
 exact h'.elim
def Te:T->List T->Hp3->VK3->Prop:=fun x ts H Q=>match x,ts with
 |.ref a,[.ref b]=>match H a,H b with
  |some (.lst xs),some (.lst ys)=>xs.length+ys.length<=sizeLine/\Q .non (up3 H a (.lst (xs++ys)))
  |_,_=>False
 |_,_=>False
def Gj:T->List T->Hp3->VK3->Prop:=fun x ts H Q=>match x,ts with
 |.ref a,[.int i]=>match H a with
  |some (.lst xs)=>oq (ixN xs.length i) fun j=>oq (xs[j]?) fun t=>Q t (up3 H a (.lst (xs.eraseIdx j)))
  |_=>False
 |_,_=>False
def eX:List T->Option (List Str)
 |[]=>some []
 |.str x::r=>(eX r).map (x::·)
 |_=>none
theorem m6:∀(ns:List Str),eX (ns.map T.str)=some ns
 |[]=>rfl
 |n::r=>by simp [eX,m6 r]
def jOk (z:Str) (ys:List Str):Prop:=(ys.map (·.length)).sum+ys.length*z.length<=16777216
def Ac:T->List T->Hp3->VK3->Prop:=fun x ts H Q=>match x,ts with
 |.str z,[.ref a]=>match H a with
  |some (.lst xs)=>oq (eX xs) fun ys=>jOk z ys/\Q (.str (Txt.join z ys)) H
  |some (.rol xs)=>oq (eX xs) fun ys=>jOk z ys/\Q (.str (Txt.join z ys)) H
  |_=>False
 |.str z,[.tup xs]=>oq (eX xs) fun ys=>jOk z ys/\Q (.str (Txt.join z ys)) H
 |_,_=>False
def wu:T->List T->Hp3->VK3->Prop:=fun x ts H Q=>match x,ts with
 |.str z,[.str y]=>match Builtin.Str.occurrences z y 0 z.length 1 with
  |i::_=>Q (.int i) H
  |[]=>False
 |_,_=>False
theorem Ad:zK X "str.index" wu:=by
 intro f s Z H x xs v us Q I a c j;obtain⟨n,ts,H3,Q3,d,b,m,h,k⟩:=j
 match n,ts,h,d,b with
 |.str z,[.str y],h,d,b =>
 obtain⟨w,rfl,l⟩:=b.one';obtain⟨u,rfl,g⟩:=vals1 c;rw[l.str] at g;obtain⟨t',rfl⟩:=g;rw[d.str] at a;obtain⟨t,rfl⟩:=a;have h':(match Builtin.Str.occurrences z y 0 z.length 1 with
  |i::_=>Q3 (.int i) H3
  |[]=>False):=h
 split at h'
 ·rename_i i rest e;exact SC.index e ⟨.int i,H,I.tok _,⟨_,rfl⟩,k _ _ _ _ .refl m .ofInt h'⟩
 exact h'.elim
end
def compLook (n0:List (Str × NameKind)) (N:List Str) (b:Bool) (a:List (Str × NameKind)) (N':List Str) (nt:Nat) (cap:List Nat):Bool :=
 b&&a.all (fun y=>y.2 != .cell||a.lookup y.1==some .cell)&&a.all (fun x=>x.2 != .local||a.lookup x.1==some .local)&&a.all (fun y=>y.2 != .free||n0.lookup y.1==some .cell||n0.lookup y.1==some .free)
  && N'.length==nt+cap.length&&(List.range cap.length).all fun j=>match N'[nt+j]?,cap[j]? with
   |some x,some i=>N[i]?==some x&&a.lookup x==some .free
   |_,_=>false
theorem bM {X:Cx}{N':List Str}{nt:Nat}{cap:List Nat}{scope:Scope}{n0:List (Str × NameKind)}{N:List Str}(c:X.env.scope.names=n0) (d:X.N=N)
  (h:compLook n0 N (scope.kind==.function) scope.names N' nt cap=true):CompSc X N' nt cap scope:=by
 unfold compLook at h;simp only[X_,Yq,Zn,bne_iff_ne,Bool.or_eq_true,X7] at h;obtain⟨⟨⟨⟨⟨n,f⟩,o⟩,m⟩,k⟩,g⟩:=h;refine⟨n,fun y a e=>(f y a).resolve_left fun z=>z e,fun x p e=>(o x p).resolve_left fun z=>z e,fun y a e=>?_,k,fun j x e=>?_⟩
 ·show X.env.scope.names.lookup y.1=_\/X.env.scope.names.lookup y.1=_;rw[c];rcases m y a with (z | z) | z
  ·exact absurd e z
  ·exact .inl z
  exact .inr z
 have l:j<cap.length:=by have:=(YK.mp e).1;omega
 have q:=g j l;rw[e] at q;cases b:cap[j]? with
 |none=>rw[b] at q;cases q
 |some i =>
 rw[b] at q;simp only[X_,Zn] at q;exact⟨i,rfl,by rw[d];exact q.1,q.2⟩
structure G3 (K:Frag) (mg:Str->Option Value) (x:Str) (st:Stmt) (ps:List Str) (f:Addr) (fd:FuncData):Prop where
 fn:Fun K x x st f fd
 b:Binds K fd ps []
 m:mg x=some (.ref f)
structure Bl (mg:Str->Option Value):Prop where
 len_:mg "len"=none
 sum_:mg "sum"=none
 isinstance_:mg "isinstance"=none
 all_:mg "all"=none
 any_:mg "any"=none
 list_:mg "list"=none
 tuple_:mg "tuple"=none
 int_:mg "int"=none
 str_:mg "str"=none
 bool_:mg "bool"=none
 range_:mg "range"=none
 zip_:mg "zip"=none
 reversed_:mg "reversed"=none
 enumerate_:mg "enumerate"=none
 set_:mg "set"=none
 sorted_:mg "sorted"=none
 min_:mg "min"=none
 max_:mg "max"=none
 dict_:mg "dict"=none
 repr_:mg "repr"=none
theorem cR:bootBuiltins "len"=some (.builtin "len"):=by decide +kernel
theorem ug:bootBuiltins "sum"=some (.builtin "sum"):=by decide +kernel
theorem my:bootBuiltins "isinstance"=some (.builtin "isinstance"):=by decide +kernel
theorem uh:bootBuiltins "all"=some (.builtin "all"):=by decide +kernel
theorem Mr:bootBuiltins "any"=some (.builtin "any"):=by decide +kernel
theorem ww:bootBuiltins "list"=some (.type "list"):=by decide +kernel
theorem cV:bootBuiltins "tuple"=some (.type "tuple"):=by decide +kernel
theorem Ms:bootBuiltins "int"=some (.type "int"):=by decide +kernel
theorem Gk:bootBuiltins "bool"=some (.type "bool"):=by decide +kernel
theorem Room.u30 {k:Nat}{A:Around}(r:Room k A):A.units+30<cLine:=by have:=r.un;omega
theorem Room.u31 {k:Nat}{A:Around}(r:Room k A):A.units+31<cLine:=by have:=r.un;omega
theorem Room.u1 {k:Nat}{A:Around}(r:Room k A):A.units+1<cLine:=by have:=r.un;omega
section
variable {H:Hp3}{Q:VK3}{Z:St3}
def vq (o:Option (Option T)) (Q:T->Prop):Prop:=match o with
 |some (some t)=>Q t
 |_=>False
theorem Xp (t:T) (Q:T->Prop):vq (some (some t)) Q=Q t:=rfl
theorem Ae (i:Nat):qz i Z H Q=vq (Z[i]?) fun t=>Q t H:=rfl
def bq (x:T) (Q:Bool->Prop):Prop:=match x with
 |.bl k=>Q k
 |_=>False
theorem fH (b:Bool) (Q:Bool->Prop):bq (.bl b) Q=Q b:=rfl
theorem Mt (t:TE3) (Q:Bool->Hp3->Prop):iw t Z H Q=t Z H fun x a=>bq x fun k=>Q k a:=rfl
theorem Gm (r d:R3) (c a b:TE3):oJ r d c a b Z H Q=c Z H fun x f=>a Z f fun y e=>r x y e fun z H3=>bq z fun k=>if k=true then b Z H3 fun w g=>d y w g Q else Q (.bl false) H3:=rfl
theorem Mu (a b:TE3):zM a b Z H Q=a Z H fun x d=>bq x fun c=>if c=true then b Z d Q else Q (.bl false) d:=rfl
theorem Tf (a b:TE3):Jv a b Z H Q=a Z H fun x d=>bq x fun c=>if c=true then Q (.bl true) d else b Z d Q:=rfl
theorem Mv (a:TE3):Mg a Z H Q=a Z H fun x b=>bq x fun c=>Q (.bl (!c)) b:=rfl
theorem dX {a:Type}(v:a) (Q:a->Prop):oq (some v) Q=Q v:=rfl
theorem q_I (C:Int->Int->Prop) (g:Int->Int->T) (i j:Int):rI3 C g (.int i) (.int j) H Q=(C i j/\Q (g i j) H):=rfl
theorem Xq (g:Int->Int->T) (i j:Int):oV g (.int i) (.int j) H Q=Q (g i j) H:=rfl
theorem Mw (i j:Int):mZ (.int i) (.int j) H Q=Q (.int (i+j)) H:=rfl
theorem Mx (i j:Str):mZ (.str i) (.str j) H Q=(i.length+j.length<=sizeLine/\Q (.str (i++j)) H):=rfl
theorem Mz (xs ys:List T):mZ (.tup xs) (.tup ys) H Q=(xs.length+ys.length<=sizeLine/\Q (.tup (xs++ys)) H):=rfl
def Tg (o u:Option O3) (H:Hp3) (Q:VK3):Prop:=match o,u with
 |some (.lst xs),some (.lst ys)=>xs.length+ys.length<=sizeLine/\∀p,H p=none->Q (.ref p) (up3 H p (.lst (xs++ys)))
 |_,_=>False
theorem Af (a b:Addr):mZ (.ref a) (.ref b) H Q=Tg (H a) (H b) H Q:=rfl
theorem gD (xs ys:List T):Tg (some (.lst xs)) (some (.lst ys)) H Q=(xs.length+ys.length<=sizeLine/\∀p,H p=none->Q (.ref p) (up3 H p (.lst (xs++ys)))):=rfl
theorem Th (n:Bool) (i j:Int):tZ n (.int i) (.int j) H Q=Q (.bl (if n then !decide (i=j) else decide (i=j))) H:=rfl
theorem Ti (n:Bool) (i j:Str):tZ n (.str i) (.str j) H Q=Q (.bl (if n then !decide (i=j) else decide (i=j))) H:=rfl
theorem Tj (n:Bool) (i j:Bool):tZ n (.bl i) (.bl j) H Q=Q (.bl (if n then !decide (i=j) else decide (i=j))) H:=rfl
theorem Ag (n:Bool) (xs ys:List T):tZ n (.tup xs) (.tup ys) H Q=(xs.all (pl 20)=true/\ys.all (pl 20)=true/\Q (.bl (if n then !decide (xs=ys) else decide (xs=ys))) H):=rfl
def eqH (n:Bool) (a b:Addr) (o u:Option O3) (H:Hp3) (Q:VK3):Prop:=match o,u with
 |some (.lst xs),some (.lst ys)=>a≠b/\xs.all (pl 20)=true/\ys.all (pl 20)=true/\Q (.bl (if n then !@decide (xs=ys) (instDecidableEqList xs ys) else @decide (xs=ys) (instDecidableEqList xs ys))) H
 |_,_=>False
theorem Tn (n:Bool) (a b:Addr):tZ n (.ref a) (.ref b) H Q=eqH n a b (H a) (H b) H Q:=rfl
theorem Tp (n:Bool) (a b:Addr) (xs ys:List T):eqH n a b (some (.lst xs)) (some (.lst ys)) H Q=(a≠b/\xs.all (pl 20)=true/\ys.all (pl 20)=true/\Q (.bl (if n then !decide (xs=ys) else decide (xs=ys))) H):=rfl
theorem JL (n:Bool) (x:T) (ts:List T):t7 n x (.tup ts) H Q=(pl 20 x=true/\ts.all (pl 20)=true/\Q (.bl (dR n x ts)) H):=rfl
theorem Tq (n:Bool) (i j:Str):t7 n (.str i) (.str j) H Q=Q (.bl (occ n i j)) H:=rfl
def inH (n:Bool) (x:T) (o:Option O3) (H:Hp3) (Q:VK3):Prop:=match o with
 |some (.lst ts)=>pl 20 x=true/\ts.all (pl 20)=true/\Q (.bl (dR n x ts)) H
 |some (.rol ts)=>pl 20 x=true/\ts.all (pl 20)=true/\Q (.bl (dR n x ts)) H
 |_=>False
theorem JM (n:Bool) (x:T) (a:Addr):t7 n x (.ref a) H Q=inH n x (H a) H Q:=rfl
theorem JN (n:Bool) (x:T) (ts:List T):inH n x (some (.lst ts)) H Q=(pl 20 x=true/\ts.all (pl 20)=true/\Q (.bl (dR n x ts)) H):=rfl
def ixH (o:Option O3) (i:Int) (H:Hp3) (Q:VK3):Prop:=match o with
 |some (.lst ts)=>oq (atI ts i) fun t=>Q t H
 |some (.rol ts)=>oq (atI ts i) fun t=>Q t H
 |_=>False
theorem Ah (a:Addr) (i:Int):qJ (.ref a) (.int i) H Q=ixH (H a) i H Q:=rfl
theorem wy (ts:List T) (i:Int):ixH (some (.lst ts)) i H Q=oq (atI ts i) fun t=>Q t H:=rfl
theorem Tr (ts:List T) (i:Int):qJ (.tup ts) (.int i) H Q=oq (atI ts i) fun t=>Q t H:=rfl
theorem Tt (z:Str) (i:Int):qJ (.str z) (.int i) H Q=(z.length<=sizeLine/\oq (atI z.cps.toList i) fun c=>Q (.str ⟨#[c]⟩) H):=rfl
def stH (o:Option O3) (a:Addr) (k:Int) (v:T) (H:Hp3) (Q:Hp3->Prop):Prop:=match o with
 |some (.lst ts)=>oq (ixN ts.length k) fun j=>Q (up3 H a (.lst (ts.set j v)))
 |_=>False
theorem MF (a:Addr) (k:Int) (v:T) (Q:Hp3->Prop):z7 (.ref a) (.int k) v H Q=stH (H a) a k v H Q:=rfl
theorem Tu (ts:List T) (a:Addr) (k:Int) (v:T) (Q:Hp3->Prop):stH (some (.lst ts)) a k v H Q=oq (ixN ts.length k) fun j=>Q (up3 H a (.lst (ts.set j v))):=rfl
def pq (x:T) (Q:Option Int->Prop):Prop:=match x with
 |.int i=>Q (some i)
 |_=>False
theorem Xr (i:Int) (Q:Option Int->Prop):pq (.int i) Q=Q (some i):=rfl
theorem MJ (t:TE3) (Q:Option Int->Hp3->Prop):z8 t Z H Q=t Z H fun x a=>pq x fun o=>Q o a:=rfl
def slH (o:Option O3) (b a:Option Int) (H:Hp3) (Q:VK3):Prop:=match o with
 |some (.lst ts)=>∀p,H p=none->Q (.ref p) (up3 H p (.lst (dm ts b a)))
 |some (.rol ts)=>∀p,H p=none->Q (.ref p) (up3 H p (.lst (dm ts b a)))
 |_=>False
theorem Tv (a:Addr) (c b:Option Int):Ge (.ref a) c b H Q=slH (H a) c b H Q:=rfl
theorem JP (ts:List T) (b a:Option Int):slH (some (.lst ts)) b a H Q=∀p,H p=none->Q (.ref p) (up3 H p (.lst (dm ts b a))):=rfl
theorem MK (ts:List T) (b a:Option Int):slH (some (.rol ts)) b a H Q=∀p,H p=none->Q (.ref p) (up3 H p (.lst (dm ts b a))):=rfl
theorem Tw (ts:List T) (b a:Option Int):Ge (.tup ts) b a H Q=(¬(HT.sIx ts.length 0 b=0/\HT.sIx ts.length ts.length a=ts.length)/\Q (.tup (dm ts b a)) H):=rfl
theorem Tz (z:Str) (b a:Option Int):Ge (.str z) b a H Q=(z.length<=sizeLine/\Q (.str (Txt.slice z b a)) H):=rfl
def dgH (o:Option O3) (k:Str) (H:Hp3) (Q:VK3):Prop:=match o with
 |some (.dct kvs)=>oq (aP k kvs) fun t=>Q t H
 |_=>False
theorem q_D (a:Addr) (k:Str):r3D (.ref a) (.str k) H Q=dgH (H a) k H Q:=rfl
theorem TF (kvs:List (Str × T)) (k:Str):dgH (some (.dct kvs)) k H Q=oq (aP k kvs) fun t=>Q t H:=rfl
def dpH (x y v:T) (H:Hp3) (Q:Hp3->Prop):Prop:=match x,y with
 |.ref a,.str k=>match H a with
  |some (.dct kvs)=>kvs.length<sizeLine/\Q (up3 H a (.dct (put3 k v kvs)))
  |_=>False
 |_,_=>False
def dpO (o:Option O3) (a:Addr) (k:Str) (v:T) (H:Hp3) (Q:Hp3->Prop):Prop:=match o with
 |some (.dct kvs)=>kvs.length<sizeLine/\Q (up3 H a (.dct (put3 k v kvs)))
 |_=>False
theorem MN (c b a:TE3) (D:Ends3):z9 c b a D Z H=a Z H fun v e=>c Z e fun x d=>b Z d fun y H3=>dpH x y v H3 fun f=>D.nx Z f:=rfl
theorem TJ (a:Addr) (k:Str) (v:T) (Q:Hp3->Prop):dpH (.ref a) (.str k) v H Q=dpO (H a) a k v H Q:=rfl
theorem TQ (kvs:List (Str × T)) (a:Addr) (k:Str) (v:T) (Q:Hp3->Prop):dpO (some (.dct kvs)) a k v H Q=(kvs.length<sizeLine/\Q (up3 H a (.dct (put3 k v kvs)))):=rfl
def lnH (o:Option O3) (H:Hp3) (Q:VK3):Prop:=match o with
 |some (.lst xs)=>Q (.int xs.length) H
 |some (.rol xs)=>Q (.int xs.length) H
 |_=>False
theorem MP (a:Addr):wj [.ref a] H Q=lnH (H a) H Q:=rfl
theorem TV (xs:List T):lnH (some (.lst xs)) H Q=Q (.int xs.length) H:=rfl
theorem MT (xs:List T):wj [.tup xs] H Q=Q (.int xs.length) H:=rfl
theorem M3 (z:Str):wj [.str z] H Q=(z.length<=sizeLine/\Q (.int z.length) H):=rfl
def liH (o:Option O3) (H:Hp3) (Q:VK3):Prop:=match o with
 |some (.lst xs)=>∀p,H p=none->Q (.ref p) (up3 H p (.lst xs))
 |some (.rol xs)=>∀p,H p=none->Q (.ref p) (up3 H p (.lst xs))
 |_=>False
theorem Gn (a:Addr):ue [.ref a] H Q=liH (H a) H Q:=rfl
theorem TX (xs:List T):liH (some (.lst xs)) H Q=∀p,H p=none->Q (.ref p) (up3 H p (.lst xs)):=rfl
theorem Gp (xs:List T):ue [.tup xs] H Q=∀p,H p=none->Q (.ref p) (up3 H p (.lst xs)):=rfl
def tpH (o:Option O3) (H:Hp3) (Q:VK3):Prop:=match o with
 |some (.lst xs)=>Q (.tup xs) H
 |some (.rol xs)=>Q (.tup xs) H
 |_=>False
theorem M4 (a:Addr):oX [.ref a] H Q=tpH (H a) H Q:=rfl
theorem TY (xs:List T):tpH (some (.lst xs)) H Q=Q (.tup xs) H:=rfl
theorem M5 (xs:List T):oX [.tup xs] H Q=Q (.tup xs) H:=rfl
theorem M6 (i:Int):Ab [.int i] H Q=Q (.int i) H:=rfl
theorem M7 (b:Bool):Ab [.bl b] H Q=Q (.int (if b then 1 else 0)) H:=rfl
theorem M8 (i:Int):Tc [.int i] H Q=(i.natAbs.log2<1920/\Q (.str (toString i)) H):=rfl
def smH (o:Option O3) (H:Hp3) (Q:VK3):Prop:=match o with
 |some (.lst xs)=>oq (ints3 xs) fun ns=>Q (.int ns.sum) H
 |some (.rol xs)=>oq (ints3 xs) fun ns=>Q (.int ns.sum) H
 |_=>False
theorem M9 (a:Addr):JG [.ref a] H Q=smH (H a) H Q:=rfl
theorem T3 (xs:List T):smH (some (.lst xs)) H Q=oq (ints3 xs) fun ns=>Q (.int ns.sum) H:=rfl
theorem qL (x:T) (n:String):kY [x,.ty n] H Q=((n="str"\/n="int"\/n="bool"\/n="tuple"\/n="list")/\oq (isT n x H) fun b=>Q (.bl b) H):=rfl
theorem T4 (a:String) (z:Str):ty3 a (.str z) H=(a="str"):=rfl
def tyH (o:Option O3):Prop:=match o with
 |some (.lst _)=>True
 |some (.rol _)=>True
 |_=>False
theorem T5 (b:String) (a:Addr):ty3 b (.ref a) H=(b="list"/\tyH (H a)):=rfl
theorem T6 (xs:List T):tyH (some (.lst xs))=True:=rfl
def apH (o:Option O3) (a:Addr) (t:T) (H:Hp3) (Q:VK3):Prop:=match o with
 |some (.lst xs)=>xs.length<sizeLine/\Q .non (up3 H a (.lst (xs++[t])))
 |_=>False
theorem T7 (a:Addr) (t:T):JK (.ref a) [t] H Q=apH (H a) a t H Q:=rfl
theorem Ai (xs:List T) (a:Addr) (t:T):apH (some (.lst xs)) a t H Q=(xs.length<sizeLine/\Q .non (up3 H a (.lst (xs++[t])))):=rfl
def exH (o u:Option O3) (a:Addr) (H:Hp3) (Q:VK3):Prop:=match o,u with
 |some (.lst xs),some (.lst ys)=>xs.length+ys.length<=sizeLine/\Q .non (up3 H a (.lst (xs++ys)))
 |_,_=>False
theorem T8 (a b:Addr):Te (.ref a) [.ref b] H Q=exH (H a) (H b) a H Q:=rfl
theorem T9 (xs ys:List T) (a:Addr):exH (some (.lst xs)) (some (.lst ys)) a H Q=(xs.length+ys.length<=sizeLine/\Q .non (up3 H a (.lst (xs++ys)))):=rfl
def poH (o:Option O3) (a:Addr) (i:Int) (H:Hp3) (Q:VK3):Prop:=match o with
 |some (.lst xs)=>oq (ixN xs.length i) fun j=>oq (xs[j]?) fun t=>Q t (up3 H a (.lst (xs.eraseIdx j)))
 |_=>False
theorem Ua (a:Addr) (i:Int):Gj (.ref a) [.int i] H Q=poH (H a) a i H Q:=rfl
theorem Ub (xs:List T) (a:Addr) (i:Int):poH (some (.lst xs)) a i H Q=oq (ixN xs.length i) fun j=>oq (xs[j]?) fun t=>Q t (up3 H a (.lst (xs.eraseIdx j))):=rfl
def joH (o:Option O3) (z:Str) (H:Hp3) (Q:VK3):Prop:=match o with
 |some (.lst xs)=>oq (eX xs) fun ys=>jOk z ys/\Q (.str (Txt.join z ys)) H
 |some (.rol xs)=>oq (eX xs) fun ys=>jOk z ys/\Q (.str (Txt.join z ys)) H
 |_=>False
theorem Gq (z:Str) (a:Addr):Ac (.str z) [.ref a] H Q=joH (H a) z H Q:=rfl
theorem Uc (xs:List T) (z:Str):joH (some (.lst xs)) z H Q=oq (eX xs) fun ys=>jOk z ys/\Q (.str (Txt.join z ys)) H:=rfl
theorem Gr (z:Str) (xs:List T):Ac (.str z) [.tup xs] H Q=oq (eX xs) fun ys=>jOk z ys/\Q (.str (Txt.join z ys)) H:=rfl
def idH (o:List Nat) (H:Hp3) (Q:VK3):Prop:=match o with
 |i::_=>Q (.int i) H
 |[]=>False
theorem Gs (z y:Str):wu (.str z) [.str y] H Q=idH (Builtin.Str.occurrences z y 0 z.length 1) H Q:=rfl
theorem Ud (i:Nat) (r:List Nat):idH (i::r) H Q=Q (.int i) H:=rfl
def rgq (vs:List T) (H:Hp3) (R:List T->(Hp3->Prop)->Hp3->Prop):Prop:=match vs with
 |[.int j]=>-(2^62)<=j/\j<2^62/\R (dH 0 j.toNat) cG H
 |[.int i,.int j]=>(-(2^62)<=i/\i<2^62 /\ -(2^62)<=j/\j<2^62)/\R (dH i (j - i).toNat) cG H
 |_=>False
theorem Ue (a:TA3) (R:List T->(Hp3->Prop)->Hp3->Prop):zV a Z H R=a Z H fun vs b=>rgq vs b R:=rfl
theorem Ug (j:Int) (R:List T->(Hp3->Prop)->Hp3->Prop):rgq [.int j] H R=(-(2^62)<=j/\j<2^62/\R (dH 0 j.toNat) cG H):=rfl
theorem Uh (i j:Int) (R:List T->(Hp3->Prop)->Hp3->Prop):rgq [.int i,.int j] H R=((-(2^62)<=i/\i<2^62 /\ -(2^62)<=j/\j<2^62)/\R (dH i (j - i).toNat) cG H):=rfl
def tuq (x:T) (H:Hp3) (R:List T->(Hp3->Prop)->Hp3->Prop):Prop:=match x with
 |.tup ts=>R ts cG H
 |_=>False
theorem Nb (a:TE3) (R:List T->(Hp3->Prop)->Hp3->Prop):JC a Z H R=a Z H fun x b=>tuq x b R:=rfl
theorem Ui (ts:List T) (R:List T->(Hp3->Prop)->Hp3->Prop):tuq (.tup ts) H R=R ts cG H:=rfl
def liq (x:T) (H:Hp3) (R:List T->(Hp3->Prop)->Hp3->Prop):Prop:=match x with
 |.ref a=>match H a with
  |some (.lst ts)=>R ts (aX a ts) H
  |some (.rol ts)=>R ts (aX a ts) H
  |_=>False
 |_=>False
def liO (o:Option O3) (a:Addr) (H:Hp3) (R:List T->(Hp3->Prop)->Hp3->Prop):Prop:=match o with
 |some (.lst ts)=>R ts (aX a ts) H
 |some (.rol ts)=>R ts (aX a ts) H
 |_=>False
theorem Gu (a:TE3) (R:List T->(Hp3->Prop)->Hp3->Prop):zT a Z H R=a Z H fun x b=>liq x b R:=rfl
theorem Aj (a:Addr) (R:List T->(Hp3->Prop)->Hp3->Prop):liq (.ref a) H R=liO (H a) a H R:=rfl
theorem qM (ts:List T) (a:Addr) (R:List T->(Hp3->Prop)->Hp3->Prop):liO (some (.lst ts)) a H R=R ts (aX a ts) H:=rfl
theorem Nf (Q:St3->Hp3->Prop):zQ [] Z H Q=Q Z H:=rfl
theorem Gv (t:TG3) (u:mq) (x:T) (r:List T) (Q:St3->Hp3->Prop):oN t u (x::r) Z H Q=t x Z H fun a b=>u r a b Q:=rfl
theorem Ng (n:Nat) (g:mq) (ts:List T) (Q:St3->Hp3->Prop):zR n g (.tup ts) Z H Q=(ts.length=n/\g ts Z H Q):=rfl
end
theorem wz {n j:Nat}(h:j<n):ixN n (j:Int)=some j:=by
 unfold ixN;rw[if_pos (aaq j),if_pos (by omega),YL]
theorem Xu (n:Nat):ixN (n+1) 0=some 0:=wz (j:=0) (Nat.succ_pos n)
theorem at0 {b:Type}(a:b) (r:List b):atI (a::r) 0=some a:=bY (j:=0) rfl
theorem at1 {c:Type}(a b:c) (r:List c):atI (a::b::r) 1=some b:=bY (j:=1) rfl
theorem at2 {d:Type}(a b c:d) (r:List d):atI (a::b::c::r) 2=some c:=bY (j:=2) rfl
theorem at3 {e:Type}(a b c d:e) (r:List e):atI (a::b::c::d::r) 3=some d:=bY (j:=3) rfl
theorem gW {g:TG3}{a:TS3}{D:Ends3}{still:Hp3->Prop}{ts:List T}{Z:St3}{H:Hp3}(I:List T->St3->Hp3->Prop) (d:I ts Z H) (e:∀Z H,I [] Z H->still H/\D.nx Z H)
  (f:∀t r Z H (N:St3->Hp3->Prop),I (t::r) Z H->(∀c b,I r c b->N c b)->still H/\g t Z H fun Z2 H2=>a { D with nx:=N,ct:=N,bk:=D.nx} Z2 H2):iter3 g a D still ts Z H:=by
 induction ts generalizing Z H with
 |nil=>exact e Z H d
 |cons t r i=>exact f t r Z H (iter3 g a D still r) d fun c b h=>i h
theorem kZ {g:TG3}{tt:TT3}{te:TE3}{still:Hp3->Prop}{c:List T->Hp3->Prop}{ts ys:List T}{Z:St3}{H:Hp3}(I:List T->List T->St3->Hp3->Prop) (f:I ts ys Z H) (i:∀ys Z H,I [] ys Z H->still H/\ys.length<=sizeLine/\c ys H)
  (j:∀t r ys Z H (N:List T->St3->Hp3->Prop),I (t::r) ys Z H->(∀a e d,I r a e d->N a e d) ->
   still H/\g t Z H fun Z2 H2=>tt Z2 H2 fun b H3=>if b=true then te Z2 H3 fun y H4=>ys.length<sizeLine/\N (ys++[y]) Z2 H4 else N ys Z2 H3):cIter3 g tt te still c ts ys Z H:=by
 induction ts generalizing Z H ys with
 |nil=>exact i ys Z H f
 |cons t r k=>exact j t r ys Z H (cIter3 g tt te still c r) f fun a e d h=>k h
theorem Nh (Z:St3) (H:Hp3) (Q:List (Str × T)->Hp3->Prop):Aa [] Z H Q=Q [] H:=rfl
theorem Ni (k:Str) (a:TE3) (r:List (Str × TE3)) (Z:St3) (H:Hp3) (Q:List (Str × T)->Hp3->Prop):Aa ((k,a)::r) Z H Q=a Z H fun y b=>Aa r Z b fun ps H3=>Q ((k,y)::ps) H3:=rfl
theorem sx0 (n:Nat):HT.sIx n 0 none=0:=rfl
theorem oY {ts:List T}{k:Nat}:dm ts none (some (k:Int))=ts.take k:=by
 unfold dm;rw[sx0,HT.sIx_nat,List.drop_zero,Nat.sub_zero];by_cases h:k<=ts.length
 ·rw[Nat.min_eq_left h]
 rw[Nat.min_eq_right (by omega),List.take_length,List.take_of_length_le (by omega)]
theorem gF {ts:List T}{k:Nat}:dm ts (some (k:Int)) none=ts.drop k:=by
 unfold dm;rw[HT.sIx_none,HT.sIx_nat];by_cases h:k<=ts.length
 ·rw[Nat.min_eq_left h,List.take_of_length_le (by simp)]
 rw[Nat.min_eq_right (by omega),List.drop_of_length_le (o_ _),List.drop_of_length_le (by omega),List.take_nil]
theorem cC {H:Hp3}{a b:Addr}{o:O3}(h:up3 H a o b=none):b≠a/\H b=none:=by
 by_cases e:b=a
 ·subst e;rw[aq] at h;cases h
 rw[aD e] at h;exact⟨e,h⟩
theorem Ak {H:Hp3}{a b:Addr}{o u:O3}(h:a≠b):up3 (up3 H a o) b u=up3 (up3 H b u) a o:=by
 funext c;by_cases d:c=b
 ·subst d;rw[aq,aD (Ne.symm h),aq]
 rw[aD d];by_cases e:c=a
 ·subst e;rw[aq,aq]
 rw[aD e,aD e,aD d]
theorem bL {n:Type}(c f:n->T) (g:List n) (rest:St3) {te:TE3}{still:Hp3->Prop}{l:List T->Hp3->Prop}{v:Option T}{H:Hp3}(j:still H) (p:g.length<=sizeLine)
  (q:∀a∈g,∀Q:VK3,Q (f a) H->te (some (c a)::rest) H Q) (i:l (g.map f) H):cIter3 (f9 0) vR te still l (g.map c) [] (v::rest) H:=by
 refine kZ (fun r ys Z m=>∃(e k:List n) (v:Option T),Z=v::rest/\r=e.map c/\ys=k.map f/\k++e=g/\m=H) ⟨g,[],v,rfl,rfl,rfl,rfl,rfl⟩ ?_ ?_
 ·rintro ys Z m ⟨e,k,v,rfl,d,rfl,b,rfl⟩;have h:e=[]:=Ze.mp d.symm;subst h;rw[Yd] at b;subst b;exact⟨j,by rw[e_];exact p,i⟩
 rintro x r ys Z m N ⟨e,k,v,rfl,d,rfl,b,rfl⟩ o;cases e with
 |nil=>cases d
 |cons t e =>
 injection d with e1 e2;subst e1 e2;refine⟨j,?_⟩;show te (some (c t)::rest) m _;refine q t (by rw[<- b];simp) _ ⟨?_,o _ _ _ ⟨e,k++[t],_,rfl,rfl,by simp,by rw[<- b];simp,rfl⟩⟩;have:=X6 List.length b;simp only[d_,n_] at this;rw[e_];omega
section
variable {X:Cx}
def bF:List T->Option (List Bool)
 |[]=>some []
 |.bl x::r=>(bF r).map (x::·)
 |_=>none
theorem iD:∀(ns:List Bool),bF (ns.map T.bl)=some ns
 |[]=>rfl
 |n::r=>by simp [bF,iD r]
theorem gG {K:Frag}{H:Hp}:∀{ts:List T}{xs:List V}{us:List Value}{c:List Bool},bF ts=some c->Reps K H ts xs->Vals xs us->us=c.map Value.bool
 |[],xs,us,c,e,r,v=>by
  cases e
  rw[r.inv0] at v
  cases v
  rfl
 |.bl i::l,xs,us,c,e,r,v=>by
  obtain⟨x,j,rfl,g,f⟩:=r.inv
  cases v with
  |cons a b =>
   rw[g.bl] at a
   cases d:bF l with
   |none=>simp [bF,d] at e
   |some h =>
    simp [bF,d] at e
    subst e
    cases a
    rw[gG d f b]
    rfl
 |.non::_,_,_,_,e,_,_=>by simp [bF] at e
 |.int _::_,_,_,_,e,_,_=>by simp [bF] at e
 |.str _::_,_,_,_,e,_,_=>by simp [bF] at e
 |.tup _::_,_,_,_,e,_,_=>by simp [bF] at e
 |.ref _::_,_,_,_,e,_,_=>by simp [bF] at e
 |.ty _::_,_,_,_,e,_,_=>by simp [bF] at e
def alH (o:Option O3) (H:Hp3) (Q:VK3):Prop:=match o with
 |some (.lst xs)=>oq (bF xs) fun a=>Q (.bl (a.all id)) H
 |some (.rol xs)=>oq (bF xs) fun a=>Q (.bl (a.all id)) H
 |_=>False
def JQ:List T->Hp3->VK3->Prop:=fun ts H Q=>match ts with
 |[.ref a]=>alH (H a) H Q
 |_=>False
theorem Uj (a:Addr) {H:Hp3}{Q:VK3}:JQ [.ref a] H Q=alH (H a) H Q:=rfl
theorem Uk (xs:List T) {H:Hp3}{Q:VK3}:alH (some (.lst xs)) H Q=oq (bF xs) fun a=>Q (.bl (a.all id)) H:=rfl
theorem all_range (d:List Bool):(List.range d.length).all (fun i=>d.getD i true)=d.all id:=by
 rw[W_,Yq,Yq];constructor
 ·intro h b e;obtain⟨i,c,rfl⟩:=aad.mp e;have:=h i (X7.mpr c);simpa [List.getD,c] using this
 intro h i c;have a:=X7.mp c;have:=h d[i] (Yl a);simpa [List.getD,a] using this
theorem um (P:X.calm=true):cZ X (.builtin "all") JQ:=by
 intro p s Z H xs us Q I N h;obtain⟨ts,H3,Q3,r,C,h,k⟩:=h
 match ts,h,r with
 |[.ref a],h,r =>
 obtain⟨v,rfl,t⟩:=r.one';obtain⟨u,rfl,F⟩:=vals1 N;rw[t.ref] at F;cases F;have f:∀{g:List T} {ys:List V},SqL X.K H a ys->Reps X.K H g ys->oq (bF g) (fun d=>Q3 (.bl (d.all id)) H3)->wpAny (model X.prog X.w) X.A (call (.builtin "all") [.ref a]) (EP X p Z Q) X.xe s:=by
  intro g ys l m q;cases e:bF g with
  |none=>rw[e] at q;exact q.elim
  |some d =>
  rw[e] at q;obtain⟨J,B,E,_⟩:=I.list l;have G:=gG e m B;subst G;have x:a≠s.heap.objs.size:=fun z=>by obtain⟨o,n,j,_⟩:=E;have:=x_ j;rw[z] at this;exact Ye _ this
  refine call_all_walk (Z5 E.isList ?_);refine⟨s.heap.objs.size,_,_,_,_,_,fun i=>d.getD i true,rfl,Walks.list (A:=X.A.in1) (I.ok.hd P) s.heap.objs.size a x (d.map Value.bool).toArray,⟨⟨_,v_ _ rfl,rfl,rfl⟩,E.isList.push _⟩,fun i v s' S R O D=>?_,fun h' tk M=>?_⟩
  ·have c:(d.map Value.bool)[i]?=some v:=by simpa using O
   rw[z_] at c;cases y:d[i]? with
   |none=>rw[y] at c;cases c
   |some b =>
   rw[y] at c;cases c;have:d.getD i true=b:=by simp [List.getD,y]
   dsimp only at D;rw[this] at D;exact Yy D
  have L:(d.map Value.bool).toArray.size=d.length:=by simp
  rw[L,all_range];refine⟨.bl (d.all id),H,I.kept fun b o e=>M b o (fun z=>?_) (b_ _ e),rfl,k _ _ _ _ .refl C .ofBl q⟩;have:=x_ e;rw[m_.mp z] at this;exact Ye _ this
 have h':alH (H3 a) H3 Q3:=h;cases j:H3 a with
 |none=>rw[j] at h';exact h'.elim
 |some o =>
 rw[j] at h';cases o with
 |lst g=>obtain⟨ys,l,m⟩:=C.sqL (.inl j);exact f l m h'
 |rol g=>obtain⟨ys,l,m⟩:=C.sqL (.inr j);exact f l m h'
 |dct _=>exact h'.elim
 |dcp _=>exact h'.elim
 |exc _ _=>exact h'.elim
 |xdt _=>exact h'.elim
 |dcn _ _=>exact h'.elim
 |dci _=>exact h'.elim
 |dif _ _=>exact h'.elim
 |ins _ _=>exact h'.elim
end
def Xv:T->Option Key
 |.int i=>some (.inl i)
 |.str x=>some (.inr x)
 |_=>none
def Al:List T->Option (List Key)
 |[]=>some []
 |t::r=>match Xv t,Al r with
  |some k,some ks=>some (k::ks)
  |_,_=>none
def Am (k:List Key):List (List Key × T)->Option T
 |[]=>none
 | (k',v)::r=>if k'=k then some v else Am k r
def putP (k:List Key) (v:T) (kvs:List (List Key × T)):List (List Key × T) :=
 if (kvs.any fun a=>decide (a.1=k))=true then kvs.map (fun a=>if a.1=k then (a.1,v) else a) else kvs++[(k,v)]
def Nj (o:Option O3) (ts:List T) (H:Hp3) (Q:VK3):Prop:=match o with
 |some (.dcp kvs)=>oq (Al ts) fun ks=>oq (Am ks kvs) fun t=>Q t H
 |_=>False
def dgP (x:T) (ts:List T) (H:Hp3) (Q:VK3):Prop:=match x with
 |.ref a=>Nj (H a) ts H Q
 |_=>False
def Gw (d:TE3) (a:TA3):TE3:=fun Z H Q=>d Z H fun x c=>a Z c fun ts b=>ts.length<=sizeLine/\dgP x ts b Q
def Nk (o:Option O3) (a:Addr) (ts:List T) (v:T) (H:Hp3) (Q:Hp3->Prop):Prop:=match o with
 |some (.dcp kvs)=>oq (Al ts) fun ks=>kvs.length<sizeLine/\Q (up3 H a (.dcp (putP ks v kvs)))
 |_=>False
def dpP (x:T) (ts:List T) (v:T) (H:Hp3) (Q:Hp3->Prop):Prop:=match x with
 |.ref a=>Nk (H a) a ts v H Q
 |_=>False
def Gx (f:TE3) (e:TA3) (b:TE3):TS3:=fun D Z H=>b Z H fun v c=>f Z c fun x a=>e Z a fun ts H3=>ts.length<=sizeLine/\dpP x ts v H3 fun d=>D.nx Z d
section
variable {H:Hp3}{Q:VK3}{Z:St3}
theorem Ul (a:Addr) (ts:List T):dgP (.ref a) ts H Q=Nj (H a) ts H Q:=rfl
theorem Nm (kvs:List (List Key × T)) (x y:Str):Nj (some (.dcp kvs)) [.str x,.str y] H Q=oq (Am [Sum.inr x,Sum.inr y] kvs) fun t=>Q t H:=rfl
theorem Um (a:Addr) (ts:List T) (v:T) (Q:Hp3->Prop):dpP (.ref a) ts v H Q=Nk (H a) a ts v H Q:=rfl
theorem Np (kvs:List (List Key × T)) (a:Addr) (x y:Str) (v:T) (Q:Hp3->Prop):Nk (some (.dcp kvs)) a [.str x,.str y] v H Q=(kvs.length<sizeLine/\Q (up3 H a (.dcp (putP [Sum.inr x,Sum.inr y] v kvs)))):=rfl
variable {X:Cx}{o i k value:Expr}{es:List Expr}{td ti tk tv:TE3}{ta:TA3}{pos pos' p2:Pos}{x1:Nat}
def Nq:TE3:=fun _ H Q=>∀p,H p=none->Q (.ref p) (up3 H p (.dct []))
def Gy:TE3:=fun _ H Q=>∀p,H p=none->Q (.ref p) (up3 H p (.dcp []))
theorem SimH.newD {K:Frag}{H:Hp}{H3:Hp3}{p:Addr}(s:SimH K H3 H) (c:H p=none):SimH K (up3 H3 p (.dct [])) (upd H p (.dK [])):=fun a o e=>by
 by_cases b:a=p
 ·subst b;rw[aq] at e;cases e;exact⟨[],cB,.nil⟩
 rw[aD b] at e;exact s.new c a o e
def d1q (y:T) (p:Addr) (v:T) (H:Hp3) (Q:VK3):Prop:=match y with
 |.str k=>H p=some (.dct [])/\Q (.ref p) (up3 H p (.dct [(k,v)]))
 |_=>False
def An (tk c:TE3):TE3:=fun Z H Q=>∀p,H p=none->tk Z (up3 H p (.dct [])) fun y b=>c Z b fun v a=>d1q y p v a Q
theorem Uo (x:Str) (p:Addr) (v:T) {H:Hp3}{Q:VK3}:d1q (.str x) p v H Q=(H p=some (.dct [])/\Q (.ref p) (up3 H p (.dct [(x,v)]))):=rfl
theorem Ao {v:Expr}(s:PE3 X k tk) (t:PE3 X v tv):PE3 X (.Dict [some k] [v] pos) (An tk tv):=by
 refine PE.imp (Fw (zy s t Fv) rfl rfl (by simp) (by show 1<=15;decide)) ?_;rintro Z H Q ⟨q,H3,Q3,m,o,h,k⟩ p l;have a:TupLe X.K H (upd H p (.dK [])):=aL l;refine⟨q,up3 H3 p (.dct []),_,m.mono a,o.newD l,h p (o.fresh l),fun y D w j f i B x=>?_⟩;refine⟨q,j,_,m.mono (a.trans f),i,x,fun z C u b c d A n=>?_⟩;cases w with
 |str key =>
  have h':b p=some (.dct [])/\Q3 (.ref p) (up3 b p (.dct [(key,u)])):=n
  obtain⟨ws,g,r⟩:=d p _ h'.1
  cases r
  refine⟨g,[(Sum.inr key,z)],by rw[(B.mono c).str];rfl,by show 1<=15;decide,?_⟩
  have e:jo [] [((Sum.inr key:Key),z)]=[((Sum.inr key:Key),z)]:=rfl
  rw[e]
  exact k _ _ _ _ (a.trans (f.trans (c.trans (dq (by rw[g];exact trivial))))) (d.wrD g (.cons ⟨rfl,A⟩ .nil)) .ofRef h'.2
 |_=>exact n.elim
def diH (neg:Bool) (y:T) (o:Option O3) (H:Hp3) (Q:VK3):Prop:=match y,o with
 |.str k,some (.dct kvs)=>Q (.bl (if neg then !(aP k kvs).isSome else (aP k kvs).isSome)) H
 |_,_=>False
def diq (neg:Bool) (y x:T) (H:Hp3) (Q:VK3):Prop:=match x with
 |.ref a=>diH neg y (H a) H Q
 |_=>False
def Aq (neg:Bool) (d a:TE3):TE3:=fun Z H Q=>d Z H fun y c=>a Z c fun x b=>diq neg y x b Q
theorem Uq (neg:Bool) (y:T) (a:Addr) {H:Hp3}{Q:VK3}:diq neg y (.ref a) H Q=diH neg y (H a) H Q:=rfl
theorem Ur (neg:Bool) (k:Str) (kvs:List (Str × T)) {H:Hp3}{Q:VK3}:diH neg (.str k) (some (.dct kvs)) H Q=Q (.bl (if neg then !(aP k kvs).isSome else (aP k kvs).isSome)) H:=rfl
theorem m7 {K:Frag}{H:Hp}{k:Str}:∀{kvs:List (Str × T)}{vs:List (Key × V)},RepD K H kvs vs->(iQ vs (Sum.inr k:Key)).isSome=(aP k kvs).isSome
 |[],_,.nil=>rfl
 | (k',t')::r,_,.cons (b:=(kk,v')) ⟨e1,rv⟩ rr=>by
  simp only at e1 rv
  subst e1
  unfold aP
  by_cases a:k'=k
  ·
   rw[if_pos a,iR (by rw[a])];rfl
  ·
   rw[if_neg a,iT (by intro z;exact a (Sum.inr.inj z))]
   exact m7 rr
theorem wA {neg:Bool}{H:Hp}{H3:Hp3}{x y:V}{f c:T}{Q3:VK3}(i:SimH X.K H3 H) (l:Rep X.K H f x) (j:Rep X.K H c y) (q:diq neg c f H3 Q3) :
  ∃a d b,x=.ref a/\DGet H a y d/\(if neg then !d.isSome else d.isSome)=b/\Q3 (.bl b) H3:=by
 cases f with
 |ref a =>
  have h':diH neg c (H3 a) H3 Q3:=q
  cases c with
  |str k =>
   cases e:H3 a with
   |none=>rw[e] at h';exact h'.elim
   |some h =>
    rw[e] at h'
    cases h with
    |dct kvs =>
     obtain⟨ws,g,r⟩:=i a _ e
     refine⟨a,iQ ws (Sum.inr k:Key),_,l.ref,by rw[j.str];exact DGet.k (k:=Sum.inr k) g,rfl,?_⟩
     rw[m7 r]
     exact h'
    |_=>exact h'.elim
  |_=>exact h'.elim
 |_=>exact q.elim
theorem oZ (D:X.A.units+1<cLine) (s:PE3 X i ti) (B:PE3 X o td) (z:behindInMarks .In o=false:=by rfl):PT3 X (.Compare i [.In] [o] pos) (iw (Aq false ti td)):=by
 refine PT.imp (sY (LR D s B) z) ?_;rintro Z H Q ⟨n,H3,Q3,m,w,h,k⟩;refine⟨n,H3,_,m,w,h,fun y J I l f j E C=>⟨n,l,_,m.mono f,j,C,fun x F G v c d u r=>?_⟩⟩;obtain⟨a,p,b,e,g,t,q⟩:=wA d u (E.mono c) r;exact⟨a,p,e,g,b,by rw[show p.isSome=b from t],k _ _ _ (f.trans c) d q⟩
theorem m9 (D:X.A.units+1<cLine) (s:PE3 X i ti) (B:PE3 X o td) (z:behindInMarks .NotIn o=false:=by rfl):PT3 X (.Compare i [.NotIn] [o] pos) (iw (Aq true ti td)):=by
 refine PT.imp (sY (xU D s B) z) ?_;rintro Z H Q ⟨n,H3,Q3,m,w,h,k⟩;refine⟨n,H3,_,m,w,h,fun y J I l f j E C=>⟨n,l,_,m.mono f,j,C,fun x F G v c d u r=>?_⟩⟩;obtain⟨a,p,b,e,g,t,q⟩:=wA d u (E.mono c) r;exact⟨a,p,e,g,b,by rw[show (!p.isSome)=b from t],k _ _ _ (f.trans c) d q⟩
end
def ye (x:T) (H:Hp3) (R:List T->(Hp3->Prop)->Hp3->Prop):Prop:=match x with
 |.tup ts=>R ts cG H
 |.ref a=>liO (H a) a H R
 |_=>False
theorem Nr (ts:List T) {H:Hp3}{R:List T->(Hp3->Prop)->Hp3->Prop}:ye (.tup ts) H R=R ts cG H:=rfl
theorem Nt (a:Addr) {H:Hp3}{R:List T->(Hp3->Prop)->Hp3->Prop}:ye (.ref a) H R=liO (H a) a H R:=rfl
def Ar (i:Nat):TI3:=fun Z H R=>vq (Z[i]?) fun x=>ye x H R
theorem Gz (i:Nat) {Z:St3}{H:Hp3}{R:List T->(Hp3->Prop)->Hp3->Prop}:Ar i Z H R=vq (Z[i]?) fun x=>ye x H R:=rfl
theorem GC {X:Cx}{p:Expr}(i:Nat) {x:Str}{f:Pos}(l:X.N[i]?=some x:=by rfl) (m:Vis X.env.scope x:=by first | exact Or.inl rfl | exact Or.inr (Or.inl rfl) | exact Or.inr (Or.inr rfl)) (j:(x==("__debug__":Str))=false:=by decide)
  (d:(x==("__classdict__":Str))=false:=by decide):PI3 X p (.Name x f) (Ar i):=by
 intro b s Z H R I q;obtain⟨c,H3,R3,g,n,h,k⟩:=q;have h':vq (c[i]?) fun x=>ye x H3 R3:=h;cases e:c[i]? with
 |none=>rw[e] at h';exact h'.elim
 |some o =>
 cases o with
 |none=>rw[e] at h';exact h'.elim
 |some t =>
 rw[e] at h';cases t with
 |tup ts=>exact cH (v3 i l m j d) b s Z H R I ⟨c,H3,R3,g,n,by show qz i c H3 _;rw[Ae,e];exact h',k⟩
 |ref a=>exact cI (v3 i l m j d) b s Z H R I ⟨c,H3,R3,g,n,by show qz i c H3 _;rw[Ae,e];exact h',k⟩
 |_=>exact h'.elim
theorem bR {c:Type}(a:c->T) (xs:List c) {g:TG3}{d:TS3}{D:Ends3}{still:Hp3->Prop}{Z:St3}{H:Hp3}(I:List c->St3->Hp3->Prop) (i:I [] Z H) (j:∀Z H,I xs Z H->still H/\D.nx Z H)
  (k:∀A x B Z H (N:St3->Hp3->Prop),xs=A++x::B->I A Z H->(∀f b,I (A++[x]) f b->N f b)->still H/\g (a x) Z H fun Z2 H2=>d { D with nx:=N,ct:=N,bk:=D.nx} Z2 H2):iter3 g d D still (xs.map a) Z H:=by
 have:∀(B A:List c) (Z:St3) (H:Hp3),xs=A++B->I A Z H->iter3 g d D still (B.map a) Z H:=by
  intro B;induction B with
  |nil=>intro A Z H e h;rw[Yd] at e;subst e;exact j Z H h
  |cons x B l =>
  intro A Z H e h;exact k A x B Z H (iter3 g d D still (B.map a)) e h fun f b h'=>l (A++[x]) f b (by rw[e];simp) h'
 exact this xs [] Z H rfl i
theorem gY {i:Type}(a:i->T) (xs:List i) {g:TG3}{tt:TT3}{te:TE3}{still:Hp3->Prop}{d:List T->Hp3->Prop}{Z:St3}{H:Hp3}(I:List i->List T->St3->Hp3->Prop) (k:I [] [] Z H) (l:∀ys Z H,I xs ys Z H->still H/\ys.length<=sizeLine/\d ys H)
  (m:∀A x B ys Z H (N:List T->St3->Hp3->Prop),xs=A++x::B->I A ys Z H->(∀c j f,I (A++[x]) c j f->N c j f) ->
   still H/\g (a x) Z H fun Z2 H2=>tt Z2 H2 fun b H3=>if b=true then te Z2 H3 fun y H4=>ys.length<sizeLine/\N (ys++[y]) Z2 H4 else N ys Z2 H3):cIter3 g tt te still d (xs.map a) [] Z H:=by
 have:∀(B A:List i) (ys:List T) (Z:St3) (H:Hp3),xs=A++B->I A ys Z H->cIter3 g tt te still d (B.map a) ys Z H:=by
  intro B;induction B with
  |nil=>intro A ys Z H e h;rw[Yd] at e;subst e;exact l ys Z H h
  |cons x B n =>
  intro A ys Z H e h;exact m A x B ys Z H (cIter3 g tt te still d (B.map a)) e h fun c j f h'=>n (A++[x]) c j f (by rw[e];simp) h'
 exact this xs [] [] Z H rfl k
section
variable {prog:Program}{w:World}{A:Around}{E:Value->Shared->Prop}{s:Shared}
variable {X:Cx}{e:Expr}{te:TE}{p1 p2 pos pos':Pos}
theorem GD {it t:Addr}{i:Nat}{a:Array Value}{x:Value}{Q:Value->Shared->Prop}(b:s.heap.IsTupleIter it t i) (h:s.heap.IsTuple t a) (k:a[i]?=some x)
  (g:∀h',h'.IsTupleIter it t (i+1)->Heap.SameBut it s.heap h'->Q x { s with heap:=h'}):wpAny (model prog w) A (Builtin.SmallTypes.nextOf (.ref it)) Q E s:=by
 obtain⟨o,d,j,c⟩:=id b;obtain⟨l,e,_,m,f⟩:=h;unfold Builtin.SmallTypes.nextOf;refine a_ (YB (name:=Str.ofString "__next__") b.typeIs Zq
  (YG Zq b.typeIs F.entry_tuple_iterator_next ?_ (F.args_tuple_iterator_next_1 _)))
 show wpAny _ _ (field (.ref it) 0 >>= _) _ _ s;refine a_ (Yu d c (x:=.ref t) rfl ?_);show wpAny _ _ (if (Value.ref t==Value.none)=true then _ else _) _ _ s;rw[if_neg (show ¬((Value.ref t==Value.none)=true) from t_)];show wpAny _ _ (field (.ref it) 1 >>= _) _ _ s;refine a_ (Yu d c (x:=.int i 0) rfl ?_);show wpAny _ _ (seqItems? (.ref t) >>= _) _ _ s;refine a_ (YD e f ?_);simp only[YL,k];refine a_ (wpAny_setField d c (by simp) (i_ ⟨x,rfl,i_ (g _ ?_ (Heap.SameBut.update ..))⟩));refine⟨_,Heap.get?_update_self _ d (Obj.isFreed_of_fields (Obj.data_mapFields c _)),(Obj.cls_mapFields ..).trans j,?_⟩;rw[Obj.data_mapFields c];simp [rawInt]
theorem Av {it t:Addr}{i:Nat}{b:Array Value}{Q:Value->Shared->Prop}(j:A.handled=none) (c:s.heap.IsTupleIter it t i) (l:s.heap.IsTuple t b) (n:b[i]?=none)
  (k:∀h' e,Heap.ExtBut it s.heap h'->(∃o,h'.get? e=some o/\o.cls=.type "StopIteration")->E (.ref e) { s with heap:=h'}):wpAny (model prog w) A (Builtin.SmallTypes.nextOf (.ref it)) Q E s:=by
 obtain⟨o,f,r,g⟩:=id c;obtain⟨p,d,_,q,h⟩:=l;unfold Builtin.SmallTypes.nextOf;refine a_ (YB (name:=Str.ofString "__next__") c.typeIs Zq
  (YG Zq c.typeIs F.entry_tuple_iterator_next ?_ (F.args_tuple_iterator_next_1 _)))
 show wpAny _ _ (field (.ref it) 0 >>= _) _ _ s;refine a_ (Yu f g (x:=.ref t) rfl ?_);show wpAny _ _ (if (Value.ref t==Value.none)=true then _ else _) _ _ s;rw[if_neg (show ¬((Value.ref t==Value.none)=true) from t_)];show wpAny _ _ (field (.ref it) 1 >>= _) _ _ s;refine a_ (Yu f g (x:=.int i 0) rfl ?_);show wpAny _ _ (seqItems? (.ref t) >>= _) _ _ s;refine a_ (YD d h ?_);simp only[YL,n];refine a_ (wpAny_rule (a_ (wpAny_setField f g (by simp) ?_)));show wpAny _ _ (newExc (.type "StopIteration") [] >>= _) _ _ _;refine a_ ?_;simp only[newExc,newTuple];refine a_ (Yt ?_ (by size_fits));refine a_ (m:=firstArgMember _ _) (wpAny_of_eq (a:=Value.none) (by first | rfl | (simp only[firstArgMember];rfl)) ?_);refine Yt ?_ (by size_fits);simp only[raiseNew];refine a_ (wpAny_handled ?_);first | rw[show A.in1.handled=none from j] | rw[j]
 refine a_ (i_ (wpAny_throw ?_));exact k _ _ (((Heap.SameBut.update ..).extBut.push _).push _) ⟨_,v_ _ rfl,rfl⟩
end
theorem Aw {prog:Program}{w:World}{A:Around}(l:A.handled=none) (it t:Addr) (d:t≠it) (a:Array Value) :
  Draws prog w A it [it,t] a.size (fun i v=>a[i]?=some v) (fun i h=>h.IsTupleIter it t i/\h.IsTuple t a) where
 live:=fun _ _ st=>let ⟨o,ho,_⟩:=st.1;⟨o,ho⟩
 frame:=fun _ _ _ st g=>⟨st.1.at fun o e=>g it (by simp) o e,st.2.at fun o e=>g t (by simp) o e⟩
 item:=fun i s Q E f st j=>by
  refine GD st.1 st.2 (x:=a[i]) (by simp [f]) fun h' b c=>?_
  exact j _ h' s.toks (by simp [f]) ⟨b,st.2.extBut c.extBut d⟩ c
 done:=fun s Q E st k=>Av l st.1 st.2 (by simp) k
structure ZAp (z ti to i1 i2:Addr) (f1 f2:List Addr):Prop where
 ne:ti≠z/\to≠z/\ti≠to/\i1≠i2
 m1:i1∈f1
 m2:i2∈f2
 n1:z∉f1/\ti∉f1/\to∉f1/\i2∉f1
 n2:z∉f2/\ti∉f2/\to∉f2/\i1∉f2
section
variable {z ti to i1 i2:Addr}{f1 f2:List Addr}
theorem ZAp.i1z (D:ZAp z ti to i1 i2 f1 f2):i1≠z:=fun e=>D.n1.1 (e▸D.m1)
theorem ZAp.i2z (D:ZAp z ti to i1 i2 f1 f2):i2≠z:=fun e=>D.n2.1 (e▸D.m2)
theorem ZAp.i1ti (D:ZAp z ti to i1 i2 f1 f2):i1≠ti:=fun e=>D.n1.2.1 (e▸D.m1)
theorem ZAp.i2ti (D:ZAp z ti to i1 i2 f1 f2):i2≠ti:=fun e=>D.n2.2.1 (e▸D.m2)
theorem ZAp.i1to (D:ZAp z ti to i1 i2 f1 f2):i1≠to:=fun e=>D.n1.2.2.1 (e▸D.m1)
theorem ZAp.i2to (D:ZAp z ti to i1 i2 f1 f2):i2≠to:=fun e=>D.n2.2.2.1 (e▸D.m2)
variable {prog:Program}{w:World}{A:Around}{E:Value->Shared->Prop}{s:Shared}{n1 n2 k:Nat}{P1 P2:Nat->Value->Prop}{S1 S2:Nat->Heap->Prop}
theorem z_item {a b:Value}{Q:Value->Shared->Prop}(D1:Draws prog w A i1 f1 n1 P1 S1) (D2:Draws prog w A i2 f2 n2 P2 S2) (D:ZAp z ti to i1 i2 f1 f2)
  (K:IsZip s.heap z ti to .none) (hI:IsPair s.heap ti (.ref i1) (.ref i2)) (hO:IsPair s.heap to a b) (h1:S1 k s.heap) (h2:S2 k s.heap) (k1:k<n1) (k2:k<n2)
  (hQ:∀x y h' tk,P1 k x->P2 k y->IsZip h' z ti to (rawInt s.heap.objs.size)->IsPair h' to x y->S1 (k+1) h'->S2 (k+1) h'->IsPair h' s.heap.objs.size x y->h'.objs.size=s.heap.objs.size+1 ->
   (∀c o,c∉[z,to,i1,i2]->s.heap.get? c=some o->h'.get? c=some o)->Q (.ref s.heap.objs.size) { s with heap:=h',toks:=tk}) :
  wpAny (model prog w) A (Builtin.«zip.__next__» ⟨[.ref z],[]⟩) (fun fin s'=>∃v,fin=.done (.ret v)/\Q v s') E s:=by
 show wpAny _ _ (field (.ref z) 2 >>= _) _ _ _;refine a_ (Yu K rfl (x:=.bool false) rfl ?_);show wpAny _ _ (field (.ref z) 3 >>= _) _ _ _;refine a_ (Yu K rfl (x:=.ref ti) rfl ?_);refine a_ (YD hI rfl ?_);show wpAny _ _ (Builtin.SmallTypes.ownedTupleIsFree (.ref z) >>= _) _ _ _;refine a_ ?_;unfold Builtin.SmallTypes.ownedTupleIsFree;refine a_ (Yu K rfl (x:=.none) rfl (i_ ?_));try simp only[if_true]
 refine a_ (wpAny_rule ?_);refine a_ (Yu K rfl (x:=.ref to) rfl ?_);refine a_ (Zr K (by simp) fun ha I j=>?_);replace I:IsZip ha z ti to .ellipsis:=I;refine a_ ?_;simp only[List.zipIdx_cons,List.zipIdx_nil,YW,aac];refine a_ (a_ (wpAny_onRaise ?_));show wpAny _ _ (Builtin.SmallTypes.nextOf (.ref i1) >>= _) _ _ _;have t:∀{i:Nat} {h h':Heap} {c:Addr},S1 i h->Heap.SameBut c h h'->c∉f1->S1 i h':=fun st sb T=>D1.frame _ _ _ st fun b r o e=>(sb.2 b fun q=>T (q▸r)).trans e;have p:∀{i:Nat} {h h':Heap} {c:Addr},S2 i h->Heap.SameBut c h h'->c∉f2->S2 i h':=fun st sb T=>D2.frame _ _ _ st fun b r o e=>(sb.2 b fun q=>T (q▸r)).trans e;refine a_ (D1.item k _ _ _ k1 (t h1 j D.n1.1) fun x r tb px U g=>i_ ?_);have L:IsPair r to a b:=(g.2 to (Ne.symm D.i1to)).trans ((j.2 to D.ne.2.1).trans hO);refine a_ (YD L rfl ?_);refine a_ (wpAny_updateSeq_pair L fun f F m=>?_);replace F:IsPair f to x b:=F;refine a_ (wpAny_letGo (i_ ?_));refine a_ (a_ (wpAny_onRaise ?_));show wpAny _ _ (Builtin.SmallTypes.nextOf (.ref i2) >>= _) _ _ _;have W:S2 k f:=p (p (p h2 j D.n2.1) g D.n2.2.2.2) m D.n2.2.2.1;refine a_ (D2.item k _ _ _ k2 W fun y hd td py Y n=>i_ ?_);have P:IsPair hd to x b:=(n.2 to (Ne.symm D.i2to)).trans F;refine a_ (YD P rfl ?_);refine a_ (wpAny_updateSeq_pair P fun d u l=>?_);replace u:IsPair d to x y:=u;refine a_ (wpAny_letGo (i_ (i_ ?_)));refine a_ (YD u rfl ?_);refine a_ (wpAny_newTuple ?_);have hsz:d.objs.size=s.heap.objs.size:=by rw[l.1,n.1,m.1,g.1,j.1]
 have N:IsZip d z ti to .ellipsis:=(l.2 z (Ne.symm D.ne.2.1)).trans ((n.2 z (Ne.symm D.i2z)).trans ((m.2 z (Ne.symm D.ne.2.1)).trans ((g.2 z (Ne.symm D.i1z)).trans I)));have V:∀c o,c∉[z,to,i1,i2]->s.heap.get? c=some o->d.get? c=some o:=fun c o f e=>by simp only[j_,G_,Ym,not_or] at f;exact (l.2 c f.2.1).trans ((n.2 c f.2.2.2).trans ((m.2 c f.2.1).trans ((g.2 c f.2.2.1).trans ((j.2 c f.1).trans e))))
 have s1e:S1 (k+1) d:=t (t (t U m D.n1.2.2.1) n D.n1.2.2.2) l D.n1.2.2.1;have X:S2 (k+1) d:=p Y l D.n2.2.2.1;have J:z<d.objs.size:=x_ N;show wpAny _ _ (Builtin.SmallTypes.ownedTupleHandOut (.ref z) (.ref d.objs.size) >>= _) _ _ _;refine a_ ?_;unfold Builtin.SmallTypes.ownedTupleHandOut;have Z:IsZip (d.push { cls:=.type "tuple",data:=.seq #[x,y]}) z ti to .ellipsis:=b_ _ N;refine a_ (Zr Z (by simp) fun hg C G=>?_);replace C:IsZip hg z ti to (rawInt d.objs.size):=C;refine Zr C (by simp) fun R B H=>?_;replace B:IsZip R z ti to (rawInt d.objs.size):=B;have S:∀c o,c≠z->d.get? c=some o->R.get? c=some o:=fun c o c1 e=>(H.2 c c1).trans ((G.2 c c1).trans (b_ _ e));have M:IsPair R d.objs.size x y:=(H.2 _ (Yh J)).trans ((G.2 _ (Yh J)).trans (v_ _ rfl));have O:R.objs.size=d.objs.size+1:=by rw[H.1,G.1,Zo]
 rw[hsz] at B M O;refine i_ ⟨_,rfl,?_⟩;show Q (.ref d.objs.size) _;rw[hsz];exact hQ x y R _ px py B (S _ _ D.ne.2.1 u) (D1.frame _ _ _ s1e fun b r o e=>S b o (fun q=>D.n1.1 (q▸r)) e) (D2.frame _ _ _ X fun b r o e=>S b o (fun q=>D.n2.1 (q▸r)) e) M O fun c o f e=>S c o (fun q=>f (q▸k_)) (V c o f e)
theorem z_end {a b:Value}{Q:Fin->Shared->Prop}(K:Draws prog w A i1 f1 n1 P1 S1) (M:Draws prog w A i2 f2 n2 P2 S2) (D:ZAp z ti to i1 i2 f1 f2)
  (u:IsZip s.heap z ti to .none) (Z:IsPair s.heap ti (.ref i1) (.ref i2)) (P:IsPair s.heap to a b) (N:S1 k s.heap) (Y:S2 k s.heap) (U:k=n1\/(k<n1/\k=n2))
  (O:∀h' e tk,(∀c o,c∉[z,to,i1,i2]->s.heap.get? c=some o->h'.get? c=some o)->(∃o,h'.get? e=some o/\o.cls=.type "StopIteration")->E (.ref e) { s with heap:=h',toks:=tk}) :
  wpAny (model prog w) A (Builtin.«zip.__next__» ⟨[.ref z],[]⟩) Q E s:=by
 show wpAny _ _ (field (.ref z) 2 >>= _) _ _ _;refine a_ (Yu u rfl (x:=.bool false) rfl ?_);show wpAny _ _ (field (.ref z) 3 >>= _) _ _ _;refine a_ (Yu u rfl (x:=.ref ti) rfl ?_);refine a_ (YD Z rfl ?_);show wpAny _ _ (Builtin.SmallTypes.ownedTupleIsFree (.ref z) >>= _) _ _ _;refine a_ ?_;unfold Builtin.SmallTypes.ownedTupleIsFree;refine a_ (Yu u rfl (x:=.none) rfl (i_ ?_));try simp only[if_true]
 refine a_ (wpAny_rule ?_);refine a_ (Yu u rfl (x:=.ref to) rfl ?_);refine a_ (Zr u (by simp) fun X n j=>?_);replace n:IsZip X z ti to .ellipsis:=n;refine a_ ?_;simp only[List.zipIdx_cons,List.zipIdx_nil,YW,aac];refine a_ (a_ (wpAny_onRaise ?_));show wpAny _ _ (Builtin.SmallTypes.nextOf (.ref i1) >>= _) _ _ _;have B:∀{i:Nat} {h h':Heap} {c:Addr},S1 i h->Heap.SameBut c h h'->c∉f1->S1 i h':=fun st H d=>K.frame _ _ _ st fun b r o e=>(H.2 b fun q=>d (q▸r)).trans e;have p:∀{i:Nat} {h h':Heap} {c:Addr},S2 i h->Heap.SameBut c h h'->c∉f2->S2 i h':=fun st H d=>M.frame _ _ _ st fun b r o e=>(H.2 b fun q=>d (q▸r)).trans e;rcases U with rfl | ⟨W,rfl⟩
 ·refine a_ (K.done _ _ _ (B N j D.n1.1) fun r e f ⟨L,g,m⟩=>?_);have v:IsZip r z ti to .ellipsis:=f z _ (Ne.symm D.i1z) n;have t:e≠z:=fun x=>by subst x;rw[v] at g;cases g;simp at m
  refine Zr v (by simp) fun J _ l=>O J e _ (fun c o d x=>?_) ⟨L,(l.2 e t).trans g,m⟩;simp only[j_,G_,Ym,not_or] at d;exact (l.2 c d.1).trans (f c _ d.2.2.1 ((j.2 c d.1).trans x))
 refine a_ (K.item k _ _ _ W (B N j D.n1.1) fun x r tb px S f=>i_ ?_);have G:IsPair r to a b:=(f.2 to (Ne.symm D.i1to)).trans ((j.2 to D.ne.2.1).trans P);refine a_ (YD G rfl ?_);refine a_ (wpAny_updateSeq_pair G fun J T l=>?_);refine a_ (wpAny_letGo (i_ ?_));refine a_ (a_ (wpAny_onRaise ?_));show wpAny _ _ (Builtin.SmallTypes.nextOf (.ref i2) >>= _) _ _ _;have I:S2 k J:=p (p (p Y j D.n2.1) f D.n2.2.2.2) l D.n2.2.2.1;refine a_ (M.done _ _ _ I fun R e F ⟨L,g,m⟩=>?_);have C:IsZip R z ti to .ellipsis:=F z _ (Ne.symm D.i2z) ((l.2 z (Ne.symm D.ne.2.1)).trans ((f.2 z (Ne.symm D.i1z)).trans n));have t:e≠z:=fun x=>by subst x;rw[C] at g;cases g;simp at m
 refine Zr C (by simp) fun V _ y=>O V e _ (fun c o d x=>?_) ⟨L,(y.2 e t).trans g,m⟩;simp only[j_,G_,Ym,not_or] at d;exact (y.2 c d.1).trans (F c _ d.2.2.2 ((l.2 c d.2.1).trans ((f.2 c d.2.2.1).trans ((j.2 c d.1).trans x))))
theorem wB {a b:Value}{Q:Option Value->Shared->Prop}(n:Draws prog w A.in1 i1 f1 n1 P1 S1) (l:Draws prog w A.in1 i2 f2 n2 P2 S2) (D:ZAp z ti to i1 i2 f1 f2)
  (d:IsZip s.heap z ti to .none) (H:IsPair s.heap ti (.ref i1) (.ref i2)) (f:IsPair s.heap to a b) (p:S1 k s.heap) (u:S2 k s.heap) (m:k<n1) (B:k<n2)
  (t:∀x y h' tk,P1 k x->P2 k y->IsZip h' z ti to (rawInt s.heap.objs.size)->IsPair h' to x y->S1 (k+1) h'->S2 (k+1) h'->IsPair h' s.heap.objs.size x y->h'.objs.size=s.heap.objs.size+1 ->
   (∀c o,c∉[z,to,i1,i2]->s.heap.get? c=some o->h'.get? c=some o)->Q (some (.ref s.heap.objs.size)) { s with heap:=h',toks:=tk}):wpAny (model prog w) A (pyNext (.ref z)) Q E s:=by
 have e:s.TypeIs (.ref z) "zip":=⟨_,d,rfl⟩;unfold pyNext;exact a_ (wpAny_attempt (YB (name:=Str.ofString "__next__") e F.slot_zip_next
  (YG F.slot_zip_next e F.entry_zip_next (z_item n l D d H f p u m B fun x y h' tk v q C j g i G h r=>i_ (t x y h' tk v q C j g i G h r)) (F.args_zip_next_1 _))))
theorem o4 {a b:Value}{Q:Option Value->Shared->Prop}(l:Draws prog w A.in1 i1 f1 n1 P1 S1) (n:Draws prog w A.in1 i2 f2 n2 P2 S2) (D:ZAp z ti to i1 i2 f1 f2)
  (f:IsZip s.heap z ti to .none) (t:IsPair s.heap ti (.ref i1) (.ref i2)) (g:IsPair s.heap to a b) (p:S1 k s.heap) (i:S2 k s.heap) (m:k=n1\/(k<n1/\k=n2))
  (h:∀h' tk,(∀c o,c∉[z,to,i1,i2]->s.heap.get? c=some o->h'.get? c=some o)->Q none { s with heap:=h',toks:=tk}):wpAny (model prog w) A (pyNext (.ref z)) Q E s:=by
 have d:s.TypeIs (.ref z) "zip":=⟨_,f,rfl⟩;unfold pyNext;refine a_ (wpAny_attempt (YB (name:=Str.ofString "__next__") d F.slot_zip_next
  (YG F.slot_zip_next d F.entry_zip_next (z_end l n D f t g p i m fun h' e tk r ⟨o,j,q⟩=>?_) (F.args_zip_next_1 _))))
 refine a_ (aag (T:="StopIteration") (b:=true) ⟨o,j,q⟩ isSubtype_stop ?_);exact i_ (h _ _ r)
end
abbrev JR (t:Addr):Obj:={ cls:=.type "tuple_iterator",data:=.fields #[.ref t,.int 0 0]}
section
variable {prog:Program}{w:World}{A:Around}{E:Value->Shared->Prop}{s:Shared}
end
theorem Nu {prog:Program}{w:World}{A:Around}(g:A.handled=none) (it t:Addr) (d:t≠it) (a:Array Value) (k:Nat) (b:a[k]?=none) :
  Draws prog w A it [it,t] k (fun _ _=>True) (fun i h=>i=k/\h.IsTupleIter it t i/\h.IsTuple t a) where
 live:=fun _ _ st=>let ⟨o,ho,_⟩:=st.2.1;⟨o,ho⟩
 frame:=fun _ _ _ st b=>⟨st.1,st.2.1.at fun o e=>b it (by simp) o e,st.2.2.at fun o e=>b t (by simp) o e⟩
 item:=fun i s Q E f st j=>absurd st.1 (F_ f)
 done:=fun s Q E st c=>Av g st.2.1 st.2.2 b c
section
variable {X:Cx}{pins:List (Addr × Obj)}{Z:L2.St}{H:Hp}{s:Shared}{h':Heap}
theorem jU {ch:List Addr}{t':Nat}(I:Inv X pins Z H s) (k:∀b o,b∉ch->s.heap.get? b=some o->h'.get? b=some o) (f:∀b∈ch,jN X pins H b):Inv X pins Z H { s with heap:=h',toks:=t'}:=by
 have d:∀b u,H b=some u->b∉ch:=fun b u e z=>by rw[(f b z).1] at e;cases e
 refine I.step (g':=s.gens) (d':=s.drawn) (ch:=ch) (fun b w=>?_) (fun b o _ _ a e _=>k b o a e) (fun b o _ _ a e _=>⟨o.slots,k b o a e⟩) (fun _ _ _ _ n=>n)
  (fun b o a e=>⟨o,k b o a e⟩) (fun _ _ e=>e) (fun _ _ _ e=>e) (fun b ps e=>⟨#[],by rw[e];simp⟩) (fun m j=>?_) (fun b u e=>?_) I.bare
 ·obtain⟨_,l,_,i,p,x⟩:=f b w;exact⟨i,l,p,x⟩
 ·obtain⟨o,t,g,h,r⟩:=j;exact⟨o,t,g,k _ o (fun z=>(f _ z).2.1 rfl) h,r⟩
 refine (I.hok b u e).stay (fun c v a q=>k c v ?_ q) (fun _ q=>q) fun _ _ q=>q;rcases a with z | z
 ·rw[z];exact d b u e
 exact d c _ z
end
theorem nm2 {x p q:Addr}(a:x≠p) (b:x≠q):x∉[p,q]:=fun h=>by
 rcases j_.mp h with e | e
 ·exact a e
 exact b (m_.mp e)
theorem zap {a b z h g c e:Addr}(d:a<c/\b<c) (f:c<e) (n:e<h) (l:h<g) (j:g<z):ZAp z h g c e [c,a] [e,b] :=
 have k:c<h:=X5 f n
 have i:c<g:=X5 k l
 have m:c<z:=X5 i j
 have o:e<g:=X5 n l
 have q:e<z:=X5 o j
 have p:h<z:=X5 l j
 ⟨⟨F_ p,F_ j,F_ l,F_ f⟩,k_,k_,
  ⟨nm2 (Yh m) (Yh (X5 d.1 m)),nm2 (Yh k) (Yh (X5 d.1 k)),nm2 (Yh i) (Yh (X5 d.1 i)),nm2 (Yh f) (Yh (X5 d.1 f))⟩,
  ⟨nm2 (Yh q) (Yh (X5 d.2 m)),nm2 (Yh n) (Yh (X5 d.2 k)),nm2 (Yh o) (Yh (X5 d.2 i)),nm2 (F_ f) (Yh d.2)⟩⟩
section
variable {X:Cx}{elts:List Expr}{x1:Nat}{tpos pos p:Pos}{ea eb:Expr}
def eN:List T->List T->List T
 |x::xs,y::ys=>.tup [x,y]::eN xs ys
 |_,_=>[]
theorem lq:∀(xs ys:List T) (i:Nat),(eN xs ys)[i]?=(match xs[i]?,ys[i]? with
  |some x,some y=>some (.tup [x,y])
  |_,_=>none)
 |[],ys,i=>by simp [eN]
 |x::xs,[],i=>by
  simp only[eN,List.getElem?_nil]
  cases (x::xs)[i]? <;> rfl
 |x::xs,y::ys,0=>by simp [eN]
 |x::xs,y::ys,i+1=>by simp only[eN,YX];exact lq xs ys i
theorem lr:∀(xs ys:List T),(eN xs ys).length=min xs.length ys.length
 |[],ys=>by simp [eN]
 |x::xs,[]=>by simp [eN]
 |x::xs,y::ys=>by simp [eN,lr xs ys]
theorem Ax:bootBuiltins "zip"=some (.type "zip"):=by decide +kernel
end
theorem jE {o:Type}(n m f:o->T) (e:List o) (rest:St3) {te:TE3}{still:Hp3->Prop}{k:List T->Hp3->Prop}{v u:Option T}{H:Hp3}(i:still H) (s:e.length<=sizeLine)
  (q:∀a∈e,∀Q:VK3,Q (f a) H->te (some (n a)::some (m a)::rest) H Q) (h:k (e.map f) H) :
  cIter3 (zR 2 (oN (f9 0) (oN (f9 1) zQ))) vR te still k (e.map fun a=>.tup [n a,m a]) [] (v::u::rest) H:=by
 refine kZ (fun r ys Z l=>∃(d j:List o) (v u:Option T),Z=v::u::rest/\r=d.map (fun a=>.tup [n a,m a])/\ys=j.map f/\j++d=e/\l=H) ⟨e,[],v,u,rfl,rfl,rfl,rfl,rfl⟩ ?_ ?_
 ·rintro ys Z l ⟨d,j,v,u,rfl,c,rfl,b,rfl⟩;have g:d=[]:=Ze.mp c.symm;subst g;rw[Yd] at b;subst b;exact⟨i,by rw[e_];exact s,h⟩
 rintro x r ys Z l N ⟨d,j,v,u,rfl,c,rfl,b,rfl⟩ p;cases d with
 |nil=>cases c
 |cons t d =>
 injection c with a1 a2;subst a1 a2;refine⟨i,rfl,?_⟩;show te (some (n t)::some (m t)::rest) l _;refine q t (by rw[<- b];simp) _ ⟨?_,p _ _ _ ⟨d,j++[t],_,_,rfl,rfl,by simp,by rw[<- b];simp,rfl⟩⟩;have:=X6 List.length b;simp only[d_,n_] at this;rw[e_];omega
theorem ni:∀(ts:List T),eN ts ts=ts.map fun t=>.tup [t,t]
 |[]=>rfl
 |t::r=>by rw[eN,ni r];rfl
section
variable {H:Hp3}{Q:VK3}
theorem Nv (x:T):kY [x,.ty "str"] H Q=oq (isT "str" x H) fun b=>Q (.bl b) H:=by rw[qL];exact propext ⟨fun h=>h.2,fun h=>⟨by simp,h⟩⟩
theorem uo (x:Str):isT "str" (.str x) H=some true:=rfl
theorem ut (x:Int):isT "str" (.int x) H=some false:=rfl
theorem uv (x:List T):isT "str" (.tup x) H=some false:=rfl
theorem yf (x:Bool):isT "str" (.bl x) H=some false:=rfl
theorem uw  : isT "str" (.non) H=some false:=rfl
theorem Nx (x:T):kY [x,.ty "int"] H Q=oq (isT "int" x H) fun b=>Q (.bl b) H:=by rw[qL];exact propext ⟨fun h=>h.2,fun h=>⟨by simp,h⟩⟩
theorem ux (x:Str):isT "int" (.str x) H=some false:=rfl
theorem uA (x:Int):isT "int" (.int x) H=some true:=rfl
theorem uB (x:List T):isT "int" (.tup x) H=some false:=rfl
theorem yg (x:Bool):isT "int" (.bl x) H=some true:=rfl
theorem uC  : isT "int" (.non) H=some false:=rfl
theorem GF (x:T):kY [x,.ty "bool"] H Q=oq (isT "bool" x H) fun b=>Q (.bl b) H:=by rw[qL];exact propext ⟨fun h=>h.2,fun h=>⟨by simp,h⟩⟩
theorem qN (x:Str):isT "bool" (.str x) H=some false:=rfl
theorem qO (x:Int):isT "bool" (.int x) H=some false:=rfl
theorem qP (x:List T):isT "bool" (.tup x) H=some false:=rfl
theorem uD (x:Bool):isT "bool" (.bl x) H=some true:=rfl
theorem qQ  : isT "bool" (.non) H=some false:=rfl
theorem Ay (x:T):kY [x,.ty "tuple"] H Q=oq (isT "tuple" x H) fun b=>Q (.bl b) H:=by rw[qL];exact propext ⟨fun h=>h.2,fun h=>⟨by simp,h⟩⟩
theorem o5 (x:Str):isT "tuple" (.str x) H=some false:=rfl
theorem o6 (x:Int):isT "tuple" (.int x) H=some false:=rfl
theorem o7 (x:List T):isT "tuple" (.tup x) H=some true:=rfl
theorem qR (x:Bool):isT "tuple" (.bl x) H=some false:=rfl
theorem o8  : isT "tuple" (.non) H=some false:=rfl
theorem GJ (x:T):kY [x,.ty "list"] H Q=oq (isT "list" x H) fun b=>Q (.bl b) H:=by rw[qL];exact propext ⟨fun h=>h.2,fun h=>⟨by simp,h⟩⟩
theorem qT (x:Str):isT "list" (.str x) H=some false:=rfl
theorem qU (x:Int):isT "list" (.int x) H=some false:=rfl
theorem qW (x:List T):isT "list" (.tup x) H=some false:=rfl
theorem uE (x:Bool):isT "list" (.bl x) H=some false:=rfl
theorem qX  : isT "list" (.non) H=some false:=rfl
theorem GK {b:Type} [DecidableEq b] (a:b):decide (a=a)=true:=D_ rfl
end
open L2 PySem.Builtin PySem.Builtin.Str
section
variable {prog:Program}{w:World}{A:Around}{E:Value->Shared->Prop}{s:Shared}{x y:Str}{t u:Tok}{Q:Value->Shared->Prop}
variable {X:Cx}
variable {elts:List Expr}{x1 j:Nat}{tpos pos p cp kp:Pos}{e:Expr}
variable {tg l:Expr}
variable {te:TE}{p1 p2 pos':Pos}
variable {pins:List (Addr × Obj)}{Z:L2.St}{H:Hp}
variable {a:Expr}{ta:TE3}
def ngq (x:T) (H:Hp3) (Q:VK3):Prop:=match x with
 |.int i=>Q (.int (-i)) H
 |_=>False
def JS (a:TE3):TE3:=fun Z H Q=>a Z H fun x b=>ngq x b Q
theorem Us (a:TE3) {Z:St3}{H:Hp3}{Q:VK3}:JS a Z H Q=a Z H fun x b=>ngq x b Q:=rfl
theorem Ut (i:Int) {H:Hp3}{Q:VK3}:ngq (.int i) H Q=Q (.int (-i)) H:=rfl
theorem uF (d:PE3 X a ta):PE3 X (.UnaryOp .USub a pos) (JS ta):=by
 refine PE.imp (Rz Ln d) ?_;rintro Z H Q ⟨f,H3,Q3,c,g,h,k⟩;refine⟨f,H3,_,c,g,h,fun v l t j e b r q=>?_⟩;cases t with
 |int i=>exact⟨i,r.int,k _ _ _ _ e b .ofInt q⟩
 |_=>exact q.elim
def Ny:List T->Hp3->VK3->Prop:=fun ts H Q=>match ts with
 |[.str x]=>x.length<=640/\oq (intText? x) fun n=>Q (.int n) H
 |_=>False
theorem Nz (x:Str) {H:Hp3}{Q:VK3}:Ny [.str x] H Q=(x.length<=640/\oq (intText? x) fun n=>Q (.int n) H):=rfl
def qY (k:Int):List T->List T
 |[]=>[]
 |x::r=>.tup [.int k,x]::qY (k+1) r
def NB (o:Option O3) (a:Addr) (H:Hp3) (R:List T->(Hp3->Prop)->Hp3->Prop):Prop:=match o with
 |some (.lst ts)=>R (qY 0 ts) (aX a ts) H
 |_=>False
def NP (x:T) (H:Hp3) (R:List T->(Hp3->Prop)->Hp3->Prop):Prop:=match x with
 |.ref a=>NB (H a) a H R
 |_=>False
def GP (te:TE3):TI3:=fun Z H R=>te Z H fun x a=>NP x a R
theorem Az (te:TE3) {Z:St3}{H:Hp3}{R:List T->(Hp3->Prop)->Hp3->Prop}:GP te Z H R=te Z H fun x a=>NP x a R:=rfl
theorem NQ (a:Addr) {H:Hp3}{R:List T->(Hp3->Prop)->Hp3->Prop}:NP (.ref a) H R=NB (H a) a H R:=rfl
theorem NT (ts:List T) (a:Addr) {H:Hp3}{R:List T->(Hp3->Prop)->Hp3->Prop}:NB (some (.lst ts)) a H R=R (qY 0 ts) (aX a ts) H:=rfl
def NZ (x:T) (H:Hp3) (R:List T->(Hp3->Prop)->Hp3->Prop):Prop:=match x with
 |.tup ts=>R (qY 0 ts) cG H
 |_=>False
def GQ (te:TE3):TI3:=fun Z H R=>te Z H fun x a=>NZ x a R
theorem Ba (te:TE3) {Z:St3}{H:Hp3}{R:List T->(Hp3->Prop)->Hp3->Prop}:GQ te Z H R=te Z H fun x a=>NZ x a R:=rfl
theorem N5 (ts:List T) {H:Hp3}{R:List T->(Hp3->Prop)->Hp3->Prop}:NZ (.tup ts) H R=R (qY 0 ts) cG H:=rfl
def anH (o:Option O3) (H:Hp3) (Q:VK3):Prop:=match o with
 |some (.lst xs)=>oq (bF xs) fun a=>Q (.bl (a.any id)) H
 |some (.rol xs)=>oq (bF xs) fun a=>Q (.bl (a.any id)) H
 |_=>False
def JT:List T->Hp3->VK3->Prop:=fun ts H Q=>match ts with
 |[.ref a]=>anH (H a) H Q
 |_=>False
theorem Uu (a:Addr) {H:Hp3}{Q:VK3}:JT [.ref a] H Q=anH (H a) H Q:=rfl
theorem Uv (xs:List T) {H:Hp3}{Q:VK3}:anH (some (.lst xs)) H Q=oq (bF xs) fun a=>Q (.bl (a.any id)) H:=rfl
theorem any_range (c:List Bool):(List.range c.length).any (fun i=>c.getD i true)=c.any id:=by
 rw[W_,Zk,Zk];constructor
 ·rintro⟨i,d,h⟩;have a:=X7.mp d;refine⟨c[i],Yl a,?_⟩;simpa [List.getD,a] using h
 rintro⟨b,e,h⟩;obtain⟨i,d,rfl⟩:=aad.mp e;refine⟨i,X7.mpr d,?_⟩;simpa [List.getD,d] using h
theorem N6 (P:X.calm=true):cZ X (.builtin "any") JT:=by
 intro p s Z H xs us Q I N h;obtain⟨ts,H3,Q3,r,C,h,k⟩:=h
 match ts,h,r with
 |[.ref a],h,r =>
 obtain⟨v,rfl,t⟩:=r.one';obtain⟨u,rfl,F⟩:=vals1 N;rw[t.ref] at F;cases F;have f:∀{g:List T} {ys:List V},SqL X.K H a ys->Reps X.K H g ys->oq (bF g) (fun d=>Q3 (.bl (d.any id)) H3)->wpAny (model X.prog X.w) X.A (call (.builtin "any") [.ref a]) (EP X p Z Q) X.xe s:=by
  intro g ys l m q;cases e:bF g with
  |none=>rw[e] at q;exact q.elim
  |some d =>
  rw[e] at q;obtain⟨J,B,E,_⟩:=I.list l;have G:=gG e m B;subst G;have x:a≠s.heap.objs.size:=fun z=>by obtain⟨o,n,j,_⟩:=E;have:=x_ j;rw[z] at this;exact Ye _ this
  refine call_any_walk (Z5 E.isList ?_);refine⟨s.heap.objs.size,_,_,_,_,_,fun i=>d.getD i true,rfl,Walks.list (A:=X.A.in1) (I.ok.hd P) s.heap.objs.size a x (d.map Value.bool).toArray,⟨⟨_,v_ _ rfl,rfl,rfl⟩,E.isList.push _⟩,fun i v s' S R O D=>?_,fun h' tk M=>?_⟩
  ·have c:(d.map Value.bool)[i]?=some v:=by simpa using O
   rw[z_] at c;cases y:d[i]? with
   |none=>rw[y] at c;cases c
   |some b =>
   rw[y] at c;cases c;have:d.getD i true=b:=by simp [List.getD,y]
   dsimp only at D;rw[this] at D;exact Yy D
  have L:(d.map Value.bool).toArray.size=d.length:=by simp
  rw[L,any_range];refine⟨.bl (d.any id),H,I.kept fun b o e=>M b o (fun z=>?_) (b_ _ e),rfl,k _ _ _ _ .refl C .ofBl q⟩;have:=x_ e;rw[m_.mp z] at this;exact Ye _ this
 have h':anH (H3 a) H3 Q3:=h;cases j:H3 a with
 |none=>rw[j] at h';exact h'.elim
 |some o =>
 rw[j] at h';cases o with
 |lst g=>obtain⟨ys,l,m⟩:=C.sqL (.inl j);exact f l m h'
 |rol g=>obtain⟨ys,l,m⟩:=C.sqL (.inr j);exact f l m h'
 |_=>exact h'.elim
def Bb:List T->Hp3->VK3->Prop:=fun ts H Q=>match ts with
 |[.int i,.int j]=>Q (.int (if j>i then j else i)) H
 |_=>False
def Bc:List T->Hp3->VK3->Prop:=fun ts H Q=>match ts with
 |[.int i,.int j]=>Q (.int (if j<i then j else i)) H
 |_=>False
theorem N7 (i j:Int) {H:Hp3}{Q:VK3}:Bb [.int i,.int j] H Q=Q (.int (if j>i then j else i)) H:=rfl
theorem N8 (i j:Int) {H:Hp3}{Q:VK3}:Bc [.int i,.int j] H Q=Q (.int (if j<i then j else i)) H:=rfl
theorem jV (m:X.calm=true):cZ X (.builtin "max") Bb:=by
 intro a s Z H xs us Q I e h;obtain⟨ts,H3,Q3,r,l,h,k⟩:=h
 match ts,h,r with
 |[.int i,.int j],h,r =>
 obtain⟨v,q,rfl,f,d⟩:=r.two';obtain⟨o,n,rfl,c,b⟩:=vals2 e;rw[f.int] at c;rw[d.int] at b;obtain⟨t,rfl⟩:=c;obtain⟨p,rfl⟩:=b;refine max_two_ints (I.ok.hd m) fun h' tk g=>?_;refine⟨.int (if j>i then j else i),H,I.kept g,?_,k _ _ _ _ .refl l .ofInt h⟩;by_cases z:j>i
 ·rw[if_pos z,if_pos z];exact⟨_,rfl⟩
 rw[if_neg z,if_neg z];exact⟨_,rfl⟩
theorem GR (m:X.calm=true):cZ X (.builtin "min") Bc:=by
 intro a s Z H xs us Q I e h;obtain⟨ts,H3,Q3,r,l,h,k⟩:=h
 match ts,h,r with
 |[.int i,.int j],h,r =>
 obtain⟨v,q,rfl,f,d⟩:=r.two';obtain⟨o,n,rfl,c,b⟩:=vals2 e;rw[f.int] at c;rw[d.int] at b;obtain⟨t,rfl⟩:=c;obtain⟨p,rfl⟩:=b;refine min_two_ints (I.ok.hd m) fun h' tk g=>?_;refine⟨.int (if j<i then j else i),H,I.kept g,?_,k _ _ _ _ .refl l .ofInt h⟩;by_cases z:j<i
 ·rw[if_pos z,if_pos z];exact⟨_,rfl⟩
 rw[if_neg z,if_neg z];exact⟨_,rfl⟩
theorem Bd:dD X (binaryOp .BitAnd) (oV fun i j=>.int (Builtin.bitAnd i j)):=kW Lk fun _ _ _=>.ofInt
theorem JV:dD X (binaryOp .BitOr) (oV fun i j=>.int (Builtin.bitOr i j)):=kW RC fun _ _ _=>.ofInt
theorem gH:bootBuiltins "max"=some (.builtin "max"):=by decide +kernel
theorem Oa:bootBuiltins "min"=some (.builtin "min"):=by decide +kernel
end
theorem bc {N P:List Str}{h:Scope}(a:h.kind=.function:=by rfl) (b:h.isCoroutine=false:=by rfl) (c:h.isGenerator=false:=by rfl) (d:N.Nodup:=by decide +kernel) (e:N.take P.length=P:=by rfl)
 (f:∀x∈P,h.names.lookup x=some .local\/h.names.lookup x=some .cell:=by decide +kernel) (g:∀y∈h.names,y.2≠.free:=by decide +kernel):FnScope N P h:=⟨a,b,c,d,e,f,g⟩
theorem Be {p:Prop} [Decidable p] (h:¬p):¬(decide p=true) := fun e=>h (Za e)
theorem upa {H:Hp3}{a q:Addr}{o u:O3}(h:H a=some u) (b:H q=none):up3 H q o a=some u := by rw[aD (bf h b)];exact h
structure Cal (P:Program) (w:World) (K:Frag) (mg:Str->Option Value) (base:Heap) (k:Nat) (x:Str) (st:Stmt) (ps:List Str) (sp:Sp3):Prop where
 ex:∃(f:Addr) (fd:FuncData),G3 K mg x st ps f fd/\FnOk3 P w K mg base k f fd ps sp
theorem Ob {X:Cx}{k:Nat}{ps:List Str}{sp:Sp3}{st:Stmt}{x:Str}{p a:Pos}{e:Expr}{c:List Expr}{t:TA3}(D:Cal X.prog X.w X.K X.mg X.base k x st ps sp) (i:Room k X.A) (n:Gl X x)
  (j:PA3 X (e::c) t) (h:(x==("__debug__":Str))=false:=by decide) (l:starEach (e::c) X.env=(false,eval e X.env)::starEach c X.env:=by rfl) (d:(backTo a (starEach c X.env)).any (·.1)=false:=by rfl) :
  PE3 X (.Call (.Name x p) (e::c) [] a) (oU sp t):=by
 obtain⟨f,o,g,F⟩:=D.ex;exact Ga F i n g.m g.fn.kp g.b j h l d
theorem aM {X:Cx}{k j:Nat}{ps:List Str}{sp:Sp3}{st:Stmt}{x:Str}{p a:Pos}{e:Expr}{b:List Expr}{t:TA3}(D:Cal X.prog X.w X.K X.mg X.base k x st ps sp) (f:Room j X.A) (l:Gl X x) (g:PA3 X (e::b) t) (h:k<=j:=by decide) (d:(x==("__debug__":Str))=false:=by decide) (i:starEach (e::b) X.env=(false,eval e X.env)::starEach b X.env:=by rfl) (c:(backTo a (starEach b X.env)).any (·.1)=false:=by rfl):PE3 X (.Call (.Name x p) (e::b) [] a) (oU sp t):=Ob D (f.mono h) l g d i c
section
variable {X:Cx}{pins:List (Addr × Obj)}{Z:L2.St}{H:Hp}{s:Shared}
theorem o9 {c:Nat}:∀{xs:List Nat},(∀x∈xs,x<=c)->xs.sum<=xs.length*c
 |[],_=>by simp
 |x::xs,h=>by
  have a:=h x k_
  have b:=o9 (xs:=xs) fun y d=>h y (h_ _ d)
  simp only[YT,n_,Nat.succ_mul]
  omega
def rpH (o:Option O3) (k:Int) (H:Hp3) (Q:VK3):Prop:=match o with
 |some (.lst xs)=>(-(2^63)<=k/\k<2^63/\xs.length*k.toNat<=sizeLine)/\∀p,H p=none->Q (.ref p) (up3 H p (.lst (List.replicate k.toNat xs).flatten))
 |_=>False
def JW:R3:=fun x y H Q=>match x,y with
 |.ref a,.int k=>rpH (H a) k H Q
 |_,_=>False
theorem JX (a:Addr) (k:Int) (H:Hp3) (Q:VK3):JW (.ref a) (.int k) H Q=rpH (H a) k H Q:=rfl
theorem JZ (xs:List T) (k:Int) (H:Hp3) (Q:VK3):rpH (some (.lst xs)) k H Q=((-(2^63)<=k/\k<2^63/\xs.length*k.toNat<=sizeLine)/\∀p,H p=none->Q (.ref p) (up3 H p (.lst (List.replicate k.toNat xs).flatten))):=rfl
theorem Reps.rep {K:Frag}{H:Hp}{ts:List T}{vs:List V}(r:Reps K H ts vs):∀k:Nat,Reps K H (List.replicate k ts).flatten (List.replicate k vs).flatten
 |0=>.nil
 |k+1=>by rw[Yr,Yr,YM,YM];exact r.append (Reps.rep r k)
theorem Bf:dD X (binaryOp .Mult) JW:=by
 refine OpR.imp LQ ?_;rintro x y H Q ⟨r,g,H3,Q3,q,l,c,h,k⟩;cases r with
 |ref a =>
  cases g with
  |int n =>
   rw[JX] at h;cases e:H3 a with
   |none=>rw[e] at h;exact h.elim
   |some o =>
   rw[e] at h;cases o with
   |lst xs=>rw[JZ] at h;obtain⟨vs,i,d⟩:=c a _ e;obtain⟨⟨j,f,m⟩,h'⟩:=h;refine⟨a,n,vs,q.ref,l.int,i,j,f,by rw[<- d.length];exact m,fun p b=>?_⟩;exact k _ _ _ _ (aL b) (c.newLst b (d.rep n.toNat)) .ofRef (h' p (c.fresh b))
   |_=>exact h.elim
  |_=>exact h.elim
 |_=>exact h.elim
end
theorem lr_hint:Slot "list_reverseiterator" "__length_hint__" "list_reverseiterator.__length_hint__":=.of (owner:="list_reverseiterator") (n:="__length_hint__") (by rw[typeLookup_type,builtinLookup_eq_fast];kernel_rfl) (by decide +kernel) (by decide +kernel) (by decide +kernel)
 (by first | exact .inr (by decide +kernel) | exact .inl (by decide +kernel)) (by rw[isSubtype_type];kernel_rfl)
theorem Bg:typeLookup (.type "list_reverseiterator") "__len__"=pure none:=by rw[typeLookup_type,builtinLookup_eq_fast];kernel_rfl
theorem Oc:isSubtype (.type "list_reverseiterator") (.type "list_reverseiterator")=pure true:=by rw[isSubtype_type];kernel_rfl
theorem Bh {a b:Array Value}(h:ItemsOf (fun i v=>a[a.size - 1 - i]?=some v) b a.size):b=a.reverse:=by
 refine Array.ext (by rw[h.1];simp) fun j c d=>?_;have q:a[a.size - 1 - j]?=some b[j]:=h.2 j b[j] (Zy c);have e:j<a.size:=by rw[<- h.1];exact c
 rw[Zy (by omega)] at q;rw[Array.getElem_reverse];exact (Q_ q).symm
section
variable {prog:Program}{w:World}{A:Around}{E:Value->Shared->Prop}{s:Shared}
theorem yh {R:Result->Shared->Prop}{I l S:Addr}{c:Array Value}{m:Value}{q:Nat}(E:A.handled=none) (u:l≠I) (hsz:c.size<=sizeLine) (o:S∉[I,l]) (h:s.heap.IsRevIter I l ((c.size:Int) - 1)) (D:s.heap.IsList l c)
  (y:s.heap.get? S=some { cls:=.type "list",data:=.seq #[] q})
  (H:∀s' d k,Moved (S::[I]) (fun a b=>b=a) s s'->s'.heap.get? S=some { cls:=.type "list",dict:=none,data:=.seq d k,slots:=#[]}->ItemsOf (fun i v=>c[c.size - 1 - i]?=some v) d c.size->R (.ok (.ret m)) s') :
  wpAny (model prog w) A.in1 (Builtin.List.listExtendWith (.ref S) (.ref I) m)
   (fun t s'=>match t with | .done f=>R (.ok f) s' | .again k=>k.quiet=true/\codeAny (model prog w) A k R s') (fun e s'=>R (.error e) s') s:=by
 have W:=(Walks.listRev (prog:=prog) (w:=w) (A:=A.in1) E I l u c).toS;have r:S≠I:=fun e=>o (e▸k_);have st:(fun (i:Nat) (s:Shared)=>i<=c.size/\s.heap.IsRevIter I l ((c.size:Int) - 1 - (i:Int))/\s.heap.IsList l c) 0 s:=⟨X3 _,by simpa using h,D⟩;have g:s.TypeIs (.ref I) "list_reverseiterator":=h.typeIs;unfold Builtin.List.listExtendWith;refine a_ (aaf g ?_);have z:Builtin.List.listSameRef (.ref S) (.ref I)=false:=by simp [Builtin.List.listSameRef,r]
 have G:(Value.type "list_reverseiterator"==Value.type "list")=false:=by decide
 have C:(Value.type "list_reverseiterator"==Value.type "tuple")=false:=by decide
 simp only[z,G,C,Bool.or_false,A_,X8];refine a_ (wpAny_pyIter_revIter h ?_);refine a_ (YS ?_);unfold Builtin.List.listLengthHint;refine a_ (Z0 g Bg ?_);show wpAny _ A.in1 (specialOf (Value.ref I) (Str.ofString "__length_hint__") >>= _) _ _ _;refine a_ (Z0 g lr_hint.lookup ?_);generalize j:("list_reverseiterator.__length_hint__":String)=n
 (fail_if_success (clear j n))
 wp_delta
 rw[show splitId n=some ("list_reverseiterator","__length_hint__") from by subst j;decide +kernel];subst j;refine a_ (aag (b:=true) g Oc ?_);rw[if_neg (show ¬(!true)=true from t_)];dsimp only;rw[if_pos (by decide +kernel)];rw[if_neg (show ¬((Value.builtin "list_reverseiterator.__length_hint__"==Value.builtin "range_iterator.__length_hint__")=true) from by decide)];refine i_ ?_;try rw[if_neg t_]
 refine i_ ⟨plainId_quiet F.plain_extend_loop _,?_⟩;exact codeAny_extend_loopS W hsz _ o _ c.size 0 _ _ _ rfl (X3 _) st y (ItemsOf.nil _) fun s' d k B x p=>H s' d k B x p
theorem GX {R:Result->Shared->Prop}{I l S:Addr}{d:Array Value}(J:A.handled=none) (x:l≠I) (hsz:d.size<=sizeLine) (k:S∉[I,l]) (q:s.heap.IsRevIter I l ((d.size:Int) - 1)) (F:s.heap.IsList l d)
  (t:s.heap.get? S=some { cls:=.type "list",data:=.seq #[]})
  (K:∀s' g n,Moved (S::[I]) (fun a b=>b=a) s s'->s'.heap.get? S=some { cls:=.type "list",dict:=none,data:=.seq g n,slots:=#[]}->ItemsOf (fun i v=>d[d.size - 1 - i]?=some v) g d.size->R (.ok (.ret .none)) s') :
  wpAny (model prog w) A.in1 (Builtin.«list.__init__» ⟨[.ref S,.ref I],[]⟩)
   (fun u s'=>match u with | .done f=>R (.ok f) s' | .again n=>n.quiet=true/\codeAny (model prog w) A n R s') (fun e s'=>R (.error e) s') s:=by
 show wpAny _ A.in1 (do let y <- Builtin.List.listItems (.ref S);Builtin.List.listUpdate (.ref S) (fun _=>#[]);letGo y.toList.reverse;Builtin.List.listExtendWith (.ref S) (.ref I) .none) _ _ s;refine a_ ?_;unfold Builtin.List.listItems;refine a_ (YD t rfl (i_ ?_));show wpAny _ A.in1 (updateSeq S (fun _=>#[]) >>= fun _=>letGo (#[]:Array Value).toList.reverse >>= fun _=>Builtin.List.listExtendWith (.ref S) (.ref I) .none) _ _ s;refine a_ (wpAny_updateSeq t rfl ?_);have j:=Heap.get?_update_self (Obj.mapSeq (fun _=>(#[]:Array Value))) t rfl;have m:∀b o,b≠S->s.heap.get? b=some o->(s.heap.update S (Obj.mapSeq (fun _=>(#[]:Array Value)))).get? b=some o :=
  fun b o r e=>(ZV _ _ (Ne.symm r)).trans e
 refine a_ (wpAny_letGo ?_);have B:I≠S:=fun e=>k (by simp [e]);have C:l≠S:=fun e=>k (by simp [e]);refine yh J x hsz k (q.at fun o e=>m _ o B e) (F.at fun o e=>m _ o C e) j fun s' g n D z p=>?_;exact K s' g n (Moved.trans (G:=fun a b=>b=a) (fun a b c E H=>H.trans E) ((Moved.refl (G:=fun a b=>b=a) fun _=>rfl).then_heap (o_ _) fun b o r e=>m b o (fun h=>r (h▸k_)) e) D) z p
theorem mz {Q:Value->Shared->Prop}{I l:Addr}{c:Array Value}(z:A.handled=none) (n:l≠I) (hsz:c.size<=sizeLine) (g:s.heap.IsRevIter I l ((c.size:Int) - 1)) (x:s.heap.IsList l c)
  (y:∀s' q,Moved (s.heap.objs.size::[I]) (fun a b=>b=a) { s with heap:=s.heap.push { cls:=.type "list",data:=.seq #[]}} s' ->
   s'.heap.get? s.heap.objs.size=some { cls:=.type "list",dict:=none,data:=.seq c.reverse q,slots:=#[]}->Q (.ref s.heap.objs.size) s') :
  wpAny (model prog w) A (call (.type "list") [.ref I]) Q E s:=by
 have h:I<s.heap.objs.size:=by obtain⟨o,r,_⟩:=g;exact x_ r
 have f:l<s.heap.objs.size:=by obtain⟨o,r,_⟩:=x;exact x_ r
 have m:s.heap.objs.size∉[I,l]:=fun p=>by
  rcases j_.mp p with e | e
  ·rw[<- e] at h;exact Ye _ h
  rw[<- m_.mp e] at f;exact Ye _ f
 refine callType_codes (Q₁:=fun k d=>k=.ref s.heap.objs.size/\d={ s with heap:=s.heap.push { cls:=.type "list",data:=.seq #[]}}) F.called_list (F.typeCall_list_1 _) F.entry_list_init
  (code_list_new _ ⟨rfl,rfl⟩) fun k d j=>?_
 obtain⟨rfl,rfl⟩:=j;have u:(s.heap.push { cls:=.type "list",data:=.seq #[]}).get? s.heap.objs.size=some { cls:=.type "list",data:=.seq #[]}:=v_ _ rfl;refine⟨⟨_,u,rfl⟩,F.args_list_init_2 _ _,GX (A:=A.in1) z n hsz m (g.at fun o e=>b_ _ e) (x.at fun o e=>b_ _ e) u fun s' v q p t i=>?_⟩;refine⟨rfl,y s' q p ?_⟩;rw[<- Bh i];exact t
end
def Itv (K:Frag) (a:Addr) (n:Nat):It :=
 ⟨fun i H=>∃xs x,SqL K H a xs/\xs.length=n/\i<n/\xs[n - 1 - i]?=some x,fun i H x b=>b=H/\∀xs,SqL K H a xs->xs[n - 1 - i]?=some x,fun i _=>n<=i⟩
theorem Bj {P:Program}{w:World}{K:Frag}{tg:Expr}(a it:Addr) (n:Nat):Turn P w K tg (Itv K a n) [it] it (fun i h=>i<=n/\h.IsRevIter it a ((n:Int) - 1 - (i:Int))) where
 mem:=by simp
 obj:=fun i h st b j=>by
  have e:b=it:=by simpa using j
  subst e
  obtain⟨_,o,e,c,d⟩:=st
  exact⟨o,e,fun v z=>by rw[d] at z;cases z⟩
 keep:=fun i h h' st k=>⟨st.1,st.2.at fun o e=>k it (by simp) o e⟩
 item:=by
  intro X y D A F i f s Z H E I l st C
  subst y D A
  obtain⟨xs,x,G,hn,L,J⟩:=C
  obtain⟨R,S,p,hz⟩:=I.list G
  obtain⟨u,hu,W⟩:=S.get J
  obtain⟨q,t,V,r,m,B⟩:=l it (by simp)
  have e:(n:Int) - 1 - (i:Int)=((n - 1 - i:Nat):Int):=by omega
  obtain⟨_,st⟩:=st
  rw[e] at st
  refine wpAny_pyNext_rev_item st p.isList (x:=u) (by simpa using hu) fun h' g sb=>?_
  have Q:Inv X f Z H { s with heap:=h'}:=I.turned (t':=s.toks) (fun b o j e=>(sb.2 b j).trans e) q t r m B
  obtain⟨o,U,c,d⟩:=id g
  have M:((n - 1 - i:Nat):Int) - 1=(n:Int) - 1 - ((i+1:Nat):Int):=by omega
  rw[M] at g
  exact⟨u,rfl,vG (s:={ s with heap:=h'}) U c d (by decide) ⟨x,H,Q,W,⟨rfl,fun ys N=>by rw[I.list_inj N G];exact J⟩,⟨L,g⟩,fun b j=>(l b j).1⟩⟩
 done:=by
  intro X y D A F i f s Z H E I l st C
  subst y D A
  obtain⟨q,t,V,r,m,B⟩:=l it (by simp)
  obtain⟨Y,st⟩:=st
  have T:n<=i:=C
  have e:(n:Int) - 1 - (i:Int) = -1:=by omega
  rw[e] at st
  exact wpAny_pyNext_rev_end (I.ok.hd F) st fun h' O=>⟨rfl,I.turned (t':=s.toks) (fun b o j e=>O b o j e) q t r m B⟩
 self:=fun _ _ _ _ _ st h=>wpAny_pyIter_revIter st.2 h
theorem jF:bootBuiltins "reversed"=some (.type "reversed"):=by decide +kernel
section
variable {X:Cx}{tg e:Expr}{p p1 p2 pos pos':Pos}
def Xw (K:Frag) (te:TE):TI:=fun Z H R=>te Z H fun x b=>∃a xs,x=.ref a/\SqL K b a xs/\R (Itv K a xs.length) b
theorem Od {te:TE}(B:Gl X "reversed") (y:X.mg "reversed"=none) (v:PE X e te)
  (k:starEach [e] X.env=(false,eval e X.env)::starEach [] X.env:=by rfl) (j:(backTo pos (starEach [] X.env)).any (·.1)=false:=by rfl) :
  PI X tg (.Call (.Name "reversed" p) [e] [] pos) (Xw X.K te):=by
 intro d s Z H R I h;refine Y6 (fC I B y jF ?_ (by decide) (by decide));refine Yj ?_ k j;rw[k];show wpAny _ _ (spliced ((false,eval e X.env)::backTo pos (starEach [] X.env))) _ _ s;refine aao (thn (v d s Z H _ I h) fun u c ⟨x,w,g,m,a,xs,C,z,q⟩=>?_);subst C;cases m;refine aas ?_;obtain⟨i,t,A,D⟩:=g.list z;have f:=t.length;refine call_reversed_list A.isList ?_;have r:((i.toArray.size:Nat):Int) - 1=(xs.length:Int) - 1:=by simp [f]
 rw[r];have l:(c.heap.push (revObj a ((xs.length:Int) - 1))).IsRevIter c.heap.objs.size a ((xs.length:Int) - 1):=⟨_,v_ _ rfl,rfl,rfl⟩;refine wpAny_pyIter_revIter l ?_;refine⟨c.heap.objs.size,[c.heap.objs.size],_,_,w,rfl,g.kept (t':=c.toks) fun b o e=>b_ _ e,Bj a c.heap.objs.size xs.length,⟨X3 _,by simpa using l⟩,fun b n=>?_,q⟩;have e:b=c.heap.objs.size:=by simpa using n
 subst e;exact g.fpOk (o_ _) (g.hok.fresh (o_ _))
def reO (o:Option O3) (a:Addr) (H:Hp3) (R:List T->(Hp3->Prop)->Hp3->Prop):Prop:=match o with
 |some (.lst ts)=>R ts.reverse (aX a ts) H
 |_=>False
def J0 (te:TE3):TI3:=fun Z H R=>te Z H fun x b=>match x with
 |.ref a=>reO (b a) a b R
 |_=>False
theorem Bk {K:Frag}{H:Hp}{a:Addr}{ts:List T}{xs:List V}(l:xs.length=ts.length):jD K (Itv K a xs.length) ts.reverse (aX a ts) H:=fun o j p f st=>by
 obtain⟨ys,d,c⟩:=f.sqL st;have m:=c.length;rw[l];refine⟨fun i b=>by rw[Yw] at b;exact b,fun i t e=>?_⟩;have b:i<ts.length:=by have:=(YK.mp e).1;rw[Yw] at this;exact this
 rw[List.getElem?_reverse b] at e;obtain⟨v,g,k⟩:=c.get e;refine⟨⟨ys,v,d,m.symm,b,g⟩,fun x h y=>?_⟩;obtain⟨n,y⟩:=y;subst n;have:=y ys d;rw[g] at this;cases this;exact⟨.refl,f,k⟩
theorem Oe {te:TE3}(n:Gl X "reversed") (s:X.mg "reversed"=none) (u:PE3 X e te)
  (j:starEach [e] X.env=(false,eval e X.env)::starEach [] X.env:=by rfl) (f:(backTo pos (starEach [] X.env)).any (·.1)=false:=by rfl) :
  PI3 X tg (.Call (.Name "reversed" p) [e] [] pos) (J0 te):=by
 refine PI.imp (Od n s u j f) ?_;rintro Z H R ⟨y,H3,R3,g,x,h,k⟩;refine⟨y,H3,_,g,x,h,fun v l t b m c r q=>?_⟩;cases t with
 |ref a =>
  have d:reO (b a) a b R3:=q
  cases e:b a with
  |none=>rw[e] at d;exact d.elim
  |some o =>
   rw[e] at d
   cases o with
   |lst ts =>
    obtain⟨xs,i,w⟩:=c.sqL (.inl e)
    exact⟨a,xs,r.ref,i,k _ _ (aX a ts) l b m c (Bk w.length.symm) d⟩
   |_=>exact d.elim
 |_=>exact q.elim
theorem Og (te:TE3) {Z:St3}{H:Hp3}{R:List T->(Hp3->Prop)->Hp3->Prop}:J0 te Z H R=te Z H fun x b=>match x with
 |.ref a=>reO (b a) a b R
 |_=>False:=rfl
theorem Uw (ts:List T) (a:Addr) (H:Hp3) (R:List T->(Hp3->Prop)->Hp3->Prop):reO (some (.lst ts)) a H R=R ts.reverse (aX a ts) H:=rfl
def Oh (te:TE):TE:=fun Z H Q=>te Z H fun x a=>∃p ys,x=.ref p/\SqL X.K a p ys/\∀l,a l=none->Q (.ref l) (upd a l (.lst ys.reverse))
theorem Bm {te:TE}(K:X.calm=true) (m:Gl X "list") (n:X.mg "list"=none) (r:Gl X "reversed") (l:X.mg "reversed"=none) (L:PE X e te)
  (B:starEach [e] X.env=(false,eval e X.env)::starEach [] X.env:=by rfl) (f:(backTo pos (starEach [] X.env)).any (·.1)=false:=by rfl) (i:(backTo pos' (starEach [] X.env)).any (·.1)=false:=by rfl) :
  PE X (.Call (.Name "list" p1) [.Call (.Name "reversed" p2) [e] [] pos'] [] pos) (Oh (X:=X) te):=by
 intro c s Z H Q I h;refine Y6 (fC I m n ww ?_ (by decide) (by decide));refine Yj ?_ rfl f;show wpAny _ _ (spliced ((false,eval (.Call (.Name "reversed" p2) [e] [] pos') X.env)::backTo pos (starEach [] X.env))) _ _ s;refine aao ?_;refine Y6 (fC I r l jF ?_ (by decide) (by decide));refine Yj ?_ B i;rw[B];show wpAny _ _ (spliced ((false,eval e X.env)::backTo pos' (starEach [] X.env))) _ _ s;refine aao (thn (L c s Z H _ I h) fun u s1 ⟨x,P,j,F,p,ys,S,D,q⟩=>?_);subst S;cases F;obtain⟨a,A,t,E⟩:=j.list D;have C:=A.length;have hsz:a.toArray.size<=sizeLine:=by simp only[l_];omega
 refine aas ?_;refine call_reversed_list t.isList ?_;refine aas ?_;have f:p<s1.heap.objs.size:=by obtain⟨o,O,_⟩:=t.isList;exact x_ O
 have v:(s1.heap.push (revObj p ((a.toArray.size:Int) - 1))).IsRevIter s1.heap.objs.size p ((a.toArray.size:Int) - 1):=⟨_,v_ _ rfl,rfl,rfl⟩;refine mz (s:={ s1 with heap:=s1.heap.push (revObj p ((a.toArray.size:Int) - 1))}) (j.ok.hd K) (F_ f) hsz v (t.isList.at fun o e=>b_ _ e) fun s' N g y=>?_;generalize k:(s1.heap.push (revObj p ((a.toArray.size:Int) - 1))).objs.size=z at g y;have d:s1.heap.objs.size<z:=by rw[<- k];simp [Heap.push]
 have R:∀b u,s1.heap.get? b=some u->s'.heap.get? b=some u:=fun b u w=>g.heap b u (fun G=>by
  have:=x_ w
  rcases j_.mp G with e | e
  ·
   rw[e] at this;exact absurd (X5 this d) (Ye _)
  ·
   rw[m_.mp e] at this;exact Ye _ this) (b_ _ (b_ _ w))
 have J:s'={ s1 with heap:=s'.heap,toks:=s'.toks}:=by
  obtain⟨W,V,Y,U,T⟩:=s';have:=g.gens;have:=g.drawn;have:=g.os
  simp_all
 have M:Inv X c Z (upd P z (.lst ys.reverse)) { s1 with heap:=s'.heap,toks:=s'.toks} :=
  j.laid (t':=s'.toks) R (Y0 d) ⟨by rw[Yw];exact E,a.reverse,N,A.reverse,by simpa using y⟩
 rw[J];exact⟨.ref z,_,M,rfl,q _ (j.hok.fresh (Y0 d))⟩
def lrO (o:Option O3) (H:Hp3) (Q:VK3):Prop:=match o with
 |some (.lst xs)=>∀p,H p=none->Q (.ref p) (up3 H p (.lst xs.reverse))
 |_=>False
def wC (te:TE3):TE3:=fun Z H Q=>te Z H fun x b=>match x with
 |.ref a=>lrO (b a) b Q
 |_=>False
theorem Bo {te:TE3}(A:X.calm=true) (p:Gl X "list") (i:X.mg "list"=none) (j:Gl X "reversed") (g:X.mg "reversed"=none) (B:PE3 X e te)
  (y:starEach [e] X.env=(false,eval e X.env)::starEach [] X.env:=by rfl) (m:(backTo pos (starEach [] X.env)).any (·.1)=false:=by rfl) (f:(backTo pos' (starEach [] X.env)).any (·.1)=false:=by rfl) :
  PE3 X (.Call (.Name "list" p1) [.Call (.Name "reversed" p2) [e] [] pos'] [] pos) (wC te):=by
 refine PE.imp (Bm A p i j g B y m f) ?_;rintro Z H Q ⟨z,H3,Q3,s,x,h,k⟩;refine⟨z,H3,_,s,x,h,fun v D t b C c r q=>?_⟩;cases t with
 |ref a =>
  have d:lrO (b a) b Q3:=q
  cases e:b a with
  |none=>rw[e] at d;exact d.elim
  |some o =>
   rw[e] at d
   cases o with
   |lst ts =>
    obtain⟨xs,u,w⟩:=c.sqL (.inl e)
    exact⟨a,xs,r.ref,u,fun l n=>k _ _ _ _ (C.trans (aL n)) (c.newLst n w.reverse) .ofRef (d l (c.fresh n))⟩
   |_=>exact d.elim
 |_=>exact q.elim
theorem GZ (te:TE3) {Z:St3}{H:Hp3}{Q:VK3}:wC te Z H Q=te Z H fun x b=>match x with
 |.ref a=>lrO (b a) b Q
 |_=>False:=rfl
theorem Ux (xs:List T) (H:Hp3) (Q:VK3):lrO (some (.lst xs)) H Q=∀p,H p=none->Q (.ref p) (up3 H p (.lst xs.reverse)):=rfl
variable {o:Expr}{to:TE3}{name:Str}{apos cpos:Pos}{m:T->List T->Hp3->VK3->Prop}{Ty id:String}
def Bp (c:String) (m:T->List T->Hp3->VK3->Prop) (b:TE3):TE3:=fun Z H Q=>b Z H fun x a=>ty3 c x a/\m x [] a Q
theorem Bq (p:PlainAttrs Ty) (d:Slot Ty name id) (e:typeOf (.builtin id)=pure (.type "method_descriptor")) (q:zK X id m) (n:PE3 X o to)
  (a:attributeBase o name X.env (eval o X.env)=eval o X.env:=by rfl) (b:(apos.endLine==cpos.line)=true:=by rfl) :
  PE3 X (.Call (.Attribute o name apos) [] [] cpos) (Bp Ty m to):=by
 refine PE.imp (LK p d e q n a b) ?_;rintro Z H Q ⟨r,H3,Q3,l,s,h,k⟩;exact⟨r,H3,_,l,s,h,fun x u t f g c j i=>⟨JH c j i.1,t,[],f,Q3,j,.nil,c,i.2,k.at g⟩⟩
def clO (o:Option O3) (a:Addr) (H:Hp3) (Q:VK3):Prop:=match o with
 |some (.lst _)=>Q .non (up3 H a (.lst []))
 |_=>False
def Uy:T->List T->Hp3->VK3->Prop:=fun x ts H Q=>match x,ts with
 |.ref a,[]=>clO (H a) a H Q
 |_,_=>False
theorem Uz (a:Addr) (H:Hp3) (Q:VK3):Uy (.ref a) [] H Q=clO (H a) a H Q:=rfl
theorem UG (xs:List T) (a:Addr) (H:Hp3) (Q:VK3):clO (some (.lst xs)) a H Q=Q .non (up3 H a (.lst [])):=rfl
def Oi (o:Option O3) (a:Addr) (i:Int) (t:T) (H:Hp3) (Q:VK3):Prop:=match o with
 |some (.lst xs)=>(0<=i/\i<=xs.length/\xs.length<sizeLine)/\Q .non (up3 H a (.lst (xs.take i.toNat++t::xs.drop i.toNat)))
 |_=>False
def UJ:T->List T->Hp3->VK3->Prop:=fun x ts H Q=>match x,ts with
 |.ref a,[.int i,t]=>Oi (H a) a i t H Q
 |_,_=>False
theorem UL (a:Addr) (i:Int) (t:T) (H:Hp3) (Q:VK3):UJ (.ref a) [.int i,t] H Q=Oi (H a) a i t H Q:=rfl
theorem Oj (xs:List T) (a:Addr) (i:Int) (t:T) (H:Hp3) (Q:VK3):Oi (some (.lst xs)) a i t H Q=((0<=i/\i<=xs.length/\xs.length<sizeLine)/\Q .non (up3 H a (.lst (xs.take i.toNat++t::xs.drop i.toNat)))):=rfl
def mxH (o:Option O3) (H:Hp3) (Q:VK3):Prop:=match o with
 |some (.lst xs)=>oq (ints3 xs) fun ns=>ns≠[]/\∀M,M∈ns->(∀a∈ns,a<=M)->Q (.int M) H
 |_=>False
def Br:List T->Hp3->VK3->Prop:=fun ts H Q=>match ts with
 |[.ref a]=>mxH (H a) H Q
 |_=>False
theorem Bs (a:Addr) (H:Hp3) (Q:VK3):Br [.ref a] H Q=mxH (H a) H Q:=rfl
theorem J1 (xs:List T) (H:Hp3) (Q:VK3):mxH (some (.lst xs)) H Q=oq (ints3 xs) fun ns=>ns≠[]/\∀M,M∈ns->(∀a∈ns,a<=M)->Q (.int M) H:=rfl
theorem jW (J:X.calm=true):cZ X (.builtin "max") Br:=by
 intro x s Z H xs us Q I E h;obtain⟨ts,H3,Q3,r,w,h,k⟩:=h;cases ts with
 |nil=>exact h.elim
 |cons t ts =>
 cases ts with
 |cons _ _=>cases t <;> exact h.elim
 |nil =>
 cases t with
 |ref a =>
  rw[Bs] at h;obtain⟨v,rfl,g⟩:=r.one';obtain⟨u,rfl,z⟩:=vals1 E;rw[g.ref] at z;cases z;cases e:H3 a with
  |none=>rw[e] at h;exact h.elim
  |some o =>
  rw[e] at h;cases o with
  |lst L =>
   rw[J1] at h;obtain⟨ys,A,G⟩:=w.sqL (.inl e);cases i:ints3 L with
   |none=>rw[i] at h;exact h.elim
   |some ns =>
   rw[i,dX] at h;obtain⟨n,h⟩:=h;obtain⟨b,m,K,_⟩:=I.list A;have p:=iB i G m;have d:AllInts b.toArray:=p.allInts;obtain⟨c,q⟩:=d.items;have l:s.heap.IsList a (intItems c):=by rw[<- q];exact K.isList
   have f:=nums_intItems c;rw[<- q,show b.toArray.toList=b from rfl,p.numsOf] at f;have B:0<c.size:=by have:=X6 List.length f;simp at this;have:=List.length_pos_iff.mpr n;omega
   refine max_intList (I.ok.hd J) l B fun v h' tk F D=>?_;obtain⟨t,rfl⟩:=intItems_at F;obtain⟨N,M⟩:=argBest_gt (numAt c) (c.size - 1);refine⟨.int _,H,I.kept D,⟨t,rfl⟩,k _ _ _ _ .refl w .ofInt (h _ ?_ fun a y=>?_)⟩
   ·rw[f,numAt_eq];exact getD_mem (by rw[e_,ZJ];omega)
   rw[f] at y;obtain⟨j,C,rfl⟩:=mem_getD y;rw[e_,ZJ] at C;rw[<- numAt_eq];exact M j (by omega)
  |_=>exact h.elim
 |_=>cases h
end
open L2 HT
section
variable {prog:Program}{w:World}{A:Around}{E:Value->Shared->Prop}{s:Shared}
theorem iG {t e:Addr}{a:Array Value}{l m:Value}{c d:Option Int}{Q:Value->Shared->Prop}(b:IsTup s.heap t a) (k:s.heap.IsSliceOf e l m .none) (pl:IsPart l c) (o:IsPart m d)
  (j:sIx a.size 0 c=0/\sIx a.size a.size d=a.size) (h:Q (.ref t) s):wpAny (model prog w) A (getItem (.ref t) (.ref e)) Q E s:=by
 obtain⟨n,g,f,p⟩:=id k;have i:s.TypeIs (.ref e) "slice":=⟨n,g,f⟩;unfold getItem;try with_reducible refine YS ?_
 first | refine a_ (i_ ?_) | skip
 refine a_ (wpAny_sequenceKey b.typeIs (by decide) ?_);refine a_ (YB (name:=Str.ofString "__getitem__") b.typeIs X4
  (YG X4 b.typeIs entry_tuple_getitem ?_ (args_tuple_getitem _ _)))
 show wpAny _ _ (Builtin.Tuple.tupleItemsOf (.ref t) >>= _) _ _ s;refine a_ (tupleItemsOf_ b ?_);refine a_ (aaf i ?_);rw[if_pos (by decide)];refine a_ (fK k pl o ?_);show wpAny _ _ (if (((sIx a.size 0 c:Nat):Int)==0&&(1:Int)==1&&(sIx a.size a.size d - sIx a.size 0 c)==a.size)=true then _ else _) _ _ s;rw[if_pos (by rw[j.1,j.2];simp)];have q:=b.typeIs
 wp_walk
 exact⟨_,rfl,i_ h⟩
variable {X:Cx}
theorem G4:SlR X (fun x e f H Q=>∃a xs,x=.ref a/\SqT X.K H a xs/\(HT.sIx xs.length 0 e=0/\HT.sIx xs.length xs.length f=xs.length)/\Q (.ref a) H):=by
 intro d s Z H x v n o e f t Q I l i pl k h;obtain⟨a,xs,rfl,m,j,q⟩:=h;cases l;obtain⟨c,r,g,p⟩:=I.tuple m;have b:c.toArray.size=xs.length:=by rw[l_];exact r.length.symm
 refine⟨"tuple",_,X4.lookup,g.typeIs,?_⟩;exact iG g i pl k (by rw[b];exact j) ⟨.ref a,H,I,rfl,q⟩
def Bt:T->Option Int->Option Int->Hp3->VK3->Prop:=fun x b a H Q=>match x with
 |.tup ts=>Q (.tup (dm ts b a)) H
 |_=>False
def J2 (te:TE3) (a d:TO3):TE3:=fun Z H Q=>te Z H fun x c=>a Z c fun l b=>d Z b fun u H3=>Bt x l u H3 Q
theorem Bu (ts:List T) (b a:Option Int) (H:Hp3) (Q:VK3):Bt (.tup ts) b a H Q=Q (.tup (dm ts b a)) H:=rfl
theorem Ol (te:TE3) (a b:TO3) (Z:St3) (H:Hp3) (Q:VK3):J2 te a b Z H Q=te Z H fun x d=>a Z d fun l c=>b Z c fun u H3=>Bt x l u H3 Q:=rfl
theorem jq {e:Expr}{B A:Option Expr}{te:TE3}{C E:TO3}{K n:Pos}(J:PE3 X e te) (L:PO3 X B C) (O:PO3 X A E):PE3 X (.Subscript e (.Slice B A none K) n) (J2 te C E):=by
 refine PE.imp (qj (sl_tup.or G4) J L O) ?_;rintro Z H Q ⟨t,H3,Q3,j,I,h,k⟩;refine⟨t,H3,_,j,I,h,fun x S M q c o G N=>⟨t,q,_,j.mono c,o,N,fun l R s b v F=>⟨t,s,_,j.mono (c.trans b),v,F,fun u P w d g f=>?_⟩⟩⟩;have D:=k.at (c.trans (b.trans d));have y:=G.mono (b.trans d);cases M with
 |tup ts =>
  rw[Bu] at f;obtain⟨a,xs,rfl,m,r⟩:=y.tup;by_cases i:HT.sIx xs.length 0 l=0/\HT.sIx xs.length xs.length u=xs.length
  ·refine .inr ⟨a,xs,rfl,m,i,D _ _ _ _ .refl g (.ofTup m r) ?_⟩;have e:dm ts l u=ts:=by unfold dm;rw[r.length,i.1,i.2,Nat.sub_zero,List.drop_zero,<- r.length,List.take_length]
   rw[e] at f;exact f
  exact .inl ⟨a,xs,rfl,m,i,fun p z=>D _ _ _ _ (aL z) (g.new z) (SimH.newTup (H3:=w) z (jT r l u)) f⟩
 |_=>exact f.elim
end
theorem Bv (l : List Value) : ((List.range l.length).filterMap fun (k : Nat) => l.toArray[((l.length : Int) - 1 + (k : Int) * (-1)).toNat]?) = l.reverse:=by
 have e:(List.range l.length).map (fun (k:Nat)=>l.toArray[((l.length:Int) - 1+(k:Int)*(-1)).toNat]?)=l.reverse.map some:=by
  apply Z_;intro i;rw[z_,z_];by_cases h:i<l.length
  ·rw[Ys h,List.getElem?_reverse h];have b:((l.length:Int) - 1+(i:Int)*(-1)).toNat=l.length - 1 - i:=by omega
   have c:l.length - 1 - i<l.length:=by omega
   simp only[Option.map_some,b,List.getElem?_toArray];rw[g_ c];rfl
  rw[V_ (by simp;omega),V_ (by simp;omega)];rfl
 have a:=X6 (List.filterMap id) e;rw [List.filterMap_map,List.filterMap_map] at a;have d : List.filterMap (id ∘ some) l.reverse = l.reverse:=List.filterMap_some;rw [d] at a;exact a
section
variable {prog:Program}{w:World}{A:Around}{E:Value->Shared->Prop}{s:Shared}
theorem G5 (n:Nat):Builtin.Slice.sliceAdjust none none (-1) (n:Int)=((n:Int) - 1,-1):=by
 unfold Builtin.Slice.sliceAdjust;simp
theorem uG (n:Nat):Builtin.Slice.slicePlaces ((n:Int) - 1) (-1) (-1)=n:=by
 unfold Builtin.Slice.slicePlaces;have a:¬((-1:Int)>0):=by omega
 simp only[a,X8,Int.neg_neg,Int.ediv_one];split <;> omega
theorem jr {c:Addr}{vs:Value}{n:Nat}{Q:Int × Int × Nat->Shared->Prop}(d:s.heap.IsSliceOf c .none .none vs) (ps:IsPart vs (some (-1)))
  (h:Q ((n:Int) - 1,-1,n) s):wpAny (model prog w) A (Builtin.Slice.sliceApplied (.ref c) (pure (n:Int))) Q E s:=by
 obtain⟨f,b,e,a⟩:=id d;unfold Builtin.Slice.sliceApplied Builtin.Slice.sliceFields;refine a_ (a_ (Yu b a (x:=.none) rfl (a_ (Yu b a (x:=.none) rfl (a_ (Yu b a (x:=vs) rfl (i_ ?_)))))));refine a_ (ir ps ?_);show wpAny _ _ (if ((-1:Int)==0)=true then _ else _) _ _ s;rw[if_neg (by decide)];refine a_ (slicePart_none (a_ (slicePart_none (a_ (i_ ?_)))));show wpAny _ _ (match Builtin.Slice.sliceAdjust none none (-1) (n:Int) with | (lo,hi)=>pure (lo,(-1:Int),Builtin.Slice.slicePlaces lo hi (-1))) _ _ s;rw[G5 n];show wpAny _ _ (pure ((n:Int) - 1,(-1:Int),Builtin.Slice.slicePlaces ((n:Int) - 1) (-1) (-1))) _ _ s;rw[uG];exact i_ h
theorem iZ {t d:Addr}{b:List Value}{vs:Value}{Q:Value->Shared->Prop}(c:IsTup s.heap t b.toArray) (i:s.heap.IsSliceOf d .none .none vs) (ps:IsPart vs (some (-1)))
  (h:Q (.ref s.heap.objs.size) { s with heap:=s.heap.push { cls:=.type "tuple",data:=.seq b.reverse.toArray}}) (hsz:b.length<=sizeLine):wpAny (model prog w) A (getItem (.ref t) (.ref d)) Q E s:=by
 obtain⟨j,g,e,k⟩:=id i;have f:s.TypeIs (.ref d) "slice":=⟨j,g,e⟩;have a:sizeOk (.seq b.reverse.toArray):=by show b.reverse.toArray.size<=sizeLine;rw[l_,Yw];exact hsz
 unfold getItem;try with_reducible refine YS ?_
 first | refine a_ (i_ ?_) | skip
 refine a_ (wpAny_sequenceKey c.typeIs (by decide) ?_);refine a_ (YB (name:=Str.ofString "__getitem__") c.typeIs X4
  (YG X4 c.typeIs entry_tuple_getitem ?_ (args_tuple_getitem _ _)))
 show wpAny _ _ (Builtin.Tuple.tupleItemsOf (.ref t) >>= _) _ _ s;refine a_ (tupleItemsOf_ c ?_);refine a_ (aaf f ?_);rw[if_pos (by decide)];refine a_ (jr i ps ?_);rw[l_];show wpAny _ _ (if (((b.length:Int) - 1)==0&&(-1:Int)==1&&b.length==b.toArray.size)=true then _ else _) _ _ s;rw[if_neg (by simp),Bv];first
  |exact a_ (m:=Builtin.Tuple.tupleExact _) (Yt (i_ ⟨_,rfl,i_ h⟩) a)
  |exact a_ (m:=Builtin.Tuple.tupleExact _) (Yt (a_ (i_ (i_ ⟨_,rfl,i_ h⟩))) a)
  |exact a_ (a_ (m:=Builtin.Tuple.tupleExact _) (Yt (i_ (i_ ⟨_,rfl,i_ h⟩)) a))
  |exact a_ (a_ (m:=Builtin.Tuple.tupleExact _) (Yt (i_ ⟨_,rfl,i_ h⟩) a))
variable {X:Cx}{e st:Expr}{p2 pos:Pos}
def UT (K:Frag) (te:TE) (ts:TO):TE:=fun Z H Q=>te Z H fun x c=>ts Z c fun o b=>o=some (-1)/\∃a xs,x=.ref a/\SqT K b a xs/\∀p,b p=none->Q (.ref p) (upd b p (.tup xs.reverse))
theorem G6 {te:TE}{ts:TO}(n:PE X e te) (j:PO X (some st) ts):PE X (.Subscript e (.Slice none none (some st) p2) pos) (UT X.K te ts):=by
 intro c s Z H Q I h;refine Subscript_ (thn (n c s Z H _ I h) fun v C ⟨x,u,m,l,y⟩=>?_);refine wpAny_Slice ?_;rw[evalPart_none];refine i_ (i_ (thn (j c C Z u _ m y) fun vs s3 ⟨o,H3,t,ps,D,a,xs,p,B,q⟩=>?_));subst D p;cases l;have f:Inv X c Z H3 { s3 with heap:=s3.heap.push { cls:=.type "slice",data:=.fields #[.none,.none,vs]}}:=t.kept (t':=s3.toks) fun b z q=>b_ _ q;obtain⟨d,r,g,k⟩:=f.tuple B;have i:=r.length;show wpAny (model X.prog X.w) X.A (subscriptTail e (.Slice none none (some st) p2) (.ref a) (.ref s3.heap.objs.size)) (EP X c Z Q) X.xe { s3 with heap:=s3.heap.push { cls:=.type "slice",data:=.fields #[.none,.none,vs]}};refine tail_any (T:="tuple") (ops:=[.ref a,.ref s3.heap.objs.size]) g.typeIs X4.lookup ?_ (by with_unfolding_all rfl);refine iZ g (Heap.IsSliceOf.new ..) ps ?_ (by omega);refine⟨.ref (s3.heap.push { cls:=.type "slice",data:=.fields #[.none,.none,vs]}).objs.size,_,f.laid (t':=s3.toks) (o:=.tup xs.reverse) (fun b z q=>b_ _ q) (o_ _) ?_,rfl,q _ (f.hok.fresh (o_ _))⟩;exact⟨by simpa using k,d.reverse,r.reverse,Tup0.new _ _⟩
def rvT (x:T) (o:Option Int) (H:Hp3) (Q:VK3):Prop:=match x with
 |.tup ts=>o=some (-1)/\Q (.tup ts.reverse) H
 |_=>False
def Bw (te:TE3) (ts:TO3):TE3:=fun Z H Q=>te Z H fun x b=>ts Z b fun o a=>rvT x o a Q
theorem Om (te:TE3) (ts:TO3) {Z:St3}{H:Hp3}{Q:VK3}:Bw te ts Z H Q=te Z H fun x b=>ts Z b fun o a=>rvT x o a Q:=rfl
theorem J3 (xs:List T) (o:Option Int) {H:Hp3}{Q:VK3}:rvT (.tup xs) o H Q=(o=some (-1)/\Q (.tup xs.reverse) H):=rfl
theorem G7 {te:TE3}{ts:TO3}(v:PE3 X e te) (s:PO3 X (some st) ts):PE3 X (.Subscript e (.Slice none none (some st) p2) pos) (Bw te ts):=by
 refine PE.imp (G6 v s) ?_;rintro Z H Q ⟨n,H3,Q3,m,u,h,k⟩;refine⟨n,H3,_,m,u,h,fun x A w g c f t y=>⟨n,g,_,m.mono c,f,y,fun o z i b j d=>?_⟩⟩;cases w with
 |tup ts=>rw[J3] at d;obtain⟨a,xs,rfl,q,r⟩:=(t.mono b).tup;exact⟨d.1,a,xs,rfl,q,fun p l=>k _ _ _ _ (c.trans (b.trans (aL l))) (j.new l) (SimH.newTup (H3:=i) l r.reverse) d.2⟩
 |_=>exact d.elim
variable {p1 pos':Pos}
def lrq (x:T) (H:Hp3) (Q:VK3):Prop:=match x with
 |.int i=>(0<=i/\i<=1000)/\∀p,H p=none->Q (.ref p) (up3 H p (.lst ((List.range i.toNat).map fun (k:Nat)=>T.int (k:Int))))
 |_=>False
def G8 (te:TE3):TE3:=fun Z H Q=>te Z H fun x a=>lrq x a Q
theorem G9 (te:TE3) {Z:St3}{H:Hp3}{Q:VK3}:G8 te Z H Q=te Z H fun x a=>lrq x a Q:=rfl
theorem UV (i:Int) {H:Hp3}{Q:VK3}:lrq (.int i) H Q=((0<=i/\i<=1000)/\∀p,H p=none->Q (.ref p) (up3 H p (.lst ((List.range i.toNat).map fun (k:Nat)=>T.int (k:Int))))):=rfl
def rvH (o:Option O3) (H:Hp3) (Q:VK3):Prop:=match o with
 |some (.lst ts)=>∀p,H p=none->Q (.ref p) (up3 H p (.lst ts.reverse))
 |_=>False
def rvq (x:T) (o:Option Int) (H:Hp3) (Q:VK3):Prop:=match x with
 |.ref a=>o=some (-1)/\rvH (H a) H Q
 |_=>False
def Oo (te:TE3) (ts:TO3):TE3:=fun Z H Q=>te Z H fun x b=>ts Z b fun o a=>rvq x o a Q
theorem Oq (te:TE3) (ts:TO3) {Z:St3}{H:Hp3}{Q:VK3}:Oo te ts Z H Q=te Z H fun x b=>ts Z b fun o a=>rvq x o a Q:=rfl
theorem UW (a:Addr) (o:Option Int) {H:Hp3}{Q:VK3}:rvq (.ref a) o H Q=(o=some (-1)/\rvH (H a) H Q):=rfl
theorem U0 (ts:List T) {H:Hp3}{Q:VK3}:rvH (some (.lst ts)) H Q=∀p,H p=none->Q (.ref p) (up3 H p (.lst ts.reverse)):=rfl
variable {l:Addr}{xs:Array (Int × Tok)}
def Ot:List T->Hp3->VK3->Prop:=fun ts H Q=>match ts with
 |[.tup xs]=>oq (ints3 xs) fun ns=>Q (.int ns.sum) H
 |_=>False
theorem Ou (xs:List T) (H:Hp3) (Q:VK3):Ot [.tup xs] H Q=oq (ints3 xs) fun ns=>Q (.int ns.sum) H:=rfl
def isN:T->Bool
 |.non=>true
 |_=>false
def Xx:R3:=fun x y H Q=>match y with
 |.non=>Q (.bl (isN x)) H
 |_=>False
theorem Xy (x:T) (H:Hp3) (Q:VK3):Xx x .non H Q=Q (.bl (isN x)) H:=rfl
theorem Ha:isN .non=true:=rfl
theorem Hf (i:Int):isN (.int i)=false:=rfl
theorem Hg (x:Str):isN (.str x)=false:=rfl
theorem Hh (ts:List T):isN (.tup ts)=false:=rfl
theorem Ov (b:Bool):isN (.bl b)=false:=rfl
end
end L3
namespace L2
section
variable {X:Cx}{a b:Expr}{rest:List Expr}{ta tb:TE}{pos:Pos}
end
end L2
namespace L3
open L2
section
variable {X:Cx}{a b:Expr}{rest:List Expr}{ta tb:TE3}{pos:Pos}
def orq (x:T) (p q:Prop):Prop:=match x with
 |.non=>p
 |.tup (_::_)=>q
 |_=>False
theorem U3 (p q:Prop):orq .non p q=p:=rfl
theorem U4 (t:T) (ts:List T) (p q:Prop):orq (.tup (t::ts)) p q=q:=rfl
def U5 (b c:TE3):TE3:=fun Z H Q=>b Z H fun x a=>orq x (c Z a Q) (Q x a)
def exT (o:Option O3) (a:Addr) (ys:List T) (H:Hp3) (Q:VK3):Prop:=match o with
 |some (.lst xs)=>xs.length+ys.length<=sizeLine/\Q .non (up3 H a (.lst (xs++ys)))
 |_=>False
def Ow:T->List T->Hp3->VK3->Prop:=fun x ts H Q=>match x,ts with
 |.ref a,[.tup ys]=>exT (H a) a ys H Q
 |_,_=>False
theorem Ox (a:Addr) (ys:List T) (H:Hp3) (Q:VK3):Ow (.ref a) [.tup ys] H Q=exT (H a) a ys H Q:=rfl
theorem U6 (a:Addr) (xs ys:List T) (H:Hp3) (Q:VK3):exT (some (.lst xs)) a ys H Q=(xs.length+ys.length<=sizeLine/\Q .non (up3 H a (.lst (xs++ys)))):=rfl
def neR (a b:Addr) (o u:Option O3) (H:Hp3) (Q:VK3):Prop:=match o,u with
 |some (.rol xs),some (.lst ys)=>a≠b/\xs.all (pl 20)=true/\ys.all (pl 20)=true/\Q (.bl (!decide (xs=ys))) H
 |_,_=>False
def U7:R3:=fun x y H Q=>match x,y with
 |.ref a,.ref b=>neR a b (H a) (H b) H Q
 |_,_=>False
theorem U8 (a b:Addr) (H:Hp3) (Q:VK3):U7 (.ref a) (.ref b) H Q=neR a b (H a) (H b) H Q:=rfl
theorem Oz (a b:Addr) (xs ys:List T) (H:Hp3) (Q:VK3):neR a b (some (.rol xs)) (some (.lst ys)) H Q=(a≠b/\xs.all (pl 20)=true/\ys.all (pl 20)=true/\Q (.bl (!decide (xs=ys))) H):=rfl
end
end L3
namespace L2
theorem yj:typeLookup (.type "list") "keys"=pure none:=by rw[typeLookup_type,builtinLookup_eq_fast];kernel_rfl
theorem uH {prog:Program}{w:World}{A:Around}{E:Value->Shared->Prop}{s:Shared}{a:Addr}{xs:Array Value}{k:Nat}{i:Array (Option Value)}{Q:Option Value->Shared->Prop}
  (j:s.heap.get? a=some { cls:=.type "list",dict:=none,data:=.seq xs k,slots:=i}) (m:A.handled=none)
  (h:∀h' tk e,Heap.NewExcOf s.heap h' e "AttributeError"->Q none { s with heap:=h',toks:=tk}):wpAny (model prog w) A (getAttr? (.ref a) "keys") Q E s:=by
 obtain⟨n,g,d,tk,l⟩:=s;have f:∀b,(⟨n,g,d,b,l⟩:Shared).TypeIs (.ref a) "list":=fun _=>⟨_,j,rfl⟩;have q:=sub_AttributeError;have p:=aam.lookup;have r:=aam.bind (.ref a);have u:=am_list_getattr_none;unfold getAttr? getAttrBy? getAttrBy;repeat (any_goals (first | assumption | exact f _ | ((with_reducible show wpAny _ _ (call (Value.builtin "list.__getattribute__") _ _) _ _ _);refine call_meets aam (f _) am_entry_list_getattribute (F.args_list_getattribute_2 _ _) (meets_getattribute_miss_list a xs k i "keys" _ yj (by decide) (by decide)) ⟨j,m,fun h' b e c=>?_⟩) | wp_step))
 obtain⟨t',o,t⟩:=c.there;show wpAny _ _ (getattributeRaised _ _ _ _ _ _ _) _ _ _;unfold getattributeRaised;repeat (any_goals (first | assumption | wp_step))
 all_goals exact h _ _ _ c.of
theorem gZ:plainId "dict.update.loop"=true:=by decide +kernel
theorem nj:entryFor table "dict.update.loop"=some Builtin.«dict.update.loop»:=entryFor_of_tree (by kernel_rfl)
def OD (h:Heap) (p:Addr) (k v:Value):Prop:=∃o n,h.get? p=some o/\o.cls=.type "tuple"/\o.data=.seq #[k,v] n
section
variable {prog:Program}{w:World}{K:Type} [DecidableEq K] {knd:KeyKind prog w K}
end
end L2
namespace L3
open L2
def Xz:T->Option (Str × T)
 |.tup [.str k,v]=>some (k,v)
 |_=>none
def OJ:List T->Option (List (Str × T))
 |[]=>some []
 |t::r=>match Xz t,OJ r with
  |some p,some ps=>some (p::ps)
  |_,_=>none
section
variable {X:Cx}
def dcH (o:Option O3) (H:Hp3) (Q:VK3):Prop:=match o with
 |some (.lst xs)=>oq (OJ xs) fun kvs=>(kvs.map (·.1)).Nodup/\∀p,H p=none->Q (.ref p) (up3 H p (.dct kvs))
 |_=>False
def O1:List T->Hp3->VK3->Prop:=fun ts H Q=>match ts with
 |[.ref a]=>dcH (H a) H Q
 |_=>False
theorem O2 (a:Addr) (H:Hp3) (Q:VK3):O1 [.ref a] H Q=dcH (H a) H Q:=rfl
theorem U9 (xs:List T) (H:Hp3) (Q:VK3):dcH (some (.lst xs)) H Q=oq (OJ xs) fun kvs=>(kvs.map (·.1)).Nodup/\∀p,H p=none->Q (.ref p) (up3 H p (.dct kvs)):=rfl
def O4:R3:=fun x y H Q=>match x,y with
 |.non,.non=>Q (.bl false) H
 |_,_=>False
theorem O5 (H:Hp3) (Q:VK3):O4 .non .non H Q=Q (.bl false) H:=rfl
variable {pins:List (Addr × Obj)}{Z:L2.St}{H:Hp}{s:Shared}{a:Addr}
variable {elts:List Expr}{x1:Nat}{tpos pos apos cpos:Pos}{e:Expr}
variable {o f:Expr}{td ty tx:TE}
end
def gJ (k:Int):List (Int × T)->Option T
 |[]=>none
 | (k',v)::r=>if k'=k then some v else gJ k r
def Bx (k:Int) (v:T) (kvs:List (Int × T)):List (Int × T) :=
 if (kvs.any fun a=>decide (a.1=k))=true then kvs.map (fun a=>if a.1=k then (a.1,v) else a) else kvs++[(k,v)]
section
variable {K:Frag}{H:Hp}{H3:Hp3}{a p:Addr}
end
section
variable {X:Cx}{o i e f value k v:Expr}{td ty tv tx ti tk:TE3}{pos pos' apos cpos tpos:Pos}{elts:List Expr}{x1:Nat}{Z:St3}{H:Hp3}{Q:VK3}
def Hi:TE3:=fun _ H Q=>∀p,H p=none->Q (.ref p) (up3 H p (.dci []))
def d1i (y:T) (p:Addr) (v:T) (H:Hp3) (Q:VK3):Prop:=match y with
 |.int k=>H p=some (.dci [])/\Q (.ref p) (up3 H p (.dci [(k,v)]))
 |_=>False
def Hj (tk c:TE3):TE3:=fun Z H Q=>∀p,H p=none->tk Z (up3 H p (.dci [])) fun y b=>c Z b fun v a=>d1i y p v a Q
theorem Va (x:Int) (p:Addr) (v:T):d1i (.int x) p v H Q=(H p=some (.dci [])/\Q (.ref p) (up3 H p (.dci [(x,v)]))):=rfl
def dgI (o:Option O3) (k:Int) (H:Hp3) (Q:VK3):Prop:=match o with
 |some (.dci kvs)=>oq (gJ k kvs) fun t=>Q t H
 |some (.dif _ kvs)=>oq (gJ k kvs) fun t=>Q t H
 |_=>False
def XC:R3:=fun x y H Q=>match x,y with
 |.ref a,.int k=>dgI (H a) k H Q
 |_,_=>False
theorem XD (a:Addr) (k:Int):XC (.ref a) (.int k) H Q=dgI (H a) k H Q:=rfl
theorem Vb (kvs:List (Int × T)) (k:Int):dgI (some (.dci kvs)) k H Q=oq (gJ k kvs) fun t=>Q t H:=rfl
theorem O6 (o:Obj) (kvs:List (Int × T)) (k:Int):dgI (some (.dif o kvs)) k H Q=oq (gJ k kvs) fun t=>Q t H:=rfl
def dpI (x y v:T) (H:Hp3) (Q:Hp3->Prop):Prop:=match x,y with
 |.ref a,.int k=>match H a with
  |some (.dci kvs)=>kvs.length<sizeLine/\Q (up3 H a (.dci (Bx k v kvs)))
  |_=>False
 |_,_=>False
def Vc (o:Option O3) (a:Addr) (k:Int) (v:T) (H:Hp3) (Q:Hp3->Prop):Prop:=match o with
 |some (.dci kvs)=>kvs.length<sizeLine/\Q (up3 H a (.dci (Bx k v kvs)))
 |_=>False
def Hk (f c b:TE3):TS3:=fun D Z H=>b Z H fun v d=>f Z d fun x a=>c Z a fun y H3=>dpI x y v H3 fun e=>D.nx Z e
theorem Vd (a:Addr) (k:Int) (v:T) (Q:Hp3->Prop):dpI (.ref a) (.int k) v H Q=Vc (H a) a k v H Q:=rfl
theorem O7 (kvs:List (Int × T)) (a:Addr) (k:Int) (v:T) (Q:Hp3->Prop):Vc (some (.dci kvs)) a k v H Q=(kvs.length<sizeLine/\Q (up3 H a (.dci (Bx k v kvs)))):=rfl
def diI (neg:Bool) (y:T) (o:Option O3) (H:Hp3) (Q:VK3):Prop:=match y,o with
 |.int k,some (.dci kvs)=>Q (.bl (if neg then !(gJ k kvs).isSome else (gJ k kvs).isSome)) H
 |_,_=>False
def Ve (neg:Bool) (y x:T) (H:Hp3) (Q:VK3):Prop:=match x with
 |.ref a=>diI neg y (H a) H Q
 |_=>False
def O8 (neg:Bool) (d a:TE3):TE3:=fun Z H Q=>d Z H fun y c=>a Z c fun x b=>Ve neg y x b Q
theorem O9 (neg:Bool) (y:T) (a:Addr):Ve neg y (.ref a) H Q=diI neg y (H a) H Q:=rfl
theorem Vf (neg:Bool) (k:Int) (kvs:List (Int × T)):diI neg (.int k) (some (.dci kvs)) H Q=Q (.bl (if neg then !(gJ k kvs).isSome else (gJ k kvs).isSome)) H:=rfl
def sdO (o:Option O3) (a:Addr) (k:Int) (v:T) (H:Hp3) (Q:VK3):Prop:=match o with
 |some (.dci kvs)=>kvs.length<sizeLine/\match gJ k kvs with
  |some t=>Q t H
  |none=>Q v (up3 H a (.dci (Bx k v kvs)))
 |_=>False
def sdq (x y v:T) (H:Hp3) (Q:VK3):Prop:=match x,y with
 |.ref a,.int k=>sdO (H a) a k v H Q
 |_,_=>False
def Pa (o:Option O3):Prop:=match o with
 |some (.dci _)=>True
 |_=>False
def Vg (x:T) (H:Hp3):Prop:=match x with
 |.ref a=>Pa (H a)
 |_=>False
def Pb (e d c:TE3):TE3:=fun Z H Q=>e Z H fun x a=>Vg x a/\d Z a fun y b=>c Z b fun v H3=>sdq x y v H3 Q
theorem Pg (a:Addr):Vg (.ref a) H=Pa (H a):=rfl
theorem Ph (kvs:List (Int × T)):Pa (some (.dci kvs))=True:=rfl
theorem Vh (a:Addr) (k:Int) (v:T):sdq (.ref a) (.int k) v H Q=sdO (H a) a k v H Q:=rfl
theorem Vi (kvs:List (Int × T)) (a:Addr) (k:Int) (v:T):sdO (some (.dci kvs)) a k v H Q=(kvs.length<sizeLine/\match gJ k kvs with
  |some t=>Q t H
  |none=>Q v (up3 H a (.dci (Bx k v kvs)))):=rfl
def itT (a:Int × T):T:=.tup [.int a.1,a.2]
def By (a:Addr) (o:Obj) (kvs:List (Int × T)):Hp3->Prop:=fun H=>H a=some (.dif o kvs)
def itO (u:Option O3) (a:Addr) (H:Hp3) (R:List T->(Hp3->Prop)->Hp3->Prop):Prop:=match u with
 |some (.dci kvs)=>∀o,R (kvs.map itT) (By a o kvs) (up3 H a (.dif o kvs))
 |_=>False
def itq (x:T) (H:Hp3) (R:List T->(Hp3->Prop)->Hp3->Prop):Prop:=match x with
 |.ref a=>itO (H a) a H R
 |_=>False
def Hl (te:TE3):TI3:=fun Z H R=>te Z H fun x a=>itq x a R
theorem BJ (te:TE3) {R:List T->(Hp3->Prop)->Hp3->Prop}:Hl te Z H R=te Z H fun x a=>itq x a R:=rfl
theorem Vj (a:Addr) {R:List T->(Hp3->Prop)->Hp3->Prop}:itq (.ref a) H R=itO (H a) a H R:=rfl
theorem Vk (kvs:List (Int × T)) (a:Addr) {R:List T->(Hp3->Prop)->Hp3->Prop}:itO (some (.dci kvs)) a H R=∀o,R (kvs.map itT) (By a o kvs) (up3 H a (.dif o kvs)):=rfl
end
theorem nu {K:Frag}{H:Hp}{f:Str}:∀{c:List (Str × T)}{vs:List (Str × V)}{t:T},RepF K H c vs->aP f c=some t->∃v,vs.lookup f=some v/\Rep K H t v
 |[],_,_,_,e=>by cases e
 | (g,t')::r,_,t,.cons (b:=(g',v')) ⟨e1,rv⟩ rr,e=>by
  simp only at e1 rv
  subst e1
  unfold aP at e
  by_cases a:g'=f
  ·
   rw[if_pos a] at e
   cases e
   exact⟨v',by rw[YH,show (f==g')=true from Zn.mpr a.symm],rv⟩
  ·
   rw[if_neg a] at e
   obtain⟨v,d,q⟩:=nu rr e
   exact⟨v,by rw[YH,show (f==g')=false from Yi.mpr (Ne.symm a)];exact d,q⟩
theorem lu {K:Frag}{H:Hp}{f:Str}:∀{c:List (Str × T)}{vs:List (Str × V)},RepF K H c vs->aP f c=none->vs.lookup f=none
 |[],_,.nil,_=>rfl
 | (g,t')::r,_,.cons (b:=(g',v')) ⟨e1,rv⟩ rr,e=>by
  simp only at e1 rv
  subst e1
  unfold aP at e
  by_cases a:g'=f
  ·
   rw[if_pos a] at e;cases e
  ·
   rw[if_neg a] at e
   rw[YH,show (f==g')=false from Yi.mpr (Ne.symm a)]
   exact lu rr e
def dB (f:Str) (v:T):List (Str × T)->List (Str × T)
 |[]=>[(f,v)]
 | (g,x)::r=>if g=f then (g,v)::r else (g,x)::dB f v r
theorem qZ {K:Frag}{H:Hp}{f:Str}{t:T}{v:V}(c:Rep K H t v):∀{d:List (Str × T)}{vs:List (Str × V)},RepF K H d vs->RepF K H (dB f t d) (fX f v vs)
 |[],_,.nil=>.cons ⟨rfl,c⟩ .nil
 | (g,t')::r,_,.cons (b:=(g',v')) ⟨e1,r1⟩ rr=>by
  simp only at e1 r1
  subst e1
  unfold dB fX
  by_cases a:g'=f
  ·
   rw[if_pos a,if_pos a];exact .cons ⟨rfl,c⟩ rr
  ·
   rw[if_neg a,if_neg a];exact .cons ⟨rfl,r1⟩ (qZ c rr)
structure InsC (K:Frag) (C:Addr) (ns:List Str):Prop where
 cls:Cls K C
 no:∀n∈ns,NoAttr K C n
structure MtC (P:Program) (w:World) (K:Frag) (mg:Str->Option Value) (base:Heap) (C:Addr) (k:Nat) (m:Str) (ps:List Str) (sp:Sp3):Prop where
 cls:Cls K C
 ex:∃(f:Addr) (fd:FuncData),Meth K C m f/\Binds K fd ps []/\FnOk3 P w K mg base k f fd ps sp
structure MkC (P:Program) (w:World) (K:Frag) (mg:Str->Option Value) (base:Heap) (C:Addr) (k:Nat) (x:Str) (ps:List Str) (sp:Sp3):Prop where
 at_:mg x=some (.ref C)
 ex:∃(f:Addr) (fd:FuncData),Mk K C f/\Binds K fd ps []/\FnOk3 P w K mg base k f fd ps sp
structure GM (K:Frag) (C:Addr) (m qual:Str) (st:Stmt) (ps:List Str) (f:Addr) (fd:FuncData):Prop where
 cls:Cls K C
 fn:Fun K m qual st f fd
 b:Binds K fd ps []
 mt:Meth K C m f
structure GI (K:Frag) (mg:Str->Option Value) (C:Addr) (x qual:Str) (st:Stmt) (ps:List Str) (f:Addr) (fd:FuncData):Prop where
 mk_:Mk K C f
 fn:Fun K "__init__" qual st f fd
 b:Binds K fd ps []
 at_:mg x=some (.ref C)
theorem SimH.wrO {K:Frag}{H:Hp}{H3:Hp3}{a C d:Addr}{h:List (Str × T)}{vs c:List (Str × V)}(s:SimH K H3 H) (i:H a=some (.ins C d vs)) (r:RepF K H h c):SimH K (up3 H3 a (.ins C h)) (upd H a (.ins C d c)):=fun b o e=>by
 have g:TupLe K H (upd H a (.ins C d c)):=dq (by rw[i];exact trivial);by_cases f:b=a
 ·subst f;rw[aq] at e;cases e;exact⟨d,c,cB,r.mono g⟩
 rw[aD f] at e;exact (s b o e).stay g fun u q=>by rw[aV f];exact q
section
variable {X:Cx}{o e value:Expr}{es:List Expr}{ta tv:TE3}{t:TA3}{C:Addr}{f m x:Str}{ns ps:List Str}{sp:Sp3}{n:Nat}{pos pos' apos p:Pos}{H:Hp3}{Q:VK3}
def Pj (C:Addr) (f:Str) (u:Option O3) (H:Hp3) (Q:VK3):Prop:=match u with
 |some (.ins C' fs)=>C'=C/\oq (aP f fs) fun t=>Q t H
 |_=>False
def Vl (C:Addr) (f:Str) (x:T) (H:Hp3) (Q:VK3):Prop:=match x with
 |.ref a=>Pj C f (H a) H Q
 |_=>False
def J4 (C:Addr) (f:Str) (a:TE3):TE3:=fun Z H Q=>a Z H fun x b=>Vl C f x b Q
theorem BK (a:Addr):Vl C f (.ref a) H Q=Pj C f (H a) H Q:=rfl
theorem Pk (a:List (Str × T)):Pj C f (some (.ins C a)) H Q=oq (aP f a) fun t=>Q t H:=propext ⟨fun h=>h.2,fun h=>⟨rfl,h⟩⟩
theorem dw (c:InsC X.K C ns) (x:PE3 X e ta) (B:f∈ns:=by simp) (o:attributeBase e f X.env (eval e X.env)=eval e X.env:=by rfl):PE3 X (.Attribute e f pos) (J4 C f ta):=by
 refine PE.imp (Lp x o) ?_;rintro Z H Q ⟨z,H3,Q3,n,y,h,k⟩;refine⟨z,H3,_,n,y,h,fun v G t d A b r q=>?_⟩;cases t with
 |ref a =>
  rw[BK] at q;cases j:d a with
  |none=>rw[j] at q;exact q.elim
  |some F =>
  rw[j] at q;cases F with
  |ins l m =>
   obtain⟨rfl,g⟩:=(show l=C/\oq (aP f m) fun t=>Q3 t d from q);clear q;obtain⟨E,vs,s,w⟩:=b a _ j;cases i:aP f m with
   |none=>rw[i] at g;exact g.elim
   |some t =>
   rw[i,dX] at g;obtain⟨D,p,u⟩:=nu w i;exact⟨a,l,E,vs,D,r.ref,s,c.cls,c.no f B,p,k _ _ _ _ A b u g⟩
  |_=>exact q.elim
 |_=>exact q.elim
def sfO (C:Addr) (f:Str) (a:Addr) (y:T) (u:Option O3) (H:Hp3) (Q:Hp3->Prop):Prop:=match u with
 |some (.ins C' fs)=>C'=C/\fs.length<1000/\Q (up3 H a (.ins C (dB f y fs)))
 |_=>False
def sfq (C:Addr) (f:Str) (x y:T) (H:Hp3) (Q:Hp3->Prop):Prop:=match x with
 |.ref a=>sfO C f a y (H a) H Q
 |_=>False
def J5 (C:Addr) (f:Str) (a d:TE3):TS3:=fun D Z H=>d Z H fun y c=>a Z c fun x b=>sfq C f x y b fun H3=>D.nx Z H3
theorem J6 (a:Addr) (y:T) (Q:Hp3->Prop):sfq C f (.ref a) y H Q=sfO C f a y (H a) H Q:=rfl
theorem Vm (a:Addr) (y:T) (b:List (Str × T)) (Q:Hp3->Prop):sfO C f a y (some (.ins C b)) H Q=(b.length<1000/\Q (up3 H a (.ins C (dB f y b)))):=propext ⟨fun h=>h.2,fun h=>⟨rfl,h⟩⟩
theorem ph (c:InsC X.K C ns) (G:PE3 X o ta) (B:PE3 X value tv) (I:f∈ns:=by simp) (z:swapsWith value (some (.Attribute o f pos')) pos.line X.env=pure false:=by rfl):PS3 X (.Assign [.Attribute o f pos'] value pos) (J5 C f ta tv):=by
 refine PS.imp (Lq G B z) ?_;rintro D Z H ⟨p,H3,N,k,E,h,F,_⟩;refine⟨p,H3,_,k,E,h,fun y R M n d m Q O=>⟨p,n,_,k.mono d,m,O,fun x u L i e j A b=>?_⟩⟩;cases L with
 |ref a =>
  rw[J6] at b;cases s:i a with
  |none=>rw[s] at b;exact b.elim
  |some P =>
  rw[s] at b;cases P with
  |ins r w=>obtain⟨rfl,J,q⟩:=(show r=C/\w.length<1000/\N.nx p (up3 i a (.ins C (dB f M w))) from b);obtain⟨v,vs,l,t⟩:=j a _ s;have g:TupLe X.K u (upd u a (.ins r v (fX f y vs))):=dq (by rw[l];exact trivial);exact⟨a,r,v,vs,A.ref,l,c.cls,c.no f I,by rw[<- aaj t];exact J,F _ _ _ _ (d.trans (e.trans g)) (k.mono (d.trans (e.trans g))) (j.wrO l (qZ (Q.mono e) t)) q⟩
  |_=>exact b.elim
 |_=>exact b.elim
def mtO (C:Addr) (m:Str) (u:Option O3) (q:Prop):Prop:=match u with
 |some (.ins C' fs)=>C'=C/\aP m fs=none/\q
 |_=>False
def mtq (C:Addr) (m:Str) (x:T) (H:Hp3) (q:Prop):Prop:=match x with
 |.ref a=>mtO C m (H a) q
 |_=>False
def BL (C:Addr) (m:Str) (sp:Sp3) (b:TE3) (t:TA3):TE3:=fun Z H Q=>b Z H fun x a=>mtq C m x a (t Z a fun vs c=>sp (x::vs) c Q)
theorem J7 (a:Addr) (q:Prop):mtq C m (.ref a) H q=mtO C m (H a) q:=rfl
theorem Vn (a:List (Str × T)) (q:Prop):mtO C m (some (.ins C a)) q=(aP m a=none/\q):=propext ⟨fun h=>h.2,fun h=>⟨rfl,h⟩⟩
theorem pA {pl:Sem Bool}(M:MtC X.prog X.w X.K X.mg X.base C n m ps sp) (O:Room n X.A) (I:PE3 X o ta) (P:PA3 X (e::es) t)
  (g:starEach (e::es) X.env=(false,eval e X.env)::starEach es X.env:=by rfl) (l:(backTo pos (starEach es X.env)).any (·.1)=false:=by rfl)
  (L:eval (.Call (.Attribute o m apos) (e::es) [] pos) X.env=(do
   let ov <- eval o X.env
   standAt apos.atName
   let (f,first) <- holding [ov] (getMethod ov m pl)
   callWith pos f first (backTo pos (starEach (e::es) X.env)) (backToKw pos (keywordEach [] X.env))):=by rfl) :
  PE3 X (.Call (.Attribute o m apos) (e::es) [] pos) (BL C m sp ta t):=by
 obtain⟨f,W,R,z,F⟩:=M.ex;refine PE.imp (Ff (dvs:=[]) (E:=E0) I M.cls R F O z .nil zA P g l L) ?_;rintro Z H Q ⟨u,H3,Q3,s,J,h,k⟩;refine⟨u,H3,_,s,J,h,fun v V t d x b r q=>?_⟩;cases t with
 |ref a =>
  rw[J7] at q;cases p:d a with
  |none=>rw[p] at q;exact q.elim
  |some U =>
  rw[p] at q;cases U with
  |ins Y fs=>obtain⟨rfl,S,q⟩:=q;obtain⟨T,vs,B,D⟩:=b a _ p;refine⟨a,T,vs,r.ref,B,lu D S,u,d,_,s.mono x,b,q,fun us N ts i c j G y=>?_⟩;show qH X.K sp (v::(us++[])) N Q E0;rw[Yd];exact⟨_,i,Q3,.cons (r.mono c) G,j,y,k.at (x.trans c)⟩
  |_=>exact q.elim
 |_=>exact q.elim
def BP (C:Addr) (sp:Sp3) (t:TA3):TE3:=fun Z H Q=>t Z H fun vs b=>∀a,b a=none->sp (.ref a::vs) (up3 b a (.ins C [])) fun v c=>v=.non/\Q (.ref a) c
theorem Hm (M:MkC X.prog X.w X.K X.mg X.base C n x ps sp) (S:Room (n+1) X.A) (Y:Gl X x) (r:PA3 X (e::es) t) (s:(x==("__debug__":Str))=false:=by decide)
  (N:starEach (e::es) X.env=(false,eval e X.env)::starEach es X.env:=by rfl) (B:(backTo pos (starEach es X.env)).any (·.1)=false:=by rfl):PE3 X (.Call (.Name x p) (e::es) [] pos) (BP C sp t):=by
 obtain⟨f,fd,W,o,F⟩:=M.ex;refine PE.imp (Fg (dvs:=[]) (E:=E0) W F S Y M.at_ o .nil zA r s N B) ?_;rintro Z H Q ⟨R,H3,Q3,J,O,h,k⟩;refine⟨R,H3,_,J,O,h,fun us d ts D U g P q=>fun a c r i y=>?_⟩;show qH X.K sp (V.ref a::(us++[])) _ _ E0;rw[Yd];have I:upd d c (.own a) a=none:=by rw[aV (Ne.symm y)];exact r
 have l:TupLe X.K d (upd d c (.own a)):=aL i;have j:TupLe X.K (upd d c (.own a)) (upd (upd d c (.own a)) a (.ins C c [])):=aL I;refine⟨T.ref a::ts,up3 D a (.ins C []),_,.cons .ofRef (P.mono (l.trans j)),fun b ob m=>?_,q a (g.fresh r),fun v H2 t2 L u z r2 G=>⟨?_,?_⟩⟩
 ·by_cases o:b=a
  ·subst o;rw[aq] at m;cases m;exact⟨c,[],cB,.nil⟩
  rw[aD o] at m;exact ((g.new i).new I) b ob m
 ·obtain⟨rfl,_⟩:=G;exact r2.non
 exact k _ _ _ _ (U.trans (l.trans (j.trans u))) z .ofRef G.2
def Vo:R3:=fun x y H Q=>match y with
 |.non=>Q (.bl (!isN x)) H
 |_=>False
theorem Vp (x:T) (H:Hp3) (Q:VK3):Vo x .non H Q=Q (.bl (!isN x)) H:=rfl
def mnI (o:Option O3) (H:Hp3) (Q:VK3):Prop:=match o with
 |some (.lst xs)=>oq (ints3 xs) fun ns=>ns≠[]/\∀M,M∈ns->(∀a∈ns,M<=a)->Q (.int M) H
 |_=>False
def Pn:List T->Hp3->VK3->Prop:=fun ts H Q=>match ts with
 |[.ref a]=>mnI (H a) H Q
 |_=>False
theorem Pq (a:Addr) (H:Hp3) (Q:VK3):Pn [.ref a] H Q=mnI (H a) H Q:=rfl
theorem Vq (xs:List T) (H:Hp3) (Q:VK3):mnI (some (.lst xs)) H Q=oq (ints3 xs) fun ns=>ns≠[]/\∀M,M∈ns->(∀a∈ns,M<=a)->Q (.int M) H:=rfl
end
end L3
namespace L2
section
variable {X:Cx}{o i e f value:Expr}{pos pos' apos cpos:Pos}{td ty tv tx:TE}
def NAt (X:Cx) (H:Hp) (x y:V) (a b:Addr) (k:NK) (ks:List (NK × Addr × V)):Prop:=x=.ref a/\y=.ref b/\H a=some (dnO X.w a ks)/\NAll X.K H ks/\NKt X.K H k b
def Vr (X:Cx) (neg:Bool) (d f:TE):TE:=fun Z H Q=>d Z H fun y e=>f Z e fun x c=>∃a b k ks,NAt X c x y a b k ks/\Q (.bl (if neg then !(dU ks k).isSome else (dU ks k).isSome)) c
theorem Pr (B:X.A.units+30<cLine) (e:PE X i ty) (t:PE X o td):PC X .In i o (Vr X false ty td):=by
 intro c s Z H Q I h;refine thn (e c s Z H _ I h) fun r D ⟨y,v,g,E,w⟩=>thn (t c D Z v _ g w) fun u G ⟨x,p,z,j,a,b,k,ks,⟨n,l,m,f,C⟩,d⟩=>?_;subst n l;obtain rfl:u=Value.ref a:=j;obtain rfl:r=Value.ref b:=E;exact Xg B z m f C fun F q=>⟨.bl (dU ks k).isSome,p,q,rfl,d⟩
theorem ym (B:X.A.units+30<cLine) (e:PE X i ty) (t:PE X o td):PC X .NotIn i o (Vr X true ty td):=by
 intro c s Z H Q I h;refine thn (e c s Z H _ I h) fun r D ⟨y,v,g,E,w⟩=>thn (t c D Z v _ g w) fun u G ⟨x,p,z,j,a,b,k,ks,⟨n,l,m,f,C⟩,d⟩=>?_;subst n l;obtain rfl:u=Value.ref a:=j;obtain rfl:r=Value.ref b:=E;exact Fy B z m f C fun F q=>⟨.bl (!(dU ks k).isSome),p,q,rfl,d⟩
end
end L2
namespace L3
open L2
theorem q9:∀{ts:List T}{ns:List Str},eX ts=some ns->ts=ns.map T.str
 |[],_,h=>by cases h;rfl
 |t::r,ns,h=>by
  cases t with
  |str x =>
   obtain⟨l,e,rfl⟩:=ZW.mp (show (eX r).map (x::·)=some ns from h)
   rw[q9 e];rfl
  |_=>cases h
def nk3:T->Option NK
 |.tup [.int i,.tup ts]=>(eX ts).map fun ns=>(i,ns)
 |_=>none
theorem BR (i:Int) (ns:List Str):nk3 (.tup [.int i,.tup (ns.map T.str)])=some (i,ns):=by
 show (eX (ns.map T.str)).map _=_;rw[m6];rfl
theorem rm {K:Frag}{H:Hp}:∀{ns:List Str}{xs:List V},Reps K H (ns.map T.str) xs->xs=ns.map V.str
 |[],_,r=>r.inv0
 |n::ns,xs,r=>by
  obtain⟨v,a,rfl,q,b⟩:=r.inv
  rw[C_,<- rm b,q.str]
theorem wD {K:Frag}{H:Hp}{t:T}{k:NK}{v:V}(e:nk3 t=some k) (r:Rep K H t v):∃a,v=.ref a/\NKt K H k a:=by
 unfold nk3 at e;split at e
 ·rename_i i ts;obtain⟨ns,m,rfl⟩:=ZW.mp e;rw[q9 m] at r;obtain⟨a,xs,rfl,c,f⟩:=r.tup;obtain⟨o,q,rfl,p1,l⟩:=f.inv;obtain⟨n,p,rfl,h,g⟩:=l.inv;obtain⟨b,ys,rfl,d,j⟩:=h.tup;rw[g.inv0,p1.int] at c;rw[rm j] at d;exact⟨a,rfl,b,c,d⟩
 cases e
def cA (k:NK):List (NK × T)->Option T
 |[]=>none
 | (k',v)::r=>if k'=k then some v else cA k r
def BV (k:NK) (v:T) (kvs:List (NK × T)):List (NK × T):=if (cA k kvs).isSome then kvs.map (fun x=>if x.1=k then (x.1,v) else x) else kvs++[(k,v)]
section
variable {K:Frag}{H:Hp}{kvs:List (NK × T)}{ks:List (NK × Addr × V)}{k:NK}
theorem RepN.look (r:RepN K H kvs ks) (k:NK):(cA k kvs=none/\dU ks k=none)\/∃t v,cA k kvs=some t/\dU ks k=some v/\Rep K H t v:=by
 induction r with
 |nil=>exact .inl ⟨rfl,rfl⟩
 |@cons p q l m h _ b =>
 obtain⟨p1,d⟩:=p;obtain⟨f,i,g⟩:=q;obtain⟨e,_,a⟩:=h;dsimp only at e a;subst e;unfold cA;unfold dU at b ⊢;rw[Y4];by_cases c:f=k
 ·rw[if_pos c,D_ (by exact c)];exact .inr ⟨d,g,rfl,rfl,a⟩
 rw[if_neg c,u_ (by exact c)];exact b
theorem RepN.put (r:RepN K H kvs ks) {b:Addr}{t:T}{v:V}(f:NKt K H k b) (g:Rep K H t v):RepN K H (BV k t kvs) (tW ks k b v):=by
 have e:(cA k kvs).isSome=(dU ks k).isSome:=by rcases r.look k with ⟨a,b⟩ | ⟨t,v,a,b,_⟩ <;> rw[a,b] <;> rfl
 unfold BV tW;rw[e];split
 ·rename_i c;clear e c;induction r with
  |nil=>exact .nil
  |@cons p q l m h _ j =>
  obtain⟨p1,o⟩:=p;obtain⟨s,n,u⟩:=q;obtain⟨e,d,i⟩:=h;dsimp only at e i d;subst e;refine .cons ?_ j;dsimp only;split <;> exact⟨rfl,d,by assumption⟩
 exact Paired.snoc r ⟨rfl,f,g⟩
theorem RepN.all (r:RepN K H kvs ks):NAll K H ks:=by
 induction r with
 |nil=>intro x a;exact nomatch a
 |cons h _ b =>
 intro x a;rcases j_.mp a with rfl | a
 ·exact h.2.1
 exact b x a
end
def nqO (u:Option O3) (w:World) (Q:List (NK × T)->Prop):Prop:=match u with
 |some (.dcn w' kvs)=>w'=w/\Q kvs
 |_=>False
def nq (w:World) (x y:T) (H:Hp3) (Q:Addr->NK->List (NK × T)->Prop):Prop:=match x with
 |.ref a=>oq (nk3 y) fun k=>nqO (H a) w (Q a k)
 |_=>False
theorem XF (w:World) (a:Addr) (i:Int) (ns:List Str) {H:Hp3}{Q:Addr->NK->List (NK × T)->Prop}:nq w (.ref a) (.tup [.int i,.tup (ns.map T.str)]) H Q=nqO (H a) w (Q a (i,ns)):=by
 unfold nq;rw[BR];rfl
theorem Vs (w:World) (kvs:List (NK × T)) {Q:List (NK × T)->Prop}:nqO (some (.dcn w kvs)) w Q=Q kvs:=by
 show (w=w/\Q kvs)=Q kvs;rw[eq_self,true_and]
theorem Pu {w:World}{K:Frag}{H:Hp}{H3:Hp3}{x y:V}{g f:T}{Q:Addr->NK->List (NK × T)->Prop}(n:SimH K H3 H) (r:Rep K H g x) (o:Rep K H f y) (q:nq w g f H3 Q) :
  ∃a b k kvs ks,x=.ref a/\y=.ref b/\H a=some (dnO w a ks)/\H3 a=some (.dcn w kvs)/\RepN K H kvs ks/\NKt K H k b/\Q a k kvs:=by
 cases g with
 |ref a =>
  cases e:nk3 f with
  |none=>unfold nq at q;rw[e] at q;exact q.elim
  |some k =>
  unfold nq at q;rw[e] at q;have c:nqO (H3 a) w (Q a k):=q;cases d:H3 a with
  |none=>rw[d] at c;exact c.elim
  |some m =>
  rw[d] at c;cases m with
  |dcn s kvs=>obtain⟨rfl,i⟩:=c;obtain⟨ks,l,h⟩:=n a _ d;obtain⟨b,p,j⟩:=wD e o;exact⟨a,b,k,kvs,ks,r.ref,p,l,d,h,j,i⟩
  |_=>exact c.elim
 |_=>exact q.elim
section
variable {X:Cx}{o i e f value:Expr}{pos pos' apos cpos:Pos}{td ti tv tx:TE3}
def uI (w:World) (neg:Bool) (d c:TE3):TE3:=fun Z H Q=>d Z H fun y b=>c Z b fun x a=>nq w x y a fun _ k kvs=>Q (.bl (if neg then !(cA k kvs).isSome else (cA k kvs).isSome)) a
theorem wF {neg:Bool}{w:World}{K:Frag}{H:Hp}{H3:Hp3}{x y:V}{g d:T}{Q3:VK3}(m:SimH K H3 H) (p:Rep K H g x) (n:Rep K H d y) (q:nq w g d H3 fun _ k kvs=>Q3 (.bl (if neg then !(cA k kvs).isSome else (cA k kvs).isSome)) H3) :
  ∃a b k ks c,(x=.ref a/\y=.ref b/\H a=some (dnO w a ks)/\NAll K H ks/\NKt K H k b)/\(if neg then !(dU ks k).isSome else (dU ks k).isSome)=c/\Q3 (.bl c) H3:=by
 obtain⟨a,b,k,kvs,ks,l,h,o,_,f,j,i⟩:=Pu m p n q;refine⟨a,b,k,ks,_,⟨l,h,o,f.all,j⟩,rfl,?_⟩;have e:(cA k kvs).isSome=(dU ks k).isSome:=by rcases f.look k with ⟨a,b⟩ | ⟨t,v,a,b,_⟩ <;> rw[a,b] <;> rfl
 rwa [e] at i
theorem wG {w:World}(C:X.w=w) (E:X.A.units+30<cLine) (s:PE3 X i ti) (B:PE3 X o td) (z:behindInMarks .In o=false:=by rfl):PE3 X (.Compare i [.In] [o] pos) (uI w false ti td):=by
 subst C;refine PE.imp (KR (Pr E s B) z) ?_;rintro Z H Q ⟨p,H3,Q3,n,v,h,k⟩;refine⟨p,H3,_,n,v,h,fun y L K m j l G D=>⟨p,m,_,n.mono j,l,D,fun x I J u d f t r=>?_⟩⟩;obtain⟨a,b,F,ks,c,g,e,q⟩:=wF f t (G.mono d) r;exact⟨a,b,F,ks,g,by rw[e];exact k _ _ _ _ (j.trans d) f .ofBl q⟩
end
end L3
namespace L2
abbrev PN:=NK × Addr × Value
def mgH (ps:List PN):List PN:=ps.foldl (fun xs p=>storedH xs p.1 p.2.1 p.2.2) []
theorem rA (ps:List PN) (p:PN):mgH (ps++[p])=storedH (mgH ps) p.1 p.2.1 p.2.2:=by unfold mgH;rw[List.foldl_append];rfl
theorem pB (ps:List PN):(mgH ps).length<=ps.length/\∀x∈mgH ps,∃p∈ps,p.1=x.1/\p.2.1=x.2.1:=by
 have:∀(n:Nat) (ps:List PN),ps.length=n->(mgH ps).length<=n/\∀x∈mgH ps,∃p∈ps,p.1=x.1/\p.2.1=x.2.1:=fun n=>by
  induction n with
  |zero=>intro ps h;rw[ZM.mp h];exact⟨o_ _,fun x a=>nomatch a⟩
  |succ n i =>
  intro ps h;have b:ps≠[]:=fun z=>by rw[z] at h;cases h
  have e:=Zc b;rw[<- e,rA];obtain⟨j,f⟩:=i ps.dropLast (by rw[List.length_dropLast];omega);have d:∀x∈mgH ps.dropLast,∃p∈ps.dropLast++[ps.getLast b],p.1=x.1/\p.2.1=x.2.1:=fun x a=>by obtain⟨p,c,z⟩:=f x a;exact⟨p,Yk _ c,z⟩
  unfold storedH;split
  ·refine⟨by rw[e_];omega,fun x a=>?_⟩;obtain⟨y,g,rfl⟩:=y_.mp a;obtain⟨p,c,z⟩:=d y g;refine⟨p,c,?_⟩;unfold putAt;split <;> exact z
  refine⟨by rw[d_,J_];omega,fun x a=>?_⟩;rcases B_.mp a with q | q
  ·exact d x q
  rw[m_.mp q];exact⟨_,R_ _ (.head _),rfl,rfl⟩
 exact this _ ps rfl
section
variable {prog:Program}{w:World}
def NKx (prog:Program) (w:World) (c:List Addr) (h:Heap) (k:NK) (a:Addr):Prop:=∃o t b n,h.get? a=some o/\o.cls=.type "tuple"/\o.data=.seq #[.int k.1 t,.ref b] n/\IsTupleKey (bx prog w) h (qt k.2) b/\a∉c/\b∉c
theorem NKx.is {c:List Addr}{h:Heap}{k:NK}{a:Addr}(x:NKx prog w c h k a):NKis prog w h k a:=let ⟨o,t,b,n,h1,h2,h3,h4,_⟩:=x;⟨o,t,b,n,h1,h2,h3,h4⟩
theorem NKx.kp {d:List Addr}{h h':Heap}{k:NK}{a:Addr}(x:NKx prog w d h k a) (g:∀c o,c∉d->h.get? c=some o->h'.get? c=some o):NKx prog w d h' k a:=by
 obtain⟨o,t,b,n,r,j,s,⟨p,e,m,q,l⟩,i,f⟩:=x;exact⟨o,t,b,n,g _ _ i r,j,s,⟨p,e,m,g _ _ f q,l⟩,i,f⟩
def Vt (prog:Program) (w:World) (a:List Addr) (h:Heap) (ps:List PN):Prop:=∀p∈ps,NKx prog w a h p.1 p.2.1
theorem rB {a:List Addr}{h h':Heap}{d:Addr}{ps:List PN}{i:Nat}(x:h.DictOfH (dN prog w) d (mgH (ps.take i))) (e:∀o,h.get? d=some o->h'.get? d=some o) (u:∀c o,c∉a->h.get? c=some o->h'.get? c=some o) (q:Vt prog w a h ps):h'.DictOfH (dN prog w) d (mgH (ps.take i)):=by
 obtain⟨o,r,b,m,f,s,j,_,g⟩:=x;refine⟨o,r,b,e _ m,f,s,j,fun y n=>?_,g⟩;obtain⟨p,k,t,l⟩:=(pB _).2 y n;have:=((q p (List.mem_of_mem_take k)).kp u).is
 rwa [t,l] at this
theorem uJ {A:Around}{R:Result->Shared->Prop}{J:Addr}{Y t:List Addr}{n:Nat}{P:Nat->Value->Prop}{St:Nat->Heap->Prop}(hu:A.units+30<cLine)
  (W:Walks prog w A.in1 J Y t n P St) (d:Addr) (U:d∉Y) (ps:List PN) (hn:ps.length=n) (h8:n<=sizeLine) :
  ∀(k i:Nat) (s:Shared),n - i=k->i<=n->St i s.heap->s.heap.DictOfH (dN prog w) d (mgH (ps.take i))->Vt prog w (d::t) s.heap ps ->
   (∀j v,P j v->∃q p,ps[j]?=some q/\v=.ref p/\p∉d::t/\OD s.heap p (.ref q.2.1) q.2.2) ->
   (∀s',Moved (d::t) (fun a b=>b=a) s s'->s'.heap.DictOfH (dN prog w) d (mgH ps)->R (.ok (.ret .none)) s') ->
   codeAny (model prog w) A (.builtin "dict.update.loop" ⟨[.ref d,.ref J,rawInt i,.none],[]⟩) R s:=by
 have C:=W.toS;have Z:d∉t:=fun h=>U (C.sub _ h);have F:∀c∈t,c∈d::t:=fun c f=>h_ _ f;intro k;induction k with
 |zero =>
  intro i s hk hi st L D M u;obtain rfl:i=n:=by omega
  refine codeAny_builtin nj ?_;rw[Around.under_plainId gZ _];show wpAny _ A.in1 (pyNext (.ref J) >>= _) _ _ s;refine a_ (C.done s _ _ st fun s' x=>?_);show wpAny _ A.in1 (do Builtin.Dict.addKeywords d [];ret Value.none) _ _ s';have l:=rB L (fun o=>x.heap d o Z) (fun c o f=>x.heap c o fun z=>f (F c z)) D;rw[<- hn,List.take_length] at l;exact a_ (i_ (i_ (u s' (x.mono F) l)))
 |succ k ih =>
 intro i s hk hi st L D M u;have X:i<n:=by omega
 refine codeAny_builtin nj ?_;rw[Around.under_plainId gZ _];show wpAny _ A.in1 (pyNext (.ref J) >>= _) _ _ s;refine a_ (C.item i s _ _ X st fun v s' pv H x=>?_);obtain⟨q,p,y,rfl,g,o,V,N,f,G⟩:=M i v pv;have r:∀c o,c∉d::t->s.heap.get? c=some o->s'.heap.get? c=some o:=fun c o f=>x.heap c o fun z=>f (F c z);have B:s'.heap.get? p=some o:=r p _ g N;have l:=rB L (fun o=>x.heap d o Z) r D;have hq:q∈ps:=O_ y;refine a_ (YS ?_);refine a_ (m:=tryCatch (Builtin.Dict.pairItems (.ref p)) _) (wpAny_tryCatch ?_);unfold Builtin.Dict.pairItems;refine a_ (aaf (T:="tuple") ⟨o,B,f⟩ ?_);rw[if_pos (by decide)];refine a_ (YD B G (i_ ?_));have hm:(mgH (ps.take i)).length<=sizeLine:=by have h1:=(pB (ps.take i)).1;rw[Y7] at h1;omega
 show wpAny _ A.in1 (holding [.ref q.2.1,q.2.2] (dictSet d (.ref q.2.1) q.2.2)) _ _ s';refine YS (wpAny_dictSet_heap (knd:=dN prog w) (show A.units+1+1<cLine by omega) ((D q hq).kp r).is l (fun h' I S=>?_) hm);have E:∀c o,c∉d::t->s.heap.get? c=some o->h'.get? c=some o:=fun c o f e=>by rw[S.2 c (fun z:c=d=>f (by rw[z];exact k_))];exact r c o f e
 refine i_ ⟨plainId_quiet gZ _,ih (i+1) _ (by omega) X (C.frame _ s' _ _ H (Nat.le_add_right _ _) fun c f o e=>?_) ?_ (fun p y=>(D p y).kp E) (fun j v pj=>?_) fun Q K O=>?_⟩
 ·rw[S.2 c (fun z:c=d=>U (by rw[<- z];exact f))];exact e
 ·rw[List.take_succ,y];show h'.DictOfH (dN prog w) d (mgH (ps.take i++[q]));rw[rA];exact I
 ·obtain⟨q,p,y,e,g,o,V,N,f,G⟩:=M j v pj;exact⟨q,p,y,e,g,o,V,E p _ g N,f,G⟩
 refine u Q (Moved.trans C.gtrans ((x.mono F).then_heap (Nat.le_add_right _ _) fun c o f e=>?_) K) O;rw[S.2 c (fun z:c=d=>f (by rw[z];exact k_))];exact e
theorem rC {A:Around}{E:Value->Shared->Prop}{s:Shared}{l:Addr}{a:Array Value}{M:Nat}{O:Array (Option Value)}{ps:List PN}{Q:Value->Shared->Prop}(hu:A.units+40<cLine) (hh:A.handled=none)
  (N:s.heap.get? l=some { cls:=.type "list",dict:=none,data:=.seq a M,slots:=O}) (W:ps.length=a.size) (h8:a.size<=sizeLine) (al:∀p∈ps,NKis prog w s.heap p.1 p.2.1)
  (hT:∀(j:Nat) (v:Value),a[j]?=some v->∃q p,ps[j]?=some q/\v=.ref p/\OD s.heap p (.ref q.2.1) q.2.2)
  (h:∀(h':Heap) (tk:Nat),h'.DictOfH (dN prog w) s.heap.objs.size (mgH ps)->(∀b o,s.heap.get? b=some o->h'.get? b=some o)->Q (.ref s.heap.objs.size) { s with heap:=h',toks:=tk}) :
  wpAny (model prog w) A (call (.type "dict") [.ref l]) Q E s:=by
 refine callType_codes (Q₁:=fun u g=>u=.ref s.heap.objs.size/\g={ s with heap:=s.heap.push { cls:=.type "dict",data:=.dict #[]}}) F.kt_called_dict (F.kt_typeCall_dict_1 _) F.entry_dict_init (kt_code_dict_new _ ⟨rfl,rfl⟩) ?_;rintro u g ⟨rfl,rfl⟩;have c:(s.heap.push { cls:=.type "dict",data:=.dict #[]}).DictOfH (dN prog w) s.heap.objs.size []:=Heap.DictOfH.new s.heap;have m:(s.heap.push { cls:=.type "dict",data:=.dict #[]}).get? l=some { cls:=.type "list",dict:=none,data:=.seq a M,slots:=O}:=b_ _ N;refine⟨c.typeIs,F.args_dict_init_2 _ _,?_⟩;unfold Builtin.«dict.__init__»;refine a_ ?_;unfold Builtin.Dict.selfAndRest;refine a_ (wpAny_notOrdered_dict c.typeIs ?_);show wpAny _ _ (pure (s.heap.objs.size,[Value.ref l])) _ _ _;refine i_ ?_;show wpAny _ _ (Builtin.Dict.updateFrom "dict.__init__" s.heap.objs.size (.ref l) [] .none) _ _ _;unfold Builtin.Dict.updateFrom;refine a_ (aaf (T:="list") ⟨_,m,rfl⟩ ?_);rw[if_pos (by decide)];have r:A.in1.in1.handled=none:=by simp [hh]
 refine a_ (uH m r fun i tk e y=>?_);show wpAny _ _ (do rule _;let it <- pyIter (.ref l);again (.builtin "dict.update.loop" ⟨[.ref s.heap.objs.size,it,rawInt 0,.none],[]⟩)) _ _ _;refine a_ (wpAny_rule ?_);have k:=y.keeps _ _ m;refine a_ (Z5 (s:={ s with heap:=i,toks:=tk}) ⟨_,k,rfl,_,rfl⟩ (i_ ?_));have U:l<i.objs.size:=x_ k;have L:s.heap.objs.size<i.objs.size:=x_ (y.keeps s.heap.objs.size _ (v_ _ rfl));have G:l<s.heap.objs.size:=x_ N;have Y:s.heap.objs.size∉[i.objs.size,l]:=by
  intro z;simp only[j_,G_,Ym] at z;rcases z with z | z
  ·exact absurd z (F_ L)
  exact absurd z (Yh G)
 have d:∀b o,s.heap.get? b=some o->b∉[s.heap.objs.size,i.objs.size]:=fun b o e z=>by
  have:=x_ e;simp only[j_,G_,Ym] at z;rcases z with z | z
  ·exact absurd z (F_ this)
  exact absurd z (F_ (X5 this L))
 have f:∀b o,s.heap.get? b=some o->(i.push { cls:=.type "list_iterator",data:=.fields #[.ref l,.int 0 0]}).get? b=some o:=fun b o e=>b_ _ (y.keeps _ _ (b_ _ e));refine⟨plainId_quiet gZ _,?_⟩;refine uJ (by have:A.in1.units=A.units+1:=rfl;omega) (Walks.list r _ l (F_ U) a) s.heap.objs.size Y ps W h8 (a.size - 0) 0 _ (by omega) (X3 _) ⟨⟨_,v_ _ rfl,rfl,rfl⟩,⟨_,b_ _ k,rfl,_,rfl⟩⟩ ?_ ?_ ?_ ?_
 ·obtain⟨o,R,X,B,i,h3,h4,_,Z⟩:=c;exact⟨o,R,X,b_ _ (y.keeps _ _ B),i,h3,h4,(fun _ z=>nomatch z),Z⟩
 ·intro p I;obtain⟨o,t,b,n,J,f2,f3,o',its',n',K,g2⟩:=al p I;exact⟨o,t,b,n,f _ _ J,f2,f3,⟨o',its',n',f _ _ K,g2⟩,d _ _ J,d _ _ K⟩
 ·intro j v e;obtain⟨q,p,I,rfl,o,S,B,hc,P⟩:=hT j v e;exact⟨q,p,I,rfl,d _ _ B,o,S,f _ _ B,hc,P⟩
 intro s' x D;obtain⟨h',g',d',C,H⟩:=s';have V:g'=s.gens:=x.gens;have ed:d'=s.drawn:=x.drawn;have eo:H=s.os:=x.os;subst V ed eo;exact⟨rfl,h h' C D fun b o e=>x.heap b o (d b o e) (f b o e)⟩
end
def mgA (l ks:List (NK × Addr × V)):List (NK × Addr × V):=ks.foldl (fun l q=>tW l q.1 q.2.1 q.2.2) l
theorem KA.mg:∀{ks:List (NK × Addr × V)}{ps:List PN}{l:List (NK × Addr × V)}{m:List PN},KA ks ps->KA l m->KA (mgA l ks) (ps.foldl (fun xs p=>storedH xs p.1 p.2.1 p.2.2) m)
 |_,_,_,_,.nil,h=>h
 | (k,b,v)::ks,(k',b',u)::ps,l,m,.cons ⟨e1,e2,rv⟩ r,h=>by
  dsimp only at e1 e2 rv
  subst e1 e2
  exact KA.mg (ks:=ks) (ps:=ps) r (h.put k b rv)
end L2
namespace L3
open L2
def mgN (l kvs:List (NK × T)):List (NK × T):=kvs.foldl (fun l q=>BV q.1 q.2 l) l
theorem RepN.mg {K:Frag}{H:Hp}:∀{kvs:List (NK × T)}{ks:List (NK × Addr × V)}{l:List (NK × T)}{m:List (NK × Addr × V)},RepN K H kvs ks->RepN K H l m->RepN K H (mgN l kvs) (mgA m ks)
 |_,_,_,_,.nil,h=>h
 | (k,t)::kvs,(k',b,v)::ks,l,m,.cons ⟨e1,hk,rv⟩ r,h=>by
  dsimp only at e1 hk rv
  subst e1
  exact RepN.mg (kvs:=kvs) (ks:=ks) r (h.put hk rv)
def BW:T->Option (NK × T)
 |.tup [k,v]=>(nk3 k).map fun k=>(k,v)
 |_=>none
def rD:List T->Option (List (NK × T))
 |[]=>some []
 |t::r=>match BW t,rD r with
  |some p,some ps=>some (p::ps)
  |_,_=>none
theorem rE {a:Type}(f:a->Int × List Str) (g:a->T):∀xs:List a,rD (xs.map fun x=>T.tup [.tup [.int (f x).1,.tup ((f x).2.map T.str)],g x])=some (xs.map fun x=>(f x,g x))
 |[]=>rfl
 |x::r=>by
  rw[C_,C_]
  unfold rD
  rw[rE f g r]
  have e:BW (.tup [.tup [.int (f x).1,.tup ((f x).2.map T.str)],g x])=some (f x,g x):=by
   show (nk3 (.tup [.int (f x).1,.tup ((f x).2.map T.str)])).map _=_
   rw[BR]
   rfl
  rw[e]
section
variable {X:Cx}
theorem rF {c:List (Addr × Obj)}{Z:L2.St}{H:Hp}{s:Shared}(I:Inv X c Z H s):∀{ts:List T}{us:List V}{a:List Value}{kvs:List (NK × T)},rD ts=some kvs->Reps X.K H ts us->Vals us a ->
  ∃(ks:List (NK × Addr × V)) (ps:List PN),RepN X.K H kvs ks/\KA ks ps/\ps.length=a.length/\(∀p∈ps,NKis X.prog X.w s.heap p.1 p.2.1)/\∀(j:Nat) (v:Value),a[j]?=some v->∃q p,ps[j]?=some q/\v=.ref p/\OD s.heap p (.ref q.2.1) q.2.2
 |[],us,a,kvs,e,r,rv=>by
  cases e
  rw[r.inv0] at rv
  cases rv
  exact⟨[],[],.nil,.nil,rfl,(fun _ z=>nomatch z),fun j v h=>by simp at h⟩
 |t::ts,us,a,kvs,e,r,rv=>by
  unfold rD at e
  split at e
  ·
   rename_i p U d F
   cases e
   obtain⟨v,ur,rfl,k,Q⟩:=r.inv
   cases rv with
   |cons q J =>
    rename_i it itr
    obtain⟨ks,ps,a1,W,a3,C,M⟩:=rF I F Q J
    unfold BW at d
    split at d
    ·
     rename_i tk tv
     obtain⟨y,Y,rfl⟩:=ZW.mp d
     obtain⟨S,xs,rfl,m,P⟩:=k.tup
     obtain⟨k0,r1,rfl,G,g⟩:=P.inv
     obtain⟨A,r2,rfl,L,i⟩:=g.inv
     obtain⟨b,rfl,u⟩:=wD Y G
     rw[i.inv0] at m
     cases q
     obtain⟨x,f,⟨o,ho,R,n,B⟩,_⟩:=I.tuple m
     cases f with
     |cons E D =>
      rename_i kv l2
      cases D with
      |cons N O =>
       rename_i xv l3
       cases O
       cases (show kv=Value.ref b from E)
       refine⟨(y,b,A)::ks,(y,b,xv)::ps,.cons ⟨rfl,u,L⟩ a1,.cons ⟨rfl,rfl,N⟩ W,by simp [a3],fun p l=>?_,fun j w h=>?_⟩
       ·
        rcases j_.mp l with rfl | l
        ·
         exact u.is I
        ·
         exact C p l
       ·
        cases j with
        |zero =>
         simp only[YC,aau] at h
         subst h
         exact⟨_,S,rfl,rfl,o,n,ho,R,B⟩
        |succ j =>
         rw[YX] at h ⊢
         exact M j w h
    ·
     cases d
  ·
   cases e
def dcN (w:World) (o:Option O3) (H:Hp3) (Q:VK3):Prop:=match o with
 |some (.lst xs)=>oq (rD xs) fun kvs=>∀p,H p=none->Q (.ref p) (up3 H p (.dcn w (mgN [] kvs)))
 |_=>False
def wH (w:World):List T->Hp3->VK3->Prop:=fun ts H Q=>match ts with
 |[.ref a]=>dcN w (H a) H Q
 |_=>False
theorem wI (w:World) (a:Addr) (H:Hp3) (Q:VK3):wH w [.ref a] H Q=dcN w (H a) H Q:=rfl
theorem J8 (w:World) (xs:List T) (H:Hp3) (Q:VK3):dcN w (some (.lst xs)) H Q=oq (rD xs) fun kvs=>∀p,H p=none->Q (.ref p) (up3 H p (.dcn w (mgN [] kvs))):=rfl
theorem BX {w:World}(S:X.w=w) (W:X.A.units+40<cLine) (N:X.calm=true):cZ X (.type "dict") (wH w):=by
 subst S;intro m s Z H xs us Q I K h;obtain⟨ts,H3,Q3,r,l,h,k⟩:=h
 match ts,h,r with
 |[.ref a],h,r =>
 obtain⟨v,rfl,g⟩:=r.one';obtain⟨u,rfl,q⟩:=vals1 K;rw[g.ref] at q;cases q;rw[wI] at h;cases e:H3 a with
 |none=>rw[e] at h;exact h.elim
 |some o =>
 rw[e] at h;cases o with
 |lst R =>
  rw[J8] at h;cases i:rD R with
  |none=>rw[i] at h;exact h.elim
  |some kvs =>
  rw[i,dX] at h;obtain⟨ys,G,L⟩:=l a _ e;obtain⟨z,E,n,M,p,O⟩:=I.lstM G;obtain⟨ks,ps,T,P,a3,x,J⟩:=rF I i L M;have f:H s.heap.objs.size=none:=I.hok.fresh (o_ _);refine rC W (I.ok.hd N) O (by rw[l_];exact a3) (by rw[l_];omega) x (fun j v e=>J j v (by simpa using e)) fun h' tk C kp=>?_;have d:KA (mgA [] ks) (mgH ps):=KA.mg P .nil;have y:(mgA [] ks).length<=sizeLine:=by have h1:=aaj d;have h2:=(pB ps).1;omega
  obtain⟨o,B,F,D,V,U,Y,_,t⟩:=C;refine⟨.ref s.heap.objs.size,_,I.laid (a:=s.heap.objs.size) (h':=h') (t':=tk) kp (o_ _) (dnO.ok (w:=X.w) ⟨y,Yi.mpr (Yh I.big),_,d,o,B,F,D,V,U,Y,t⟩),rfl,?_⟩;refine k _ _ _ _ (aL f) (fun c u z=>?_) .ofRef (h _ (l.fresh f));by_cases b:c=s.heap.objs.size
  ·subst b;rw[aq] at z;cases z;exact⟨_,cB,(RepN.mg T .nil).mono (aL f)⟩
  rw[aD b] at z;exact l.new f c u z
 |_=>exact h.elim
end
def BZ:R3:=fun x y H Q=>match x,y with
 |.tup [.int i,.int j],.tup [.int k,.int l]=>Q (.bl (if i=k then decide (j<l) else decide (i<k))) H
 |_,_=>False
theorem Vu (i j k l:Int) {H:Hp3}{Q:VK3}:BZ (.tup [.int i,.int j]) (.tup [.int k,.int l]) H Q=Q (.bl (if i=k then decide (j<l) else decide (i<k))) H:=rfl
theorem Px {X:Cx}(L:X.A.units+30<cLine):dD X (compareOp .Lt) BZ:=by
 refine OpR.imp (Ly (by omega)) ?_;rintro x y H Q ⟨C,E,H3,Q3,n,w,q,h,k⟩;unfold BZ at h;split at h
 ·rename_i i j d l;obtain⟨a,xs,rfl,f,t⟩:=n.tup;obtain⟨b,ys,rfl,g,p⟩:=w.tup;obtain⟨F,B,rfl,p1,v⟩:=t.inv;obtain⟨D,I,rfl,s,m⟩:=v.inv;obtain⟨v3,K,rfl,u,z⟩:=p.inv;obtain⟨J,G,rfl,o,r⟩:=z.inv;rw[m.inv0,p1.int,s.int] at f;rw[r.inv0,u.int,o.int] at g;refine⟨a,b,[i,j],[d,l],rfl,rfl,f,g,k _ _ _ _ .refl q .ofBl ?_⟩;have e:HT.lexLt [i,j] [d,l]=if i=d then decide (j<l) else decide (i<d):=by
   rw[HT.lexLt_cons,HT.lexLt_cons,HT.lexLt_nil_nil];by_cases c:j=l
   ·rw[if_pos c,show decide (j<l)=false from u_ (by omega)]
   rw[if_neg c]
  rw[e];exact h
 exact h.elim
theorem u40 {k:Nat}{A:Around}(r:Room k A):A.units+40<cLine:=by have:=r.un;omega
section
variable {X:Cx}{o i:Expr}{pos:Pos}{td ti:TE3}
theorem uK {w:World}(D:X.w=w) (F:X.A.units+30<cLine) (s:PE3 X i ti) (C:PE3 X o td) (B:behindInMarks .NotIn o=false:=by rfl):PT3 X (.Compare i [.NotIn] [o] pos) (iw (uI w true ti td)):=by
 subst D;refine PT.imp (sY (ym F s C) B) ?_;rintro Z H Q ⟨p,H3,Q3,n,z,h,k⟩;refine⟨p,H3,_,n,z,h,fun y M L m j l I E=>⟨p,m,_,n.mono j,l,E,fun x J K v d f u r=>?_⟩⟩;obtain⟨a,b,G,ks,c,g,e,q⟩:=wF (neg:=true) (w:=X.w) (Q3:=fun x t=>match x with | .bl k=>Q3 k t | _=>False) f u (I.mono d) r;exact⟨a,b,G,ks,g,c,by rw[e],k _ _ _ (j.trans d) f q⟩
end
theorem aQ {X:Cx}{c rest:List Expr}{d:Nat}{a:Pos}{t b:TA3}(h:PA3 X c t) (e:PA3 X rest b):PA3 X (.Tuple c d a::rest) (tY (zN t) b):=aa (bj h) e
theorem Hn {X:Cx}{i:Nat}{x:Str}{c:List Expr}{t:TA3}{b a p:Pos}(d:X.N.Nodup) (h:PA3 X c t) (e:X.N[i]?=some x) (g:Loc X.env.scope x) (f:X.fn x=true\/X.env.scope.names.lookup x=some .local):PS3 X (.Assign [.Name x a] (.List c p) b) (qD (vO t) (f9 i)):=aF d (bh h) e g rfl f
theorem wJ {X:Cx}{i j:Nat}{x y:Str}{c:List Expr}{t:TA3}{b a p q r:Pos}{te:TE3}(d:X.N.Nodup) (f:PE3 X (.Name y r) te) (h:PA3 X c t) (e:X.N[i]?=some x) (k:Loc X.env.scope x) (g:X.fn x=true\/X.env.scope.names.lookup x=some .local):PS3 X (.Assign [.Name x a] (.BinOp (.Name y r) .Add (.List c p) q) b) (qD (tX mZ te (vO t)) (f9 i)):=aF d (aC aY f (bh h)) e k rfl g
theorem pC {prog:Program}{w:World}{A:Around}(g:A.handled=none) (it t:Addr) (d:t≠it) (a:Array Value) (k:Nat) (b:a[k]?=none) :
  Draws prog w A it [it,t] k (fun _ _=>True) (fun i h=>i=k/\h.IsListIter it t i/\h.IsList t a) where
 live:=fun _ _ st=>let ⟨o,ho,_⟩:=st.2.1;⟨o,ho⟩
 frame:=fun _ _ _ st b=>⟨st.1,st.2.1.at fun o e=>b it (by simp) o e,st.2.2.at fun o e=>b t (by simp) o e⟩
 item:=fun i s Q E f st j=>absurd st.1 (F_ f)
 done:=fun s Q E st c=>wpAny_nextOf_list_end g st.2.1 st.2.2 b c
def Py (K:Frag) (a b:Addr):It :=
 ⟨fun i H=>∃xs ys x y,SqL K H a xs/\SqL K H b ys/\xs[i]?=some x/\ys[i]?=some y,
  fun i H v c=>∃p x y,v=.ref p/\H p=none/\c=upd H p (.tup [x,y])/\(∀xs,SqL K H a xs->xs[i]?=some x)/\∀ys,SqL K H b ys->ys[i]?=some y,
  fun i H=>∃xs ys,SqL K H a xs/\SqL K H b ys/\(xs.length<=i\/ys.length<=i)⟩
def XH (a b z f c d e:Addr) (i:Nat) (h:Heap):Prop:=IsZip h z f c .none/\IsPair h f (.ref d) (.ref e)/\(∃u v,IsPair h c u v)/\h.IsListIter d a i/\h.IsListIter e b i
theorem yo {P:Program}{w:World}{K:Frag}{elts:List Expr}{x1:Nat}{pos:Pos}(a b z r j f g:Addr) (F:a<f/\b<f) (l2:f<g) (l3:g<r) (l4:r<j) (l5:j<z) :
  Turn P w K (.Tuple elts x1 pos) (Py K a b) [z,r,j,f,g] z (XH a b z r j f g) where
 mem:=k_
 obj:=fun i h st c d=>by
  obtain⟨t,B,⟨u,v,C⟩,⟨o1,e1,_,T⟩,⟨o2,S,_,d2⟩⟩:=st
  simp only[j_,G_,Ym] at d
  rcases d with rfl | rfl | rfl | rfl | rfl
  ·
   exact⟨_,t,fun v z=>by cases z⟩
  ·
   exact⟨_,B,fun v z=>by cases z⟩
  ·
   exact⟨_,C,fun v z=>by cases z⟩
  ·
   exact⟨_,e1,fun v z=>by rw[T] at z;cases z⟩
  ·
   exact⟨_,S,fun v z=>by rw[d2] at z;cases z⟩
 keep:=fun i h h' st k=>by
  obtain⟨t,B,⟨u,v,C⟩,G,N⟩:=st
  exact⟨k z (by simp) _ t,k r (by simp) _ B,⟨u,v,k j (by simp) _ C⟩,G.at fun o e=>k f (by simp) o e,N.at fun o e=>k g (by simp) o e⟩
 item:=by
  intro X hP hw hK d i l s Z H E I hf st U
  subst hP hw hK
  obtain⟨xs,ys,x,y,qx,qy,ex,ey⟩:=U
  obtain⟨p,rv,Q,hz1⟩:=I.list qx
  have p1:=Q.isList
  obtain⟨n,M,J,hz2⟩:=I.list qy
  have p2:=J.isList
  obtain⟨u,hu,ru⟩:=rv.get ex
  obtain⟨v,hv,rv'⟩:=M.get ey
  have t:=st.1
  have B:=st.2.1
  obtain⟨a0,b0,C⟩:=st.2.2.1
  have G:=st.2.2.2.1
  have N:=st.2.2.2.2
  have hu':p.toArray[i]?=some u:=by simpa using hu
  have W:n.toArray[i]?=some v:=by simpa using hv
  have D:ZAp z r j f g [f,a] [g,b]:=zap F l2 l3 l4 l5
  have T:=Draws.list (prog:=X.prog) (w:=X.w) (A:=X.A.in1) (I.ok.hd d) f a (F_ F.1) p.toArray
  have d2:=Draws.list (prog:=X.prog) (w:=X.w) (A:=X.A.in1) (I.ok.hd d) g b (F_ (X5 F.2 l2)) n.toArray
  refine wB T d2 D t B C ⟨G,p1⟩ ⟨N,p2⟩ (Zt.mp hu').1 (Zt.mp W).1 fun L O h' tk px py hz' hO' s1 s2 hT hsz kp=>?_
  have e1:L=u:=Q_ (px.symm.trans hu')
  have S:O=v:=Q_ (py.symm.trans W)
  subst e1 S
  refine⟨_,rfl,wpAny_letOwnedTupleGo_zip hz' fun h2' V sb=>?_⟩
  have Y:∀c o,c∉[z,j,f,g]->s.heap.get? c=some o->h2'.get? c=some o:=fun c o nc e=>(sb.2 c fun q=>nc (q▸k_)).trans (kp c o nc e)
  have m:∀c∈[z,j,f,g],c∈[z,r,j,f,g]:=fun c d=>by simp only[j_,G_,Ym] at d ⊢;rcases d with q | q | q | q <;> simp [q]
  have R:∀{c o},s.heap.get? c=some o->s.heap.objs.size≠c:=fun e=>Yh (x_ e)
  have lt1:∀{c:Addr},c∈[z,r,j,f,g]->c≠s.heap.objs.size:=fun {c} d=>by
   simp only[j_,G_,Ym] at d
   rcases d with q | q | q | q | q <;> subst q
   ·
    exact Ne.symm (R t)
   ·
    exact Ne.symm (R B)
   ·
    exact Ne.symm (R C)
   ·
    obtain⟨o,e,_⟩:=G;exact Ne.symm (R e)
   ·
    obtain⟨o,e,_⟩:=N;exact Ne.symm (R e)
  have hTz:s.heap.objs.size≠z:=R t
  have I1:Inv X l Z (upd H s.heap.objs.size (.tup [x,y])) { s with heap:=s.heap.push { cls:=.type "tuple",data:=.seq #[L,O]},toks:=tk} :=
   I.laid (t':=tk) (fun b o e=>b_ _ e) (o_ _) (show ObjOk X.prog X.w _ _ _ (.tup [x,y]) from ⟨by show 2<=sizeLine;decide,[L,O],.cons ru (.cons rv' .nil),Tup0.new _ _⟩)
  have I2:Inv X l Z (upd H s.heap.objs.size (.tup [x,y])) { s with heap:=h2',toks:=tk}:=jU (s:={ s with heap:=s.heap.push { cls:=.type "tuple",data:=.seq #[L,O]},toks:=tk}) (ch:=[z,j,f,g]) (t':=tk) I1 (fun c o nc e=>by
   by_cases q:c=s.heap.objs.size
   ·
    subst q
    have e':(s.heap.push { cls:=.type "tuple",data:=.seq #[L,O]}).get? s.heap.objs.size=some o:=e
    rw[v_ _ rfl] at e'
    cases e'
    exact (sb.2 _ hTz).trans hT
   ·
    have e':(s.heap.push { cls:=.type "tuple",data:=.seq #[L,O]}).get? c=some o:=e
    rw[Heap.get?_push_ne _ _ _ q] at e'
    exact Y c o nc e') fun c d=>⟨by rw[aV (lt1 (m c d))];exact (hf c (m c d)).1,(hf c (m c d)).2⟩
  refine⟨.ref s.heap.objs.size,_,I2,rfl,⟨s.heap.objs.size,x,y,rfl,I.hok.fresh (o_ _),rfl,fun zs hq=>by rw[I.list_inj hq qx];exact ex,fun zs hq=>by rw[I.list_inj hq qy];exact ey⟩,?_,fun c d=>by rw[aV (lt1 d)];exact (hf c d).1⟩
  have n1:r≠z:=D.ne.1
  refine⟨V,?_,⟨L,O,(sb.2 j D.ne.2.1).trans hO'⟩,s1.1.at fun o e=>(sb.2 f D.i1z).trans e,s2.1.at fun o e=>(sb.2 g D.i2z).trans e⟩
  refine Y r _ ?_ B
  simp only[j_,G_,Ym,not_or]
  exact⟨D.ne.1,D.ne.2.2.1,Ne.symm D.i1ti,Ne.symm D.i2ti⟩
 done:=by
  intro X hP hw hK d i l s Z H E I hf st U
  subst hP hw hK
  obtain⟨xs,ys,qx,qy,U⟩:=U
  obtain⟨p,rv,Q,hz1⟩:=I.list qx
  have p1:=Q.isList
  obtain⟨n,M,J,hz2⟩:=I.list qy
  have p2:=J.isList
  have t:=st.1
  have B:=st.2.1
  obtain⟨a0,b0,C⟩:=st.2.2.1
  have G:=st.2.2.2.1
  have N:=st.2.2.2.2
  have n1:=rv.length
  have n2:=M.length
  have D:ZAp z r j f g [f,a] [g,b]:=zap F l2 l3 l4 l5
  have fin:∀(h':Heap) (tk:Nat),(∀c o,c∉[z,j,f,g]->s.heap.get? c=some o->h'.get? c=some o)->(none:Option Value)=none/\Inv X l Z H { s with heap:=h',toks:=tk}:=fun h' tk kp=>⟨rfl,jU I kp fun c d=>hf c (by
   simp only[j_,G_,Ym] at d ⊢;rcases d with q | q | q | q <;> simp [q])⟩
  have T:=Draws.list (prog:=X.prog) (w:=X.w) (A:=X.A.in1) (I.ok.hd d) f a (F_ F.1) p.toArray
  have d2:=Draws.list (prog:=X.prog) (w:=X.w) (A:=X.A.in1) (I.ok.hd d) g b (F_ (X5 F.2 l2)) n.toArray
  by_cases hi:xs.length<=i
  ·
   have e1:=pC (prog:=X.prog) (w:=X.w) (A:=X.A.in1) (I.ok.hd d) f a (F_ F.1) p.toArray i (by simp;omega)
   exact o4 (k:=i) e1 d2 D t B C ⟨rfl,G,p1⟩ ⟨N,p2⟩ (.inl rfl) fin
  ·
   have hy:ys.length<=i:=U.resolve_left hi
   have S:=pC (prog:=X.prog) (w:=X.w) (A:=X.A.in1) (I.ok.hd d) g b (F_ (X5 F.2 l2)) n.toArray i (by simp;omega)
   exact o4 (k:=i) T S D t B C ⟨G,p1⟩ ⟨rfl,N,p2⟩ (.inr ⟨by simp;omega,rfl⟩) fin
 self:=fun _ _ _ _ _ st h=>wpAny_pyIter_zip st.1 h
section
variable {X:Cx}{elts:List Expr}{x1:Nat}{tpos pos p:Pos}{ea eb:Expr}
def Vv (K:Frag) (t:TA):TI:=fun Z H R=>t Z H fun vs c=>∃a b,vs=[.ref a,.ref b]/\(∃xs,SqL K c a xs)/\(∃ys,SqL K c b ys)/\R (Py K a b) c
theorem Ho {t:TA}(O:Gl X "zip") (L:X.mg "zip"=none) (E:bootBuiltins "zip"=some (.type "zip")) (J:PA X [ea,eb] t)
  (z:starEach [ea,eb] X.env=[(false,eval ea X.env),(false,eval eb X.env)]:=by rfl) (i:starEach [eb] X.env=[(false,eval eb X.env)]:=by rfl) :
  PI X (.Tuple elts x1 tpos) (.Call (.Name "zip" p) [ea,eb] [] pos) (Vv X.K t):=by
 intro f s Z H R I h;refine Call_ (fC I O L E (Yj (thn (J pos f s Z H _ I h) fun us d ⟨vs,v,g,A,T⟩=>?_) (by rw[z,i]) (by rw[i];rfl)));obtain⟨a,b,e,⟨xs,F⟩,⟨ys,W⟩,q⟩:=T;subst e;cases A with
 |cons r l =>
 cases l with
 |cons V l =>
 cases l;cases r;cases V;obtain⟨B,Y,m,G⟩:=g.list F;have p1:=m.isList;obtain⟨x,P,k,w⟩:=g.list W;have u:=k.isList;have C:a<d.heap.objs.size:=by obtain⟨o,e,_⟩:=p1;exact x_ e
 have D:b<d.heap.objs.size:=by obtain⟨o,e,_⟩:=u;exact x_ e
 refine call_zip_2 p1 u fun h' n U y M Q hsz S=>wpAny_pyIter_zip n ?_;have N:∀c,d.heap.objs.size<=c->jN X f v c:=fun c j=>g.fpOk j (g.hok.fresh j);refine⟨d.heap.objs.size+4,[d.heap.objs.size+4,d.heap.objs.size+2,d.heap.objs.size+3,d.heap.objs.size,d.heap.objs.size+1],_,_,v,rfl,g.kept (t':=d.toks) S,yo a b (d.heap.objs.size+4) (d.heap.objs.size+2) (d.heap.objs.size+3) d.heap.objs.size (d.heap.objs.size+1) ⟨C,D⟩ (YF _) (YF _) (YF _) (YF _),⟨n,U,⟨_,_,y⟩,M,Q⟩,fun c j=>N c ?_,q⟩;simp only[j_,G_,Ym] at j;simp only[Addr] at *;omega
def zlO (o u:Option O3) (a b:Addr) (H:Hp3) (R:List T->(Hp3->Prop)->Hp3->Prop):Prop:=match o,u with
 |some (.lst xs),some (.lst ys)=>R (eN xs ys) (fun c=>aX a xs c/\aX b ys c) H
 |_,_=>False
def Ca (d:TA3):TI3:=fun Z H R=>d Z H fun vs c=>match vs with
 |[.ref a,.ref b]=>zlO (c a) (c b) a b c R
 |_=>False
theorem yp {K:Frag}{H:Hp}{a b:Addr}{ts us:List T}:jD K (Py K a b) (eN ts us) (fun g=>aX a ts g/\aX b us g) H:=fun g m I k st=>by
 obtain⟨xs,j,o⟩:=k.sqL st.1;obtain⟨ys,n,r⟩:=k.sqL st.2;have F:=o.length;have B:=r.length;refine⟨fun i u=>⟨xs,ys,j,n,by rw[lr] at u;omega⟩,fun i t e=>?_⟩;rw[lq] at e;cases d:ts[i]? with
 |none=>rw[d] at e;cases e
 |some x =>
 cases h:us[i]? with
 |none=>rw[d,h] at e;cases e
 |some y =>
 rw[d,h] at e;cases e;obtain⟨v,q,w⟩:=o.get d;obtain⟨E,c,f⟩:=r.get h;refine⟨⟨xs,ys,v,E,j,n,q,c⟩,fun z C A=>?_⟩;obtain⟨p,G,J,rfl,l,rfl,D,s⟩:=A;have:=(D xs j).symm.trans q;cases this;have:=(s ys n).symm.trans c;cases this;exact⟨aL l,k.new l,SimH.newTup (H3:=m) l (.cons w (.cons f .nil))⟩
theorem wK {i:TA3}(B:Gl X "zip") (A:X.mg "zip"=none) (y:PA3 X [ea,eb] i)
  (l:starEach [ea,eb] X.env=[(false,eval ea X.env),(false,eval eb X.env)]:=by rfl) (g:starEach [eb] X.env=[(false,eval eb X.env)]:=by rfl) :
  PI3 X (.Tuple elts x1 tpos) (.Call (.Name "zip" p) [ea,eb] [] pos) (Ca i):=by
 refine PI.imp (Ho B A Ax y l g) ?_;rintro Z H R ⟨x,H3,R3,j,t,h,k⟩;refine⟨x,H3,_,j,t,h,fun vs e ts c z d r q=>?_⟩
 match ts,q,r with
 |[.ref a,.ref b],q,r =>
  have f:(match c a,c b with
   |some (.lst xs),some (.lst ys)=>R3 (eN xs ys) (fun e=>aX a xs e/\aX b ys e) c
   |_,_=>False):=q
  obtain⟨v,w,rfl,m,C⟩:=r.two'
  split at f
  ·
   rename_i xs ys u n
   obtain⟨us,s,E⟩:=d.sqL (.inl u)
   obtain⟨o,D,F⟩:=d.sqL (.inl n)
   exact⟨a,b,by rw[m.ref,C.ref],⟨_,s⟩,⟨_,D⟩,k _ _ _ e c z d yp f⟩
  ·
   exact f.elim
theorem Hq (d:TA3) {Z:St3}{H:Hp3}{R:List T->(Hp3->Prop)->Hp3->Prop}:Ca d Z H R=d Z H fun vs c=>match vs with
 |[.ref a,.ref b]=>zlO (c a) (c b) a b c R
 |_=>False:=rfl
theorem J9 (xs ys:List T) (a b:Addr) (H:Hp3) (R:List T->(Hp3->Prop)->Hp3->Prop):zlO (some (.lst xs)) (some (.lst ys)) a b H R=R (eN xs ys) (fun c=>aX a xs c/\aX b ys c) H:=rfl
end
open L2 PySem.W
section
variable {O:KeyOrd}{key:Nat->O.α}{n:Nat}
def Kw (O:KeyOrd) (key:Nat->O.α) (n:Nat) {b:Type}:KasT b->(b->Prop)->Prop
 |.ret a,Q=>Q a
 |.ask i j k,Q=>i<n/\j<n/\Kw O key n (k (O.blt (key i) (key j))) Q
theorem Kw.mono {b:Type}{Q d:b->Prop}(c:∀a,Q a->d a):∀{t:KasT b},Kw O key n t Q->Kw O key n t d
 |.ret a,h=>c a h
 |.ask i j k,h=>⟨h.1,h.2.1,Kw.mono c h.2.2⟩
theorem Kw.bind {c b:Type}{f:c->KasT b}{Q:b->Prop}:∀{t:KasT c},Kw O key n t (fun a=>Kw O key n (f a) Q)->Kw O key n (t.bind f) Q
 |.ret a,h=>h
 |.ask i j k,h=>⟨h.1,h.2.1,Kw.bind h.2.2⟩
theorem Kw.wp {c:Type}{b:Nat->Nat->(Bool->Shared->Prop)->Shared->Prop}{s:Shared}(e:∀i j (C:Bool->Shared->Prop),i<n->j<n->C (O.blt (key i) (key j)) s->b i j C s) {Q:c->Prop}{R:c->Shared->Prop}(d:∀a,Q a->R a s) :
  ∀{t:KasT c},Kw O key n t Q->t.kasWp b R s
 |.ret a,h=>d a h
 |.ask i j k,h=>e i j _ h.1 h.2.1 (Kw.wp e d h.2.2)
structure Pm (n:Nat) (p:Array Nat):Prop where
 pm:p.toList.Perm (List.range n)
 n1:1<=n
theorem Pm.sz {p:Array Nat}(h:Pm n p):p.size=n:=by
 have:=h.pm.length_eq;rw[K_] at this;simpa using this
theorem Pm.lt {p:Array Nat}(h:Pm n p) (i:Nat):p.getD i 0<n:=by
 rw[YZ];by_cases a:i<p.size
 ·rw[Zy a];exact X7.mp (h.pm.mem_iff.mp (by simp))
 rw[Array.getElem?_eq_none (by omega)];exact h.n1
theorem Pm.by {p q:Array Nat}(h:Pm n p) (e:q.Perm p):Pm n q:=⟨(Array.perm_iff_toList_perm.mp e).trans h.pm,h.n1⟩
def Ky (O:KeyOrd) (key:Nat->O.α) (p:Array Nat) (i:Nat):O.α:=key (p.getD i 0)
def Up (O:KeyOrd) (key:Nat->O.α) (p:Array Nat) (k:Nat):Prop:=∀i j,i<=j->j<k->O.kle (Ky O key p i) (Ky O key p j)
def Dn (O:KeyOrd) (key:Nat->O.α) (p:Array Nat) (k:Nat):Prop:=∀i j,i<=j->j<k->O.kle (Ky O key p j) (Ky O key p i)
theorem Ky.congr {p q:Array Nat}{i j:Nat}(h:p[i]?=q[j]?):Ky O key p i=Ky O key q j:=by unfold Ky;rw[YZ,YZ,h]
theorem Ky.mir {p:Array Nat}{i j:Nat}(a:j<=p.size) (k:Nat):Ky O key (kas_rev p i j) k=if i<=k/\k<j then Ky O key p (i+j - 1 - k) else Ky O key p k:=by
 have e:=getElem?_mirror_all (i:=i) a k;split at e <;> rename_i h
 ·rw[if_pos h];exact Ky.congr e
 rw[if_neg h];exact Ky.congr e
theorem Ky.mirEq {p:Array Nat}{i j:Nat}(b:j<=p.size) (a:∀k,i<=k->k<j->Ky O key p k=Ky O key p (j - 1)) (k:Nat):Ky O key (kas_rev p i j) k=Ky O key p k:=by
 rw[Ky.mir b];split
 ·rw[a _ (by omega) (by omega),a k (by omega) (by omega)]
 rfl
theorem Ky.bub {p:Array Nat}{s d:Nat}(f:s<p.size) (c:d<=s) (k:Nat):Ky O key (bubble p s d) k=if k=s - d then Ky O key p s else if s - d<k/\k<=s then Ky O key p (k - 1) else Ky O key p k:=by
 have e:=getElem?_bubble f d c k;by_cases a:k=s - d
 ·rw[if_pos a] at e ⊢;exact Ky.congr e
 rw[if_neg a] at e ⊢;by_cases b:s - d<k/\k<=s
 ·rw[if_pos b] at e ⊢;exact Ky.congr e
 rw[if_neg b] at e ⊢;exact Ky.congr e
theorem Pm.rev {p:Array Nat}(h:Pm n p) (i j:Nat):Pm n (kas_rev p i j):=h.by (mirror_perm _ _ _ _)
theorem Up.one {p:Array Nat}:Up O key p 1:=fun i j a b=>by
 obtain rfl:i=j:=by omega
 exact Zd _
theorem Up.more {p:Array Nat}{k:Nat}(f:1<=k) (h:Up O key p k) (e:O.kle (Ky O key p (k - 1)) (Ky O key p k)):Up O key p (k+1):=fun i j c d=>by
 by_cases b:j<k
 ·exact h i j c b
 obtain rfl:j=k:=by omega
 by_cases a:i=j
 ·subst a;exact Zd _
 exact KeyOrd.kle_trans (h i (j - 1) (by omega) (by omega)) e
theorem Dn.more {p:Array Nat}{k:Nat}(f:1<=k) (h:Dn O key p k) (e:O.kle (Ky O key p k) (Ky O key p (k - 1))):Dn O key p (k+1):=fun i j c d=>by
 by_cases b:j<k
 ·exact h i j c b
 obtain rfl:j=k:=by omega
 by_cases a:i=j
 ·subst a;exact Zd _
 exact KeyOrd.kle_trans e (h i (j - 1) (by omega) (by omega))
theorem uL {p:Array Nat}{Q:Nat->Prop}(b:Pm n p):∀(f a:Nat),1<=a->Up O key p a->(∀m,a<=m->m<=a+f->Up O key p m->m=a+f\/O.klt (Ky O key p m) (Ky O key p (m - 1))->Q m)->Kw O key n (kas_asc p f a) Q
 |0,a,_,h,k=>k a (o_ _) (o_ _) h (.inl rfl)
 |f+1,a,ha,h,k=>by
  refine⟨b.lt _,b.lt _,?_⟩
  cases e:O.blt (key (p.getD a 0)) (key (p.getD (a - 1) 0)) with
  |true=>exact k a (o_ _) (by omega) h (.inr e)
  |false=>exact uL b f (a+1) (by omega) (h.more ha e) fun m i g d c=>k m (by omega) (by omega) d (c.imp (fun q=>by omega) id)
theorem jX {Q:Array Nat × Nat × Nat->Prop}:∀(f:Nat) (p:Array Nat) (a q:Nat),Pm n p->1<=a->a+f<=n->Dn O key p a->q+1<=a->(∀i,a - (q+1)<=i->i<a->Ky O key p i=Ky O key p (a - 1)) ->
  (∀b m r,Pm n b->a<=m->m<=a+f->Dn O key b m->r+1<=m->(∀i,m - (r+1)<=i->i<m->Ky O key b i=Ky O key b (m - 1))->Q (b,m,r))->Kw O key n (kas_desc f p a q) Q
 |0,p,a,q,hp,_,_,h,hq,he,k=>k p a q hp (o_ _) (o_ _) h hq he
 |f+1,p,a,q,hp,ha,hn,h,hq,he,k=>by
  refine⟨hp.lt _,hp.lt _,?_⟩
  cases e:O.blt (key (p.getD a 0)) (key (p.getD (a - 1) 0)) with
  |true =>
   have B:a<=p.size:=by rw[hp.sz];omega
   have o:∀b:Array Nat,∀i,a+1 - (0+1)<=i->i<a+1->Ky O key b i=Ky O key b (a+1 - 1):=fun b i v u=>by rw[show i=a+1 - 1 by omega]
   dsimp only
   rw[if_pos rfl]
   by_cases s:q>0
   ·
    rw[if_pos s]
    have t:=Ky.mirEq (O:=O) (key:=key) (i:=a - (q+1)) B he
    refine jX f _ (a+1) 0 (hp.rev _ _) (by omega) (by omega) (Dn.more ha (fun i j v u=>by rw[t,t];exact h i j v u) (by rw[t,t];exact aaa e)) (by omega) (o _) fun b m r g y w c d l=>k b m r g (by omega) (by omega) c d l
   ·
    rw[if_neg s]
    exact jX f p (a+1) 0 hp (by omega) (by omega) (h.more ha (aaa e)) (by omega) (o _) fun b m r g y w c d l=>k b m r g (by omega) (by omega) c d l
  |false =>
   dsimp only
   rw[if_neg t_]
   refine⟨hp.lt _,hp.lt _,?_⟩
   cases A:O.blt (key (p.getD (a - 1) 0)) (key (p.getD a 0)) with
   |true=>exact k p a q hp (o_ _) (by omega) h hq he
   |false =>
    dsimp only
    rw[if_neg t_]
    have x:Ky O key p a=Ky O key p (a - 1):=KeyOrd.kle_antisymm A e
    refine jX f p (a+1) (q+1) hp (by omega) (by omega) (h.more ha (by rw[x];exact Zd _)) (by omega) (fun i v u=>?_) fun b m r g y w c d l=>k b m r g (by omega) (by omega) c d l
    rw[show a+1 - 1=a by omega]
    by_cases z:i=a
    ·
     rw[z]
    ·
     rw[x];exact he i (by omega) (by omega)
theorem wL {p:Array Nat}{a:Nat}{Q:Nat × Array Nat->Prop}(b:Pm n p) (f:1<=a) (d:a<=n) (h:Dn O key p a) (k:∀m p',Pm n p'->1<=m->m<=n->Up O key p' m->Q (m,p')):Kw O key n (kas_tail3 a n p) Q:=by
 refine Kw.bind (uL (b.rev 0 a) _ a f (fun i j g e=>?_) fun m g e l _=>k m _ (b.rev 0 a) (by omega) (by omega) l);have c:a<=p.size:=by rw[b.sz];exact d
 rw[Ky.mir c,Ky.mir c,if_pos (by omega),if_pos (by omega)];exact h _ _ (by omega) (by omega)
theorem jG {p:Array Nat}{a:Nat}{Q:Nat × Array Nat->Prop}(o:Pm n p) (t:a+1<=n) (h:Dn O key p (a+1)) (k:∀m b,Pm n b->1<=m->m<=n->Up O key b m->Q (m,b)):Kw O key n (kas_descPart a n p) Q:=by
 refine Kw.bind (jX _ p (a+1) 0 o (by omega) (by omega) h (by omega) (fun i g d=>by rw[show i=a+1 - 1 by omega]) fun b m r c w v e u q=>?_);dsimp only;have s:m<=b.size:=by rw[c.sz];omega
 by_cases f:r>0
 ·rw[if_pos f];have l:=Ky.mirEq (O:=O) (key:=key) (i:=m - (r+1)) s q;exact wL (c.rev _ _) (by omega) (by omega) (fun i j g d=>by rw[l,l];exact e i j g d) k
 rw[if_neg f];exact wL c (by omega) (by omega) e k
theorem Cd {p:Array Nat}{Q:Nat × Array Nat->Prop}(a:Pm n p) (k:∀m p',Pm n p'->1<=m->m<=n->Up O key p' m->Q (m,p')):Kw O key n (kas_count n p) Q:=by
 have u:=a.n1;refine Kw.bind (uL a _ 1 (o_ _) Up.one fun m g v f r=>?_);by_cases l:m=n
 ·rw[if_pos (by simpa using l)];exact k m p a g (by omega) f
 rw[if_neg (by simpa using l)];have c:O.klt (Ky O key p m) (Ky O key p (m - 1)):=r.resolve_left (by omega);by_cases h:m>1
 ·rw[if_pos h];refine⟨a.lt _,a.lt _,?_⟩;cases e:O.blt (key (p.getD 0 0)) (key (p.getD (m - 1) 0)) with
  |true=>exact k m p a g (by omega) f
  |false =>
  dsimp only;rw[if_neg t_];have t:m<=p.size:=by rw[a.sz];omega
  have b:∀i,0<=i->i<m->Ky O key p i=Ky O key p (m - 1):=fun i _ q=>KeyOrd.kle_antisymm (f i (m - 1) (by omega) (by omega)) (KeyOrd.kle_trans e (f 0 i (by omega) q));have d:=Ky.mirEq (O:=O) (key:=key) (i:=0) t b;refine jG (a.rev _ _) (by omega) (Dn.more g (fun i j s o=>?_) ?_) k
  ·rw[d,d,b i (by omega) (by omega),b j (by omega) (by omega)];exact Zd _
  rw[d,d];exact aaa c
 rw[if_neg h];obtain rfl:m=1:=by omega
 refine jG a (by omega) (Dn.more (o_ _) (fun i j s o=>?_) (aaa c)) k;obtain rfl:i=j:=by omega
 exact Zd _
theorem lw {p:Array Nat}{k:Nat}{Q:Nat->Prop}(a:Pm n p):∀(f l r:Nat),l<=r->r<=k->r - l<=f->(∀i,i<l->O.kle (Ky O key p i) (Ky O key p k))->(∀i,r<=i->i<k->O.klt (Ky O key p k) (Ky O key p i))->Up O key p k ->
  (∀l,l<=k->(∀i,i<l->O.kle (Ky O key p i) (Ky O key p k))->(∀i,l<=i->i<k->O.klt (Ky O key p k) (Ky O key p i))->Q l)->Kw O key n (kas_place p k f l r) Q
 |0,l,r,h1,h2,h3,lo,hi,_,q=>by
  obtain rfl:l=r:=by omega
  exact q l h2 lo hi
 |f+1,l,r,h1,h2,h3,lo,hi,hu,q=>by
  unfold kas_place
  by_cases h:l ≥ r
  ·
   obtain rfl:l=r:=by omega
   rw[if_pos h]
   exact q l h2 lo hi
  ·
   rw[if_neg h]
   refine⟨a.lt _,a.lt _,?_⟩
   cases e:O.blt (key (p.getD k 0)) (key (p.getD ((l+r) / 2) 0)) with
   |true=>exact lw a f l ((l+r) / 2) (by omega) (by omega) (by omega) lo (fun i b c=>KeyOrd.klt_of_klt_of_kle e (hu _ i b c)) hu q
   |false=>exact lw a f ((l+r) / 2+1) r (by omega) h2 (by omega) (fun i b=>KeyOrd.kle_trans (hu i ((l+r) / 2) (by omega) (by omega)) e) hi hu q
theorem Ce {Q:Array Nat->Prop}:∀(f:Nat) (p:Array Nat) (k:Nat),Pm n p->k+f=n->Up O key p k->(∀b,Pm n b->Up O key b n->Q b)->Kw O key n (kas_bin f p k) Q
 |0,p,k,hp,e,h,q=>by
  obtain rfl:k=n:=by omega
  exact q p hp h
 |f+1,p,k,hp,e,h,q=>by
  have g:k<p.size:=by rw[hp.sz];omega
  refine Kw.bind (lw hp k 0 k (X3 _) (o_ _) (by omega) (fun _ z=>absurd z (Nat.not_lt_zero _)) (fun _ v s=>absurd s (by omega)) h fun l w r o=>?_)
  refine Ce f _ (k+1) (hp.by (bubble_perm _ _ _)) (by omega) (fun i j t u=>?_) q
  rw[Ky.bub g (by omega),Ky.bub g (by omega),show k - (k - l)=l by omega]
  by_cases c:i=l
  ·
   rw[if_pos c]
   by_cases a:j=l
   ·
    rw[if_pos a];exact Zd _
   ·
    rw[if_neg a,if_pos (by omega)];exact aaa (o _ (by omega) (by omega))
  ·
   rw[if_neg c]
   by_cases m:l<i/\i<=k
   ·
    rw[if_pos m,if_neg (by omega),if_pos (by omega)];exact h _ _ (by omega) (by omega)
   ·
    rw[if_neg m]
    by_cases a:j=l
    ·
     rw[if_pos a];exact r i (by omega)
    ·
     rw[if_neg a]
     by_cases d:l<j/\j<=k
     ·
      rw[if_pos d];exact h _ _ (by omega) (by omega)
     ·
      rw[if_neg d];exact h _ _ t (by omega)
theorem Hr (e:1<=n):Kw O key n (kas_sort n) fun p=>Pm n p/\Up O key p n:=by
 have f:Pm n (List.toArray (List.range n)):=⟨.refl _,e⟩;refine Kw.bind (Cd f fun m p c i g d=>?_);dsimp only;by_cases h:m<n
 ·rw[if_pos h,show max m 1=m by omega];exact Ce _ p m c (by omega) d fun j a b=>⟨a,b⟩
 rw[if_neg h];obtain rfl:m=n:=by omega
 exact⟨c,d⟩
variable {A:Around}{s:Shared}
variable {X:Cx}{pins:List (Addr × Obj)}{Z:L2.St}{H:Hp}
variable {P:Program}{w:World}{R:Result->Shared->Prop}{I S:Addr}{fp wr:List Addr}{V:Nat->Value->Prop}{St:Nat->Heap->Prop}{bt:Nat->Nat->Bool}{s0:Shared}
def Kpt (h h':Heap):Prop:=∀b o,h.get? b=some o->h'.get? b=some o
end
theorem yq:bootBuiltins "sorted"=some (.builtin "sorted"):=by decide +kernel
def Srt (O:KeyOrd) (key:Nat->O.α) (n:Nat) (ps:List Nat):Prop:=ps.Perm (List.range n)/\∀i j,i<=j->j<n->O.kle (key (ps.getD i 0)) (key (ps.getD j 0))
theorem Srt.of {O:KeyOrd}{key:Nat->O.α}{n:Nat}{p:Array Nat}(h:Pm n p) (u:Up O key p n):Srt O key n p.toList:=⟨h.pm,fun i j a b=>by
 have:=u i j a b;unfold Ky at this;rw[YZ,YZ] at this;rw[q_,q_,Array.getElem?_toList,Array.getElem?_toList];exact this⟩
section
variable {P:Program}{w:World}{A:Around}{E:Value->Shared->Prop}{s:Shared}{O:KeyOrd}{key:Nat->O.α}
theorem uM {a:Addr}{vs:List Value}{c:Nat}{R:PySem.Fin->Shared->Prop}(l:s.heap.get? a=some (seqObj "list" vs.toArray c)) (q:vs.length<64)
  (F:2<=vs.length->∀h',(∀b o,b≠a->s.heap.get? b=some o->h'.get? b=some o)->wpAny (model P w) A (keyKind' vs.toArray) (fun y s'=>s'={ s with heap:=h'}/\∀i j (C:Bool->Shared->Prop),i<vs.length->j<vs.length->C (O.blt (key i) (key j)) { s with heap:=h'}->kas_ask P w A y vs i j C { s with heap:=h'}) (fun _ _=>False) { s with heap:=h'})
  (h:∀ps,Srt O key vs.length ps->R (.done (.ret .none)) { s with heap:=sortedHeap s.heap a vs (ps.map fun i=>vs.getD i Value.none).toArray}):wpAny (model P w) A (Builtin.«list.sort» ⟨[.ref a],[]⟩) R E s:=by
 have S:a<s.heap.objs.size:=x_ l;have B:vs.length<=sizeLine:=by rw[aaA];omega
 rw[list_sort_plain];refine a_ (listItems_at l rfl ?_);refine a_ (listUpdate_at l rfl ?_ (by rw[l_];omega) (X3 _));obtain⟨r,k⟩:∃r,(s.heap.update a (Obj.mapSeq fun _=>(#[]:Array Value))).get? a=some (seqObj "list" #[] r):=⟨_,get?_update_seq l fun _=>#[]⟩;refine a_ (seqEpoch_at k rfl ?_);refine a_ (wpAny_newTuple ?_ B);refine a_ (wpAny_newList ?_ (X3 _));refine YS ?_;have f:(((s.heap.update a (Obj.mapSeq fun _=>(#[]:Array Value))).push (seqObj "tuple" vs.toArray 0)).push (seqObj "list" #[] 0)).get? a=some (seqObj "list" #[] r):=b_ _ (b_ _ k);show wpAny (model P w) A _ R E { s with heap:=((s.heap.update a (Obj.mapSeq fun _=>(#[]:Array Value))).push (seqObj "tuple" vs.toArray 0)).push (seqObj "list" #[] 0)};dsimp only;by_cases g:vs.toArray.size<2
 ·rw[if_pos g,if_pos g];refine a_ (i_ ?_);rw[StateT.run_pure];refine a_ (i_ ?_);dsimp only;rw[l_] at g;refine a_ (seqEpoch_at f rfl ?_);have e:((vs.toArray.zip vs.toArray).map (·.2))=((List.range vs.length).map fun i=>vs.getD i Value.none).toArray:=by
   match vs,g with
   |[],_=>simp
   |[v],_=>simp [List.range_succ]
  show wpAny (model P w) A (Builtin.List.listUpdate (.ref a) (fun _=>(vs.toArray.zip vs.toArray).map (·.2)) >>= _) R E _;rw[e];refine a_ (listUpdate_at f rfl ?_ (X3 _) (by rw[l_,e_,K_];omega));simp only[bne_self_eq_false,A_,X8];refine i_ (h (List.range vs.length) ⟨.refl _,fun i j T V=>?_⟩);obtain rfl:i=j:=by omega
  exact Zd _
 rw[if_neg g,if_neg g];rw[l_] at g;refine a_ (Y5 (F (by omega) _ fun b o D e=>b_ _ (b_ _ ((ZK _ _ _ _ D).trans e))) (fun y s' z=>?_) fun _ _ x=>x.elim);obtain⟨rfl,H⟩:=z;have K:=Hr (O:=O) (key:=key) (n:=vs.length) (by omega);refine a_ (Y5 (kat_run (G:=fun p s'=>(Pm vs.length p/\Up O key p vs.length)/\s'={ s with heap:=((s.heap.update a (Obj.mapSeq fun _=>(#[]:Array Value))).push (seqObj "tuple" vs.toArray 0)).push (seqObj "list" #[] 0)}) (Q:=fun d s'=>∃p:Array Nat,arrOf d=p.map (kas_item (vs.toArray.zip vs.toArray))/\failedOf d=none/\(Pm vs.length p/\Up O key p vs.length)/\s'={ s with heap:=((s.heap.update a (Obj.mapSeq fun _=>(#[]:Array Value))).push (seqObj "tuple" vs.toArray 0)).push (seqObj "list" #[] 0)}) rfl (by omega) q (fun L d s' U J N u=>⟨L,J,N,u.1,u.2⟩) (K.wp H fun p m=>⟨m,rfl⟩)) ?_ fun _ _ e=>e);rintro⟨⟨⟩,d⟩ s' ⟨p,t,I,⟨m,M⟩,rfl⟩;dsimp only;rw[kat_snds rfl t];refine a_ (seqEpoch_at f rfl ?_);refine a_ (listUpdate_at f rfl ?_ (X3 _) (by rw[l_,e_,m.pm.length_eq,K_];omega));rw[I];simp only[bne_self_eq_false,A_,X8];exact i_ (h _ (.of m M))
theorem uN {h:Heap}{vs:List Value}{out:Array Value}:Kpt h (sortedAll h vs out)/\∃c,(sortedAll h vs out).get? (h.objs.size+1)=some (seqObj "list" out c):=by
 have f:((h.push (seqObj "list" #[] 0)).update h.objs.size (Obj.mapSeq (·++vs.toArray))).objs.size=h.objs.size+1:=by rw[Heap.size_update,size_push']
 have d:(((h.push (seqObj "list" #[] 0)).update h.objs.size (Obj.mapSeq (·++vs.toArray))).push (seqObj "list" vs.toArray 0)).get? (h.objs.size+1)=some (seqObj "list" vs.toArray 0):=by rw[<- f];exact v_ _ rfl
 refine⟨fun b o e=>?_,?_⟩
 ·have a:b<h.objs.size:=x_ e;unfold sortedAll sortedHeap;rw[ZK _ _ _ _ (F_ (YQ a))];refine b_ _ (b_ _ ?_);rw[ZK _ _ _ _ (F_ (YQ a))];refine b_ _ ?_;rw[ZK _ _ _ _ (F_ a)];exact b_ _ e
 unfold sortedAll sortedHeap;exact⟨_,get?_update_seq (b_ _ (b_ _ (get?_update_seq d fun _=>#[]))) fun _=>out⟩
theorem rG {l:Addr}{vs:List Value}{Q:List Value->Shared->Prop}(e:s.heap.IsTuple l vs.toArray) (f:vs.length<=sizeLine)
  (h:Q vs { s with heap:=(s.heap.push (seqObj "list" #[] 0)).update s.heap.objs.size (Obj.mapSeq (·++vs.toArray))}):wpAny (model P w) A (collect (.ref l)) Q E s:=by
 obtain⟨o,b,d,n,c⟩:=id e;unfold collect;refine a_ (wpAny_runValue (codeAny_builtin entry_proto_collect' ?_));refine a_ (m:=newList []) (wpAny_newList (i_ ⟨Code.quiet_builtin _ (by decide +kernel),codeAny_builtin entry_list_iadd' ?_⟩));show wpAny _ _ (Builtin.List.listExtendWith (.ref s.heap.objs.size) (.ref l) (.ref s.heap.objs.size)) _ _ { s with heap:=s.heap.push (seqObj "list" #[] 0)};unfold Builtin.List.listExtendWith;have a:(s.heap.push (seqObj "list" #[] 0)).get? l=some o:=b_ _ b;refine a_ (aaf (T:="tuple") ⟨o,a,d⟩ ?_);rw[if_pos (by rw[show (Value.type "tuple"==Value.type "tuple")=true from rfl,Bool.or_true])];refine a_ (listItems_at a c (a_ (listItems_at (xs:=#[]) (n:=0) (v_ _ rfl) rfl ?_)));rw[if_neg (by simp)];refine a_ (listUpdate_at (xs:=#[]) (n:=0) (v_ _ rfl) rfl ?_ (X3 _) (by show (#[]++vs.toArray).size<=sizeLine+1;simp only[Array.size_append,l_,Yg];omega));refine i_ ?_;refine a_ (m:=load s.heap.objs.size) (wpAny_load (get?_update_seq (v_ _ rfl) _) ?_);show wpAny _ _ (pure ((#[]:Array Value)++vs.toArray).toList) Q E _;rw[show ((#[]:Array Value)++vs.toArray).toList=vs by simp];exact i_ h
theorem rH {l:Addr}{vs:List Value}{Q:List Value->Shared->Prop}(a:s.heap.IsList l vs.toArray\/s.heap.IsTuple l vs.toArray) (b:vs.length<=sizeLine)
  (h:Q vs { s with heap:=(s.heap.push (seqObj "list" #[] 0)).update s.heap.objs.size (Obj.mapSeq (·++vs.toArray))}):wpAny (model P w) A (collect (.ref l)) Q E s:=by
 rcases a with a | a
 ·exact collect_list a h b
 exact rG a b h
theorem sortedK {l:Addr}{vs:List Value}{Q:Value->Shared->Prop}(r:s.heap.IsList l vs.toArray\/s.heap.IsTuple l vs.toArray) (d:vs.length<64)
  (p:2<=vs.length->∀h',Kpt s.heap h'->wpAny (model P w) A.in1.in1 (keyKind' vs.toArray) (fun κ s'=>s'={ s with heap:=h'}/\∀i j (C:Bool->Shared->Prop),i<vs.length->j<vs.length->C (O.blt (key i) (key j)) { s with heap:=h'}->kas_ask P w A.in1.in1 κ vs i j C { s with heap:=h'}) (fun _ _=>False) { s with heap:=h'})
  (h:∀ps h' c,Srt O key vs.length ps->Kpt s.heap h'->h'.get? (s.heap.objs.size+1)=some (seqObj "list" (ps.map fun i=>vs.getD i Value.none).toArray c)->Q (.ref (s.heap.objs.size+1)) { s with heap:=h'}):wpAny (model P w) A (call (.builtin "sorted") [.ref l]) Q E s:=by
 refine Calls.call_function_entry kind_sorted plain_sorted entry_sorted (args_sorted1 _) ?_;unfold Builtin.«sorted»;refine a_ (m:=checkCount "sorted" 1 1 _) (i_ ?_);refine a_ (rH r (by rw[aaA];omega) ?_);refine a_ (wpAny_newList ?_ (by rw[aaA];omega));have g:((s.heap.push (seqObj "list" #[] 0)).update s.heap.objs.size (Obj.mapSeq (·++vs.toArray))).objs.size=s.heap.objs.size+1:=by rw[Heap.size_update,size_push']
 have a:(((s.heap.push (seqObj "list" #[] 0)).update s.heap.objs.size (Obj.mapSeq (·++vs.toArray))).push (seqObj "list" vs.toArray 0)).get? (s.heap.objs.size+1)=some (seqObj "list" vs.toArray 0):=by rw[<- g];exact v_ _ rfl
 show wpAny _ _ _ _ _ { s with heap:=((s.heap.push (seqObj "list" #[] 0)).update s.heap.objs.size (Obj.mapSeq (·++vs.toArray))).push (seqObj "list" vs.toArray 0)};rw[g];refine a_ (YS (YG slot_list_sort ⟨_,a,rfl⟩ entry_list_sort (uM (O:=O) (key:=key) a d (fun k h' f=>p k h' fun b o e=>f b o ?_ ?_) fun ps n=>⟨_,rfl,?_⟩) (args_list_sort _)))
 ·exact F_ (YQ (x_ e))
 ·have t:b<s.heap.objs.size:=x_ e;refine b_ _ ?_;rw[ZK _ _ _ _ (F_ t)];exact b_ _ e
 obtain⟨f,c,q⟩:=uN (h:=s.heap) (vs:=vs) (out:=(ps.map fun i=>vs.getD i Value.none).toArray);exact i_ ⟨_,rfl,h ps _ c n f q⟩
end
open L2 PySem.W M
section
variable {X:Cx}{pins:List (Addr × Obj)}{Z:L2.St}{H:Hp}{s:Shared}
end
section
variable (O:KeyOrd)
def eO:List O.α->List O.α->Bool
 |[],[]=>false
 |[],_::_=>true
 |_::_,[]=>false
 |x::xs,y::ys=>O.blt x y||(!O.blt y x&&eO xs ys)
variable {O}
theorem nA:∀a:List O.α,eO O a a=false
 |[]=>rfl
 |x::xs=>by unfold eO;rw[O.irrefl,nA xs];rfl
theorem jH:∀a b c:List O.α,eO O a b=true->eO O b c=true->eO O a c=true
 |[],[],_,h,_=>by cases h
 |[],_::_,[],_,h=>by cases h
 |[],_::_,_::_,_,_=>rfl
 |_::_,[],_,h,_=>by cases h
 |_::_,_::_,[],_,h=>by cases h
 |x::xs,y::ys,z::zs,d,f=>by
  unfold eO at d f ⊢
  simp only[Bool.or_eq_true,X_,aab] at d f ⊢
  rcases d with d | ⟨d,g⟩ <;> rcases f with f | ⟨f,i⟩
  ·
   exact .inl (O.trans _ _ _ d f)
  ·
   rcases O.negTrans _ z _ d with q | q
   ·
    exact .inl q
   ·
    rw[f] at q;cases q
  ·
   rcases O.negTrans _ x _ f with q | q
   ·
    rw[d] at q;cases q
   ·
    exact .inl q
  ·
   refine .inr ⟨?_,jH xs ys zs g i⟩
   cases e:O.blt z x with
   |false=>rfl
   |true =>
    rcases O.negTrans _ y _ e with q | q
    ·
     rw[f] at q;cases q
    ·
     rw[d] at q;cases q
theorem nF:∀a b c:List O.α,eO O a c=true->eO O a b=true\/eO O b c=true
 |[],_,[],h=>by cases h
 |[],[],_::_,_=>.inr rfl
 |[],_::_,_::_,_=>.inl rfl
 |_::_,_,[],h=>by cases h
 |_::_,[],_::_,_=>.inr rfl
 |x::xs,y::ys,z::zs,h=>by
  unfold eO at h ⊢
  simp only[Bool.or_eq_true,X_,aab] at h ⊢
  rcases h with h | ⟨h,r⟩
  ·
   rcases O.negTrans _ y _ h with q | q
   ·
    exact .inl (.inl q)
   ·
    exact .inr (.inl q)
  ·
   cases e:O.blt x y with
   |true=>exact .inl (.inl rfl)
   |false =>
    cases d:O.blt y z with
    |true=>exact .inr (.inl rfl)
    |false =>
     cases f:O.blt y x with
     |true =>
      rcases O.negTrans _ z _ f with q | q
      ·
       rw[d] at q;cases q
      ·
       rw[h] at q;cases q
     |false =>
      cases g:O.blt z y with
      |true =>
       rcases O.negTrans _ x _ g with q | q
       ·
        rw[h] at q;cases q
       ·
        rw[e] at q;cases q
      |false =>
       rcases nF xs ys zs r with q | q
       ·
        exact .inl (.inr ⟨rfl,q⟩)
       ·
        exact .inr (.inr ⟨rfl,q⟩)
theorem nG:∀a b:List O.α,eO O a b=false->eO O b a=false->a=b
 |[],[],_,_=>rfl
 |[],_::_,h,_=>by cases h
 |_::_,[],_,h=>by cases h
 |x::xs,y::ys,h1,h2=>by
  unfold eO at h1 h2
  simp only[Bool.or_eq_false_iff,Bool.and_eq_false_iff,Bool.not_eq_false'] at h1 h2
  have e:=O.total x y h1.1 h2.1
  rcases h1.2 with q | q
  ·
   rw[h2.1] at q;cases q
  ·
   rcases h2.2 with r | r
   ·
    rw[h1.1] at r;cases r
   ·
    rw[e,nG xs ys q r]
@[reducible] def Cg (O:KeyOrd):KeyOrd:=⟨List O.α,eO O,nA,jH,nF,nG⟩
end
@[reducible] def strOrd:KeyOrd:=strKind.toKeyOrd
def Pz (x:Str):strOrd.α:=x.cps.toList
def rKey (xs:List Str):(Cg strOrd).α:=xs.map Pz
section
variable {X:Cx}{pins:List (Addr × Obj)}{Z:L2.St}{H:Hp}{s:Shared}{H3:Hp3}{Q3:VK3}{Q:VK}
end
def leS (x y:Str):Prop:=strOrd.kle (Pz x) (Pz y)
def leR (x y:Addr × List Str):Prop:=(Cg strOrd).kle (rKey x.2) (rKey y.2)
def srS (x:T) (H:Hp3) (Q:VK3):Prop :=
 (∃b:List Str,(x=.tup (b.map T.str)\/∃a,x=.ref a/\H a=some (.lst (b.map T.str)))/\b.length<64/\∀us:List Str,us.Perm b->us.Pairwise leS->∀p,H p=none->Q (.ref p) (up3 H p (.lst (us.map T.str)))) \/
 ∃(a:Addr) (c:List (Addr × List Str)),x=.ref a/\H a=some (.lst (c.map fun z=>T.ref z.1))/\c.length<64/\(∀z∈c,H z.1=some (.lst (z.2.map T.str)))/\∀us:List (Addr × List Str),us.Perm c->us.Pairwise leR->∀p,H p=none->Q (.ref p) (up3 H p (.lst (us.map fun z=>T.ref z.1)))
def PB:List T->Hp3->VK3->Prop:=fun ts H Q=>match ts with
 |[x]=>srS x H Q
 |_=>False
theorem PJ (x:T) (H:Hp3) (Q:VK3):PB [x] H Q=srS x H Q:=rfl
section
variable {X:Cx}
variable {P:Program}{w:World}{A:Around}{E:Value->Shared->Prop}{s:Shared}{O:KeyOrd}{key:Nat->O.α}
variable {pins:List (Addr × Obj)}{Z:L2.St}{H:Hp}{H3:Hp3}{Q3:VK3}{Q:VK}
def sdD (o:Option O3) (H:Hp3) (Q:VK3):Prop:=match o with
 |some (.dct kvs)=>kvs.length<64/\∀us:List Str,us.Perm (kvs.map (·.1))->us.Pairwise leS->∀p,H p=none->Q (.ref p) (up3 H p (.lst (us.map T.str)))
 |_=>False
def PK:List T->Hp3->VK3->Prop:=fun ts H Q=>match ts with
 |[.ref a]=>sdD (H a) H Q
 |_=>False
theorem PL (a:Addr) (H:Hp3) (Q:VK3):PK [.ref a] H Q=sdD (H a) H Q:=rfl
theorem Vw (kvs:List (Str × T)) (H:Hp3) (Q:VK3):sdD (some (.dct kvs)) H Q=(kvs.length<64/\∀us:List Str,us.Perm (kvs.map (·.1))->us.Pairwise leS->∀p,H p=none->Q (.ref p) (up3 H p (.lst (us.map T.str)))):=rfl
end
@[reducible] def trOrd:KeyOrd where
 α:=Int × Int × Int
 blt x y:=decide (x.1<y.1\/(x.1=y.1/\(x.2.1<y.2.1\/(x.2.1=y.2.1/\x.2.2<y.2.2))))
 irrefl a:=by rw[Zb];omega
 trans a b c h1 h2:=by rw[aav] at *;omega
 negTrans a b c h:=by rw[aav] at h;rw[aav,aav];omega
 total a b h1 h2:=by
  rw[Zb] at h1 h2;obtain⟨d,j,e⟩:=a;obtain⟨g,m,l⟩:=b;dsimp only at h1 h2;have k:d=g:=by omega
  have f:j=m:=by omega
  have i:e=l:=by omega
  rw[k,f,i]
def Ht (x y:Int × Int × Int):Prop:=trOrd.kle x y
def trT (p:Int × Int × Int):T:=.tup [.int p.1,.int p.2.1,.int p.2.2]
section
variable {X:Cx}{pins:List (Addr × Obj)}{Z:L2.St}{H:Hp}{s:Shared}
def PP (h:Heap) (p:Int × Int × Int) (v:Value):Prop:=∃a o n t u z,v=.ref a/\h.get? a=some o/\o.cls=.type "tuple"/\o.data=.seq #[.int p.1 t,.int p.2.1 u,.int p.2.2 z] n
theorem uO (I:Inv X pins Z H s) {h':Heap}(y:Kpt s.heap h'):∀{ps:List (Int × Int × Int)}{ys:List V}{d:List Value},Reps X.K H (ps.map trT) ys->Vals ys d ->
  d.length=ps.length/\(∃h,KatTups h' d h/\h.length=d.length/\∀v∈h,∃x t,v=Value.int x t)/\∀(i:Nat) (p:Int × Int × Int),ps[i]?=some p->∃v,d[i]?=some v/\PP h' p v
 |[],_,_,r,f=>by
  rw[r.inv0] at f
  cases f
  exact⟨rfl,⟨[],.nil,rfl,(fun _ z=>nomatch z)⟩,(fun _ _ z=>nomatch z)⟩
 |p::ps,_,_,r,f=>by
  obtain⟨v,r',rfl,q,b⟩:=r.inv
  cases f with
  |cons R f =>
   rename_i u us
   obtain⟨N,⟨h,Q,T,J⟩,F⟩:=uO I y b f
   obtain⟨a,xs,rfl,A,L⟩:=Rep.tup q
   cases R
   obtain⟨m,c,⟨o,P,w,n,l⟩,_⟩:=I.tuple A
   obtain⟨v1,W,rfl,S,O⟩:=L.inv
   obtain⟨Y,r2,rfl,B,M⟩:=O.inv
   obtain⟨v3,r3,rfl,U,C⟩:=M.inv
   rw[C.inv0] at c
   cases S.int
   cases B.int
   cases U.int
   cases c with
   |cons E c =>
   cases c with
   |cons G c =>
   cases c with
   |cons D c =>
   cases c
   obtain⟨t,rfl⟩:=E
   obtain⟨t',rfl⟩:=G
   obtain⟨k,rfl⟩:=D
   have g:=y a o P
   refine⟨by simp [N],⟨.int p.1 t::h,.cons g w l rfl Q,by simp [T],fun z j=>?_⟩,fun i z j=>?_⟩
   ·
    rcases j_.mp j with e | e
    ·
     exact⟨_,_,e⟩
    ·
     exact J z e
   ·
    cases i with
    |zero=>cases j;exact⟨_,rfl,a,o,n,t,t',k,rfl,g,w,l⟩
    |succ i=>exact F i z j
theorem Vx {P:Program}{w:World}{A:Around}{h':Heap}{s':Shared}(e:s'.heap=h') {x y:Int × Int × Int}{u v:Value}(p:PP h' x u) (k:PP h' y v) {C:Bool->Shared->Prop}{E:Value->Shared->Prop}(h:C (trOrd.blt x y) s') :
  wpAny (model P w) A (keyLt' (tuples' true) u v) C E s':=by
 obtain⟨a,o,n,s,F,G,rfl,m,B,j⟩:=p;obtain⟨b,z,t,D,r,q,rfl,c,l,d⟩:=k;subst e;refine kat_lt m j c d ?_;dsimp only[trOrd] at h;refine kat_cons (ZS _ _ _ _ P w _ _ ?_);by_cases g:x.1=y.1
 ·rw[show (x.1==y.1)=true from Zn.mpr g];refine kat_yes (kat_cons (ZS _ _ _ _ P w _ _ ?_));by_cases f:x.2.1=y.2.1
  ·rw[show (x.2.1==y.2.1)=true from Zn.mpr f];refine kat_yes (kat_cons (ZS _ _ _ _ P w _ _ ?_));by_cases i:x.2.2=y.2.2
   ·rw[show (x.2.2==y.2.2)=true from Zn.mpr i];refine kat_yes (kat_nil ?_);rw[u_ (by omega)] at h;exact h
   rw[show (x.2.2==y.2.2)=false from Yi.mpr i];refine kat_no (kat_one _ _ (wpAny_lt_int ?_));rw[show decide (x.1<y.1\/(x.1=y.1/\(x.2.1<y.2.1\/(x.2.1=y.2.1/\x.2.2<y.2.2))))=decide (x.2.2<y.2.2) from ZP.mpr (by omega)] at h;exact h
  rw[show (x.2.1==y.2.1)=false from Yi.mpr f];refine kat_no (kat_one _ _ (wpAny_lt_int ?_));rw[show decide (x.1<y.1\/(x.1=y.1/\(x.2.1<y.2.1\/(x.2.1=y.2.1/\x.2.2<y.2.2))))=decide (x.2.1<y.2.1) from ZP.mpr (by omega)] at h;exact h
 rw[show (x.1==y.1)=false from Yi.mpr g];refine kat_no (oneLt_int ?_);rw[show decide (x.1<y.1\/(x.1=y.1/\(x.2.1<y.2.1\/(x.2.1=y.2.1/\x.2.2<y.2.2))))=decide (x.1<y.1) from ZP.mpr (by omega)] at h;exact h
end
def srT (o:Option O3) (H:Hp3) (Q:VK3):Prop:=match o with
 |some (.lst ts)=>∃ps:List (Int × Int × Int),ts=ps.map trT/\ps.length<64/\∀us:List (Int × Int × Int),us.Perm ps->us.Pairwise Ht->∀p,H p=none->Q (.ref p) (up3 H p (.lst (us.map trT)))
 |_=>False
def Ci:List T->Hp3->VK3->Prop:=fun ts H Q=>match ts with
 |[.ref a]=>srT (H a) H Q
 |_=>False
theorem Cj (a:Addr) (H:Hp3) (Q:VK3):Ci [.ref a] H Q=srT (H a) H Q:=rfl
theorem Vy (ts:List T) (H:Hp3) (Q:VK3):srT (some (.lst ts)) H Q=(∃ps:List (Int × Int × Int),ts=ps.map trT/\ps.length<64/\∀us:List (Int × Int × Int),us.Perm ps->us.Pairwise Ht->∀p,H p=none->Q (.ref p) (up3 H p (.lst (us.map trT)))):=rfl
theorem Hu {X:Cx}:cZ X (.builtin "sorted") Ci:=by
 intro U s Z H xs us Q I rv h;obtain⟨ts,H3,Q3,r,J,h,k⟩:=h;cases ts with
 |nil=>exact h.elim
 |cons t ts =>
 cases ts with
 |cons _ _=>cases t <;> exact h.elim
 |nil =>
 cases t with
 |ref a =>
  rw[Cj] at h;obtain⟨v,rfl,A⟩:=r.one';obtain⟨u,rfl,V⟩:=vals1 rv;rw[A.ref] at V;cases V;cases e:H3 a with
  |none=>rw[e] at h;exact h.elim
  |some o =>
  rw[e] at h;cases o with
  |lst ls =>
   obtain⟨ps,rfl,h64,h⟩:=h;obtain⟨ys,Y,w⟩:=J.sqL (.inl e);obtain⟨E,f,hl,_⟩:=I.list Y;have F:=(uO I (fun _ _ q=>q) w f).1
   let key:Nat->trOrd.α:=fun i=>ps.getD i default
   refine sortedK (O:=trOrd) (key:=key) (.inl hl.isList) (by omega) (fun h2 h' P=>?_) fun q h' c hs P L=>?_
   ·obtain⟨_,⟨fs,kt,hfl,G⟩,n⟩:=uO I P w f;refine kat_kind (T:=.type "int") (s:={ s with heap:=h'}) kt (by omega) (fun v hv=>?_) rfl ⟨rfl,fun i j C b g hC=>?_⟩
    ·obtain⟨x,t,rfl⟩:=G v hv;exact Looks.of_pure rfl
    have gi:ps[i]?=some (ps.getD i default):=by rw[q_,g_ (by omega)];rfl
    have gj:ps[j]?=some (ps.getD j default):=by rw[q_,g_ (by omega)];rfl
    obtain⟨vi,l,p1⟩:=n i _ gi;obtain⟨vj,D,p2⟩:=n j _ gj;unfold kas_ask;rw[q_,q_,l,D];exact Vx rfl p1 p2 hC
   obtain⟨p,R⟩:=hs;have d:∀i∈q,i<ps.length:=fun i b=>by rw[<- F];exact X7.mp (p.mem_iff.mp b)
   have l1:=w.length;rw[e_] at l1;have m:q.length=ps.length:=by rw[p.length_eq,K_,F]
   have hz:sizeLine=16777216:=rfl;have W:Reps X.K H ((q.map fun i=>ps.getD i default).map trT) (q.map fun i=>ys.getD i .non):=by
    clear R p m L;induction q with
    |nil=>exact .nil
    |cons i q S =>
    refine .cons ?_ (S fun j g=>d j (.tail _ g));have b:=d i (.head _);obtain⟨y,l,B⟩:=w.get (i:=i) (t:=trT ps[i]) (by rw[z_,g_ b];rfl);dsimp only;rw[q_,g_ b,q_,l];exact B
   have rz:Vals (q.map fun i=>ys.getD i .non) (q.map fun i=>E.getD i Value.none):=by
    clear R p m W L;induction q with
    |nil=>exact .nil
    |cons i q S =>
    refine .cons ?_ (S fun j g=>d j (.tail _ g));have b:=d i (.head _);obtain⟨z,l,B⟩:=f.get (i:=i) (g_ (show i<ys.length by omega));dsimp only;rw[q_,g_ (show i<ys.length by omega),q_,l];exact B
   have N:H (s.heap.objs.size+1)=none:=I.hok.fresh (Nat.le_succ _);refine⟨.ref (s.heap.objs.size+1),upd H (s.heap.objs.size+1) (.lst (q.map fun i=>ys.getD i .non)),I.laid (t':=s.toks) P (Nat.le_succ _) ⟨by rw[e_];omega,_,c,rz,L⟩,rfl,?_⟩;refine k _ _ _ _ (aL N) (J.newLst N W) .ofRef (h _ ?_ ?_ _ (J.fresh N))
   ·have M:=p.map fun i=>ps.getD i default;rw[F] at M;have D:(List.range ps.length).map (fun i=>ps.getD i default)=ps:=by
     apply Z_;intro i;rw[z_];by_cases b:i<ps.length
     ·rw[Ys b,g_ b];simp [q_,b]
     rw[V_ (by simpa using b),V_ (by omega)];rfl
    rw[D] at M;exact M
   rw[aai];intro i j b g hij;rw[e_] at b g;have:=R i j (by omega) (by omega);rw[q_,g_ b,q_,g_ g] at this;rw[List.getElem_map,List.getElem_map];exact this
  |_=>exact h.elim
 |_=>cases h
abbrev Ck (t:Addr):Obj:={ cls:=.type "list_iterator",data:=.fields #[.ref t,.int 0 0]}
theorem uP (a b:Addr) (xs ys:Array Value) :
  Meets (Builtin.«zip.__new__» ⟨[.type "zip",.ref a,.ref b],[]⟩) (fun _ R s=>s.heap.IsTuple a xs/\s.heap.IsList b ys/\∀j e k i,j=s.heap.push (JR a)->e=j.push (Ck b)->k=e.push { cls:=.type "tuple",data:=.seq #[.ref s.heap.objs.size,.ref j.objs.size]}->i=k.push { cls:=.type "tuple",data:=.seq #[.none,.none]} ->
   R (.ok (.ret (.ref i.objs.size))) { s with heap:=i.push { cls:=.type "zip",data:=.fields #[.none,.bool false,.bool false,.ref e.objs.size,.ref k.objs.size]}}) :=
 .of_wp fun prog w A R s h=>by
  obtain⟨p,g,d,tk,n⟩:=s;obtain⟨l,m,h⟩:=h;have o:=sub_zip;have c:Heap.IsTuple (Shared.heap ⟨p,g,d,tk,n⟩) a xs:=l;have f:Heap.IsList (Shared.heap ⟨p.push { cls:=.type "tuple_iterator",data:=.fields #[.ref a,.int 0 0]},g,d,tk,n⟩) b ys:=Heap.IsList.push m _
  wp_walk using wpAny_pyIter_tuple c,Z5 f
  exact⟨_,rfl,h _ _ _ _ rfl rfl rfl rfl⟩
section
variable {prog:Program}{w:World}{A:Around}{E:Value->Shared->Prop}{s:Shared}
theorem yr {e f:Addr}{xs ys:Array Value}{Q:Value->Shared->Prop}(u:s.heap.IsTuple e xs) (k:s.heap.IsList f ys)
  (h:∀h' i1 i2 ti to z,IsZip h' z ti to .none->IsPair h' ti (.ref i1) (.ref i2)->IsPair h' to .none .none->h'.IsTupleIter i1 e 0->h'.IsListIter i2 f 0 ->
   s.heap.objs.size<=i1->i1<i2->i2<ti->ti<to->to<z->(∀c o,s.heap.get? c=some o->h'.get? c=some o)->Q (.ref z) { s with heap:=h'}) :
  wpAny (model prog w) A (call (.type "zip") [.ref e,.ref f]) Q E s:=by
 refine callType_new F.called_zip (by decide) (F.typeCall_zip_2 _ _) (F.newCall_zip_2 _ _) (fun n=>F.args_object_init_3 n _ _) F.entry_zip_new
  (uP e f xs ys) ⟨u,k,fun a b d g m j r l=>?_⟩
 have p:∀(h:Heap) (o:Obj),h.objs.size<(h.push o).objs.size:=fun h o=>by rw[Zo];exact YF _
 have x:=v_ g (o:={ cls:=.type "zip",data:=.fields #[.none,.bool false,.bool false,.ref b.objs.size,.ref d.objs.size]}) rfl;have D:g.get? d.objs.size=some { cls:=.type "tuple",data:=.seq #[.none,.none]}:=by rw[l];exact v_ _ rfl
 have g3:d.get? b.objs.size=some { cls:=.type "tuple",data:=.seq #[.ref s.heap.objs.size,.ref a.objs.size]}:=by rw[r];exact v_ _ rfl
 have C:b.get? a.objs.size=some (Ck f):=by rw[j];exact v_ _ rfl
 have B:a.get? s.heap.objs.size=some (JR e):=by rw[m];exact v_ _ rfl
 have y:∀c o,s.heap.get? c=some o->a.get? c=some o:=fun c o q=>by rw[m];exact b_ _ q
 have v:∀c o,a.get? c=some o->b.get? c=some o:=fun c o q=>by rw[j];exact b_ _ q
 have t:∀c o,b.get? c=some o->d.get? c=some o:=fun c o q=>by rw[r];exact b_ _ q
 have i:∀c o,d.get? c=some o->g.get? c=some o:=fun c o q=>by rw[l];exact b_ _ q
 refine⟨⟨_,x,rfl⟩,h _ s.heap.objs.size a.objs.size b.objs.size d.objs.size g.objs.size x (b_ _ (i _ _ g3)) (b_ _ D) ⟨_,b_ _ (i _ _ (t _ _ (v _ _ B))),rfl,rfl⟩ ⟨_,b_ _ (i _ _ (t _ _ C)),rfl,rfl⟩
  (o_ _) ?_ ?_ ?_ ?_ fun c o q=>b_ _ (i _ _ (t _ _ (v _ _ (y _ _ q))))⟩
 ·rw[m];exact p _ _
 ·rw[j];exact p _ _
 ·rw[r];exact p _ _
 rw[l];exact p _ _
end
def PQ (K:Frag) (a b:Addr):It :=
 ⟨fun i H=>∃xs ys x y,SqT K H a xs/\SqL K H b ys/\xs[i]?=some x/\ys[i]?=some y,
  fun i H v c=>∃p x y,v=.ref p/\H p=none/\c=upd H p (.tup [x,y])/\(∀xs,SqT K H a xs->xs[i]?=some x)/\∀ys,SqL K H b ys->ys[i]?=some y,
  fun i H=>∃xs ys,SqT K H a xs/\SqL K H b ys/\(xs.length<=i\/ys.length<=i)⟩
def XJ (a b z f c d e:Addr) (i:Nat) (h:Heap):Prop:=IsZip h z f c .none/\IsPair h f (.ref d) (.ref e)/\(∃u v,IsPair h c u v)/\h.IsTupleIter d a i/\h.IsListIter e b i
theorem yt {P:Program}{w:World}{K:Frag}{Y:List Expr}{x1:Nat}{pos:Pos}(a b z r j f g:Addr) (F:a<f/\b<f) (l2:f<g) (l3:g<r) (l4:r<j) (l5:j<z) :
  Turn P w K (.Tuple Y x1 pos) (PQ K a b) [z,r,j,f,g] z (XJ a b z r j f g) where
 mem:=k_
 obj:=fun i h st c d=>by
  obtain⟨t,B,⟨u,v,C⟩,⟨o1,e1,_,S⟩,⟨o2,R,_,d2⟩⟩:=st
  simp only[j_,G_,Ym] at d
  rcases d with rfl | rfl | rfl | rfl | rfl
  ·
   exact⟨_,t,fun v z=>by cases z⟩
  ·
   exact⟨_,B,fun v z=>by cases z⟩
  ·
   exact⟨_,C,fun v z=>by cases z⟩
  ·
   exact⟨_,e1,fun v z=>by rw[S] at z;cases z⟩
  ·
   exact⟨_,R,fun v z=>by rw[d2] at z;cases z⟩
 keep:=fun i h h' st k=>by
  obtain⟨t,B,⟨u,v,C⟩,G,N⟩:=st
  exact⟨k z (by simp) _ t,k r (by simp) _ B,⟨u,v,k j (by simp) _ C⟩,G.at fun o e=>k f (by simp) o e,N.at fun o e=>k g (by simp) o e⟩
 item:=by
  intro X hP hw hK d i l s Z H E I hf st T
  subst hP hw hK
  obtain⟨xs,ys,x,y,qx,qy,ex,ey⟩:=T
  obtain⟨p,rv,p1,hz1⟩:=I.tuple qx
  obtain⟨n,M,J,hz2⟩:=I.list qy
  have p2:=J.isList
  obtain⟨u,hu,ru⟩:=rv.get ex
  obtain⟨v,hv,rv'⟩:=M.get ey
  have t:=st.1
  have B:=st.2.1
  obtain⟨a0,b0,C⟩:=st.2.2.1
  have G:=st.2.2.2.1
  have N:=st.2.2.2.2
  have hu':p.toArray[i]?=some u:=by simpa using hu
  have V:n.toArray[i]?=some v:=by simpa using hv
  have D:ZAp z r j f g [f,a] [g,b]:=zap F l2 l3 l4 l5
  have S:=Aw (prog:=X.prog) (w:=X.w) (A:=X.A.in1) (I.ok.hd d) f a (F_ F.1) p.toArray
  have d2:=Draws.list (prog:=X.prog) (w:=X.w) (A:=X.A.in1) (I.ok.hd d) g b (F_ (X5 F.2 l2)) n.toArray
  refine wB S d2 D t B C ⟨G,p1⟩ ⟨N,p2⟩ (Zt.mp hu').1 (Zt.mp V).1 fun L O h' tk px py hz' hO' s1 s2 hT hsz kp=>?_
  have e1:L=u:=Q_ (px.symm.trans hu')
  have R:O=v:=Q_ (py.symm.trans V)
  subst e1 R
  refine⟨_,rfl,wpAny_letOwnedTupleGo_zip hz' fun h2' U sb=>?_⟩
  have W:∀c o,c∉[z,j,f,g]->s.heap.get? c=some o->h2'.get? c=some o:=fun c o nc e=>(sb.2 c fun q=>nc (q▸k_)).trans (kp c o nc e)
  have m:∀c∈[z,j,f,g],c∈[z,r,j,f,g]:=fun c d=>by simp only[j_,G_,Ym] at d ⊢;rcases d with q | q | q | q <;> simp [q]
  have Q:∀{c o},s.heap.get? c=some o->s.heap.objs.size≠c:=fun e=>Yh (x_ e)
  have lt1:∀{c:Addr},c∈[z,r,j,f,g]->c≠s.heap.objs.size:=fun {c} d=>by
   simp only[j_,G_,Ym] at d
   rcases d with q | q | q | q | q <;> subst q
   ·
    exact Ne.symm (Q t)
   ·
    exact Ne.symm (Q B)
   ·
    exact Ne.symm (Q C)
   ·
    obtain⟨o,e,_⟩:=G;exact Ne.symm (Q e)
   ·
    obtain⟨o,e,_⟩:=N;exact Ne.symm (Q e)
  have hTz:s.heap.objs.size≠z:=Q t
  have I1:Inv X l Z (upd H s.heap.objs.size (.tup [x,y])) { s with heap:=s.heap.push { cls:=.type "tuple",data:=.seq #[L,O]},toks:=tk} :=
   I.laid (t':=tk) (fun b o e=>b_ _ e) (o_ _) (show ObjOk X.prog X.w _ _ _ (.tup [x,y]) from ⟨by show 2<=sizeLine;decide,[L,O],.cons ru (.cons rv' .nil),Tup0.new _ _⟩)
  have I2:Inv X l Z (upd H s.heap.objs.size (.tup [x,y])) { s with heap:=h2',toks:=tk}:=jU (s:={ s with heap:=s.heap.push { cls:=.type "tuple",data:=.seq #[L,O]},toks:=tk}) (ch:=[z,j,f,g]) (t':=tk) I1 (fun c o nc e=>by
   by_cases q:c=s.heap.objs.size
   ·
    subst q
    have e':(s.heap.push { cls:=.type "tuple",data:=.seq #[L,O]}).get? s.heap.objs.size=some o:=e
    rw[v_ _ rfl] at e'
    cases e'
    exact (sb.2 _ hTz).trans hT
   ·
    have e':(s.heap.push { cls:=.type "tuple",data:=.seq #[L,O]}).get? c=some o:=e
    rw[Heap.get?_push_ne _ _ _ q] at e'
    exact W c o nc e') fun c d=>⟨by rw[aV (lt1 (m c d))];exact (hf c (m c d)).1,(hf c (m c d)).2⟩
  refine⟨.ref s.heap.objs.size,_,I2,rfl,⟨s.heap.objs.size,x,y,rfl,I.hok.fresh (o_ _),rfl,fun zs hq=>by rw[I.tuple_inj hq qx];exact ex,fun zs hq=>by rw[I.list_inj hq qy];exact ey⟩,?_,fun c d=>by rw[aV (lt1 d)];exact (hf c d).1⟩
  have n1:r≠z:=D.ne.1
  refine⟨U,?_,⟨L,O,(sb.2 j D.ne.2.1).trans hO'⟩,s1.1.at fun o e=>(sb.2 f D.i1z).trans e,s2.1.at fun o e=>(sb.2 g D.i2z).trans e⟩
  refine W r _ ?_ B
  simp only[j_,G_,Ym,not_or]
  exact⟨D.ne.1,D.ne.2.2.1,Ne.symm D.i1ti,Ne.symm D.i2ti⟩
 done:=by
  intro X hP hw hK d i l s Z H E I hf st T
  subst hP hw hK
  obtain⟨xs,ys,qx,qy,T⟩:=T
  obtain⟨p,rv,p1,hz1⟩:=I.tuple qx
  obtain⟨n,M,J,hz2⟩:=I.list qy
  have p2:=J.isList
  have t:=st.1
  have B:=st.2.1
  obtain⟨a0,b0,C⟩:=st.2.2.1
  have G:=st.2.2.2.1
  have N:=st.2.2.2.2
  have n1:=rv.length
  have n2:=M.length
  have D:ZAp z r j f g [f,a] [g,b]:=zap F l2 l3 l4 l5
  have fin:∀(h':Heap) (tk:Nat),(∀c o,c∉[z,j,f,g]->s.heap.get? c=some o->h'.get? c=some o)->(none:Option Value)=none/\Inv X l Z H { s with heap:=h',toks:=tk}:=fun h' tk kp=>⟨rfl,jU I kp fun c d=>hf c (by
   simp only[j_,G_,Ym] at d ⊢;rcases d with q | q | q | q <;> simp [q])⟩
  have S:=Aw (prog:=X.prog) (w:=X.w) (A:=X.A.in1) (I.ok.hd d) f a (F_ F.1) p.toArray
  have d2:=Draws.list (prog:=X.prog) (w:=X.w) (A:=X.A.in1) (I.ok.hd d) g b (F_ (X5 F.2 l2)) n.toArray
  by_cases hi:xs.length<=i
  ·
   have e1:=Nu (prog:=X.prog) (w:=X.w) (A:=X.A.in1) (I.ok.hd d) f a (F_ F.1) p.toArray i (by simp;omega)
   exact o4 (k:=i) e1 d2 D t B C ⟨rfl,G,p1⟩ ⟨N,p2⟩ (.inl rfl) fin
  ·
   have hy:ys.length<=i:=T.resolve_left hi
   have R:=pC (prog:=X.prog) (w:=X.w) (A:=X.A.in1) (I.ok.hd d) g b (F_ (X5 F.2 l2)) n.toArray i (by simp;omega)
   exact o4 (k:=i) S R D t B C ⟨G,p1⟩ ⟨rfl,N,p2⟩ (.inr ⟨by simp;omega,rfl⟩) fin
 self:=fun _ _ _ _ _ st h=>wpAny_pyIter_zip st.1 h
section
variable {X:Cx}{elts:List Expr}{x1:Nat}{tpos pos p:Pos}{ea eb:Expr}
def Vz (K:Frag) (t:TA):TI:=fun Z H R=>t Z H fun vs c=>∃a b,vs=[.ref a,.ref b]/\(∃xs,SqT K c a xs)/\(∃ys,SqL K c b ys)/\R (PQ K a b) c
theorem Hv {t:TA}(Y:Gl X "zip") (U:X.mg "zip"=none) (P:bootBuiltins "zip"=some (.type "zip")) (T:PA X [ea,eb] t)
  (E:starEach [ea,eb] X.env=[(false,eval ea X.env),(false,eval eb X.env)]:=by rfl) (g:starEach [eb] X.env=[(false,eval eb X.env)]:=by rfl) :
  PI X (.Tuple elts x1 tpos) (.Call (.Name "zip" p) [ea,eb] [] pos) (Vz X.K t):=by
 intro d s Z H R I h;refine Call_ (fC I Y U P (Yj (thn (T pos d s Z H _ I h) fun us n ⟨vs,A,f,G,q1⟩=>?_) (by rw[E,g]) (by rw[g];rfl)));obtain⟨a,b,e,⟨xs,Q⟩,⟨ys,sb⟩,q⟩:=q1;subst e;cases G with
 |cons r m =>
 cases m with
 |cons r' m =>
 cases m;cases r;cases r';obtain⟨L,rv,p1,S⟩:=f.tuple Q;obtain⟨C,rw',l,B⟩:=f.list sb;have y:=l.isList;have M:a<n.heap.objs.size:=by obtain⟨o,e,_⟩:=p1;exact x_ e
 have O:b<n.heap.objs.size:=by obtain⟨o,e,_⟩:=y;exact x_ e
 refine yr p1 y fun h' k x v u z w hI D V h2 i F N J l4 kp=>wpAny_pyIter_zip w ?_;have W:∀c,k<=c->jN X d A c:=fun c j=>f.fpOk (L_ i j) (f.hok.fresh (L_ i j));refine⟨z,[z,v,u,k,x],_,_,A,rfl,f.kept (t':=n.toks) kp,yt a b z v u k x ⟨N_ M i,N_ O i⟩ F N J l4,⟨w,hI,⟨_,_,D⟩,V,h2⟩,fun c j=>W c ?_,q⟩;simp only[j_,G_,Ym] at j;simp only[Addr] at *;omega
def zmO (xs:List T) (u:Option O3) (b:Addr) (H:Hp3) (R:List T->(Hp3->Prop)->Hp3->Prop):Prop:=match u with
 |some (.lst ys)=>R (eN xs ys) (aX b ys) H
 |_=>False
def Cm (c:TA3):TI3:=fun Z H R=>c Z H fun vs a=>match vs with
 |[.tup xs,.ref b]=>zmO xs (a b) b a R
 |_=>False
theorem yu {K:Frag}{H:Hp}{a b:Addr}{ts us:List T}{xs:List V}(j:SqT K H a xs) (n:Reps K H ts xs):jD K (PQ K a b) (eN ts us) (aX b us) H:=fun I l r q st=>by
 have h:=r _ _ j;obtain⟨ys,m,s⟩:=q.sqL st;have G:=n.length;have C:=s.length;refine⟨fun i w=>⟨xs,ys,h,m,by rw[lr] at w;omega⟩,fun i t e=>?_⟩;rw[lq] at e;cases d:ts[i]? with
 |none=>rw[d] at e;cases e
 |some x =>
 cases g:us[i]? with
 |none=>rw[d,g] at e;cases e
 |some y =>
 rw[d,g] at e;cases e;obtain⟨v,o,A⟩:=n.get d;obtain⟨F,c,f⟩:=s.get g;refine⟨⟨xs,ys,v,F,h,m,o,c⟩,fun z D B=>?_⟩;obtain⟨p,J,L,rfl,k,rfl,E,u⟩:=B;have:=(E xs h).symm.trans o;cases this;have:=(u ys m).symm.trans c;cases this;exact⟨aL k,q.new k,SimH.newTup (H3:=l) k (.cons (A.mono r) (.cons f .nil))⟩
theorem Hw {i:TA3}(B:Gl X "zip") (A:X.mg "zip"=none) (y:PA3 X [ea,eb] i)
  (m:starEach [ea,eb] X.env=[(false,eval ea X.env),(false,eval eb X.env)]:=by rfl) (f:starEach [eb] X.env=[(false,eval eb X.env)]:=by rfl) :
  PI3 X (.Tuple elts x1 tpos) (.Call (.Name "zip" p) [ea,eb] [] pos) (Cm i):=by
 refine PI.imp (Hv B A Ax y m f) ?_;rintro Z H R ⟨x,H3,R3,j,u,h,k⟩;refine⟨x,H3,_,j,u,h,fun vs n ts c z d r q=>?_⟩
 match ts,q,r with
 |[.tup xs,.ref b],q,r =>
  have e:(match c b with
   |some (.lst ys)=>R3 (eN xs ys) (aX b ys) c
   |_=>False):=q
  obtain⟨v,w,rfl,o,C⟩:=r.two'
  obtain⟨a,us,rfl,g,l⟩:=o.tup
  split at e
  ·
   rename_i ys s
   obtain⟨t,D,E⟩:=d.sqL (.inl s)
   exact⟨a,b,by rw[C.ref],⟨_,g⟩,⟨_,D⟩,k _ _ _ n c z d (yu g l) e⟩
  ·
   exact e.elim
theorem Hy (a:TA3) {Z:St3}{H:Hp3}{R:List T->(Hp3->Prop)->Hp3->Prop}:Cm a Z H R=a Z H fun vs c=>match vs with
 |[.tup xs,.ref b]=>zmO xs (c b) b c R
 |_=>False:=rfl
theorem VB (xs ys:List T) (b:Addr) (H:Hp3) (R:List T->(Hp3->Prop)->Hp3->Prop):zmO xs (some (.lst ys)) b H R=R (eN xs ys) (aX b ys) H:=rfl
def Ka:R3:=fun x y H Q=>match x,y with
 |.bl a,.bl b=>Q (.bl (!(a==b))) H
 |_,_=>False
theorem Kc (a b:Bool) (H:Hp3) (Q:VK3):Ka (.bl a) (.bl b) H Q=Q (.bl (!(a==b))) H:=rfl
theorem PX:OpR X (compareOp .IsNot) (fun x y H Q=>∃a b,x=.bl a/\y=.bl b/\Q (.bl (!(a==b))) H):=by
 intro c s Z H x y v u Q I e d h;obtain⟨a,b,rfl,rfl,q⟩:=h;cases e;cases d;refine wpAny_isNot_plain rfl (aZ I q ?_);cases a <;> cases b <;> rfl
theorem Cp:dD X (compareOp .IsNot) Ka:=by
 refine OpR.imp PX ?_;rintro x y H Q ⟨g,c,H3,Q3,f,e,d,h,k⟩;cases g with
 |bl a=>cases c with
  |bl b=>exact⟨a,b,f.bl,e.bl,k _ _ _ _ .refl d .ofBl h⟩
  |_=>exact h.elim
 |_=>exact h.elim
end
end L3
namespace M
open L2 L3
local macro_rules | `(tactic| walk_at "c") => `(tactic| try dsimp only [oR,List.replicate,C_,Yz,Zj,ZZ,YC,YX,Option.getD_some])
local macro_rules | `(tactic| walk_at "n") => `(tactic| (obtain ⟨e⟩:=‹Shut (_ = _)›; subst e; try dsimp only))
def nm0 : String := "ne_eq not_false_eq_true aD vP qD tC3 f9 JD tY Jw Jx Mh tX Jy Jt SX Ju Mp Td zP zO JB oU zN vO Xl S8 qK vR Xp Ae fH Mt Gm Mu Tf Mv dX q_I Xq Mw Mx Mz Af gD Th Ti Tj Ag Tn Tp JL Tq JM JN Ah wy Tr Tt MF Tu Xr MJ Tv JP MK Tw Tz q_D TF MN TJ TQ MP TV MT M3 Gn TX Gp M4 TY M5 M6 M7 M8 M9 T3 T4 T5 T6 T7 Ai T8 T9 Ua Ub Gq Uc Gr Gs Ud Ue Ug Uh Nb Ui Gu Aj qM Nf Gv Ng aq Mm zX mY Uj Uk ni Nv uo ut uv yf uw Nx ux uA uB yg uC GF qN qO qP uD qQ Ay o5 o6 o7 qR o8 GJ qT qU qW uE qX GK decide_true decide_false Bool.not_true Bool.not_false Nh Ni Xu at0 at1 at2 at3 List.eraseIdx_cons_zero Int.toNat_natCast oG List.length_map List.length_cons List.length_nil Nat.zero_add Bool.false_eq_true if_false if_true List.getElem?_cons_zero List.getElem?_cons_succ List.set_cons_zero List.set_cons_succ Us Ut Nz List.map_cons List.map_nil Qn Qo Qp Az NQ NT Oq UW U0 Ba N5 Uu Uv N7 N8 JX JZ UL Oj Bs J1 Qy VL Bp VN Qz G9 UV P0 Qa Qc Qd QM Dv QQ QR Cj Vy Bp Wg Wh Hq J9 Hy VB Xy Ha Hf Hg Hh Ov U5 U3 U4 Ox U6 U8 Oz O2 U9 Ou Om J3 Ol Bu Uq Ur Aq QF O5 J4 BK Pk J5 J6 Vm BL J7 Vn BP Hi Hj Va XD Vb O6 Hk Vd O7 O8 O9 Vf Pb Pg Ph Vh Vi BJ Vj Vk Vp Pq Vq PL Vw PJ uI XF Vs wI J8 Vu Kc Ul Nm Um Np Gw Gx Nq Gy An Uo Gz Og Uw GZ Ux Uz UG"
local macro_rules | `(tactic| walk_at "") => do
 let ls <- ((nm0.splitOn " ").toArray.map String.toName).filterM fun n => do return !(<- Lean.Macro.resolveGlobalName n).isEmpty
 let ls <- ls.mapM fun n => let i:=Lean.mkIdent n; `(Lean.Parser.Tactic.simpLemma| $i:ident)
 `(tactic| ((try dsimp only [$[$ls:simpLemma],*]); try simp only [*,$[$ls:simpLemma],*]))
structure isNm (x:Str):Prop where
 lo:1<=x.length
 hi:x.length<=8
 az:∀c∈x.cps.toList,97<=c/\c<=122
structure Nms (ws:List Str):Prop where
 nm:∀x∈ws,isNm x
 nd:ws.Nodup
theorem Nms.nil:Nms []:=⟨fun _ h=>(nomatch h),Zu⟩
theorem Nms.snoc {ws:List Str}{x:Str}(n:Nms ws) (h:isNm x) (b:x∉ws):Nms (ws++[x]) :=
 ⟨fun y a=>(B_.mp a).elim (n.nm y) fun z=>by rw[m_.mp z];exact h,eU n.nd b⟩
structure Wk where
 tasks:List (Str × Int × List Str)
 orders:List (Str × Str)
 pairs:List (Str × Str × Str)
 row:List Str
def sT (xs:List Str):T:=.tup (xs.map T.str)
def tkT (t:Str × Int × List Str):T:=.tup [.str t.1,.int t.2.1,sT t.2.2]
def orT (o:Str × Str):T:=.tup [.str o.1,.str o.2]
def prT (p:Str × Str × Str):T:=.tup [.str p.1,.str p.2.1,.str p.2.2]
def Wk.enc (W:Wk):T:=.tup [.tup (W.tasks.map tkT),.tup (W.orders.map orT),.tup (W.pairs.map prT),sT W.row]
structure tkOk (t:Str × Int × List Str):Prop where
 nm:isNm t.1
 lo:1<=t.2.1
 hi:t.2.1<10^60
 ks:Nms t.2.2
 kl:t.2.2.length<=4
structure WkOk (W:Wk):Prop where
 t1:1<=W.tasks.length
 t8:W.tasks.length<=8
 tk:∀t∈W.tasks,tkOk t
 nd:(W.tasks.map (·.1)).Nodup
 os:W.orders.length<=28
 od:W.orders.Nodup
 oo:∀o∈W.orders,o.1≠o.2/\o.1∈W.tasks.map (·.1)/\o.2∈W.tasks.map (·.1)
 ps:W.pairs.length<=12
 pd:W.pairs.Nodup
 pp:∀p∈W.pairs,(p.1="with"\/p.1="apart")/\p.2.1≠p.2.2/\p.2.1∈W.tasks.map (·.1)/\p.2.2∈W.tasks.map (·.1)
 r1:1<=W.row.length
 r8:W.row.length<=8
 rn:∀x∈W.row,isNm x
theorem eY {c:Type}{f:c->T}(g:∀{a b},f a=f b->a=b) {x:c}{xs:List c}:f x∈xs.map f↔x∈xs:=by
 rw[y_];exact⟨fun ⟨y,d,e⟩=>g e▸d,fun h=>⟨x,h,rfl⟩⟩
theorem jb {a b:Str}(h:T.str a=T.str b):a=b:=by injection h
theorem XM {c:Type}{f:c->T}(d:∀{a b},f a=f b->a=b) {x:c}{xs:List c}:dR true (f x) (xs.map f)=true↔x∉xs:=by
 unfold dR;simp [eY d]
theorem XN {c:Type}{f:c->T}(d:∀{a b},f a=f b->a=b) {x:c}{xs:List c}:dR false (f x) (xs.map f)=true↔x∈xs:=by
 unfold dR;simp [eY d]
theorem eZ (xs:List Str):(xs.map T.str).all (pl 20)=true:=by rw[Yq];intro t a;obtain⟨x,_,rfl⟩:=y_.mp a;rfl
theorem P0 (W:Wk) (H:Hp3) (Q:VK3):qJ W.enc (.int 0) H Q=Q (.tup (W.tasks.map tkT)) H:=rfl
theorem Qa (W:Wk) (H:Hp3) (Q:VK3):qJ W.enc (.int 1) H Q=Q (.tup (W.orders.map orT)) H:=rfl
theorem Qc (W:Wk) (H:Hp3) (Q:VK3):qJ W.enc (.int 2) H Q=Q (.tup (W.pairs.map prT)) H:=rfl
theorem Qd (W:Wk) (H:Hp3) (Q:VK3):qJ W.enc (.int 3) H Q=Q (.tup (W.row.map T.str)) H:=rfl
def pick:List Str->Int->List Str
 |[],_=>[]
 |x::r,b=>if b%2=1 then x::pick r (b / 2) else pick r (b / 2)
def tot:List Str->Int->Int
 |[],_=>0
 |_::r,b=>(if b%2=1 then 1 else 0)+2*tot r (b / 2)
def numOf:List Str->List Str->Int
 |[],_=>0
 |x::r,ss=>(if x∈ss then 1 else 0)+2*numOf r ss
theorem jc:∀(ws:List Str) (b:Int),∀x∈pick ws b,x∈ws
 |[],_,x,h=>by cases h
 |y::r,b,x,h=>by
  unfold pick at h
  split at h
  ·
   rcases j_.mp h with rfl | h
   ·
    exact k_
   ·
    exact h_ _ (jc r _ x h)
  ·
   exact h_ _ (jc r _ x h)
theorem jJ:∀(ws b a:List Str),(∀x∈ws,x∈b↔x∈a)->numOf ws b=numOf ws a
 |[],_,_,_=>rfl
 |y::r,b,a,h=>by
  have d:=h y k_
  have c:=jJ r b a fun x e=>h x (h_ _ e)
  simp only[numOf,c,d]
theorem lz:∀(ws:List Str) (b:Int),ws.Nodup->numOf ws (pick ws b)=tot ws b
 |[],_,_=>rfl
 |y::r,b,nd=>by
  rw[Yb] at nd
  have c:=lz r (b / 2) nd.2
  have d:y∉pick r (b / 2):=fun h=>nd.1 (jc r _ y h)
  by_cases a:b%2=1
  ·
   have e:numOf r (y::pick r (b / 2))=numOf r (pick r (b / 2)):=jJ r _ _ fun x f=>by
    have:x≠y:=fun e=>nd.1 (e▸f)
    simp [this]
   simp only[numOf,tot,pick,a,if_true,e,c,j_,true_or]
  ·
   simp only[numOf,tot,pick,a,X8,d,c]
theorem Cq:∀(ws:List Str) (b:Int),0<=b->b<2^ws.length->tot ws b=b
 |[],b,h0,h1=>by simp at h1;simp only[tot];omega
 |y::r,b,h0,h1=>by
  have a:b / 2<2^r.length:=by
   rw[n_,aaw] at h1
   omega
  have c:=Cq r (b / 2) (by omega) a
  simp only[tot,c]
  split <;> omega
theorem lA:∀(A:List Str) (y:Str) (a:List Str),numOf (A++[y]) a=numOf A a+2^A.length*(if y∈a then 1 else 0)
 |[],y,a=>by simp [numOf]
 |x::A,y,a=>by
  have b:=lA A y a
  simp only[Zj,numOf,n_,b,aaw]
  generalize (2:Int)^A.length=w
  generalize (if y∈a then (1:Int) else 0)=z
  rw[Int.mul_add,<- Int.mul_assoc,Int.mul_comm 2 w]
  omega
theorem rJ:∀(A B:List Str) (b:Int),pick (A++B) b=pick A b++pick B (b / 2^A.length)
 |[],B,b=>by simp [pick]
 |y::A,B,b=>by
  have a:=rJ A B (b / 2)
  have e:b / 2 / 2^A.length=b / 2^(A.length+1):=by
   rw[aaw,Int.mul_comm,Int.ediv_ediv_of_nonneg (by decide)]
  simp only[Zj,pick,n_,a,e]
  split <;> simp
theorem pF (m n:Nat):Builtin.bitAnd (m:Int) (n:Int)=((m &&& n:Nat):Int):=by
 unfold Builtin.bitAnd;rfl
theorem Qe (m n:Nat):Builtin.bitOr (m:Int) (n:Int)=((m ||| n:Nat):Int):=by
 have h:∀z:Nat,decide ((0:Int)<=Builtin.bitNot (z:Int))=false:=fun z=>u_ (by unfold Builtin.bitNot;omega);have g:∀z:Int,Builtin.bitNot (Builtin.bitNot z)=z:=fun z=>by unfold Builtin.bitNot;omega
 unfold Builtin.bitOr Builtin.bitAnd;rw[h,h];simp only[g,YL]
def bB:List Str->List Str->Nat
 |[],_=>0
 |x::r,ss=>(if x∈ss then 1 else 0)+2*bB r ss
theorem bT:∀(ns a:List Str),numOf ns a=((bB ns a:Nat):Int)
 |[],_=>rfl
 |x::r,a=>by
  have:=bT r a
  simp only[numOf,bB,this]
  by_cases h:x∈a <;> simp [h]
theorem Hz (b c a d:Nat) (j:b<2) (k:c<2):(b+2*a) &&& (c+2*d)=(if b=1/\c=1 then 1 else 0)+2*(a &&& d):=by
 have g:((b+2*a) &&& (c+2*d)) / 2=(b+2*a) / 2 &&& (c+2*d) / 2:=Nat.and_div_two;have i:(b+2*a) / 2=a:=by omega
 have f:(c+2*d) / 2=d:=by omega
 rw[i,f] at g;have e:((b+2*a) &&& (c+2*d))%2=1↔(b+2*a)%2=1/\(c+2*d)%2=1:=Nat.and_mod_two_eq_one;by_cases h:b=1/\c=1
 ·rw[if_pos h];have:=e.mpr ⟨by omega,by omega⟩;omega
 rw[if_neg h];have:¬((b+2*a) &&& (c+2*d))%2=1:=fun z=>h (by have:=e.mp z;omega);omega
theorem Qf (b c a d:Nat) (j:b<2) (k:c<2):(b+2*a) ||| (c+2*d)=(if b=1\/c=1 then 1 else 0)+2*(a ||| d):=by
 have g:((b+2*a) ||| (c+2*d)) / 2=(b+2*a) / 2 ||| (c+2*d) / 2:=Nat.or_div_two;have i:(b+2*a) / 2=a:=by omega
 have f:(c+2*d) / 2=d:=by omega
 rw[i,f] at g;have e:((b+2*a) ||| (c+2*d))%2=1↔(b+2*a)%2=1\/(c+2*d)%2=1:=Nat.or_mod_two_eq_one;by_cases h:b=1\/c=1
 ·rw[if_pos h];have:=e.mpr (by omega);omega
 rw[if_neg h];have:¬((b+2*a) ||| (c+2*d))%2=1:=fun z=>h (by have:=e.mp z;omega);omega
theorem jY (p:Prop) [Decidable p]:(if p then 1 else 0)<2:=by split <;> decide
theorem lB:∀(ns A B:List Str),bB ns A &&& bB ns B=bB ns (A.filter fun x=>decide (x∈B))
 |[],_,_=>by simp [bB]
 |x::r,A,B=>by
  simp only[bB]
  rw[Hz _ _ _ _ (jY _) (jY _),lB r A B]
  by_cases a:x∈A <;> by_cases b:x∈B <;> simp [a,b]
theorem wM:∀(ns A B:List Str),bB ns A ||| bB ns B=bB ns (A++B)
 |[],_,_=>by simp [bB]
 |x::r,A,B=>by
  simp only[bB]
  rw[Qf _ _ _ _ (jY _) (jY _),wM r A B]
  by_cases a:x∈A <;> by_cases b:x∈B <;> simp [a,b]
theorem jd:∀(ns A B:List Str),bB ns A=bB ns B↔∀x∈ns,x∈A↔x∈B
 |[],_,_=>by simp [bB]
 |y::r,A,B=>by
  have c:=jd r A B
  simp only[bB,j_,forall_eq_or_imp]
  rw[<- c]
  by_cases a:y∈A <;> by_cases b:y∈B <;> simp only[a,b,if_true,X8,iff_true,iff_false,true_iff,false_iff,true_and,not_true,not_false_eq_true,false_and] <;> omega
theorem gK:∀ns:List Str,bB ns []=0
 |[]=>rfl
 |x::r=>by simp only[bB,G_,X8,gK r]
theorem yw (ns A:List Str):bB ns A=0↔∀x∈ns,x∉A:=by
 have:=jd ns A [];rw[gK] at this;rw[this];simp
theorem fc (ns A B:List Str):(Builtin.bitAnd (numOf ns A) (numOf ns B)=numOf ns B)↔∀x∈ns,x∈B->x∈A:=by
 rw[bT,bT,pF,lB];constructor
 ·intro h x a b;have:=(jd ns _ _).mp (Int.ofNat.inj h) x a;exact (E_.mp (this.mpr b)).1
 intro h;refine X6 Int.ofNat ((jd ns _ _).mpr fun x a=>?_);rw[E_,p_];exact⟨fun z=>z.2,fun z=>⟨h x a z,z⟩⟩
theorem pG (ns A B:List Str):(Builtin.bitAnd (numOf ns A) (numOf ns B)=0)↔∀x∈ns,¬(x∈A/\x∈B):=by
 rw[bT,bT,pF,lB];have e:((bB ns (A.filter fun x=>decide (x∈B)):Nat):Int)=0↔bB ns (A.filter fun x=>decide (x∈B))=0:=by omega
 rw[e,yw];constructor
 ·intro h x a z;exact h x a (E_.mpr ⟨z.1,D_ z.2⟩)
 intro h x a z;have:=E_.mp z;exact h x a ⟨this.1,Za this.2⟩
theorem Qg (ns A B:List Str):Builtin.bitOr (numOf ns A) (numOf ns B)=numOf ns (A++B):=by
 rw[bT,bT,bT,Qe,wM]
theorem Cr (ns A:List Str):0<=numOf ns A:=by rw[bT];exact aaq _
theorem rK:∀(ns A:List Str),numOf ns A<2^ns.length
 |[],_=>by simp [numOf]
 |x::r,A=>by
  have:=rK r A
  simp only[numOf,n_,aaw]
  split <;> omega
theorem rM:∀(ns:List Str) (A:List Str),ns.Nodup->pick ns (numOf ns A)=ns.filter fun x=>decide (x∈A)
 |[],_,_=>rfl
 |x::r,A,nd=>by
  rw[Yb] at nd
  have c:=rM r A nd.2
  have n0:=Cr r A
  by_cases h:x∈A
  ·
   have b:(1+2*numOf r A)%2=1:=by omega
   have a:(1+2*numOf r A) / 2=numOf r A:=by omega
   simp only[numOf,h,if_true,pick,b,a,c,Zi,Zg]
  ·
   have b:¬(0+2*numOf r A)%2=1:=by omega
   have a:(0+2*numOf r A) / 2=numOf r A:=by omega
   simp only[numOf,h,X8,pick,b,a,c,Zi,Y8,A_]
theorem Cu {ns:List Str}{n:Int}(a:ns.Nodup) (b:0<=n) (c:n<2^ns.length):numOf ns (pick ns n)=n:=by rw[lz ns n a,Cq ns n b c]
universe u
variable {α:Type u}
inductive RT (R:α->α->Prop):α->α->Prop
 |refl {a:α}:RT R a a
 |step {a b c:α}:RT R a b->R b c->RT R a c
theorem RT.trans {R:α->α->Prop}{a b c:α}(h:RT R a b) (g:RT R b c):RT R a c:=by
 induction g with
 |refl=>exact h
 |step _ r d=>exact .step d r
theorem RT.flip {R:α->α->Prop}{a b:α}(h:RT R a b):RT (fun x y=>R y x) b a:=by
 induction h with
 |refl=>exact .refl
 |step _ r c=>exact (RT.step (R:=fun x y=>R y x) .refl r).trans c
theorem HB {R:α->α->Prop}{a b:α}:RT (fun x y=>R y x) a b↔RT R b a:=⟨fun h=>h.flip,fun h=>h.flip⟩
theorem RT.mono {R S:α->α->Prop}(d:∀a b,R a b->S a b) {a b:α}(h:RT R a b):RT S a b:=by
 induction h with
 |refl=>exact .refl
 |step _ r c=>exact .step c (d _ _ r)
theorem VD {L:List (α × α)}{F:List α}{s x:α}(d:s∈F) (e:∀a b,(a,b)∈L->a∈F->b∈F) (h:RT (fun a b=>(a,b)∈L) s x):x∈F:=by
 induction h with
 |refl=>exact d
 |step _ r c=>exact e _ _ r c
theorem uQ [DecidableEq α]:∀{l m:List α},l.Nodup->(∀x∈l,x∈m)->l.length<=m.length:=by
 intro l;induction l with
 |nil=>intro m _ _;exact X3 _
 |cons a l j =>
 intro m b f;rw[Yb] at b;have g:=f a k_;have h:=j (m:=m.erase a) b.2 fun x i=>by have d:=f x (h_ _ i);have c:x≠a:=fun e=>b.1 (e▸i);exact (List.mem_erase_of_ne c).mpr d
 have e:=List.length_erase_of_mem g;have p:0<m.length:=List.length_pos_of_mem g;simp only[n_];omega
def mkS (l:List Nat):Str:=⟨l.toArray⟩
theorem fj (l:List Nat):(mkS l).cps.toList=l:=rfl
theorem cY (l:List Nat):(mkS l).length=l.length:=by show (l.toArray).size=_;simp
theorem uR (x:Str):∃l,x=mkS l:=⟨x.cps.toList,by cases x;rfl⟩
theorem HD {a b:List Nat}(h:mkS a=mkS b):a=b:=by have:=X6 (fun x=>x.cps.toList) h;exact this
theorem wN (a b:List Nat):mkS a++mkS b=mkS (a++b):=by
 show (⟨a.toArray++b.toArray⟩:Str)=⟨(a++b).toArray⟩;simp
theorem VF (l:List Nat) (k:Nat) (h:k<=l.length):Txt.slice (mkS l) none (some (k:Int))=mkS (l.take k):=by
 have e:=StrLaws.sliceText_to (x:=mkS l) (j:=(k:Int)) ⟨aaq k,by rw[fj];omega⟩;rw[fj,List.drop_zero,Int.sub_zero,YL] at e;exact e
def lC:List Nat:=[97,98,99,100,101,102,103,104,105,106,107,108,109,110,111,112,113,114,115,116,117,118,119,120,121,122]
theorem Cv:("abcdefghijklmnopqrstuvwxyz":Str)=mkS lC:=by decide +kernel
theorem HF:∀i:_root_.Fin 26,lC[i.val]?=some (97+i.val):=by decide
theorem Cw (i:Int) (a:0<=i) (c:i<26):atI lC i=some (97+i.toNat):=by
 obtain⟨j,rfl⟩:=Int.eq_ofNat_of_zero_le a;have b:j<26:=by omega
 have:=HF ⟨j,b⟩;exact bY (by simpa using this)
theorem HH:∀i:_root_.Fin 26,Builtin.Str.occurrences (mkS lC) (mkS [97+i.val]) 0 26 1=[i.val]:=by decide +kernel
theorem Qh (c:Nat) (a:97<=c) (b:c<=122):Builtin.Str.occurrences (mkS lC) (mkS [c]) 0 (mkS lC).length 1=[c - 97]:=by
 have:=HH ⟨c - 97,by omega⟩;rw[show 97+(c - 97)=c by omega] at this;exact this
theorem Kd {l:List Nat}(a:1<=l.length) (b:l.length<=8) (h:∀c∈l,97<=c/\c<=122):isNm (mkS l):=⟨by rw[cY];exact a,by rw[cY];exact b,by rw[fj];exact h⟩
def tkW (t:Str × Int × List Str):List Str:=([("task":Str),t.1,(toString t.2.1:String)]:List Str)++t.2.2
def tkR (t:Str × Int × List Str):Str:=Txt.join " " (tkW t)
theorem o9 {B:Nat}:∀{ys:List Str},(∀y∈ys,y.length<=B)->(ys.map (·.length)).sum<=ys.length*B
 |[],_=>by simp
 |y::r,h=>by
  have b:=h y k_
  have c:=o9 (ys:=r) fun z a=>h z (h_ _ a)
  simp only[C_,YT,n_,Nat.succ_mul]
  omega
theorem Qi (z:Str) (ys:List Str):(Txt.join z ys).length=(ys.map (·.length)).sum+(ys.length - 1)*z.length:=size_glued z ys
theorem pH:(" ":Str).length=1:=by decide +kernel
theorem wO {z:Str}{ys:List Str}{B n:Nat}(b:z.length=1) (a:ys.length<=n) (h:∀y∈ys,y.length<=B):(Txt.join z ys).length<=n*B+n:=by
 rw[Qi,b];have c:=o9 h;have d:ys.length*B<=n*B:=Nat.mul_le_mul_right B a;omega
theorem HJ:("task":Str).length=4:=by decide +kernel
theorem Cy:("order":Str).length=5:=by decide +kernel
theorem HN:("with":Str).length=4:=by decide +kernel
theorem Cz:("apart":Str).length=5:=by decide +kernel
theorem Qj:("row":Str).length=3:=by decide +kernel
theorem HQ {n:Int}(a:1<=n) (h:n<10^60):((toString n:String):Str).length<=60:=toString_length_le (by omega) (by decide) h
theorem CG {t:Str × Int × List Str}(h:tkOk t):(tkW t).length<=7/\∀y∈tkW t,y.length<=60:=by
 unfold tkW;refine⟨by have:=h.kl;simp only[d_,n_,Yg];omega,fun y a=>?_⟩;rcases B_.mp a with a | a
 ·simp only[j_,G_,Ym] at a;rcases a with rfl | rfl | rfl
  ·rw[HJ];decide
  ·exact L_ h.nm.hi (by decide)
  exact HQ h.lo h.hi
 exact L_ (h.ks.nm y a).hi (by decide)
theorem Qk {t:Str × Int × List Str}(h:tkOk t):(tkR t).length<=500:=L_ (wO pH (CG h).1 (CG h).2) (by decide)
theorem VG {o:Str × Str}(b:isNm o.1) (c:isNm o.2):∀y∈(["order",o.1,o.2]:List Str),y.length<=8:=fun y a=>by
 simp only[j_,G_,Ym] at a;rcases a with rfl | rfl | rfl
 ·rw[Cy];decide
 ·exact b.hi
 exact c.hi
theorem VH {o:Str × Str × Str}(a:o.1="with"\/o.1="apart") (c:isNm o.2.1) (d:isNm o.2.2):∀y∈([o.1,o.2.1,o.2.2]:List Str),y.length<=8:=fun y b=>by
 simp only[j_,G_,Ym] at b;rcases b with rfl | rfl | rfl
 ·rcases a with a | a
  ·rw[a,HN];decide
  rw[a,Cz];decide
 ·exact c.hi
 exact d.hi
theorem VJ {xs:List Str}(h:∀x∈xs,isNm x):∀y∈(([("row":Str)]:List Str)++xs),y.length<=8:=fun y a=>by
 rcases B_.mp a with a | a
 ·rw[m_.mp a,Qj];decide
 exact (h y a).hi
def glue (c:Nat):List (List Nat)->List Nat
 |[]=>[]
 |[x]=>x
 |x::y::r=>x++c::glue c (y::r)
theorem CJ {c:Nat}:∀{x y A B:List Nat},c∉x->c∉y->x++c::A=y++c::B->x=y/\A=B
 |[],[],A,B,_,_,h=>by simp at h;exact⟨rfl,h⟩
 |[],b::y,A,B,_,hy,h=>by
  simp at h
  exact absurd h.1 (fun e=>hy (e▸k_))
 |a::x,[],A,B,hx,_,h=>by
  simp at h
  exact absurd h.1.symm (fun e=>hx (e▸k_))
 |a::x,b::y,A,B,hx,hy,h=>by
  simp only[Zj,List.cons.injEq] at h
  obtain⟨e,h⟩:=h
  have:=CJ (fun z=>hx (h_ _ z)) (fun z=>hy (h_ _ z)) h
  exact⟨by rw[e,this.1],this.2⟩
theorem rN {c:Nat}:∀{xs ys:List (List Nat)},xs≠[]->ys≠[]->(∀x∈xs,c∉x)->(∀y∈ys,c∉y)->glue c xs=glue c ys->xs=ys
 |[],_,h,_,_,_,_=>absurd rfl h
 |_,[],_,h,_,_,_=>absurd rfl h
 |[x],[y],_,_,_,_,h=>by rw[show x=y from h]
 |[x],y::y2::r,_,_,hx,_,h=>by
  have h':x=y++c::glue c (y2::r):=h
  exact absurd (show c∈x by rw[h'];simp) (hx x k_)
 |x::x2::r,[y],_,_,_,hy,h=>by
  have h':x++c::glue c (x2::r)=y:=h
  exact absurd (show c∈y by rw[<- h'];simp) (hy y k_)
 |x::x2::r,y::y2::r',_,_,hx,hy,h=>by
  obtain⟨e,h⟩:=CJ (hx x k_) (hy y k_) h
  rw[e,rN (by simp) (by simp) (fun z a=>hx z (h_ _ a)) (fun z a=>hy z (h_ _ a)) h]
theorem wQ (a b:Str):(a++b).cps.toList=a.cps.toList++b.cps.toList:=by
 show (a.cps++b.cps).toList=_;simp
theorem jt (c:Nat):∀xs:List Str,(Str.join ⟨#[c]⟩ xs).cps.toList=glue c (xs.map fun x=>x.cps.toList)
 |[]=>rfl
 |[x]=>rfl
 |x::y::r=>by
  show (x++⟨#[c]⟩++Str.join ⟨#[c]⟩ (y::r)).cps.toList=_
  rw[wQ,wQ,jt c (y::r)]
  simp [glue]
theorem HR {a b:Str}(h:a.cps.toList=b.cps.toList):a=b:=by
 obtain⟨l,rfl⟩:=uR a;obtain⟨m,rfl⟩:=uR b;rw[fj,fj] at h;rw[h]
theorem jK:∀{xs ys:List Str},xs.map (fun x=>x.cps.toList)=ys.map (fun x=>x.cps.toList)->xs=ys
 |[],[],_=>rfl
 |[],_::_,h=>by cases h
 |_::_,[],h=>by cases h
 |x::xs,y::ys,h=>by
  simp only[C_,List.cons.injEq] at h
  rw[HR h.1,jK h.2]
theorem CK (x y:Str):Txt.split x y≠[]:=by
 unfold Txt.split;split
 ·simp
 split
 ·simp
 intro h;have:=X6 List.length h;rw[length_partsBetween] at this;simp at this
theorem uT {c:Nat}{ws:List Str}(e:ws≠[]) (h:∀w∈ws,c∉w.cps.toList):Txt.split (Str.join ⟨#[c]⟩ ws) ⟨#[c]⟩=ws:=by
 have g:=StrLaws.join_split (Str.join ⟨#[c]⟩ ws) ⟨#[c]⟩;have f:=StrLaws.split_free (Str.join ⟨#[c]⟩ ws) c;have d:=X6 (fun z:Str=>z.cps.toList) g;simp only[jt] at d;refine jK (rN (c:=c) (by simp [CK]) (by simp [e]) ?_ ?_ d)
 ·intro x b;obtain⟨p,a,rfl⟩:=y_.mp b;exact f p a
 intro x b;obtain⟨p,a,rfl⟩:=y_.mp b;exact h p a
theorem Ke:(" ":Str)=⟨#[32]⟩:=by decide +kernel
theorem Kf (z:Str) (ys:List Str):Txt.join z ys=Str.join z ys:=by
 exact PySem.StrLaws.glued_eq_join z ys
theorem CN {ws:List Str}(a:ws≠[]) (b:∀w∈ws,32∉w.cps.toList):Txt.split (Txt.join " " ws) " "=ws:=by
 rw[Kf,Ke];exact uT a b
theorem rO {c d:Nat}:∀{xs:List (List Nat)},d∈glue c xs->d=c\/∃x∈xs,d∈x
 |[],h=>by cases h
 |[x],h=>.inr ⟨x,by simp,h⟩
 |x::y::r,h=>by
  have h':d∈x++c::glue c (y::r):=h
  rw[B_,j_] at h'
  rcases h' with h' | h' | h'
  ·
   exact .inr ⟨x,by simp,h'⟩
  ·
   exact .inl h'
  ·
   rcases rO h' with e | ⟨z,a,e⟩
   ·
    exact .inl e
   ·
    exact .inr ⟨z,h_ _ a,e⟩
theorem HS {ws:List Str}(c:∀w∈ws,10∉w.cps.toList):10∉(Txt.join " " ws).cps.toList:=by
 rw[Kf,Ke,jt];intro h;rcases rO h with e | ⟨x,b,e⟩
 ·exact absurd e (by decide)
 obtain⟨p,a,rfl⟩:=y_.mp b;exact c p a e
def cleanS (w:Str):Prop:=∀c∈w.cps.toList,48<=c
theorem isNm.clean {x:Str}(h:isNm x):cleanS x:=fun c a=>by have:=h.az c a;omega
theorem cleanS.no {w:Str}(h:cleanS w) {c:Nat}(a:c<48):c∉w.cps.toList:=fun z=>by have:=h c z;omega
theorem HW:cleanS "task":=by unfold cleanS;decide +kernel
theorem CP:cleanS "order":=by unfold cleanS;decide +kernel
theorem HX:cleanS "with":=by unfold cleanS;decide +kernel
theorem CQ:cleanS "apart":=by unfold cleanS;decide +kernel
theorem Ql:cleanS "row":=by unfold cleanS;decide +kernel
theorem HY {n:Int}(a:1<=n):∃m:Nat,n=m/\1<=m:=⟨n.toNat,by omega,by omega⟩
theorem yx (m:Nat):(((toString ((m:Nat):Int):String):Str)).cps.toList=(Nat.toDigits 10 m).map Char.toNat:=PySem.W.KIN.signs_num m
theorem Ia {m c:Nat}(h:c∈(Nat.toDigits 10 m).map Char.toNat):48<=c/\c<=57:=by
 obtain⟨ch,a,e⟩:=y_.mp h;have r:=PyProof.Rows.digit_range (Nat.isDigit_of_mem_toDigits (by decide) (by decide) a);rw[<- e];exact r
theorem Qm {n:Int}(b:1<=n):cleanS ((toString n:String):Str):=by
 obtain⟨m,rfl,_⟩:=HY b;intro c a;rw[yx] at a;exact (Ia a).1
end M
namespace L3
open L2
theorem Qn (a:T) (r:List T):dm (a::r) (some 1) none=r:=gF (k:=1)
theorem Qo (a b:T) (r:List T):dm (a::b::r) (some 2) none=r:=gF (k:=2)
theorem Qp (a b c:T) (r:List T):dm (a::b::c::r) (some 3) none=r:=gF (k:=3)
structure Shut (p:Prop):Prop where
 out:p
theorem aB {t u:TS3}{D:Ends3}{Z:St3}{H:Hp3}(h:∀R,Shut (R=u)->(vP t R) D Z H):(vP t u) D Z H:=h u ⟨rfl⟩
theorem yz {c:TT3}{a:TS3}{D:Ends3}{Z:St3}{H:Hp3}(W:Nat->St3->Hp3->Prop) (d:∃m,W m Z H) (e:∀m Z H,W m Z H->∀(WI:Nat->St3->Hp3->Prop) (TB:TS3) (NX:St3->Hp3->Prop),Shut (WI=W)->Shut (TB=a)->Shut (NX=D.nx) ->
  c Z H fun b H1=>if b=true then TB { D with nx:=fun Z' H'=>∃m',m'<m/\WI m' Z' H',ct:=fun Z' H'=>∃m',m'<m/\WI m' Z' H',bk:=D.nx} Z H1 else NX Z H1):vQ c a D Z H :=
 ⟨W,d,fun m Z H w=>e m Z H w W a D.nx ⟨rfl⟩ ⟨rfl⟩ ⟨rfl⟩⟩
theorem gb {n:Type}(c f:n->T) (p:n->Bool) (h:List n) (rest:St3) {tt:TT3}{te:TE3}{still:Hp3->Prop}{l:List T->Hp3->Prop}{v:Option T}{H:Hp3}(k:still H) (s:h.length<=sizeLine)
  (w:∀a∈h,∀Q:Bool->Hp3->Prop,Q (p a) H->tt (some (c a)::rest) H Q)
  (u:∀a∈h,p a=true->∀Q:VK3,Q (f a) H->te (some (c a)::rest) H Q) (j:l ((h.filter p).map f) H):cIter3 (f9 0) tt te still l (h.map c) [] (v::rest) H:=by
 refine kZ (fun r ys Z m=>∃(d g:List n) (v:Option T),Z=v::rest/\r=d.map c/\ys=(g.filter p).map f/\g++d=h/\m=H) ⟨h,[],v,rfl,rfl,rfl,rfl,rfl⟩ ?_ ?_
 ·rintro ys Z m ⟨d,g,v,rfl,e,rfl,b,rfl⟩;have i:d=[]:=Ze.mp e.symm;subst i;rw[Yd] at b;subst b;exact⟨k,by rw[e_];exact L_ (Yx _ _) s,j⟩
 rintro x r ys Z m N ⟨d,g,v,rfl,e,rfl,b,rfl⟩ q;cases d with
 |nil=>cases e
 |cons t d =>
 injection e with e1 e2;subst e1 e2;refine⟨k,?_⟩;show tt (some (c t)::rest) m _;refine w t (by rw[<- b];simp) _ ?_;cases o:p t with
 |true=>rw[if_pos rfl];refine u t (by rw[<- b];simp) o _ ⟨?_,q _ _ _ ⟨d,g++[t],_,rfl,rfl,by simp [o],by rw[<- b];simp,rfl⟩⟩;have:=X6 List.length b;simp only[d_,n_] at this;rw[e_];have:=Yx p g;omega
 |false =>
 rw[if_neg t_];exact q _ _ _ ⟨d,g++[t],_,rfl,rfl,by simp [o],by rw[<- b];simp,rfl⟩
end L3
namespace M
open L2 L3
local macro_rules | `(tactic| walk_at "c") => `(tactic| try dsimp only [oR,List.replicate,C_,Yz,Zj,ZZ,YC,YX,Option.getD_some])
local macro_rules | `(tactic| walk_at "n") => `(tactic| (obtain ⟨e⟩:=‹Shut (_ = _)›; subst e; try dsimp only))
local macro_rules | `(tactic| walk_at "") => do
 let ls <- ((nm0.splitOn " ").toArray.map String.toName).filterM fun n => do return !(<- Lean.Macro.resolveGlobalName n).isEmpty
 let ls <- ls.mapM fun n => let i:=Lean.mkIdent n; `(Lean.Parser.Tactic.simpLemma| $i:ident)
 `(tactic| ((try dsimp only [$[$ls:simpLemma],*]); try simp only [*,$[$ls:simpLemma],*]))
inductive Rw where
 |tk (t:Str × Int × List Str) | od (o:Str × Str) | pr (p:Str × Str × Str)
def Rw.words:Rw->List Str
 |.tk t=>tkW t
 |.od o=>["order",o.1,o.2]
 |.pr p=>[p.1,p.2.1,p.2.2]
def prs:List Rw->List (Str × Str × Str)
 |[]=>[]
 |.pr p::r=>p::prs r
 |_::r=>prs r
inductive RowW:List Str->Prop
 |tk {t:Str × Int × List Str} (h:tkOk t):RowW (tkW t)
 |od {a b:Str} (h1:isNm a) (h2:isNm b):RowW ["order",a,b]
 |pr {z a b:Str} (h0:z="with"\/z="apart") (h1:isNm a) (h2:isNm b):RowW [z,a,b]
 |row {xs:List Str} (h1:1<=xs.length) (h8:xs.length<=8) (h:∀x∈xs,isNm x):RowW (([("row":Str)]:List Str)++xs)
theorem RowW.ne {ws:List Str}(h:RowW ws):ws≠[]:=by cases h <;> simp [tkW]
theorem RowW.clean {ws:List Str}(h:RowW ws):∀w∈ws,cleanS w:=by
 intro w a;cases h with
 |tk h =>
  rcases B_.mp a with a | a
  ·simp only[j_,G_,Ym] at a;rcases a with rfl | rfl | rfl
   ·exact HW
   ·exact h.nm.clean
   exact Qm h.lo
  exact (h.ks.nm w a).clean
 |od b c =>
  simp only[j_,G_,Ym] at a;rcases a with rfl | rfl | rfl
  ·exact CP
  ·exact b.clean
  exact c.clean
 |pr d b c =>
  simp only[j_,G_,Ym] at a;rcases a with rfl | rfl | rfl
  ·rcases d with rfl | rfl
   ·exact HX
   exact CQ
  ·exact b.clean
  exact c.clean
 |row b e h =>
 rcases B_.mp a with a | a
 ·rw[m_.mp a];exact Ql
 exact (h w a).clean
theorem RowW.split {ws:List Str}(h:RowW ws):Txt.split (Txt.join " " ws) " "=ws:=CN h.ne fun w a=>(h.clean w a).no (by decide)
theorem RowW.len {ws:List Str}(h:RowW ws):(Txt.join " " ws).length<=500:=by
 cases h with
 |tk h=>exact Qk h
 |od a b=>exact L_ (wO pH (n:=3) (by simp) (VG (o:=(_,_)) a b)) (by decide)
 |pr c a b=>exact L_ (wO pH (n:=3) (by simp) (VH (o:=(_,_,_)) c a b)) (by decide)
 |row a d h=>exact L_ (wO pH (n:=9) (by simp only[d_,J_];omega) (VJ h)) (by decide)
theorem RowW.free {ws:List Str}(h:RowW ws):10∉(Txt.join " " ws).cps.toList:=HS fun w a=>(h.clean w a).no (by decide)
def lkP (ws:List Str) (p:Str × Str × Str):List (Str × Str):=if p.1∈ws then [(p.2.1,p.2.2),(p.2.2,p.2.1)] else []
def lkW (ws:List Str) (W:Wk):List (Str × Str):=W.orders++W.pairs.flatMap (lkP ws)
def lkR (ws:List Str) (W:Wk) (a b:Str):Prop:=(a,b)∈lkW ws W
theorem Ib (ws:List Str) (p:Str × Str × Str):(lkP ws p).length<=2:=by unfold lkP;split <;> simp
theorem pI (ws:List Str):∀ps:List (Str × Str × Str),(ps.flatMap (lkP ws)).length<=2*ps.length
 |[]=>o_ _
 |p::r=>by
  have a:=Ib ws p
  have b:=pI ws r
  simp only[List.flatMap_cons,d_,n_]
  omega
theorem wR {ws:List Str}{W:Wk}(h:WkOk W):(lkW ws W).length<=52:=by
 have b:=pI ws W.pairs;have c:=h.os;have a:=h.ps;unfold lkW;rw[d_];omega
def dF (F:List Str):List (Str × T):=F.map fun z=>(z,T.bl true)
theorem jZ (z:Str):∀F:List Str,(aP z (dF F)).isSome=decide (z∈F)
 |[]=>rfl
 |y::r=>by
  have a:=jZ z r
  unfold dF at a ⊢
  simp only[C_,aP]
  by_cases h:y=z
  ·
   simp [h]
  ·
   rw[if_neg h,a]
   have h':¬z=y:=fun e=>h e.symm
   simp [h']
theorem Qq (z:Str) (F:List Str):((dF F).any fun a=>decide (a.1=z))=decide (z∈F):=by
 unfold dF;rw[List.any_map];induction F with
 |nil=>rfl
 |cons y r b =>
 simp only[aay,Function.comp_apply,b];by_cases h:y=z
 ·simp [h]
 have h':¬z=y:=fun e=>h e.symm;simp [h,h']
theorem Qs {z:Str}{F:List Str}(h:z∉F):put3 z (T.bl true) (dF F)=dF (F++[z]):=by
 unfold put3;rw[Qq,u_ h,if_neg t_];unfold dF;rw[H_];rfl
theorem Qt (F:List Str):(dF F).length=F.length:=e_ _
theorem Qu (z:Str):[(z,T.bl true)]=dF [z]:=rfl
theorem CT {x:T}{ts:List T}{H:Hp3}{R:List T->(Hp3->Prop)->Hp3->Prop}(b:(∃a,x=.ref a/\H a=some (.lst ts))\/x=.tup ts)
  (h:∀still:Hp3->Prop,(still=cG\/∃a,still=aX a ts/\H a=some (.lst ts))->R ts still H):ye x H R:=by
 rcases b with ⟨a,rfl,e⟩ | rfl
 ·rw[Nt,e,qM];exact h _ (.inr ⟨a,rfl,e⟩)
 rw[Nr];exact h _ (.inl rfl)
def fM (W:Wk) (t:Str):List Str:=(W.tasks.map (·.1)).filter fun x=>@decide (RT (lkR ["with"] W) t x/\RT (lkR ["with"] W) x t) (Classical.propDecidable _)
def iH (W:Wk) (t:Str):List Str:=(W.tasks.map (·.1)).filter fun x=>@decide (RT (lkR ["with"] W) x t/\¬RT (lkR ["with"] W) t x) (Classical.propDecidable _)
def swp (o:Str × Str):Str × Str:=(o.2,o.1)
theorem Qv {L:List (Str × Str)}{a b:Str}:RT (fun x y=>(x,y)∈L.map swp) a b↔RT (fun x y=>(x,y)∈L) b a:=by
 have e:(fun x y=>(x,y)∈L.map swp)=fun x y:Str=>(y,x)∈L:=by funext x y;refine propext ⟨fun h=>?_,fun h=>y_.mpr ⟨(y,x),h,rfl⟩⟩;obtain⟨o,c,d⟩:=y_.mp h;obtain⟨g,f⟩:=o;cases d;exact c
 rw[e];exact HB
structure Hs (H:Hp3) (fs:List (Addr × O3)):Prop where
 at':∀q∈fs,H q.1=some q.2
 nd:(fs.map (·.1)).Nodup
theorem Hs.nil {H:Hp3}:Hs H []:=⟨fun _ h=>(nomatch h),Zu⟩
theorem Hs.hd {H:Hp3}{p:Addr}{o:O3}{a:List (Addr × O3)}(w:Hs H ((p,o)::a)):H p=some o:=w.at' (p,o) k_
theorem Hs.tl {H:Hp3}{p:Addr × O3}{a:List (Addr × O3)}(w:Hs H (p::a)):Hs H a:=⟨fun q b=>w.at' q (h_ _ b),(Yb.mp w.nd).2⟩
theorem Hs.new {H:Hp3}{b:List (Addr × O3)}(w:Hs H b) {p:Addr}{o:O3}(d:H p=none):Hs (up3 H p o) ((p,o)::b):=by
 have c:∀q∈b,q.1≠p:=fun q a e=>by have:=w.at' q a;rw[e,d] at this;cases this
 refine⟨fun q a=>?_,?_⟩
 ·rcases j_.mp a with rfl | a
  ·exact aq
  rw[aD (c q a)];exact w.at' q a
 rw[C_,Yb];refine⟨fun h=>?_,w.nd⟩;obtain⟨q,a,e⟩:=y_.mp h;exact c q a e
theorem Hs.set {H:Hp3}{d:List (Addr × O3)}{p:Addr}{o:O3}(w:Hs H ((p,o)::d)) (c:O3):Hs (up3 H p c) ((p,c)::d):=by
 have b:=w.nd;rw[C_,Yb] at b;refine⟨fun q a=>?_,by rw[C_,Yb];exact b⟩;rcases j_.mp a with rfl | a
 ·exact aq
 have f:q.1≠p:=fun e=>b.1 (y_.mpr ⟨q,a,e⟩);rw[aD f];exact w.at' q (h_ _ a)
theorem Hs.sub {H:Hp3}{a b:List (Addr × O3)}(w:Hs H a) (h:b.Sublist a):Hs H b:=⟨fun q c=>w.at' q (h.subset c),List.Nodup.sublist (h.map _) w.nd⟩
theorem Hs.of {H:Hp3}{p:Addr}{o:O3}(h:H p=some o):Hs H [(p,o)]:=⟨fun q a=>by rw[m_.mp a];exact h,by simp⟩
theorem Hs.le {H b:Hp3}{a:List (Addr × O3)}(w:Hs H a) (h:Sub3 H b):Hs b a:=⟨fun q c=>h _ _ (w.at' q c),w.nd⟩
theorem Qw (b:List (List Str)):(b.map sT).all (pl 20)=true:=by
 rw[Yq];intro t a;obtain⟨x,_,rfl⟩:=y_.mp a;show (x.map T.str).all (pl 19)=true;rw[Yq];intro t a;obtain⟨y,_,rfl⟩:=y_.mp a;rfl
def SeqS (H:Hp3) (x:T) (b:List Str):Prop:=x=sT b\/∃a,x=.ref a/\H a=some (.lst (b.map T.str))
theorem Ie {neg:Bool}{y:Str}{x:T}{b:List Str}{H:Hp3}{Q:VK3}(h:SeqS H x b) (q:Q (.bl (if neg then !decide (y∈b) else decide (y∈b))) H):t7 neg (.str y) x H Q:=by
 have e:dR neg (T.str y) (b.map T.str)=(if neg then !decide (y∈b) else decide (y∈b)):=by unfold dR;have:(T.str y∈b.map T.str)↔y∈b:=eY jb;simp only[this]
 rcases h with rfl | ⟨a,rfl,c⟩
 ·show t7 neg (.str y) (.tup (b.map T.str)) H Q;rw[JL,e];exact⟨rfl,eZ b,q⟩
 rw[JM,c,JN,e];exact⟨rfl,eZ b,q⟩
theorem SeqS.le {H c:Hp3}{x:T}{b:List Str}(h:SeqS H x b) (s:Sub3 H c):SeqS c x b:=h.imp id fun ⟨a,e,d⟩=>⟨a,e,s _ _ d⟩
def mC (ks:List Str) (k:Str):Bool:=decide (ks=[])||decide (k∈ks)
def je (W:Wk) (t:Str):List Str:=(W.pairs.filter fun p=>decide (p.1=("apart":Str))&&decide (p.2.1=t)).map (·.2.2)
def okT (W:Wk) (a:Str) (D S:List Str) (t:Str × Int × List Str):Bool :=
 !decide (t.1∈D)&&mC t.2.2 a&&@decide (∀x∈fM W t.1,x∈S) (Classical.propDecidable _)&&@decide (∀x∈iH W t.1,x∈S++D) (Classical.propDecidable _)&&@decide (∀x∈je W t.1,x∉S) (Classical.propDecidable _)
def cL (ts:List (Str × Int × List Str)) (S:List Str):Int:=((ts.filter fun t=>decide (t.1∈S)).map (·.2.1)).sum
def uU (W:Wk) (beat:Int) (a:Str) (D S:List Str):Bool:=(W.tasks.all fun t=>!decide (t.1∈S)||okT W a D S t)&&decide (cL W.tasks S<=beat)
def ruT (W:Wk) (ns:List Str) (t:Str × Int × List Str):T:=.tup [.int (numOf ns [t.1]),.int t.2.1,sT t.2.2,.int (numOf ns (fM W t.1)),.int (numOf ns (iH W t.1)),.int (numOf ns (je W t.1))]
theorem uV (A:List (Str × Int × List Str)) (t:Str × Int × List Str) (S:List Str):cL (A++[t]) S=cL A S+if t.1∈S then t.2.1 else 0:=by
 unfold cL;rw[Zv,H_,List.sum_append];by_cases h:t.1∈S <;> simp [h]
theorem j0 {ns A:List Str}{x:Str}(b:x∈ns):(Builtin.bitAnd (numOf ns A) (numOf ns [x])=numOf ns [x])↔x∈A:=by
 rw[fc];constructor
 ·intro h;exact h x b (by simp)
 intro h y _ a;rw[m_.mp a];exact h
end M
namespace L3
open L2
section
variable {X:Cx}
def ppH (o:Option O3) (a:Addr) (H:Hp3) (Q:VK3):Prop:=match o with
 |some (.lst xs)=>oq (xs[xs.length - 1]?) fun t=>Q t (up3 H a (.lst xs.dropLast))
 |_=>False
def Qx:T->List T->Hp3->VK3->Prop:=fun x ts H Q=>match x,ts with
 |.ref a,[]=>ppH (H a) a H Q
 |_,_=>False
theorem Qy (a:Addr) (H:Hp3) (Q:VK3):Qx (.ref a) [] H Q=ppH (H a) a H Q:=rfl
theorem VL (xs:List T) (a:Addr) (H:Hp3) (Q:VK3):ppH (some (.lst xs)) a H Q=oq (xs[xs.length - 1]?) fun t=>Q t (up3 H a (.lst xs.dropLast)):=rfl
theorem Reps.dropLast {K:Frag}{H:Hp}{ts:List T}{vs:List V}(r:Reps K H ts vs):Reps K H ts.dropLast vs.dropLast:=by
 rw[List.dropLast_eq_take,List.dropLast_eq_take,r.length];exact r.take _
def eqR (a b:Addr) (o u:Option O3) (H:Hp3) (Q:VK3):Prop:=match o,u with
 |some (.rol xs),some (.lst ys)=>a≠b/\xs.all (pl 20)=true/\ys.all (pl 20)=true/\Q (.bl (decide (xs=ys))) H
 |_,_=>False
def VM:R3:=fun x y H Q=>match x,y with
 |.ref a,.ref b=>eqR a b (H a) (H b) H Q
 |_,_=>False
theorem VN (a b:Addr) (H:Hp3) (Q:VK3):VM (.ref a) (.ref b) H Q=eqR a b (H a) (H b) H Q:=rfl
theorem Qz (a b:Addr) (xs ys:List T) (H:Hp3) (Q:VK3):eqR a b (some (.rol xs)) (some (.lst ys)) H Q=(a≠b/\xs.all (pl 20)=true/\ys.all (pl 20)=true/\Q (.bl (decide (xs=ys))) H):=rfl
end
end L3
namespace M
open L2 L3
local macro_rules | `(tactic| walk_at "c") => `(tactic| try dsimp only [oR,List.replicate,C_,Yz,Zj,ZZ,YC,YX,Option.getD_some])
local macro_rules | `(tactic| walk_at "n") => `(tactic| (obtain ⟨e⟩:=‹Shut (_ = _)›; subst e; try dsimp only))
local macro_rules | `(tactic| walk_at "") => do
 let ls <- ((nm0.splitOn " ").toArray.map String.toName).filterM fun n => do return !(<- Lean.Macro.resolveGlobalName n).isEmpty
 let ls <- ls.mapM fun n => let i:=Lean.mkIdent n; `(Lean.Parser.Tactic.simpLemma| $i:ident)
 `(tactic| ((try dsimp only [$[$ls:simpLemma],*]); try simp only [*,$[$ls:simpLemma],*]))
structure Box (p:Prop):Prop where
 out:p
structure Cl (H:Hp3) (a:Addr):Prop where
 ex:∃ns:List Int,H a=some (.lst (ns.map T.int))/\ns.length<=504
structure Drw (a:Addr) (H H':Hp3):Prop where
 cl:Cl H' a
 off:∀b,b≠a->H' b=H b
theorem Drw.trans {a:Addr}{H d c:Hp3}(x:Drw a H d) (y:Drw a d c):Drw a H c:=⟨y.cl,fun b h=>(y.off b h).trans (x.off b h)⟩
theorem Cl.refl {a:Addr}{H:Hp3}(D:Cl H a):Drw a H H:=⟨D,fun _ _=>rfl⟩
theorem Cl.ne {a p:Addr}{H:Hp3}(D:Cl H a) (b:H p=none):p≠a:=fun e=>by obtain⟨ns,h,_⟩:=D.ex;rw[<- e,b] at h;cases h
theorem Cl.new {a p:Addr}{H:Hp3}{u:O3}(D:Cl H a) (h:p≠a):Cl (up3 H p u) a:=by
 obtain⟨ns,e,r⟩:=D.ex;exact⟨ns,by rw[aD (Ne.symm h)];exact e,r⟩
def Kep (a:Addr) (H c:Hp3):Prop:=∀b o,H b=some o->b≠a->c b=some o
theorem Kep.refl {a:Addr}{H:Hp3}:Kep a H H:=fun _ _ h _=>h
theorem Kep.new {a p:Addr}{H c:Hp3}{u:O3}(x:Kep a H c) (e:c p=none):Kep a H (up3 c p u):=fun b o h d=>by
 have:=x b o h d;rw[aD (bf this e)];exact this
theorem Kep.at {a p:Addr}{H c:Hp3}{u:O3}(x:Kep a H c) (e:H p=none):Kep a H (up3 c p u):=fun b o h d=>by
 rw[aD (bf h e)];exact x b o h d
theorem Kep.sub {a:Addr}{H d c:Hp3}(x:Kep a H d) (s:Sub3 d c):Kep a H c:=fun b o h e=>s b o (x b o h e)
structure Wt (c:Addr) (H0 H:Hp3) (fs:List (Addr × O3)):Prop where
 cl:Cl H c
 kp:Kep c H0 H
 at':∀p∈fs,H p.1=some p.2/\p.1≠c
theorem Wt.new {c p:Addr}{d H:Hp3}{e:List (Addr × O3)}{o:O3}(w:Wt c d H e) (b:H p=none):Wt c d (up3 H p o) ((p,o)::e):=⟨w.cl.new (w.cl.ne b),w.kp.new b,fun q a=>by
 rcases j_.mp a with rfl | a
 ·exact⟨aq,w.cl.ne b⟩
 exact⟨by rw[aD (bf (w.at' q a).1 b)];exact (w.at' q a).1,(w.at' q a).2⟩⟩
theorem Wt.hd {c p:Addr}{a H:Hp3}{o:O3}{b:List (Addr × O3)}(w:Wt c a H ((p,o)::b)):H p=some o:=(w.at' (p,o) k_).1
theorem Wt.tl {c:Addr}{q:Addr × O3}{a H:Hp3}{b:List (Addr × O3)}(w:Wt c a H (q::b)):Wt c a H b:=⟨w.cl,w.kp,fun p d=>w.at' p (h_ _ d)⟩
theorem Wt.set {c p:Addr}{b H:Hp3}{o:O3}{e:List (Addr × O3)}(w:Wt c b H ((p,o)::e)) (d:b p=none) (h:∀q∈e,q.1≠p) (f:O3):Wt c b (up3 H p f) ((p,f)::e) :=
 have g:=(w.at' (p,o) k_).2
 ⟨w.cl.new g,w.kp.at d,fun q a=>by
  rcases j_.mp a with rfl | a
  ·
   exact⟨aq,g⟩
  ·
   exact⟨by rw[aD (h q a)];exact (w.at' q (h_ _ a)).1,(w.at' q (h_ _ a)).2⟩⟩
theorem Wt.fresh {c p:Addr}{a H:Hp3}{d:List (Addr × O3)}(w:Wt c a H d) (b:H p=none):a p=none:=by
 cases e:a p with
 |none=>rfl
 |some o=>rw[w.kp p o e (w.cl.ne b)] at b;cases b
theorem CV (n:Nat):dH 0 n=(List.range n).map fun (i:Nat)=>T.int (i:Int):=by
 unfold dH;exact List.map_congr_left fun i _=>by rw[Int.zero_add]
theorem dz {H a:Hp3}{p:Addr}(s:Sub3 H a) (b:a p=none):H p=none:=by
 cases e:H p with
 |none=>rfl
 |some o=>rw[s _ _ e] at b;cases b
theorem pig:∀(ws:List Str) (f:Nat->Str),(∀i j,i<=ws.length->j<=ws.length->f i=f j->i=j)->(∀i,i<=ws.length->f i∈ws)->False
 |[],f,_,h=>by have:=h 0 (o_ _);simp at this
 |w::ws,f,inj,h=>by
  rw[n_] at inj h
  by_cases q:∃j,j<=ws.length+1/\f j=w
  ·
   obtain⟨j,g,e⟩:=q
   refine pig ws (fun i=>if i<j then f i else f (i+1)) (fun a b l m c=>?_) (fun i k=>?_)
   ·
    try dsimp only at c
    split at c <;> split at c
    ·
     exact inj a b (by omega) (by omega) c
    ·
     have:=inj a (b+1) (by omega) (by omega) c;omega
    ·
     have:=inj (a+1) b (by omega) (by omega) c;omega
    ·
     have:=inj (a+1) (b+1) (by omega) (by omega) c;omega
   ·
    show (if i<j then f i else f (i+1))∈ws
    split
    ·
     exact (j_.mp (h i (by omega))).resolve_left fun d=>by have:=inj i j (by omega) g (d.trans e.symm);omega
    ·
     exact (j_.mp (h (i+1) (by omega))).resolve_left fun d=>by have:=inj (i+1) j (by omega) g (d.trans e.symm);omega
  ·
   exact pig ws f (fun a b l m=>inj a b (by omega) (by omega)) fun i k=>(j_.mp (h i (by omega))).resolve_left fun e=>q ⟨i,by omega,e⟩
def dg:Nat->Int->List Nat
 |0,_=>[]
 |n+1,l=>(97+(l%26).toNat)::dg n (l / 26)
def bw (b:Bool):Str:=if b then "with" else "apart"
def pT3 (x:Bool × Nat × Nat):T:=.tup [.str (bw x.1),.int (x.2.1:Int),.int (x.2.2:Int)]
structure PI (d:Addr) (H0 H:Hp3) (pp pe a:Addr) (ws:List Str) (ps:List (Bool × Nat × Nat)) (es:List T):Prop where
 w:Wt d H0 H [(pp,.lst (ps.map pT3)),(pe,.lst es),(a,.lst (ws.map T.str))]
 ne:pe≠pp
 na:a≠pp
 l12:ps.length<=12
 ea:es.all (pl 20)=true
 el:es.length<=28+2*ps.length
 ok:∀x∈ps,x.2.1≠x.2.2/\x.2.1<ws.length/\x.2.2<ws.length
theorem PI.sub {d:Addr}{b H e:Hp3}{c h a:Addr}{ws:List Str}{ps:List (Bool × Nat × Nat)}{g:List T}(x:PI d b H c h a ws ps g) (s:Sub3 H e):PI d b e c h a ws ps g:=by
 refine { x with w:=⟨?_,x.w.kp.sub s,fun q f=>⟨s _ _ (x.w.at' q f).1,(x.w.at' q f).2⟩⟩};obtain⟨ns,j,i⟩:=x.w.cl.ex;exact⟨ns,s _ _ j,i⟩
theorem Nms.ins {ws:List Str}{i:Nat}{x:Str}(h:Nms ws) (d:isNm x) (b:x∉ws):Nms (ws.take i++x::ws.drop i):=by
 have a:(ws.take i++x::ws.drop i).Perm (x::ws):=List.perm_middle.trans (by rw[List.take_append_drop]);refine⟨fun y c=>?_,a.nodup_iff.mpr (Yb.mpr ⟨b,h.nd⟩)⟩;rcases j_.mp (a.mem_iff.mp c) with rfl | h'
 ·exact d
 exact h.nm y h'
def oD (ws:List Str) (a:List Nat) (x:Nat × Nat):Str × Str:=(ws.getD (a.getD x.1 0) "",ws.getD (a.getD x.2 0) "")
theorem getD_mem {a:Type}{l:List a}{d:a}{i:Nat}(h:i<l.length):l.getD i d∈l:=by
 rw[q_,g_ h];exact Yl h
def fu (f:Str->Nat) (n:Str) (v:Nat):Str->Nat:=fun x=>if x=n then v else f x
def mu (m:Nat) (ns:List Str) (f:Str->Nat):Nat:=(ns.map fun n=>m - f n).sum
def gA (ns:List Str) (f:Str->Nat) (m:Nat):List (List Str):=(List.range m).map fun k=>ns.filter fun n=>decide (f n=k)
def ld (tk:List (Str × Int × List Str)) (ns:List Str):Int:=((tk.filter (fun t=>dR false (.str t.1) (ns.map T.str))).map (·.2.1)).sum
theorem nH (ns:List Str) (f:Str->Nat) (m:Nat):(gA ns f m).length=m:=by unfold gA;rw[e_,K_]
theorem Ig:bootBuiltins "dict"=some (.type "dict"):=by decide +kernel
def yC (k:Nat) (f:Str->Nat) (xs:List Str):Str->Nat:=xs.foldl (fun f n=>fu f n k) f
def fD (D:List (List Str)):Str->Nat:=D.zipIdx.foldl (fun f p=>yC p.2 f p.1) (fun _=>0)
theorem Ih (A:List (List Str)) (s:List Str):fD (A++[s])=yC A.length (fD A) s:=by
 unfold fD;rw[List.zipIdx_append,List.foldl_append];simp
def kdOf (ts:List (Str × Int × List Str)) (n:Str):List Str:=match ts.find? (fun t=>decide (t.1=n)) with
 |some t=>t.2.2
 |none=>[]
def QB (a:List Str) (D:List (List Str)):Option T:=if D.length>a.length then some (.tup [.str "stands",.int (D.length:Int)]) else none
def QC (ns xs:List Str):Option T:=(xs.find? fun x=>!decide (x∈ns)).map fun x=>.tup [.str "strange",.str x]
def twG:List Str->List Str->Option Str
 |_,[]=>none
 |sn,x::r=>if x∈sn then some x else twG (sn++[x]) r
def twF (xs:List Str):Option T:=(twG [] xs).map fun x=>.tup [.str "twice",.str x]
def QD (ns xs:List Str):Option T:=(ns.find? fun n=>!decide (n∈xs)).map fun n=>.tup [.str "lost",.str n]
def XQ (f:Str->Nat) (a:List (Str × Str)):Option T:=(a.find? fun o=>decide (f o.2<f o.1)).map fun o=>.tup [.str "order",.str o.1,.str o.2]
def XR (f:Str->Nat) (ps:List (Str × Str × Str)):Option T:=(ps.find? fun p=>decide (f p.2.1=f p.2.2) != decide (p.1=("with":Str))).map fun p=>.tup [.str p.1,.str p.2.1,.str p.2.2]
def okK (ks:List Str) (k:Str):Bool:=decide (ks=[])||decide (k∈ks)
def VP (b:Str->List Str) (a:List Str):Nat->List (List Str)->Option T
 |_,[]=>none
 |k,s::r=>match s.find? fun n=>!okK (b n) (a.getD k "") with
  |some n=>some (.tup [.str "kind",.str n,.int (k:Int)])
  |none=>VP b a (k+1) r
def VR (g:List Str->Int) (beat:Int):Nat->List (List Str)->Option T
 |_,[]=>none
 |k,s::r=>if g s>beat then some (.tup [.str "beat",.int (k:Int)]) else VR g beat (k+1) r
def V0 (W:Wk) (D:List (List Str)):Option T:=(QB W.row D).or ((QC (W.tasks.map (·.1)) D.flatten).or ((twF D.flatten).or (QD (W.tasks.map (·.1)) D.flatten)))
def XS (W:Wk) (beat:Int) (D:List (List Str)):Option T:=(XQ (fD D) W.orders).or ((XR (fD D) W.pairs).or ((VP (kdOf W.tasks) W.row 0 D).or (VR (ld W.tasks) beat 0 D)))
def flt (W:Wk) (beat:Int) (D:List (List Str)):Option T:=(V0 W D).or (XS W beat D)
theorem str_none {ns xs:List Str}(h:QC ns xs=none):∀x∈xs,x∈ns:=fun x a=>by
 unfold QC at h;rw[Option.map_eq_none_iff,List.find?_eq_none] at h;have:=h x a;simpa using this
theorem CW {ns xs:List Str}(h:QD ns xs=none):∀n∈ns,n∈xs:=fun x a=>by
 unfold QD at h;rw[Option.map_eq_none_iff,List.find?_eq_none] at h;have:=h x a;simpa using this
theorem CZ:∀{A sn:List Str},sn.Nodup->twG sn A=none->(sn++A).Nodup
 |[],sn,hs,_=>by simpa using hs
 |a::A,sn,hs,h=>by
  unfold twG at h
  split at h
  ·
   cases h
  ·
   rename_i b
   have:=CZ (A:=A) (sn:=sn++[a]) (eU hs b) h
   simpa using this
theorem Ii {xs:List Str}(h:twF xs=none):xs.Nodup:=by
 unfold twF at h;rw[Option.map_eq_none_iff] at h;simpa using CZ (sn:=[]) Zu h
theorem Dc {a:List Str}{D:List (List Str)}(h:QB a D=none):D.length<=a.length:=by
 unfold QB at h;split at h
 ·cases h
 omega
theorem or_none {a b:Option T}(h:a.or b=none):a=none/\b=none:=by
 cases a with
 |none=>exact⟨rfl,h⟩
 |some x=>cases h
structure Dok (W:Wk) (D:List (List Str)):Prop where
 rw:D.length<=W.row.length
 st:∀x∈D.flatten,x∈W.tasks.map (·.1)
 nd:D.flatten.Nodup
 al:∀n∈W.tasks.map (·.1),n∈D.flatten
theorem Dok.of {W:Wk}{D:List (List Str)}(h:V0 W D=none):Dok W D:=by
 have b:=or_none h;have c:=or_none b.2;have a:=or_none c.2;exact⟨Dc b.1,str_none c.1,Ii a.1,CW a.2⟩
theorem Dok.in {W:Wk}{D:List (List Str)}(h:Dok W D) {s:List Str}(a:s∈D):s.Nodup/\∀n∈s,n∈W.tasks.map (·.1) :=
 ⟨(List.sublist_flatten_of_mem a).nodup h.nd,fun n b=>h.st n (YJ.mpr ⟨s,a,b⟩)⟩
theorem V1 {x:Str}{xs:List Str}:dR false (T.str x) (xs.map T.str)=decide (x∈xs):=by
 rw[W_,XN jb];simp
theorem QF (ts:List T) (i:Int) (H:Hp3) (Q:VK3):ixH (some (.rol ts)) i H Q=oq (atI ts i) fun t=>Q t H:=rfl
def V2:Sp3:=fun ts H Q=>∃tk:List (Str × Int × List Str),ts=[.tup (tk.map tkT)]/\tk.length<=8/\∀p,H p=none->Q (.ref p) (up3 H p (.lst ((tk.map (·.1)).map T.str)))
structure Fil (W:Wk) (beat:Int) (kind:Str) (D S:List Str):Prop where
 one:∀t∈W.tasks,t.1∈S->t.1∉D/\mC t.2.2 kind=true/\(∀x∈fM W t.1,x∈S)/\(∀x∈iH W t.1,x∈S\/x∈D)/\∀x∈je W t.1,x∉S
 ld:cL W.tasks S<=beat
theorem fil_iff {W:Wk}{beat:Int}{c:Str}{D S:List Str}:uU W beat c D S=true↔Fil W beat c D S:=by
 unfold uU;rw[X_,p_,Yq];have key:∀t:Str × Int × List Str,(!decide (t.1∈S)||okT W c D S t)=true↔(t.1∈S->t.1∉D/\mC t.2.2 c=true/\(∀x∈fM W t.1,x∈S)/\(∀x∈iH W t.1,x∈S\/x∈D)/\∀x∈je W t.1,x∉S):=fun t=>by
  unfold okT;rw[Bool.or_eq_true,aab,Zb,X_,X_,X_,X_,aab,Zb,@p_ _ (Classical.propDecidable _),@p_ _ (Classical.propDecidable _),@p_ _ (Classical.propDecidable _)];constructor
  ·intro h d;obtain⟨⟨⟨⟨i,e⟩,j⟩,g⟩,f⟩:=h.resolve_left (fun z=>z d);exact⟨i,e,j,fun x l=>B_.mp (g x l),f⟩
  intro h;by_cases d:t.1∈S
  ·obtain⟨i,e,j,g,f⟩:=h d;exact .inr ⟨⟨⟨⟨i,e⟩,j⟩,fun x l=>B_.mpr (g x l)⟩,f⟩
  exact .inl d
 exact⟨fun ⟨a,b⟩=>⟨fun t k=>(key t).mp (a t k),b⟩,fun h=>⟨fun t k=>(key t).mpr (h.one t k),h.ld⟩⟩
theorem jL {ts:List (Str × Int × List Str)}{S a:List Str}(h:∀x,x∈S↔x∈a):cL ts S=cL ts a:=by
 have e:(ts.filter fun t=>decide (t.1∈S))=ts.filter fun t=>decide (t.1∈a):=ZF fun t _=>by rw[ZP];exact h t.1
 unfold cL;rw[e]
theorem Fil.congr {W:Wk}{beat:Int}{a:Str}{D S g e:List Str}(f:Fil W beat a D S) (d:∀x,x∈D↔x∈g) (b:∀x,x∈S↔x∈e):Fil W beat a g e :=
 ⟨fun t n i=>by
  obtain⟨l,h,m,k,j⟩:=f.one t n ((b _).mpr i)
  exact⟨fun z=>l ((d _).mpr z),h,fun x c=>(b x).mp (m x c),fun x c=>(k x c).imp (b x).mp (d x).mp,fun x c z=>j x c ((b x).mpr z)⟩,by rw[<- jL b];exact f.ld⟩
def Fils (W:Wk) (beat:Int) (D:List (List Str)):Prop:=∀k s,D[k]?=some s->Fil W beat (W.row.getD k "") (D.take k).flatten s
theorem Fils.snoc {W:Wk}{beat:Int}{D:List (List Str)}{s:List Str}(h:Fils W beat D) (f:Fil W beat (W.row.getD D.length "") D.flatten s):Fils W beat (D++[s]):=fun k s' e=>by
 by_cases d:k<D.length
 ·rw[Yp d] at e;rw[List.take_append_of_le_length (by omega)];exact h k s' e
 rw[Yc (by omega)] at e;have c:k - D.length=0:=by
  cases b:k - D.length with
  |zero=>rfl
  |succ n=>rw[b] at e;simp at e
 have a:k=D.length:=by omega
 subst a;rw[c] at e;simp only[YC,aau] at e;subst e;rw[List.take_left']
 ·exact f
 rfl
theorem Fils.nil {W:Wk}{beat:Int}:Fils W beat []:=fun k s e=>by simp at e
theorem uW {k:Nat}{n:Str}:∀{xs:List Str}{f:Str->Nat},n∉xs->yC k f xs n=f n
 |[],_,_=>rfl
 |x::r,f,h=>by
  rw[j_,not_or] at h
  show yC k (fu f x k) r n=f n
  rw[uW h.2]
  unfold fu
  rw[if_neg h.1]
theorem Dd {k:Nat}{n:Str}:∀{xs:List Str}{f:Str->Nat},n∈xs->yC k f xs n=k
 |x::r,f,h=>by
  show yC k (fu f x k) r n=k
  by_cases a:n∈r
  ·
   exact Dd a
  ·
   rw[uW a]
   unfold fu
   rw[if_pos ((j_.mp h).resolve_right a)]
theorem fB {D:List (List Str)}(a:D.flatten.Nodup):∀{k:Nat}{s:List Str}{n:Str},D[k]?=some s->n∈s->fD D n=k:=by
 induction hl:D.length generalizing D with
 |zero=>intro k s n e;rw[ZM.mp hl] at e;simp at e
 |succ m i =>
 intro k s n e b;obtain⟨A,l,rfl⟩:∃A l,D=A++[l]:=by refine⟨D.dropLast,D.getLast (by intro z;rw[z] at hl;cases hl),(Zc _).symm⟩
 have d:A.length=m:=by simp at hl;exact hl
 rw[Ih];rw[List.flatten_append,List.flatten_singleton,List.nodup_append] at a;by_cases f:k<A.length
 ·rw[Yp f] at e;have h:n∈A.flatten:=YJ.mpr ⟨s,O_ e,b⟩;rw[uW fun z=>a.2.2 n h n z rfl];exact i a.1 d e b
 rw[Yc (by omega)] at e;have c:k - A.length=0:=by
  cases g:k - A.length with
  |zero=>rfl
  |succ n=>rw[g] at e;simp at e
 rw[c] at e;simp only[YC,aau] at e;subst e;rw[Dd b];omega
theorem jf {D:List (List Str)}{n:Str}(h:n∈D.flatten):∃(k:Nat) (s:List Str),D[k]?=some s/\n∈s:=by
 obtain⟨s,b,a⟩:=YJ.mp h;obtain⟨k,c⟩:=Y9 b;exact⟨k,s,c,a⟩
theorem take_at {D:List (List Str)}{k:Nat}{n:Str}:n∈(D.take k).flatten↔∃(j:Nat) (s:List Str),j<k/\D[j]?=some s/\n∈s:=by
 constructor
 ·intro h;obtain⟨j,s,e,a⟩:=jf h;rw[List.getElem?_take] at e;split at e
  ·exact⟨j,s,by assumption,e,a⟩
  cases e
 rintro⟨j,s,b,e,a⟩;refine YJ.mpr ⟨s,?_,a⟩;refine O_ (i:=j) ?_;rw[List.getElem?_take,if_pos b];exact e
theorem De {W:Wk}{a b:Str}(h:lkR ["with"] W a b):(a,b)∈W.orders\/∃p∈W.pairs,p.1="with"/\(p.2=(a,b)\/p.2=(b,a)):=by
 unfold lkR lkW at h;rcases B_.mp h with h | h
 ·exact .inl h
 obtain⟨p,d,c⟩:=List.mem_flatMap.mp h;unfold lkP at c;split at c
 ·rename_i e;refine .inr ⟨p,d,by simpa using e,?_⟩;simp only[j_,ZG,G_,Ym] at c;rcases c with ⟨rfl,rfl⟩ | ⟨rfl,rfl⟩
  ·exact .inl rfl
  exact .inr rfl
 cases c
theorem QG {W:Wk}{a b:Str}(h:(a,b)∈W.orders):lkR ["with"] W a b:=Yk _ h
theorem Ij {W:Wk}{a b:Str}(h:(("with":Str),a,b)∈W.pairs):lkR ["with"] W a b/\lkR ["with"] W b a:=by
 have:∀q,q∈lkP ["with"] ("with",a,b)->q∈lkW ["with"] W:=fun q c=>R_ _ (List.mem_flatMap.mpr ⟨_,h,c⟩);constructor
 ·exact this _ (by unfold lkP;simp)
 exact this _ (by unfold lkP;simp)
structure Rgt (W:Wk) (beat:Int) (D:List (List Str)) (f:Str->Nat):Prop where
 ord:∀o∈W.orders,f o.1<=f o.2
 pai:∀p∈W.pairs,f p.2.1=f p.2.2↔p.1="with"
 kin:∀k s,D[k]?=some s->∀t∈W.tasks,t.1∈s->mC t.2.2 (W.row.getD k "")=true
 bea:∀s∈D,cL W.tasks s<=beat
theorem Df {W:Wk}{beat:Int}{D:List (List Str)}(O:WkOk W) (h:Dok W D):Rgt W beat D (fD D)↔Fils W beat D:=by
 have u:∀{n:Str},n∈W.tasks.map (·.1)->∃s,D[fD D n]?=some s/\n∈s:=fun g=>by obtain⟨k,s,e,c⟩:=jf (h.al _ g);rw[fB h.nd e c];exact⟨s,e,c⟩
 constructor
 ·intro r k s e;have w:∀{a b:Str},RT (lkR ["with"] W) a b->fD D a<=fD D b:=fun z=>by
   induction z with
   |refl=>exact o_ _
   |step _ l ih =>
   refine L_ ih ?_;rcases De l with o | ⟨p,m,v,e | e⟩
   ·exact r.ord _ o
   ·have:=(r.pai p m).mpr v;rw[e] at this;exact aar this
   have:=(r.pai p m).mpr v;rw[e] at this;exact aar this.symm
  refine⟨fun t i c=>?_,r.bea s (O_ e)⟩;have R:=fB h.nd e c;refine⟨fun z=>?_,r.kin k s e t i c,fun x H=>?_,fun x H=>?_,fun x H L=>?_⟩
  ·obtain⟨j,s',U,d,g⟩:=take_at.mp z;have:=fB h.nd d g;omega
  ·obtain⟨A,C⟩:=E_.mp H;rw[@p_ _ (Classical.propDecidable _)] at C;have B:=w C.1;have e2:=w C.2;obtain⟨s',d,g⟩:=u A;rw[show fD D x=k by omega,e] at d;cases d;exact g
  ·obtain⟨A,C⟩:=E_.mp H;rw[@p_ _ (Classical.propDecidable _)] at C;have B:=w C.1;obtain⟨s',d,g⟩:=u A;by_cases z:fD D x=k
   ·rw[z,e] at d;cases d;exact .inl g
   exact .inr (take_at.mpr ⟨_,s',by omega,d,g⟩)
  obtain⟨p,m,rfl⟩:=y_.mp H;obtain⟨m,v⟩:=E_.mp m;rw[X_,p_,p_] at v;have B:=(r.pai p m).mp (by rw[v.2,R,fB h.nd e L]);rw[v.1] at B;exact absurd B (by decide)
 intro F;have fil:∀{t:Str × Int × List Str},t∈W.tasks->∃s,D[fD D t.1]?=some s/\t.1∈s/\Fil W beat (W.row.getD (fD D t.1) "") (D.take (fD D t.1)).flatten s:=fun i=>by obtain⟨s,e,c⟩:=u (y_.mpr ⟨_,i,rfl⟩);exact⟨s,e,c,F _ _ e⟩
 have w:∀{a b:Str},a∈W.tasks.map (·.1)->b∈W.tasks.map (·.1)->RT (lkR ["with"] W) a b->fD D a<=fD D b:=fun {a b} I S z=>by
  obtain⟨t,i,rfl⟩:=y_.mp S;obtain⟨s,e,c,f⟩:=fil i;obtain⟨_,_,V,Q,_⟩:=f.one t i c;by_cases y:RT (lkR ["with"] W) t.1 a
  ·have:=V a (E_.mpr ⟨I,@D_ _ (Classical.propDecidable _) ⟨y,z⟩⟩);exact aar (fB h.nd e this)
  rcases Q a (E_.mpr ⟨I,@D_ _ (Classical.propDecidable _) ⟨z,y⟩⟩) with q | q
  ·exact aar (fB h.nd e q)
  obtain⟨j,s',U,d,g⟩:=take_at.mp q;rw[fB h.nd d g];omega
 refine⟨fun o N=>?_,fun p m=>?_,fun k s e t i c=>((F k s e).one t i c).2.1,fun s c=>?_⟩
 ·obtain⟨_,E,G⟩:=O.oo o N;exact w E G (.step .refl (QG N))
 ·obtain⟨v,_,E,G⟩:=O.pp p m;constructor
  ·intro e;refine v.resolve_right fun I=>?_;obtain⟨t,i,M⟩:=y_.mp E;obtain⟨s,B,c,f⟩:=fil i;obtain⟨_,_,_,_,Y⟩:=f.one t i c;refine Y p.2.2 (y_.mpr ⟨p,E_.mpr ⟨m,by rw[X_,p_,p_];exact⟨I,M.symm⟩⟩,rfl⟩) ?_;obtain⟨s',d,g⟩:=u G;have Z:fD D p.2.2=fD D t.1:=by rw[M];exact e.symm
   rw[Z,B] at d;cases d;exact g
  intro J;have K:(("with":Str),p.2.1,p.2.2)∈W.pairs:=by rw[<- J];exact m
  obtain⟨P,T⟩:=Ij K;exact Nat.le_antisymm (w E G (.step .refl P)) (w G E (.step .refl T))
 obtain⟨k,X⟩:=Y9 c;exact (F k s X).ld
theorem QH {a:List Str}{k:Nat}(h:k<a.length):atI (a.map T.str) (k:Int)=some (.str (a.getD k "")):=bY (by rw[z_,g_ h,q_,g_ h];rfl)
theorem Ik {W:Wk}{beat:Int}{a:Str}{D:List Str}(h:0<=beat):Fil W beat a D []:=⟨fun t _ z=>(nomatch z),by
 unfold cL
 rw[List.filter_eq_nil_iff.mpr fun t _=>by simp]
 exact h⟩
theorem nJ:∀ns:List Str,pick ns 0=[]
 |[]=>rfl
 |n::r=>by
  have:=nJ r
  unfold pick
  simpa using this
theorem ju {W:Wk}{ns:List Str}{f:Str->Nat}{m:Nat}(y:WkOk W) (h:ns.Perm (W.tasks.map (·.1))) (u:m<=W.row.length) (w:∀n,f n<m):Dok W (gA ns f m):=by
 have d:∀x,x∈(gA ns f m).flatten↔x∈ns:=fun x=>by
  rw[YJ];constructor
  ·rintro⟨s,g,c⟩;obtain⟨k,_,rfl⟩:=y_.mp g;exact (E_.mp c).1
  intro c;exact⟨_,y_.mpr ⟨f x,X7.mpr (w x),rfl⟩,E_.mpr ⟨c,D_ rfl⟩⟩
 refine⟨by rw[nH];exact u,fun x c=>h.mem_iff.mp ((d x).mp c),?_,fun x c=>(d x).mpr (h.mem_iff.mpr c)⟩;have p:=h.nodup_iff.mpr y.nd;unfold gA;have:∀l:List Nat,l.Nodup->((l.map fun k=>ns.filter fun n=>decide (f n=k)).flatten).Nodup:=by
  intro l;induction l with
  |nil=>intro _;exact Zu
  |cons k r A =>
  intro i;rw[Yb] at i;rw[C_,YM,List.nodup_append];refine⟨List.filter_sublist.nodup p,A i.2,fun a t b o e=>?_⟩;subst e;obtain⟨s,g,o⟩:=YJ.mp o;obtain⟨j,q,rfl⟩:=y_.mp g;have z:=Za (E_.mp t).2;have v:=Za (E_.mp o).2;exact i.1 (by rw[<- z,v];exact q)
 exact this _ List.nodup_range
theorem Dok.len {W:Wk}{D:List (List Str)}(h:Dok W D) (a:WkOk W):D.flatten.length<=8:=by
 have:=uQ h.nd h.st;rw[e_] at this;exact L_ this a.t8
def gre {b:Type}(a:b->b->Bool):List b->List b
 |[]=>[]
 |n::B=>if (gre a B).any (fun g=>a g n) then gre a B else gre a B++[n]
theorem pJ {b:Type}{a:b->b->Bool}:∀(xs:List b),∀g∈gre a xs,g∈xs
 |[],g,h=>h
 |n::B,g,h=>by
  unfold gre at h
  split at h
  ·
   exact h_ _ (pJ B g h)
  ·
   rcases B_.mp h with h | h
   ·
    exact h_ _ (pJ B g h)
   ·
    rw[m_.mp h];exact k_
theorem wU {f:Type}{c:f->f->Bool}(i:∀a,c a a=true):∀(xs:List f),∀b∈xs,∃g∈gre c xs,c g b=true
 |n::B,b,h=>by
  unfold gre
  rcases j_.mp h with rfl | h
  ·
   split
   ·
    rename_i j
    obtain⟨g,d,e⟩:=Zk.mp j
    exact⟨g,d,e⟩
   ·
    exact⟨b,by simp,i b⟩
  ·
   obtain⟨g,d,e⟩:=wU i B b h
   split
   ·
    exact⟨g,d,e⟩
   ·
    exact⟨g,Yk _ d,e⟩
theorem yD (m:Nat):List.range (m+m)=List.range m++(List.range m).map (·+m):=by
 rw[List.range_add];congr 1;exact List.map_congr_left fun a _=>Nat.add_comm _ _
theorem wV:∀(ws:List Str) (b:Int),(pick ws b).length<=ws.length
 |[],_=>o_ _
 |x::r,b=>by
  unfold pick
  have:=wV r (b / 2)
  split
  ·
   rw[n_,n_];omega
  ·
   rw[n_];omega
def bu (b a:Nat):Bool:=decide (Builtin.bitAnd (b:Int) (a:Int)=(a:Int))
theorem fP (b a:Nat):bu b a=true↔b &&& a=a:=by
 unfold bu;rw[p_,pF];exact Int.ofNat_inj
theorem yE (a:Nat):bu a a=true:=(fP a a).mpr (Nat.and_self a)
def nm (W:Wk):List Str:=W.tasks.map (·.1)
def pk (W:Wk) (i:Nat):List Str:=pick (nm W) (i:Int)
def top2 (W:Wk):Nat:=2^W.tasks.length
theorem gM (W:Wk):(nm W).length=W.tasks.length:=e_ _
theorem gh {W:Wk}(b:WkOk W) {i:Nat}(h:i<top2 W):bB (nm W) (pk W i)=i:=by
 have a:((i:Int))<2^(nm W).length:=by
  have e:((2^W.tasks.length:Nat):Int)=(2:Int)^W.tasks.length:=by push_cast;rfl
  rw[gM,<- e];exact Int.ofNat_lt.mpr h
 have:=Cu (ns:=nm W) b.nd (aaq i) a;rw[bT] at this;exact Int.ofNat.inj this
theorem pK {W:Wk}(A:List Str):bB (nm W) A<top2 W:=by
 have:=rK (nm W) A;rw[bT,gM] at this;have e:((2^W.tasks.length:Nat):Int)=(2:Int)^W.tasks.length:=by push_cast;rfl
 rw[<- e] at this;exact Int.ofNat_lt.mp this
theorem V3 {W:Wk}(a:WkOk W) (A:List Str):pk W (bB (nm W) A)=(nm W).filter fun x=>decide (x∈A):=by
 unfold pk;rw[<- bT];exact rM _ _ a.nd
theorem jw {W:Wk}(a:WkOk W) {A:List Str}{x:Str}:x∈pk W (bB (nm W) A)↔x∈nm W/\x∈A:=by
 rw[V3 a,E_,p_]
theorem iI {W:Wk}{i:Nat}{x:Str}(h:x∈pk W i):x∈nm W:=jc _ _ x h
theorem gm:∀(ns A B:List Str),(∀x∈ns,x∈B↔x∉A)->bB ns A+bB ns B+1=2^ns.length
 |[],_,_,_=>rfl
 |x::r,A,B,h=>by
  have d:=gm r A B fun y c=>h y (h_ _ c)
  have b:=h x k_
  simp only[bB,n_,Nat.pow_succ]
  by_cases a:x∈A
  ·
   rw[if_pos a,if_neg (fun z=>b.mp z a)];omega
  ·
   rw[if_neg a,if_pos (b.mpr a)];omega
theorem jg:∀(ns A B:List Str),(∀x∈ns,¬(x∈A/\x∈B))->bB ns A+bB ns B=bB ns (A++B)
 |[],_,_,_=>rfl
 |x::r,A,B,h=>by
  have e:=jg r A B fun y c=>h y (h_ _ c)
  have d:=h x k_
  simp only[bB,B_]
  by_cases a:x∈A
  ·
   have b:x∉B:=fun z=>d ⟨a,z⟩
   simp only[a,b,if_true,X8,Ym];omega
  ·
   by_cases b:x∈B
   ·
    simp only[a,b,if_true,X8,or_true];omega
   ·
    simp only[a,b,X8,or_self];omega
theorem rP {W:Wk}{A B:List Str}:bu (bB (nm W) A) (bB (nm W) B)=true↔∀x∈nm W,x∈B->x∈A:=by
 unfold bu;rw[p_,<- bT,<- bT];exact fc _ _ _
def rQ (N:Nat):List Nat:=(List.range (N+1)).filter (bu N)
theorem Il {N i:Nat}(h:bu N i=true):i<=N:=by
 have:=(fP N i).mp h;have:=Nat.and_le_left (n:=N) (m:=i);omega
theorem wW {N M:Nat}(h:N<M):(List.range M).filter (bu N)=rQ N:=by
 obtain⟨k,rfl⟩:∃k,M=(N+1)+k:=⟨M - (N+1),by omega⟩;unfold rQ;rw[List.range_add,Zv];have:((List.range k).map fun x=>N+1+x).filter (bu N)=[]:=by rw[List.filter_eq_nil_iff];intro a b;obtain⟨x,_,rfl⟩:=y_.mp b;intro z;have:=Il z;omega
 rw[this,Yd]
theorem rR {N k i:Nat}(e:i<2^k):bu N (i+2^k)=(bu N (2^k)&&bu N i):=by
 have a:i+2^k=2^k ||| i:=by have:=Nat.two_pow_add_eq_or_of_lt e 1;rw[Nat.mul_one] at this;omega
 rw[W_,X_,fP,fP,fP,a];constructor
 ·intro h;have c:∀j,(N &&& (2^k ||| i)).testBit j=(2^k ||| i).testBit j:=fun j=>by rw[h]
  refine⟨Nat.eq_of_testBit_eq fun j=>?_,Nat.eq_of_testBit_eq fun j=>?_⟩
  ·have:=c j;rw[Nat.testBit_and,Nat.testBit_or] at this;rw[Nat.testBit_and];cases b:(2^k).testBit j <;> simp_all
  have:=c j;rw[Nat.testBit_and,Nat.testBit_or] at this;rw[Nat.testBit_and];cases b:i.testBit j <;> simp_all
 rintro⟨b,d⟩;rw[Nat.and_or_distrib_left,b,d]
theorem Dg {N k:Nat}:(List.range (2^(k+1))).filter (bu N)=(List.range (2^k)).filter (bu N)++if bu N (2^k)=true then ((List.range (2^k)).filter (bu N)).map (·+2^k) else []:=by
 rw[show 2^(k+1)=2^k+2^k by rw[Nat.pow_succ];omega,yD,Zv];congr 1;rw[List.filter_map];by_cases h:bu N (2^k)=true
 ·rw[if_pos h];congr 1;refine ZF fun i a=>?_;show bu N (i+2^k)=bu N i;rw[rR (X7.mp a),h,Zh]
 rw[if_neg h,List.filter_eq_nil_iff.mpr,Yz];intro i a;show ¬bu N (i+2^k)=true;rw[rR (X7.mp a),X_];exact fun z=>h z.1
def fil (W:Wk) (beat:Int) (k d i:Nat):Bool:=uU W beat (W.row.getD k "") (pk W d) (pk W i)
def fls (W:Wk) (beat:Int) (k d:Nat):List Nat:=(List.range (top2 W)).filter (fil W beat k d)
theorem fls_mem {W:Wk}{beat:Int}{k d i:Nat}:i∈fls W beat k d↔i<top2 W/\Fil W beat (W.row.getD k "") (pk W d) (pk W i):=by
 unfold fls;rw[E_,X7];unfold fil;rw[fil_iff]
theorem Fil.apart {W:Wk}{beat:Int}{a:Str}{D S:List Str}(f:Fil W beat a D S) {x:Str}(d:x∈nm W) (c:x∈S):x∉D:=by
 obtain⟨t,b,rfl⟩:=y_.mp d;exact (f.one t b c).1
theorem yF {W:Wk}{beat:Int}{k d:Nat}(c:WkOk W) (e:d<top2 W):(rQ (top2 W - 1 - d)).filter (fil W beat k d)=fls W beat k d:=by
 have j:top2 W - 1 - d<top2 W:=by omega
 rw[<- wW j];unfold fls;rw[List.filter_filter];refine ZF fun i l=>?_;have b:=X7.mp l;cases h:fil W beat k d i with
 |false=>rfl
 |true =>
 rw[Zh];have f:Fil W beat (W.row.getD k "") (pk W d) (pk W i):=fil_iff.mp h;have m:top2 W - 1 - d=bB (nm W) ((nm W).filter fun x=>decide (x∉pk W d)):=by
  have:=gm (nm W) (pk W d) ((nm W).filter fun x=>decide (x∉pk W d)) fun x a=>by rw[E_,p_];exact⟨fun z=>z.2,fun z=>⟨a,z⟩⟩
  rw[gh c e,gM] at this;unfold top2;omega
 rw[m,show i=bB (nm W) (pk W i) from (gh c b).symm];rw[rP];intro x a g;rw[E_,p_];exact⟨a,f.apart a g⟩
inductive Frw (W:Wk) (beat:Int):List Nat->Nat->Prop
 |nil:Frw W beat [] 0
 |snoc {fs:List Nat} {d f:Nat}:Frw W beat fs d->fs.length<W.row.length->f∈fls W beat fs.length d->Frw W beat (fs++[f]) (d+f)
theorem pL (W:Wk):pk W 0=[]:=nJ _
theorem Frw.ok {W:Wk}{beat:Int}{a:List Nat}{d:Nat}(i:WkOk W) (r:Frw W beat a d):d<top2 W/\a.length<=W.row.length/\(∀x,x∈pk W d↔x∈(a.map (pk W)).flatten)/\Fils W beat (a.map (pk W))/\∀f∈a,f<top2 W:=by
 induction r with
 |nil=>exact⟨Nat.pow_pos (by decide),X3 _,fun x=>by rw[pL];rfl,Fils.nil,fun _ h=>(nomatch h)⟩
 |@snoc a d f r n m p =>
 obtain⟨l,_,j,k,o⟩:=p;obtain⟨b,F⟩:=fls_mem.mp m;have e:d+f=bB (nm W) (pk W d++pk W f):=by rw[<- jg _ _ _ fun x q z=>F.apart q z.2 z.1,gh i l,gh i b]
 refine⟨by rw[e];exact pK _,by rw[d_];exact n,fun x=>?_,?_,fun g c=>?_⟩
 ·rw[e,jw i,H_,List.flatten_append,B_,B_,<- j x];simp only[C_,Yz,YM,List.flatten_nil,Yd];exact⟨fun z=>z.2,fun z=>⟨z.elim iI iI,z⟩⟩
 ·rw[H_];refine k.snoc ?_;rw[e_];exact F.congr j fun x=>Iff.rfl
 rcases B_.mp c with c | c
 ·exact o g c
 rw[m_.mp c];exact b
theorem Frw.of {W:Wk}{beat:Int}(g:WkOk W):∀{D:List (List Str)},D.length<=W.row.length->(∀s∈D,∀n∈s,n∈nm W)->Fils W beat D->Frw W beat (D.map (bB (nm W))) (bB (nm W) D.flatten):=by
 intro D;induction hl:D.length generalizing D with
 |zero=>intro _ _ _;rw[ZM.mp hl,Yz,List.flatten_nil,gK];exact .nil
 |succ m p =>
 intro t b F;obtain⟨A,l,rfl⟩:∃A l,D=A++[l]:=⟨D.dropLast,D.getLast (by intro z;rw[z] at hl;cases hl),(Zc _).symm⟩;have j:A.length=m:=by simp at hl;exact hl
 have i:Fils W beat A:=fun k s e=>by
  have o:k<A.length:=by
   rcases aax k A.length with z | z
   ·exact z
   rw[V_ z] at e;cases e
  have:=F k s (by rw[Yp o];exact e)
  rwa [List.take_append_of_le_length (by omega)] at this
 have r:=p j (by omega) (fun s h=>b s (Yk _ h)) i;have f:=F A.length l (by rw[Yc (o_ _)];simp);rw[List.take_left' rfl] at f;have d:=b l (by simp);have c:∀n∈A.flatten,n∈nm W:=fun n a=>by obtain⟨s,h,a⟩:=YJ.mp a;exact b s (Yk _ h) n a
 have:=Frw.snoc r (by rw[e_];omega) (f:=bB (nm W) l) (fls_mem.mpr ⟨pK _,by
  rw[e_]
  exact f.congr (fun x=>by rw[jw g];exact⟨fun z=>⟨c x z,z⟩,fun z=>z.2⟩) fun x=>by rw[jw g];exact⟨fun z=>⟨d x z,z⟩,fun z=>z.2⟩⟩)
 rw[jg _ _ _ fun x q z=>f.apart q z.2 z.1] at this;rw[H_,List.flatten_append];simpa using this
theorem nM {W:Wk}(d:WkOk W):∀x∈nm W,x∈pk W (top2 W - 1):=fun x a=>by
 have b:bB (nm W) (nm W)=top2 W - 1:=by
  have:=gm (nm W) (nm W) [] fun y c=>by simp [c]
  rw[gK,gM] at this;unfold top2;omega
 rw[<- b,jw d];exact⟨a,a⟩
theorem jx {W:Wk}{A:List Str}(h:∀x∈nm W,x∈A):bB (nm W) A=top2 W - 1:=by
 have:=gm (nm W) A [] fun y a=>by simp [h y a]
 rw[gK,gM] at this;unfold top2;omega
theorem Frw.ofD {W:Wk}{beat:Int}{D:List (List Str)}(b:WkOk W) (h:Dok W D) (F:Fils W beat D):Frw W beat (D.map (bB (nm W))) (top2 W - 1):=by
 have:=Frw.of b h.rw (fun s a=>(h.in a).2) F
 rwa [jx h.al] at this
def bU (i:Nat):T:=.int (i:Int)
def wkF (W:Wk) (beat:Int) (p:Addr):List (Str × T):=[("works",W.enc),("beat",.int beat),("rules",.ref p),("whole",.int ((top2 W:Int) - 1))]
structure Wlk (C:Addr) (W:Wk) (beat:Int) (H:Hp3) (a:Addr):Prop where
 ex:∃p,H a=some (.ins C (wkF W beat p))/\H p=some (.lst (W.tasks.map (ruT W (W.tasks.map (·.1)))))
theorem Wlk.sub {C:Addr}{W:Wk}{beat:Int}{H b:Hp3}{a:Addr}(h:Wlk C W beat H a) (s:Sub3 H b):Wlk C W beat b a:=by
 obtain⟨p,d,c⟩:=h.ex;exact⟨p,s _ _ d,s _ _ c⟩
theorem jh {W:Wk}{beat:Int}{p:Addr}:aP "works" (wkF W beat p)=some W.enc:=rfl
theorem wX {W:Wk}{beat:Int}{p:Addr}:aP "beat" (wkF W beat p)=some (.int beat):=by unfold wkF aP;rw[if_neg (by decide +kernel)];unfold aP;rw[if_pos rfl]
theorem lD {W:Wk}{beat:Int}{p:Addr}:aP "rules" (wkF W beat p)=some (.ref p):=by unfold wkF aP;rw[if_neg (by decide +kernel)];unfold aP;rw[if_neg (by decide +kernel)];unfold aP;rw[if_pos rfl]
theorem rT {W:Wk}{beat:Int}{p:Addr}:aP "whole" (wkF W beat p)=some (.int ((top2 W:Int) - 1)):=by unfold wkF aP;rw[if_neg (by decide +kernel)];unfold aP;rw[if_neg (by decide +kernel)];unfold aP;rw[if_neg (by decide +kernel)];unfold aP;rw[if_pos rfl]
theorem Dh {W:Wk}{beat:Int}{p:Addr}{m:Str}(h:m∉(["works","beat","rules","whole"]:List Str)):aP m (wkF W beat p)=none:=by
 simp only[j_,G_,Ym,not_or] at h;unfold wkF;simp only[aP];rw[if_neg (Ne.symm h.1),if_neg (Ne.symm h.2.1),if_neg (Ne.symm h.2.2.1),if_neg (Ne.symm h.2.2.2)]
theorem QJ {W:Wk}(a:WkOk W) {i:Nat}(h:i<top2 W):numOf (W.tasks.map (·.1)) (pk W i)=(i:Int):=by
 rw[bT];exact X6 Int.ofNat (gh a h)
theorem pM {W:Wk}(a:WkOk W):top2 W<=256:=Nat.pow_le_pow_right (n:=2) (by decide) a.t8
theorem gO (W:Wk):0<top2 W:=Nat.pow_pos (by decide)
def Kg:Sp3:=fun ts H Q=>∃N:Nat,ts=[.int (N:Int)]/\N<256/\∀p,H p=none->Q (.ref p) (up3 H p (.lst ((rQ N).map bU)))
def V4 (C:Addr):Sp3:=fun ts H Q=>∃(a:Addr) (W:Wk) (beat:Int),ts=[.ref a,W.enc,.int beat]/\WkOk W/\H a=some (.ins C [])/\∀c,(∀b o,b≠a->H b=some o->c b=some o)->Wlk C W beat c a->Q .non c
def V5 (C:Addr):Sp3:=fun ts H Q=>∃(a:Addr) (W:Wk) (beat:Int) (k d:Nat),ts=[.ref a,.int (k:Int),.int (d:Int)]/\WkOk W/\Wlk C W beat H a/\k<W.row.length/\d<top2 W/\∀p,H p=none->Q (.ref p) (up3 H p (.lst ((fls W beat k d).map bU)))
def Kh (C:Addr):Sp3:=fun ts H Q=>∃(a:Addr) (W:Wk) (beat:Int) (i:Nat),ts=[.ref a,.int (i:Int)]/\WkOk W/\Wlk C W beat H a/\i<top2 W/\Q (.int (cL W.tasks (pk W i))) H
section
variable {α:Type}
def gP (k:Nat):List (Nat × α)->Option α
 |[]=>none
 | (k',v)::r=>if k'=k then some v else gP k r
def putN (k:Nat) (v:α) (E:List (Nat × α)):List (Nat × α) :=
 if (E.any fun e=>decide (e.1=k))=true then E.map (fun e=>if e.1=k then (e.1,v) else e) else E++[(k,v)]
theorem jy {k:Nat}{v:α}:∀{E:List (Nat × α)},gP k E=some v->(k,v)∈E
 | (k',v')::r,h=>by
  unfold gP at h
  by_cases e:k'=k
  ·
   rw[if_pos e] at h;cases h;subst e;exact k_
  ·
   rw[if_neg e] at h;exact h_ _ (jy h)
theorem lE {k:Nat}:∀{E:List (Nat × α)},gP k E=none->∀e∈E,e.1≠k
 | (k',v')::r,h,e,a=>by
  unfold gP at h
  by_cases z:k'=k
  ·
   rw[if_pos z] at h;cases h
  ·
   rw[if_neg z] at h
   rcases j_.mp a with rfl | a
   ·
    exact z
   ·
    exact lE h e a
theorem yG (k:Nat) (v:α) (E:List (Nat × α)):(putN k v E).map (·.1)=if k∈E.map (·.1) then E.map (·.1) else E.map (·.1)++[k]:=by
 have a:(E.any fun e=>decide (e.1=k))=decide (k∈E.map (·.1)):=by rw[W_,Zk,p_,y_];exact⟨fun ⟨e,h,z⟩=>⟨e,h,Za z⟩,fun ⟨e,h,z⟩=>⟨e,h,D_ z⟩⟩
 unfold putN;rw[a];by_cases h:k∈E.map (·.1)
 ·rw[if_pos h,if_pos (D_ h),Yo];refine List.map_congr_left fun e _=>?_;show (if e.1=k then (e.1,v) else e).1=e.1;split <;> rfl
 rw[if_neg h,if_neg (Be h),H_];rfl
theorem Di {k:Nat}{v:α}{E:List (Nat × α)}{e:Nat × α}(h:e∈putN k v E):e=(k,v)\/(e∈E/\e.1≠k)\/(e∈E/\k∉E.map (·.1)):=by
 unfold putN at h;split at h
 ·obtain⟨x,a,rfl⟩:=y_.mp h;by_cases z:x.1=k
  ·rw[if_pos z,z];exact .inl rfl
  rw[if_neg z];exact .inr (.inl ⟨a,z⟩)
 rename_i b;rcases B_.mp h with h | h
 ·refine .inr (.inr ⟨h,fun z=>b ?_⟩);obtain⟨x,a,e⟩:=y_.mp z;exact Zk.mpr ⟨x,a,D_ e⟩
 exact .inl (m_.mp h)
theorem Dj (k:Nat) (v:α) (E:List (Nat × α)):(k,v)∈putN k v E:=by
 unfold putN;split
 ·rename_i h;obtain⟨x,a,e⟩:=Zk.mp h;refine y_.mpr ⟨x,a,?_⟩;have:=Za e;rw[if_pos this,this]
 exact R_ _ (m_.mpr rfl)
theorem Dk {k:Nat}{v:α}{E:List (Nat × α)}{e:Nat × α}(h:e∈E) (a:e.1≠k):e∈putN k v E:=by
 unfold putN;split
 ·exact y_.mpr ⟨e,h,if_neg a⟩
 exact Yk _ h
theorem Im {k:Nat}{v:α}{E:List (Nat × α)}(h:(E.map (·.1)).Nodup):((putN k v E).map (·.1)).Nodup:=by
 rw[yG];split
 ·exact h
 rename_i z;exact eU h z
theorem wY {k:Nat}{v:α}:∀{E:List (Nat × α)},(E.map (·.1)).Nodup->(k,v)∈E->gP k E=some v
 | (k',v')::r,nd,h=>by
  rw[C_,Yb] at nd
  unfold gP
  rcases j_.mp h with e | h
  ·
   cases e;rw[if_pos rfl]
  ·
   rw[if_neg (fun z=>nd.1 (by rw[z];exact y_.mpr ⟨_,h,rfl⟩))]
   exact wY nd.2 h
end
theorem Frw.inv {W:Wk}{beat:Int}{c:List Nat}{d:Nat}(r:Frw W beat c d) {k:Nat}(b:c.length=k+1):∃a d' f,c=a++[f]/\d=d'+f/\Frw W beat a d'/\a.length=k/\f∈fls W beat k d':=by
 cases r with
 |nil=>cases b
 |@snoc a d' f r g e =>
  have:a.length=k:=by rw[d_] at b;simp at b;exact b
  exact⟨a,d',f,rfl,rfl,r,this,by rw[<- this];exact e⟩
theorem Frw.nil0 {W:Wk}{beat:Int}{a:List Nat}{d:Nat}(r:Frw W beat a d) (h:a=[]):d=0:=by
 cases r with
 |nil=>rfl
 |@snoc b d' f r c e=>exact absurd h (by simp)
theorem Wlk.frz {C:Addr}{W:Wk}{beat:Int}{H:Hp3}{a q:Addr}{o:O3}{E:List (Int × T)}(h:Wlk C W beat H a) (b:H q=some (.dci E)):Wlk C W beat (up3 H q o) a:=by
 obtain⟨p,c,d⟩:=h.ex;exact⟨p,by rw[aD (ne3 c b (by simp))];exact c,by rw[aD (ne3 d b (by simp))];exact d⟩
def gfl (W:Wk) (beat:Int) (k d:Nat):List Nat:=(gre bu (fls W beat k d)).reverse
theorem pN {W:Wk}{beat:Int}{k d f:Nat}(h:f∈gfl W beat k d):f∈fls W beat k d:=pJ _ _ (List.mem_reverse.mp h)
theorem wZ {W:Wk}{beat:Int}{k d f:Nat}(h:f∈fls W beat k d):∃g∈gfl W beat k d,bu g f=true:=by
 obtain⟨g,a,e⟩:=wU yE _ f h;exact⟨g,List.mem_reverse.mpr a,e⟩
theorem Dl {W:Wk}{t x:Str}(h:x∈fM W t) (a:t∈nm W):t∈fM W x:=by
 unfold fM at h ⊢;rw[E_,@p_ _ (Classical.propDecidable _)] at h ⊢;exact⟨a,h.2.2,h.2.1⟩
theorem Frw.grp {W:Wk}{beat:Int}{m:List Nat}{d:Nat}(l:WkOk W) (r:Frw W beat m d) {t x:Str}(g:t∈pk W d) (n:x∈fM W t):x∈pk W d:=by
 obtain⟨_,_,c,h,_⟩:=r.ok l;obtain⟨s,b,a⟩:=YJ.mp ((c t).mp g);obtain⟨j,i⟩:=Y9 b;obtain⟨u,k,e⟩:=y_.mp (iI g);have f:=(h j s i).one u k (by rw[e];exact a);exact (c x).mpr (YJ.mpr ⟨s,b,f.2.2.1 x (by rw[e];exact n)⟩)
theorem uX {ts:List (Str × Int × List Str)}{S a:List Str}(d:∀t∈ts,0<=t.2.1) (h:∀x∈a,x∈S):cL ts a<=cL ts S:=by
 unfold cL;induction ts with
 |nil=>exact aaB _
 |cons t r f =>
  have i:=f fun u e=>d u (h_ _ e)
  have g:=d t k_
  rw[Zi,Zi]
  by_cases b:t.1∈a
  ·
   rw[if_pos (D_ b),if_pos (D_ (h _ b)),C_,C_,YT,YT]
   omega
  ·
   rw[if_neg (Be b)]
   by_cases c:t.1∈S
   ·
    rw[if_pos (D_ c),C_,YT];omega
   ·
    rw[if_neg (Be c)];exact i
theorem Fil.more {W:Wk}{beat:Int}{a:Str}{D S c:List Str}(k:WkOk W) (f:Fil W beat a D S) (g:∀x∈D,x∈c) (m:∀t x,t∈c->x∈fM W t->x∈c):Fil W beat a c (S.filter fun x=>decide (x∉c)) :=
 ⟨fun t e d=>by
  rw[E_,p_] at d
  obtain⟨n,h,l,j,i⟩:=f.one t e d.1
  refine⟨d.2,h,fun x b=>?_,fun x b=>?_,fun x b z=>i x b (E_.mp z).1⟩
  ·
   rw[E_,p_]
   exact⟨l x b,fun z=>d.2 (m x t.1 z (Dl b (y_.mpr ⟨t,e,rfl⟩)))⟩
  ·
   by_cases z:x∈c
   ·
    exact .inr z
   ·
    exact .inl (E_.mpr ⟨(j x b).resolve_right fun q=>z (g x q),D_ z⟩),
  Int.le_trans (uX (fun t e=>by have:=(k.tk t e).lo;omega) fun x b=>(E_.mp b).1) f.ld⟩
abbrev Wy:=List (Nat × List Nat)
def Dm (d:Nat) (v:List Nat) (B:Wy) (f:Nat):Wy:=match gP (d+f) B with
 |none=>putN (d+f) (v++[f]) B
 |some _=>B
def wbh (W:Wk) (beat:Int) (k:Nat) (E:Wy):Wy:=E.foldl (fun B e=>(gfl W beat k e.1).foldl (Dm e.1 e.2) B) []
def wys (W:Wk) (beat:Int):Nat->Wy
 |0=>[(0,[])]
 |k+1=>wbh W beat k (wys W beat k)
structure Wtb (W:Wk) (beat:Int) (k:Nat) (E:Wy):Prop where
 nd:(E.map (·.1)).Nodup
 ok:∀e∈E,Frw W beat e.2 e.1/\e.2.length=k
 al:∀fs d,Frw W beat fs d->fs.length=k->∃e∈E,∀x∈pk W d,x∈pk W e.1
structure WtI (W:Wk) (beat:Int) (k:Nat) (sub:Nat->Nat->Prop) (B:Wy):Prop where
 nd:(B.map (·.1)).Nodup
 ok:∀e∈B,Frw W beat e.2 e.1/\e.2.length=k+1
 al:∀d f,sub d f->∃e∈B,e.1=d+f
theorem WtI.step {W:Wk}{beat:Int}{k:Nat}{sub:Nat->Nat->Prop}{B:Wy}{d:Nat}{v:List Nat}{f:Nat}(h:WtI W beat k sub B) (j:Frw W beat v d) (i:v.length=k) (n:k<W.row.length) (l:f∈fls W beat k d) :
  WtI W beat k (fun d' c=>sub d' c\/(d'=d/\c=f)) (Dm d v B f):=by
 have g:Frw W beat (v++[f]) (d+f)/\(v++[f]).length=k+1 :=
  ⟨.snoc j (by omega) (by rw[i];exact l),by rw[d_,i];rfl⟩
 unfold Dm;cases e:gP (d+f) B with
 |none =>
  refine⟨Im h.nd,fun x a=>?_,fun d' c b=>?_⟩
  ·rcases Di a with rfl | ⟨a,_⟩ | ⟨a,_⟩
   ·exact g
   ·exact h.ok x a
   exact h.ok x a
  rcases b with b | ⟨rfl,rfl⟩
  ·obtain⟨x,a,m⟩:=h.al d' c b;exact⟨x,Dk a (lE e x a),m⟩
  exact⟨_,Dj _ _ _,rfl⟩
 |some u =>
 refine⟨h.nd,h.ok,fun d' c b=>?_⟩;rcases b with b | ⟨rfl,rfl⟩
 ·exact h.al d' c b
 exact⟨_,jy e,rfl⟩
theorem WtI.inner {W:Wk}{beat:Int}{k:Nat}{sub:Nat->Nat->Prop}{B:Wy}{d:Nat}{v:List Nat}(l:Frw W beat v d) (n:v.length=k) (m:k<W.row.length) :
  ∀{xs:List Nat},(∀f∈xs,f∈fls W beat k d)->WtI W beat k sub B->WtI W beat k (fun d' a=>sub d' a\/(d'=d/\a∈xs)) (xs.foldl (Dm d v) B):=by
 intro xs;induction xs generalizing sub B with
 |nil=>intro _ h;exact⟨h.nd,h.ok,fun d' a b=>h.al d' a (b.resolve_right fun z=>nomatch z.2)⟩
 |cons f r p =>
 intro i h;have e:=p (fun g o=>i g (h_ _ o)) (h.step l n m (i f k_));refine⟨e.nd,e.ok,fun d' a b=>e.al d' a ?_⟩;rcases b with b | ⟨j,c⟩
 ·exact .inl (.inl b)
 rcases j_.mp c with c | c
 ·exact .inl (.inr ⟨j,c⟩)
 exact .inr ⟨j,c⟩
theorem WtI.outer {W:Wk}{beat:Int}{k:Nat}(c:k<W.row.length):∀{xs:Wy}{sub:Nat->Nat->Prop}{B:Wy},(∀e∈xs,Frw W beat e.2 e.1/\e.2.length=k)->WtI W beat k sub B ->
  WtI W beat k (fun d f=>sub d f\/((∃v,(d,v)∈xs)/\f∈gfl W beat k d)) (xs.foldl (fun B e=>(gfl W beat k e.1).foldl (Dm e.1 e.2) B) B)
 |[],_,_,_,h=>⟨h.nd,h.ok,fun d f a=>h.al d f (a.resolve_right fun z=>z.1.elim fun _ q=>nomatch q)⟩
 |e::r,sub,B,hx,h=>by
  obtain⟨j,i⟩:=hx e k_
  have q:=WtI.outer c (xs:=r) (fun x b=>hx x (h_ _ b)) (WtI.inner (xs:=gfl W beat k e.1) j i c (fun f l=>pN l) h)
  refine⟨q.nd,q.ok,fun d f a=>q.al d f ?_⟩
  rcases a with a | ⟨⟨v,m⟩,g⟩
  ·
   exact .inl (.inl a)
  ·
   rcases j_.mp m with z | z
   ·
    rw[<- z] at *
    exact .inl (.inr ⟨rfl,g⟩)
   ·
    exact .inr ⟨⟨v,z⟩,g⟩
theorem Do {W:Wk}{beat:Int}{k d f:Nat}(b:WkOk W) (c:d<top2 W) (g:f∈fls W beat k d) {x:Str}:x∈pk W (d+f)↔x∈pk W d\/x∈pk W f:=by
 obtain⟨a,F⟩:=fls_mem.mp g;have e:d+f=bB (nm W) (pk W d++pk W f):=by rw[<- jg _ _ _ fun x h z=>F.apart h z.2 z.1,gh b c,gh b a]
 rw[e,jw b,B_];exact⟨fun z=>z.2,fun z=>⟨z.elim iI iI,z⟩⟩
theorem Dp {W:Wk}{beat:Int}{k:Nat}{E:Wy}(a:WkOk W) (h:Wtb W beat k E) (H:k<W.row.length):Wtb W beat (k+1) (wbh W beat k E):=by
 have q:=WtI.outer (W:=W) (beat:=beat) H (xs:=E) (sub:=fun _ _=>False) (B:=[]) h.ok ⟨Zu,fun _ z=>(nomatch z),fun _ _ z=>z.elim⟩;refine⟨q.nd,q.ok,fun M d r J=>?_⟩;obtain⟨K,d',f,rfl,rfl,A,i,v⟩:=r.inv J;obtain⟨e,s,u⟩:=h.al K d' A i;have o:=(h.ok e s).1;have j:=(o.ok a).1;obtain⟨C,F⟩:=fls_mem.mp v;have L:=F.more a u fun t x I n=>o.grp a I n;have l:bB (nm W) ((pk W f).filter fun x=>decide (x∉pk W e.1))∈fls W beat k e.1:=fls_mem.mpr ⟨pK _,L.congr (fun x=>Iff.rfl) fun x=>by rw[jw a];exact⟨fun z=>⟨iI (E_.mp z).1,z⟩,fun z=>z.2⟩⟩;obtain⟨g,w,p⟩:=wZ l;have b:=pN w;obtain⟨x,n,G⟩:=q.al e.1 g (.inr ⟨⟨e.2,s⟩,w⟩);have m:=(fls_mem.mp b).1;refine⟨x,n,fun y D=>?_⟩;rw[G,Do a j b];rcases (Do a (A.ok a).1 v).mp D with z | z
 ·exact .inl (u y z)
 by_cases c:y∈pk W e.1
 ·exact .inl c
 refine .inr ?_;rw[<- gh a m,rP] at p;exact p y (iI z) (E_.mpr ⟨z,D_ c⟩)
theorem wtb {W:Wk}{beat:Int}(a:WkOk W):∀{k:Nat},k<=W.row.length->Wtb W beat k (wys W beat k)
 |0,_=>⟨by simp [wys],fun e f=>by rw[m_.mp f];exact⟨.nil,rfl⟩,fun g d r c=>by
   refine⟨(0,[]),m_.mpr rfl,fun x b=>?_⟩
   rw[r.nil0 (ZM.mp c)] at b
   exact b⟩
 |k+1,h=>Dp a (wtb a (by omega)) (by omega)
theorem Io {W:Wk}{beat:Int}(a:WkOk W) {m:Nat}(f:m<=W.row.length):(gP (top2 W - 1) (wys W beat m)).isSome=true↔∃b,Frw W beat b (top2 W - 1)/\b.length=m:=by
 have T:=wtb (beat:=beat) a f;constructor
 ·intro h;obtain⟨v,e⟩:=aak.mp h;have:=T.ok _ (jy e);exact⟨v,this.1,this.2⟩
 rintro⟨b,r,d⟩;obtain⟨e,c,h⟩:=T.al b _ r d;have g:e.1=top2 W - 1:=by rw[<- gh a ((T.ok e c).1.ok a).1];exact jx fun x i=>h x (nM a x i)
 have:=wY T.nd (show (e.1,e.2)∈wys W beat m from c);rw[g] at this;rw[this];rfl
def V6:Sp3:=fun ts H Q=>∃(a:Addr) (b:List Nat),ts=[.ref a]/\H a=some (.lst (b.map bU))/\b.length<=256/\∀p,H p=none->Q (.ref p) (up3 H p (.lst ((gre bu b).reverse.map bU)))
theorem pQ {b:Type}(a:b->b->Bool):∀xs:List b,(gre a xs).length<=xs.length
 |[]=>o_ _
 |n::B=>by
  have:=pQ a B
  unfold gre
  split
  ·
   rw[n_];omega
  ·
   rw[d_,n_];simp only[n_,Yg];omega
def V7 (C:Addr):Sp3:=fun ts H Q=>∃(a:Addr) (W:Wk) (beat:Int) (k d:Nat),ts=[.ref a,.int (k:Int),.int (d:Int)]/\WkOk W/\Wlk C W beat H a/\k<W.row.length/\d<top2 W/\∀p,H p=none->Q (.ref p) (up3 H p (.lst ((gfl W beat k d).map bU)))
def bV (W:Wk):Int:=(W.tasks.map (·.2.1)).sum
theorem Dq {W:Wk}(b:WkOk W):cL W.tasks (pk W (top2 W - 1))=bV W:=by
 unfold cL bV;rw[List.filter_eq_self.mpr fun t a=>D_ (nM b _ (y_.mpr ⟨t,a,rfl⟩))]
theorem j4 (W:Wk):numOf (W.tasks.map (·.1)) []=0:=by
 rw[bT];have:bB (nm W) []=0:=by
  have h:∀ns:List Str,bB ns []=0:=fun ns=>by
   induction ns with
   |nil=>rfl
   |cons n ns a=>simp [bB,a]
  exact h _
 exact X6 Int.ofNat this
theorem QK {W:Wk}{beat:Int}{k:Nat}(c:0<=beat):gfl W beat k 0≠[]:=fun z=>by
 have b:0∈fls W beat k 0:=fls_mem.mpr ⟨gO W,by rw[pL];exact Ik c⟩;obtain⟨g,a,_⟩:=wZ b;rw[z] at a;cases a
def V8 (C:Addr):Sp3:=fun ts H Q=>∃(a:Addr) (W:Wk) (beat:Int),ts=[.ref a,.tup []]/\WkOk W/\Wlk C W beat H a/\Q (.int (bV W)) H
def V9 (C:Addr):Sp3:=fun ts H Q=>∃(a:Addr) (W:Wk) (beat:Int),ts=[.ref a,.int 0,.tup []]/\WkOk W/\Wlk C W beat H a/\0<=beat/\∀l:List (List Str),l≠[]->Q (.tup (l.map sT)) H
def Kl (C:Addr):Sp3:=fun ts H Q=>∃(a:Addr) (W:Wk) (beat:Int),ts=[.ref a,.tup []]/\WkOk W/\Wlk C W beat H a/\Q (.bl true) H
def Wa (C:Addr):Sp3:=fun ts H Q=>∃(a:Addr) (W:Wk) (beat left n:Int),ts=[.ref a,.int left,.tup [],.int n]/\WkOk W/\Wlk C W beat H a/\0<=left/\left<=8/\Q (.bl (decide (n=bV W)&&decide (beat*left<n))) H
def Wb (w:World):Sp3:=fun ts H Q=>∃(c:Addr) (kvs:List (NK × T)) (st:Int) (D O:List Str),ts=[.ref c,.int st,sT D,sT O]/\H c=some (.dcn w kvs)/\D.length<=8/\Q (.bl ((cA (st,O) kvs).isSome&&(!decide (O=D)&&D.all fun x=>decide (x∈O)))) H
def Wc (C:Addr):Sp3:=fun ts H Q=>∃(a c:Addr) (W:Wk) (beat:Int),ts=[.ref a,.ref c,.int 0,.tup [],.tup []]/\WkOk W/\Wlk C W beat H a/\0<=beat/\Q (.bl false) H
inductive Rsn where
 |left (n:Int) | less (O:List Str) | ways
def rsT:Rsn->T
 |.left n=>.tup [.str "left",.int n]
 |.less O=>.tup [.str "less",sT O]
 |.ways=>.tup [.str "ways",.tup []]
def rsB (W:Wk) (beat:Int) (many:Nat) (kvs:List (NK × T)):Rsn->Bool
 |.left n=>decide (n=bV W)&&decide (beat*many<n)
 |.less O=>(cA (0,O) kvs).isSome&&!decide (O=[])
 |.ways=>false
def Wd (w:World) (C:Addr):Sp3:=fun ts H Q=>∃(a c:Addr) (W:Wk) (beat:Int) (many:Nat) (kvs:List (NK × T)) (r:Rsn),ts=[.ref a,.int (many:Int),.ref c,.int 0,.tup [],rsT r]/\WkOk W/\Wlk C W beat H a/\0<=beat/\many<=W.row.length/\H c=some (.dcn w kvs)/\Q (.bl (rsB W beat many kvs r)) H
abbrev Cse:=Int × List Str × Rsn
def csT (c:Cse):T:=.tup [.int c.1,sT c.2.1,rsT c.2.2]
def plT (W:Wk) (c:Cse):T:=.tup [.int c.1,.int (numOf (W.tasks.map (·.1)) c.2.1)]
def We:Sp3:=fun ts H Q=>∃(W:Wk) (a:List Cse),ts=[W.enc,.tup (a.map csT)]/\WkOk W/\(∀c∈a,c.2.1.length<=8)/\((a.length<=1/\Q (.bl true) H)\/∃c,a=[c,c]/\Q (.bl false) H)
def ipB (W:Wk) (beat:Int) (many:Nat):List Cse->Bool
 |[c]=>decide ((c.1,c.2.1)=((0,[]):NK))&&rsB W beat many [((c.1,c.2.1),.bl true)] c.2.2
 |_=>false
def Wf:Sp3:=fun ts H Q=>∃(W:Wk) (beat:Int) (many:Nat) (a:List Cse),ts=[W.enc,.int beat,.int (many:Int),.tup (a.map csT)]/\WkOk W/\0<=beat/\many<=W.row.length/\(∀c∈a,c.2.1.length<=8)/\(a.length<=1\/∃c,a=[c,c])/\Q (.bl (ipB W beat many a)) H
structure Hol (W:Wk) (f:Str->Nat):Prop where
 ord:∀o∈W.orders,f o.1<=f o.2
 pai:∀p∈W.pairs,f p.2.1=f p.2.2↔p.1="with"
 kin:∀t∈W.tasks,mC t.2.2 (W.row.getD (f t.1) "")=true
theorem Hol.congr {W:Wk}{f g:Str->Nat}(d:WkOk W) (h:Hol W f) (e:∀n∈nm W,f n=g n):Hol W g :=
 ⟨fun o a=>by
  have q:=d.oo o a
  rw[<- e _ q.2.1,<- e _ q.2.2];exact h.ord o a,fun p c=>by
  have q:=d.pp p c
  rw[<- e _ q.2.2.1,<- e _ q.2.2.2];exact h.pai p c,fun t b=>by
  rw[<- e _ (y_.mpr ⟨t,b,rfl⟩)];exact h.kin t b⟩
def ldF (ts:List (Str × Int × List Str)) (f:Str->Nat) (k:Nat):Int:=((ts.filter fun t=>decide (f t.1=k)).map (·.2.1)).sum
def lds (W:Wk) (f:Str->Nat) (m:Nat):List Int:=(List.range m).map (ldF W.tasks f)
theorem rW (A:List (Str × Int × List Str)) (t:Str × Int × List Str) (f:Str->Nat) (k:Nat):ldF (A++[t]) f k=ldF A f k+if f t.1=k then t.2.1 else 0:=by
 unfold ldF;rw[Zv,H_,List.sum_append];by_cases h:f t.1=k <;> simp [h]
theorem Ip {A:List (Str × Int × List Str)}{t:Str × Int × List Str}{f:Str->Nat}{m:Nat}(h:f t.1<m):((List.range m).map (ldF A f)).set (f t.1) (ldF A f (f t.1)+t.2.1)=(List.range m).map (ldF (A++[t]) f):=by
 apply Z_;intro i;by_cases a:i<m
 ·rw[z_,Ys a];by_cases e:i=f t.1
  ·subst e;rw[Zf (by rw[e_,K_];exact a),Option.map_some,rW,if_pos rfl]
  rw[ZC (Ne.symm e),z_,Ys a,Option.map_some,Option.map_some,rW,if_neg (Ne.symm e),Int.add_zero]
 rw[V_ (by rw[List.length_set,e_,K_];omega),V_ (by rw[e_,K_];omega)]
theorem Dr {ns:List Str}{f:Str->Nat}{m k:Nat}(a:k<m):(gA ns f m)[k]?=some (ns.filter fun n=>decide (f n=k)):=by
 unfold gA;rw[z_,Ys a];rfl
theorem Ds {W:Wk}{f:Str->Nat}{m:Nat}(d:WkOk W) (b:m<=W.row.length) (a:∀n,f n<m):∀n∈nm W,fD (gA (nm W) f m) n=f n:=fun n c =>
 fB (ju d (List.Perm.refl _) b a).nd (Dr (a n)) (E_.mpr ⟨c,D_ rfl⟩)
theorem lF {W:Wk}{f:Str->Nat}{k:Nat}:cL W.tasks ((nm W).filter fun n=>decide (f n=k))=ldF W.tasks f k:=by
 have e:(W.tasks.filter fun t=>decide (t.1∈(nm W).filter fun n=>decide (f n=k)))=W.tasks.filter fun t=>decide (f t.1=k):=ZF fun t a=>by rw[ZP,E_,p_];exact⟨fun z=>z.2,fun z=>⟨y_.mpr ⟨t,a,rfl⟩,z⟩⟩
 unfold cL ldF;rw[e]
theorem Dt {W:Wk}{beat:Int}{f:Str->Nat}{m:Nat}(b:WkOk W) (i:m<=W.row.length) (j:∀n,f n<m) (h:Hol W f) (r:∀l∈lds W f m,l<=beat):Fils W beat (gA (nm W) f m):=by
 have d:Dok W (gA (nm W) f m):=ju (W:=W) b (List.Perm.refl _) i j;have e:=Ds b i j;have c:=h.congr b (g:=fD (gA (nm W) f m)) fun n p=>(e n p).symm;refine (Df b d).mp ⟨c.ord,c.pai,fun k s o t u a=>?_,fun s a=>?_⟩
 ·have:=fB d.nd o a;have:=c.kin t u
  rwa [fB d.nd o a] at this
 obtain⟨k,q,rfl⟩:=y_.mp a;show cL W.tasks ((nm W).filter fun n=>decide (f n=k))<=beat
 rw[lF];exact r _ (y_.mpr ⟨k,q,rfl⟩)
variable {f:Str->Str}{W W2:Wk}
theorem rY {c f:Type}{g:c->f}:∀{l:List c},(∀a∈l,∀b∈l,g a=g b->a=b)->l.Nodup->(l.map g).Nodup
 |[],_,_=>Zu
 |a::l,hf,h=>by
  rw[Yb] at h
  rw[C_,Yb]
  refine⟨fun i=>?_,rY (fun x k y j=>hf x (h_ _ k) y (h_ _ j)) h.2⟩
  obtain⟨b,d,e⟩:=y_.mp i
  exact h.1 (hf _ (h_ _ d) _ k_ e▸d)
def Wk.turn (W:Wk):Wk:=⟨W.tasks,W.orders.map fun o=>(o.2,o.1),W.pairs,W.row.reverse⟩
theorem WkOk.turn (h:WkOk W):WkOk W.turn:=by
 obtain⟨s,p,v,m,i,k,w,j,q,f,c,g,d⟩:=h;refine⟨s,p,v,m,by simpa [Wk.turn] using i,?_,fun o r=>?_,j,q,f,by simpa [Wk.turn] using c,by simpa [Wk.turn] using g,fun x z=>d x (by simpa [Wk.turn] using z)⟩
 ·exact rY (fun a _ b _ e=>Prod.ext (X6 Prod.snd e) (X6 Prod.fst e)) k
 obtain⟨u,t,rfl⟩:=y_.mp r;obtain⟨y,n,l⟩:=w u t;exact⟨Ne.symm y,l,n⟩
theorem Dok.pm {W:Wk}{D:List (List Str)}(b:WkOk W) (h:Dok W D):D.flatten.Perm (nm W):=(List.perm_ext_iff_of_nodup h.nd b.nd).mpr fun a=>⟨h.st a,h.al a⟩
theorem Dok.fl {W:Wk}{D:List (List Str)}(a:WkOk W) (h:Dok W D):D.flatten.length<=8:=by
 rw[(h.pm a).length_eq,gM];exact a.t8
theorem Dok.lt {W:Wk}{D:List (List Str)}(h:Dok W D) {n:Str}(a:n∈nm W):fD D n<D.length:=by
 obtain⟨k,s,e,b⟩:=jf (h.al n a);rw[fB h.nd e b];rcases aax k D.length with z | z
 ·exact z
 rw[V_ z] at e;cases e
theorem Dok.ldF {W:Wk}{D:List (List Str)}{k:Nat}{s:List Str}(h:Dok W D) (e:D[k]?=some s):cL W.tasks s=ldF W.tasks (fD D) k:=by
 rw[<- lF];refine jL fun x=>?_;rw[E_,p_];constructor
 ·intro a;exact⟨h.st x (YJ.mpr ⟨s,O_ e,a⟩),fB h.nd e a⟩
 rintro⟨a,d⟩;obtain⟨f,g,b,c⟩:=jf (h.al x a);have:=fB h.nd b c;rw[d] at this;subst this;rw[e] at b;cases b;exact c
theorem Rgt.lds {W:Wk}{beat:Int}{D:List (List Str)}(h:Dok W D) (r:Rgt W beat D (fD D)):∀l∈lds W (fD D) D.length,l<=beat:=fun l a=>by
 obtain⟨k,b,rfl⟩:=y_.mp a;have e:=g_ (X7.mp b);rw[<- h.ldF e];exact r.bea _ (Yl _)
theorem Rgt.kd {W:Wk}{beat:Int}{D:List (List Str)}(h:Dok W D) (r:Rgt W beat D (fD D)) {t:Str × Int × List Str}(a:t∈W.tasks):mC t.2.2 (W.row.getD (fD D t.1) "")=true:=by
 obtain⟨k,s,e,b⟩:=jf (h.al t.1 (y_.mpr ⟨t,a,rfl⟩));rw[fB h.nd e b];exact r.kin k s e t a b
section
variable {X:Cx}
theorem Ir:OpR X (binaryOp .Add) (fun x y H Q=>∃l b xs d,x=.ref l/\y=.ref b/\SqL X.K H l xs/\H b=some (.lst d)/\xs.length+d.length<=sizeLine/\∀p,H p=none->Q (.ref p) (upd H p (.lst (xs++d)))):=by
 intro m s Z H x y v u Q I t G h;obtain⟨l,b,xs,d,rfl,rfl,w,A,M,q⟩:=h;cases t;cases G;obtain⟨c,r,⟨⟨z,N,j,C⟩,n,e,k,f,g⟩,O⟩:=I.list w;obtain⟨L,a,E,B,o,i⟩:=I.lstM A;simp only at k f g;subst k f g;have J:=r.length;refine concat_meets ⟨_,e,rfl⟩ ⟨_,i,rfl⟩ noFill_list_add seq_list_add PySem.F.slot_list_add PySem.F.entry_list_add (PySem.F.args_list_add_2 _ _) (list_addW l b c.toArray a.toArray n E none none C #[] (by rw[l_,l_];omega)) ⟨e,i,?_⟩;have D:c.toArray++a.toArray=(c++a).toArray:=by simp
 rw[D];exact⟨.ref _,_,I.lnew (t':=s.toks) (r.append B) (by rw[d_];omega),rfl,q _ I.fresh⟩
def QL (o u:Option O3) (H:Hp3) (Q:VK3):Prop:=match o,u with
 |some (.rol xs),some (.lst ys)=>xs.length+ys.length<=sizeLine/\∀p,H p=none->Q (.ref p) (up3 H p (.lst (xs++ys)))
 |_,_=>False
def Du:R3:=fun x y H Q=>match x,y with
 |.ref a,.ref b=>QL (H a) (H b) H Q
 |_,_=>False
theorem QM (a b:Addr) {H:Hp3}{Q:VK3}:Du (.ref a) (.ref b) H Q=QL (H a) (H b) H Q:=rfl
theorem Dv (xs ys:List T) {H:Hp3}{Q:VK3}:QL (some (.rol xs)) (some (.lst ys)) H Q=(xs.length+ys.length<=sizeLine/\∀p,H p=none->Q (.ref p) (up3 H p (.lst (xs++ys)))):=rfl
theorem w5:dD X (binaryOp .Add) Du:=by
 refine OpR.imp Ir ?_;rintro x y H Q ⟨q,g,H3,Q3,o,m,c,h,k⟩;cases q with
 |ref a =>
  cases g with
  |ref b =>
   have h':(match H3 a,H3 b with
    |some (.rol xs),some (.lst ys)=>xs.length+ys.length<=sizeLine/\∀p,H3 p=none->Q3 (.ref p) (up3 H3 p (.lst (xs++ys)))
    |_,_=>False):=h
   split at h'
   ·
    rename_i xs ys n i
    obtain⟨vs,j,f⟩:=c.sqL (.inr n)
    obtain⟨ws,l,e⟩:=c b _ i
    refine⟨a,b,vs,ws,o.ref,m.ref,j,l,by rw[<- f.length,<- e.length];exact h'.1,fun p d=>?_⟩
    exact k _ _ _ _ (aL d) (c.newLst d (f.append e)) .ofRef (h'.2 p (c.fresh d))
   ·
    exact h'.elim
  |_=>exact h.elim
 |_=>exact h.elim
def rvO (o:Option O3) (a:Addr) (H:Hp3) (Q:VK3):Prop:=match o with
 |some (.lst xs)=>Q .non (up3 H a (.lst xs.reverse))
 |_=>False
def Km:T->List T->Hp3->VK3->Prop:=fun x ts H Q=>match x,ts with
 |.ref a,[]=>rvO (H a) a H Q
 |_,_=>False
theorem Wg (a:Addr) {H:Hp3}{Q:VK3}:Km (.ref a) [] H Q=rvO (H a) a H Q:=rfl
theorem Wh (xs:List T) (a:Addr) {H:Hp3}{Q:VK3}:rvO (some (.lst xs)) a H Q=Q .non (up3 H a (.lst xs.reverse)):=rfl
theorem Dw:zK X "list.reverse" Km:=by
 refine MtR.imp tR ?_;rintro x xs H Q ⟨g,ts,H3,Q3,d,c,f,h,k⟩
 match g,ts,h,d,c with
 |.ref a,[],h,d,c =>
  have h':rvO (H3 a) a H3 Q3:=h
  cases e:H3 a with
  |none=>rw[e] at h';exact h'.elim
  |some o =>
   rw[e] at h'
   cases o with
   |lst i =>
    obtain⟨ys,b,r⟩:=f a _ e
    exact⟨a,ys,d.ref,c.inv0,b,k _ _ _ _ (dq (by rw[b];exact trivial)) (f.wrL b r.reverse) .ofNon h'⟩
   |_=>exact h'.elim
end
theorem QQ (ts:List T) (i:Int) {H:Hp3}{Q:VK3}:ixH (some (.rol ts)) i H Q=oq (atI ts i) fun t=>Q t H:=rfl
theorem QR (xs:List T) {H:Hp3}{Q:VK3}:lnH (some (.rol xs)) H Q=Q (.int xs.length) H:=rfl
def Iu:Sp3:=fun ts H Q=>∃(a:Addr) (ns:List Int) (k:Nat),ts=[.ref a,.int (k:Int)]/\H a=some (.rol (ns.map T.int))/\ns.length<=63/\k<64/\∀c:Int,Q (.int c) H
def QS:Sp3:=fun ts H Q=>∃c:Int,ts=[.int c]/\∀x,isNm x->Q (.str x) H
theorem pR {ns:List Int}{i:Nat}(h:i<ns.length):∃c:Int,atI (ns.map T.int) (i:Int)=some (T.int c):=⟨ns[i],by rw[bY (by rw[z_,g_ h];rfl)]⟩
theorem rZ {x:Str}{xs:List Str}:dR false (T.str x) (xs.map T.str)=decide (x∈xs):=by
 unfold dR;rw[if_neg t_,ZP,y_];exact⟨fun ⟨y,h,e⟩=>by cases e;exact h,fun h=>⟨x,h,rfl⟩⟩
def QT:Sp3:=fun ts H Q=>∃(a:Addr) (ws:List Str),ts=[.ref a]/\H a=some (.lst (ws.map T.str))/\ws.length<=8/\(∀x∈ws,isNm x)/\∀us:List Str,us.length=ws.length->Nms us->∀p,H p=none->Q (.ref p) (up3 H p (.lst (us.map T.str)))
def nmL (b:List Nat) (s i:Nat):Str:=mkS (b++[97+(s+i)%26])
theorem QV {b:List Nat}{s i:Nat}(h:b.length<=7) (d:∀c∈b,97<=c/\c<=122):isNm (nmL b s i):=by
 refine Kd (by rw[d_];simp) (by rw[d_];simp;exact h) fun c a=>?_;rcases B_.mp a with a | a
 ·exact d c a
 rw[m_.mp a];have:=Nat.mod_lt (s+i) (show 0<26 by decide);omega
theorem Iv {b:List Nat}{s i j:Nat}(a:i<26) (c:j<26) (h:nmL b s i=nmL b s j):i=j:=by
 have e:=HD h;rw[List.append_cancel_left_eq,List.cons.injEq] at e;omega
theorem Iw {x:Str}(h:isNm x):∃(b:List Nat) (s:Nat),x=nmL b s 0/\b.length<=7/\s<26/\∀c∈b,97<=c/\c<=122:=by
 obtain⟨l,rfl⟩:=uR x;have e:=h.lo;have f:=h.hi;have d:=h.az;rw[cY] at e f;rw[fj] at d;have a:l≠[]:=by intro z;rw[z] at e;exact absurd e (by decide)
 have j:=d _ (List.getLast_mem a);have i:l.dropLast.length+1=l.length:=by rw[List.length_dropLast];omega
 refine⟨l.dropLast,l.getLast a - 97,?_,by omega,by omega,fun c g=>d c ((List.dropLast_subset l) g)⟩;unfold nmL;rw[Nat.add_zero,Nat.mod_eq_of_lt (by omega),show 97+(l.getLast a - 97)=l.getLast a by omega,Zc]
theorem QW (b:List Nat) (c:Nat):Txt.slice (mkS (b++[c])) none (some (-1))=mkS b:=by
 have e:=StrLaws.sliceText_neg_hi (mkS (b++[c])) none (j:=-1) (by decide) (by rw[cY,d_];simp;omega);have l : -1+((mkS (b++[c])).length:Int)=(b.length:Int):=by rw[cY,d_];simp;omega
 rw[l] at e;have t:=VF (b++[c]) b.length (by rw[d_];omega);rw[List.take_left' rfl] at t;exact e.trans t
theorem Iz (b:List Nat) (s i:Nat):(nmL b s i).length=b.length+1:=by unfold nmL;rw[cY,d_];rfl
theorem IK (b:List Nat) (s i:Nat):(nmL b s i).cps.toList=b++[97+(s+i)%26]:=rfl
def Wi:Sp3:=fun ts H Q=>∃c:Int,ts=[.int c]/\∀us:List Str,us.length=8->Nms us->∀p,H p=none->Q (.ref p) (up3 H p (.lst (us.map T.str)))
def Wj:Sp3:=fun ts H Q=>∃(c:Int) (i h:Addr) (a b:List Str) (d:Int),ts=[.int c,.ref i,.ref h,.int d]/\H i=some (.lst (a.map T.str))/\1<=a.length/\a.length<=8/\(∀x∈a,isNm x)/\H h=some (.lst (b.map T.str))/\b.length=8/\(∀x∈b,isNm x)/\1<=d/\d<=10^57 /\
 ∀(s:Nat) (g e:Int) (ks:List Str) (f:Str),s<a.length->0<=g->g<8->1<=e->e<10^60->Nms ks->ks.length<=4->(ks=[]\/a.getD s ""∈ks)->isNm f->Q (.tup [.int (s:Int),.int g,.int e,sT ks,.str f]) H
theorem j5 {ns:List Str}{i:Nat}(h:i<ns.length):atI (ns.map T.str) (i:Int)=some (T.str (ns.getD i "")):=by
 rw[bY (by rw[z_,g_ h];rfl),q_,g_ h];rfl
theorem getD_memS {ns:List Str}{i:Nat}(h:i<ns.length):ns.getD i ""∈ns:=by
 rw[q_,g_ h];exact Yl h
abbrev Tk5:=Nat × Int × Int × List Str × Str
def tk5 (t:Tk5):T:=.tup [.int (t.1:Int),.int t.2.1,.int t.2.2.1,sT t.2.2.2.1,.str t.2.2.2.2]
structure Lnk (ns:List Str) (sts:List Nat) (O:List (Str × Str)) (P:List (Str × Str × Str)):Prop where
 ol:O.length<=28
 od:O.Nodup
 oo:∀o∈O,∃i j,i≠j/\ns[i]?=some o.1/\ns[j]?=some o.2/\sts.getD i 0<=sts.getD j 0
 pl:P.length<=12
 pd:P.Nodup
 pp:∀p∈P,∃i j,i≠j/\ns[i]?=some p.2.1/\ns[j]?=some p.2.2/\((p.1="with"/\sts.getD i 0=sts.getD j 0)\/(p.1="apart"/\sts.getD i 0≠sts.getD j 0))
def Wl:Sp3:=fun ts H Q=>∃(a d ps:Addr) (c:List Int) (ns:List Str) (b:List Tk5),ts=[.ref a,.ref d,.ref ps]/\H a=some (.rol (c.map T.int))/\c.length<=63/\H d=some (.lst (ns.map T.str))/\Nms ns/\ns.length<=8/\H ps=some (.lst (b.map tk5))/\b.length=ns.length/\∀O P,Lnk ns (b.map (·.1)) O P->Q (.tup [.tup (O.map orT),.tup (P.map prT)]) H
structure Rnk (ns:List Str) (ss:List Tk5) (us:List (Int × Int × Int)):Prop where
 l:us.length=ns.length
 ex:∃ix:Nat->Nat,(∀p<ns.length,ix p<ns.length/\us[p]?=some ((((ss.map (·.1)).getD (ix p) 0:Nat):Int),(us.getD p (0,0,0)).2.1,(ix p:Int)))/\(∀p q,p<q->q<ns.length->ix p≠ix q/\(ss.map (·.1)).getD (ix p) 0<=(ss.map (·.1)).getD (ix q) 0)
theorem QX {ns:List Str}{f:List Tk5}{us:List (Int × Int × Int)}(H:f.length=ns.length) (t:us.Perm ((List.range ns.length).map fun k=>((((f.map (·.1)).getD k 0:Nat):Int),((f.map (·.2.1)).getD k 0:Int),(k:Int)))) (w:us.Pairwise Ht):Rnk ns f us:=by
 have i:us.length=ns.length:=by rw[t.length_eq,e_,K_]
 have a:∀x∈us,∃k,k<ns.length/\x=((((f.map (·.1)).getD k 0:Nat):Int),((f.map (·.2.1)).getD k 0:Int),(k:Int)):=fun x F=>by obtain⟨k,o,e⟩:=y_.mp (t.mem_iff.mp F);exact⟨k,X7.mp o,e.symm⟩
 have r:(us.map (·.2.2)).Nodup:=by refine (t.map (·.2.2)).nodup_iff.mpr ?_;rw[Yo,List.Nodup,List.pairwise_map];refine List.Pairwise.imp (fun {x y} h e=>h ?_) (List.nodup_range (n:=ns.length));have:(x:Int)=(y:Int):=e;omega
 refine⟨i,fun p=>(us.getD p (0,0,0)).2.2.toNat,fun p h=>?_,fun p q g G=>?_⟩
 ·have u:us[p]?=some us[p]:=g_ (by omega);obtain⟨k,o,e⟩:=a _ (Yl (show p<us.length by omega));have j:us.getD p (0,0,0)=us[p]:=by rw[q_,u];rfl
  have m:(us.getD p (0,0,0)).2.2.toNat=k:=by rw[j,e];exact YL k
  dsimp only;refine⟨by rw[m];exact o,?_⟩;rw[m,u,j,e]
 have b:p<us.length:=by omega
 have c:q<us.length:=by omega
 obtain⟨k,o,e⟩:=a _ (Yl b);obtain⟨v,A,s⟩:=a _ (Yl c);have C:us.getD p (0,0,0)=us[p]:=by rw[q_,g_ b];rfl
 have D:us.getD q (0,0,0)=us[q]:=by rw[q_,g_ c];rfl
 have B:(us.getD p (0,0,0)).2.2.toNat=k:=by rw[C,e];exact YL k
 have E:(us.getD q (0,0,0)).2.2.toNat=v:=by rw[D,s];exact YL v
 dsimp only;rw[B,E];constructor
 ·intro z;have l:=(aai.mp r) p q (by rw[e_];exact b) (by rw[e_];exact c) g;rw[List.getElem_map,List.getElem_map,e,s,z] at l;exact l rfl
 have d:=(aai.mp w) p q b c g;unfold Ht KeyOrd.kle at d;rw[e,s] at d;dsimp only[trOrd] at d;rw[Zb] at d;omega
def Dn (p q a b:Nat):Prop:=a<p\/(a=p/\b<q)
structure Lk1 (nmO:Nat->Str) (wd:Nat->Nat->Str) (m p q:Nat) (O:List (Str × Str)) (P:List (Str × Str × Str)):Prop where
 od:O.Nodup
 oo:∀o∈O,∃p' q',p'<q'/\q'<m/\Dn p q p' q'/\o=(nmO p',nmO q')
 pd:P.Nodup
 pp:∀x∈P,∃p' q',p'<q'/\q'<m/\Dn p q p' q'/\(x=(wd p' q',nmO p',nmO q')\/x=(wd p' q',nmO q',nmO p'))
 ol:O.length<=9*p+q
 pl:P.length<=2*(9*p+q)
theorem Dn.mono {p q c a b:Nat}(h:Dn p q c a) (d:q<=b):Dn p b c a:=by unfold Dn at *;omega
theorem Lk1.skip {d:Nat->Str}{n:Nat->Nat->Str}{m p q g f:Nat}{O:List (Str × Str)}{P:List (Str × Str × Str)}(h:Lk1 d n m p q O P) (r:∀p' q',q'<m->Dn p q p' q'->Dn g f p' q') (i:9*p+q<=9*g+f):Lk1 d n m g f O P :=
 ⟨h.od,fun o e=>by obtain⟨a,b,k,c,l,j⟩:=h.oo o e;exact⟨a,b,k,c,r a b c l,j⟩,h.pd,fun o e=>by obtain⟨a,b,k,c,l,j⟩:=h.pp o e;exact⟨a,b,k,c,r a b c l,j⟩,L_ h.ol i,L_ h.pl (by omega)⟩
theorem Lk1.step {c:Nat->Str}{d:Nat->Nat->Str}{m p q:Nat}{O:List (Str × Str)}{P:List (Str × Str × Str)}(h:Lk1 c d m p q O P) (r:∀i j,i<m->j<m->c i=c j->i=j) (g:p<q) (B:q<m) (v s u:Bool) :
  Lk1 c d m p (q+1) (bif v then O++[(c p,c q)] else O) (bif u then (bif s then P++[(d p q,c p,c q)] else P)++[(d p q,c q,c p)] else (bif s then P++[(d p q,c p,c q)] else P)):=by
 have C:Dn p (q+1) p q:=.inr ⟨rfl,YF q⟩;have N:(c p,c q)∉O:=fun z=>by obtain⟨a,b,M,Q,D,l⟩:=h.oo _ z;rw[ZG] at l;have L:=r _ _ (by omega) (by omega) l.1;have J:=r _ _ (by omega) (by omega) l.2;unfold Dn at D;omega
 have y:∀w,(w,c p,c q)∉P/\(w,c q,c p)∉P:=fun w=>by
  constructor;all_goals
   intro z
   obtain⟨a,b,M,Q,D,l⟩:=h.pp _ z
   rw[ZG,ZG,ZG,ZG] at l
   unfold Dn at D
   rcases l with ⟨_,G,F⟩ | ⟨_,G,F⟩
   all_goals
    have L:=r _ _ (by omega) (by omega) G
    have J:=r _ _ (by omega) (by omega) F
    omega
 have h':Lk1 c d m p (q+1) O P:=h.skip (fun _ _ _ z=>z.mono (Nat.le_succ q)) (by omega);have A:∀(P':List (Str × Str × Str)),(P'=P\/P'=P++[(d p q,c p,c q)])->P'.Nodup/\(∀x∈P',∃n k,n<k/\k<m/\Dn p (q+1) n k/\(x=(d n k,c n,c k)\/x=(d n k,c k,c n)))/\P'.length<=2*(9*p+q)+1/\(d p q,c q,c p)∉P':=by
  intro P' K;rcases K with rfl | rfl
  ·exact⟨h.pd,h'.pp,Nat.le_succ_of_le h.pl,(y _).2⟩
  refine⟨eU h.pd (y _).1,fun x t=>?_,by rw[d_];simp;exact h.pl,fun z=>?_⟩
  ·rcases B_.mp t with t | t
   ·exact h'.pp x t
   exact⟨p,q,g,B,C,.inl (m_.mp t)⟩
  rcases B_.mp z with z | z
  ·exact (y _).2 z
  have:=m_.mp z;rw[ZG,ZG] at this;have e:=r _ _ (by omega) (by omega) this.2.1;omega
 obtain⟨E,I,S,R⟩:=A (bif s then P++[(d p q,c p,c q)] else P) (by cases s <;> simp);generalize (bif s then P++[(d p q,c p,c q)] else P)=H at *;refine⟨?_,?_,?_,?_,?_,?_⟩
 ·cases v
  ·exact h.od
  exact eU h.od N
 ·cases v
  ·exact h'.oo
  intro o f;rcases B_.mp f with f | f
  ·exact h'.oo o f
  exact⟨p,q,g,B,C,m_.mp f⟩
 ·cases u
  ·exact E
  exact eU E R
 ·cases u
  ·exact I
  intro o f;rcases B_.mp f with f | f
  ·exact I o f
  exact⟨p,q,g,B,C,.inr (m_.mp f)⟩
 ·cases v
  ·exact h'.ol
  show (O++[_]).length<=_;rw[d_];have:=h.ol;simp;omega
 cases u
 ·show H.length<=_;omega
 show (H++[_]).length<=_;rw[d_];simp;omega
theorem uY {R:TS3}{D:Ends3}{Z:St3}{c:Bool}{p1 f d:Prop}{e a:Hp3}(i:p1) (g:f) (j:d) (h:∀(b:Bool) (H':Hp3),H'=(bif b then e else a)->R D Z H'):if c=true then p1/\f/\d/\R D Z e else R D Z a:=by
 cases c
 ·rw[if_neg t_];exact h false _ rfl
 rw[if_pos rfl];exact⟨i,g,j,h true _ rfl⟩
theorem Dy {R:TS3}{D:Ends3}{Z:St3}{c:Bool}{p1:Prop}{d a:Hp3}(e:p1) (h:∀(b:Bool) (H':Hp3),H'=(bif b then d else a)->R D Z H'):if c=true then p1/\R D Z d else R D Z a:=by
 cases c
 ·rw[if_neg t_];exact h false _ rfl
 rw[if_pos rfl];exact⟨e,h true _ rfl⟩
structure LkH (H3 H:Hp3) (pk po pq:Addr) (us:List (Int × Int × Int)) (O:List (Str × Str)) (P:List (Str × Str × Str)):Prop where
 sb:Sub3 H3 H
 k:H pk=some (.lst (us.map trT))
 o:H po=some (.lst (O.map orT))
 p:H pq=some (.lst (P.map prT))
 no:H3 po=none
 np:H3 pq=none
 ko:pk≠po
 kp:pk≠pq
 op:po≠pq
theorem LkH.new {H3 H:Hp3}{pk b pq x:Addr}{us:List (Int × Int × Int)}{O:List (Str × Str)}{P:List (Str × Str × Str)}{u:O3}(h:LkH H3 H pk b pq us O P) (a:H x=none):LkH H3 (up3 H x u) pk b pq us O P :=
 ⟨h.sb.trans (Sub3.new a),Sub3.new a _ _ h.k,Sub3.new a _ _ h.o,Sub3.new a _ _ h.p,h.no,h.np,h.ko,h.kp,h.op⟩
theorem LkH.putO {H3 H:Hp3}{pk a pq:Addr}{us:List (Int × Int × Int)}{O O':List (Str × Str)}{P:List (Str × Str × Str)}(h:LkH H3 H pk a pq us O P):LkH H3 (up3 H a (.lst (O'.map orT))) pk a pq us O' P :=
 ⟨fun b u c=>by rw[aD (bf c h.no)];exact h.sb b u c,by rw[aD h.ko];exact h.k,aq,by rw[aD (Ne.symm h.op)];exact h.p,h.no,h.np,h.ko,h.kp,h.op⟩
theorem LkH.putP {H3 H:Hp3}{pk c pq:Addr}{us:List (Int × Int × Int)}{O:List (Str × Str)}{P P':List (Str × Str × Str)}(h:LkH H3 H pk c pq us O P):LkH H3 (up3 H pq (.lst (P'.map prT))) pk c pq us O P' :=
 ⟨fun b u a=>by rw[aD (bf a h.np)];exact h.sb b u a,by rw[aD h.kp];exact h.k,by rw[aD h.op];exact h.o,aq,h.no,h.np,h.ko,h.kp,h.op⟩
def Wm (m:Nat):List (Nat × Nat):=(List.range m).flatMap fun q=>(List.range q).map fun p=>(p,q)
theorem Dz:∀m:_root_.Fin 9,(Wm m.val).length<=28:=by decide
theorem QZ {ns:List Str}{d:List Tk5}{c:Nat->Nat}{p q:Nat}{O O':List (Str × Str)}{P P':List (Str × Str × Str)}{f:Nat->Str}{r:Nat->Nat->Str}(D:ns.length<=8)
  (y:∀p<ns.length,c p<ns.length) (v:∀p q,p<q->q<ns.length->c p≠c q/\(d.map (·.1)).getD (c p) 0<=(d.map (·.1)).getD (c q) 0)
  (j:∀p<ns.length,ns[c p]?=some (f p)) (B:∀p q,r p q=if (d.map (·.1)).getD (c p) 0=(d.map (·.1)).getD (c q) 0 then "with" else "apart")
  (h:Lk1 f r ns.length p q O P) (s:O'.Perm O) (u:P'.Perm P):Lnk ns (d.map (·.1)) O' (P'.take 12):=by
 refine⟨?_,s.nodup_iff.mpr h.od,fun o A=>?_,?_,(List.take_sublist 12 P').nodup (u.nodup_iff.mpr h.pd),fun x t=>?_⟩
 ·rw[s.length_eq];have:=uQ (l:=O) (m:=(Wm ns.length).map fun z=>(f z.1,f z.2)) h.od fun x t=>by obtain⟨a,b,k,i,_,rfl⟩:=h.oo x t;exact y_.mpr ⟨(a,b),List.mem_flatMap.mpr ⟨b,X7.mpr i,y_.mpr ⟨a,X7.mpr k,rfl⟩⟩,rfl⟩
  rw[e_] at this;have:=Dz ⟨ns.length,by omega⟩;dsimp only at this;omega
 ·obtain⟨a,b,k,i,_,rfl⟩:=h.oo o (s.mem_iff.mp A);obtain⟨n,w⟩:=v a b k i;exact⟨c a,c b,n,j a (by omega),j b i,w⟩
 ·rw[Y7];omega
 obtain⟨a,b,k,i,_,C⟩:=h.pp x (u.mem_iff.mp (List.mem_of_mem_take t));obtain⟨n,w⟩:=v a b k i;have g:=B a b;have key:(r a b="with"/\(d.map (·.1)).getD (c a) 0=(d.map (·.1)).getD (c b) 0)\/(r a b="apart"/\(d.map (·.1)).getD (c a) 0≠(d.map (·.1)).getD (c b) 0):=by
  by_cases e:(d.map (·.1)).getD (c a) 0=(d.map (·.1)).getD (c b) 0
  ·rw[if_pos e] at g;exact .inl ⟨g,e⟩
  rw[if_neg e] at g;exact .inr ⟨g,e⟩
 rcases C with rfl | rfl
 ·exact⟨c a,c b,n,j a (by omega),j b i,key⟩
 exact⟨c b,c a,Ne.symm n,j b i,j a (by omega),key.imp (fun z=>⟨z.1,z.2.symm⟩) fun z=>⟨z.1,Ne.symm z.2⟩⟩
theorem lG {b a:Type}{f:b->T}{g:a->T}:∀(xs:List b) (ys:List a),eN (xs.map f) (ys.map g)=(xs.zip ys).map fun z=>.tup [f z.1,g z.2]
 |[],_=>rfl
 |_::_,[]=>rfl
 |x::xs,y::ys=>by rw[C_,C_,eN,lG xs ys];rfl
structure Fit (W:Wk) (sts:List Nat):Prop where
 l:sts.length=W.tasks.length
 lt:∀s∈sts,s<W.row.length
 kd:∀(i:Nat) (t:Str × Int × List Str),W.tasks[i]?=some t->t.2.2=[]\/W.row.getD (sts.getD i 0) ""∈t.2.2
 lk:Lnk (W.tasks.map (·.1)) sts W.orders W.pairs
def Wn:Sp3:=fun ts H Q=>∃(a:Addr) (d:List Int) (b c:Int),ts=[.ref a,.int b,.int c]/\H a=some (.rol (d.map T.int))/\d.length<=63/\1<=b/\b<=8/\1<=c/\c<=8/\∀(W:Wk) (sts:List Nat),WkOk W->(W.tasks.length:Int)<=b->(W.row.length:Int)<=c->Fit W sts->∀p,H p=none->Q (.tup [W.enc,.ref p]) (up3 H p (.lst (sts.map fun (s:Nat)=>T.int (s:Int))))
structure TkO (row:List Str) (t:Tk5):Prop where
 s:t.1<row.length
 lo:1<=t.2.2.1
 hi:t.2.2.1<10^60
 ks:Nms t.2.2.2.1
 kl:t.2.2.2.1.length<=4
 kd:t.2.2.2.1=[]\/row.getD t.1 ""∈t.2.2.2.1
 nm:isNm t.2.2.2.2
def mkW (ns:List Str) (b:List Tk5) (O:List (Str × Str)) (P:List (Str × Str × Str)) (a:List Str):Wk:=⟨(ns.zip b).map fun z=>(z.1,z.2.2.2.1,z.2.2.2.2.1),O,P,a⟩
theorem Q0 {ns:List Str}{b:List Tk5}{O:List (Str × Str)}{P:List (Str × Str × Str)}{a:List Str}(D:Nms ns) (L:b.length=ns.length) (K:1<=ns.length) (Q:ns.length<=8) (v:∀t∈b,TkO a t) (B:1<=a.length) (E:a.length<=8) (w:∀x∈a,isNm x) (f:Lnk ns (b.map (·.1)) O P) :
  WkOk (mkW ns b O P a)/\Fit (mkW ns b O P a) (b.map (·.1))/\(mkW ns b O P a).tasks.length=ns.length:=by
 have k:(mkW ns b O P a).tasks.map (·.1)=ns:=by show ((ns.zip b).map fun z=>(z.1,z.2.2.2.1,z.2.2.2.2.1)).map (·.1)=ns;rw[Yo];show (ns.zip b).map (fun z=>z.1)=ns;exact List.map_fst_zip (by omega)
 have l:(mkW ns b O P a).tasks.length=ns.length:=by
  have:=X6 List.length k
  rwa [e_] at this
 have G:∀(i:Nat) (t:Str × Int × List Str),(mkW ns b O P a).tasks[i]?=some t->∃u,b[i]?=some u/\ns[i]?=some t.1/\t.2=(u.2.2.1,u.2.2.2.1):=fun i t e=>by have n:((ns.zip b).map fun z=>(z.1,z.2.2.2.1,z.2.2.2.2.1))[i]?=some t:=e;rw[z_,ZW] at n;obtain⟨z,C,rfl⟩:=n;have:=List.getElem?_zip_eq_some.mp C;exact⟨z.2,this.2,this.1,rfl⟩
 have H:∀{i j:Nat} {x y:Str},i≠j->ns[i]?=some x->ns[j]?=some y->x≠y:=fun {i j x y} h c d z=>by
  rw[z,<- d] at c;have A:i<ns.length:=by
   rcases aax i ns.length with q | q
   ·exact q
   rw[V_ q,d] at c;cases c
  exact h ((List.getElem?_inj A D.nd).mp c)
 refine⟨⟨by rw[l];exact K,by rw[l];exact Q,fun t J=>?_,by rw[k];exact D.nd,f.ol,f.od,fun o M=>?_,f.pl,f.pd,fun p N=>?_,B,E,w⟩,⟨by rw[e_,l,L],fun s h=>?_,fun i t e=>?_,by rw[k];exact f⟩,l⟩
 ·obtain⟨i,A⟩:=Y9 J;obtain⟨u,g,c,e⟩:=G i t A;have m:=v u (O_ g);have F:t.2.1=u.2.2.1:=by rw[e]
  have r:t.2.2=u.2.2.2.1:=by rw[e]
  exact⟨D.nm _ (O_ c),by rw[F];exact m.lo,by rw[F];exact m.hi,by rw[r];exact m.ks,by rw[r];exact m.kl⟩
 ·obtain⟨i,j,h,c,d,_⟩:=f.oo o M;rw[k];exact⟨H h c d,O_ c,O_ d⟩
 ·obtain⟨i,j,h,c,d,C⟩:=f.pp p N;rw[k];exact⟨C.imp (fun z=>z.1) fun z=>z.1,H h c d,O_ c,O_ d⟩
 ·obtain⟨u,g,rfl⟩:=y_.mp h;exact (v u g).s
 obtain⟨u,g,_,n⟩:=G i t e;have r:t.2.2=u.2.2.2.1:=by rw[n]
 have I:(b.map (·.1)).getD i 0=u.1:=by rw[q_,z_,g];rfl
 rw[r,I];exact (v u (O_ g)).kd
def ldZ (L:List Int) (z:(Str × Int × List Str) × Nat):List Int:=L.set z.2 (L.getD z.2 0+z.1.2.1)
def ldS (W:Wk) (sts:List Nat):List Int:=(W.tasks.zip sts).foldl ldZ (List.replicate W.row.length 0)
theorem w6 (L:List Int):∀a:List ((Str × Int × List Str) × Nat),(a.foldl ldZ L).length=L.length:=fun a=>by
 induction a generalizing L with
 |nil=>rfl
 |cons z r b=>rw[aan,b];unfold ldZ;rw[List.length_set]
theorem IV (W:Wk) (sts:List Nat):(ldS W sts).length=W.row.length:=by unfold ldS;rw[w6,Yn]
def Wo:Sp3:=fun ts H Q=>∃(W:Wk) (q:Addr) (sts:List Nat),ts=[W.enc,.ref q]/\WkOk W/\H q=some (.lst (sts.map fun (s:Nat)=>T.int (s:Int)))/\sts.length=W.tasks.length/\(∀s∈sts,s<W.row.length)/\∀p,H p=none->Q (.ref p) (up3 H p (.lst ((ldS W sts).map T.int)))
theorem xf:∀(L:List Int) (i:Nat) (v:Int),i<L.length->(L.set i (L.getD i 0+v)).sum=L.sum+v
 |[],_,_,h=>absurd h (by simp)
 |x::r,0,v,_=>by simp [List.set,YT];omega
 |x::r,i+1,v,h=>by
  have:=xf r i v (by simpa using h)
  simp only[List.set_cons_succ,YT,List.getD_cons_succ,this]
  omega
theorem xg:∀(a:List ((Str × Int × List Str) × Nat)) (L:List Int),(∀z∈a,z.2<L.length)->(a.foldl ldZ L).sum=L.sum+(a.map (·.1.2.1)).sum
 |[],L,_=>by simp
 |z::r,L,h=>by
  rw[aan,xg r (ldZ L z) fun y b=>by unfold ldZ;rw[List.length_set];exact h y (h_ _ b)]
  unfold ldZ
  rw[xf L z.2 z.1.2.1 (h z k_),C_,YT]
  omega
theorem DG:∀(a:List ((Str × Int × List Str) × Nat)) (L:List Int),(∀z∈a,0<=z.1.2.1)->(∀x∈L,0<=x)->∀x∈a.foldl ldZ L,0<=x
 |[],L,_,hL=>hL
 |z::r,L,h,hL=>by
  rw[aan]
  refine DG r _ (fun y c=>h y (h_ _ c)) fun x b=>?_
  unfold ldZ at b
  rcases List.mem_or_eq_of_mem_set b with q | q
  ·
   exact hL x q
  ·
   rw[q]
   have f:=h z k_
   have d:0<=L.getD z.2 0:=by
    rw[q_]
    cases e:L[z.2]? with
    |none=>exact aaB 0
    |some y=>exact hL y (O_ e)
   omega
theorem DK (n:Nat):(List.replicate n (0:Int)).sum=0:=by induction n with
 |zero=>rfl
 |succ n a=>rw[Yr,YT,a];rfl
theorem Q4 {W:Wk}{sts:List Nat}(c:WkOk W):∀x∈ldS W sts,0<=x:=DG _ _ (fun z a=>by have:=(c.tk z.1 (ZX a).1).lo;omega) fun x b=>by rw[(List.mem_replicate.mp b).2];exact aaB 0
theorem IW {W:Wk}{sts:List Nat}(c:sts.length=W.tasks.length) (h:∀s∈sts,s<W.row.length):(ldS W sts).sum=(W.tasks.map (·.2.1)).sum:=by
 unfold ldS;rw[xg _ _ fun z b=>by rw[Yn];exact h _ (ZX b).2,DK];have e:(W.tasks.zip sts).map (·.1.2.1)=W.tasks.map (·.2.1):=by have:=List.map_fst_zip (l₁:=W.tasks) (l₂:=sts) (by omega);have a:=X6 (List.map (·.2.1)) this;rw[Yo] at a;exact a
 rw[e];omega
theorem Ja {W:Wk}(d:WkOk W):1<=(W.tasks.map (·.2.1)).sum:=by
 have c:=d.t1;have b:=d.tk;cases e:W.tasks with
 |nil=>rw[e] at c;exact absurd c (by decide)
 |cons t r =>
 rw[e] at b;rw[C_,YT];have i:=(b t k_).lo;have g:∀l:List (Str × Int × List Str),(∀u∈l,tkOk u)->0<=(l.map (·.2.1)).sum:=fun l=>by
  induction l with
  |nil=>intro _;exact aaB _
  |cons u l h =>
  intro a;rw[C_,YT];have:=h fun v f=>a v (h_ _ f);have:=(a u k_).lo;omega
 have:=g r fun u a=>b u (h_ _ a);omega
def Wq:Sp3:=fun ts H Q=>∃(c:Int) (W:Wk) (q:Addr) (sts:List Nat),ts=[.int c,W.enc,.ref q]/\WkOk W/\H q=some (.lst (sts.map fun (s:Nat)=>T.int (s:Int)))/\sts.length=W.tasks.length/\(∀s∈sts,s<W.row.length)/\∀n:Int,0<=n->Q (.int n) H
def Wr:Sp3:=fun ts H Q=>∃(a:Addr) (e:List Int) (b d:Int),ts=[.ref a,.int b,.int d]/\H a=some (.rol (e.map T.int))/\e.length<=63/\1<=b/\b<=8/\1<=d/\d<=8/\∀(W:Wk) (sts:List Nat) (beat c:Int),WkOk W->(W.tasks.length:Int)<=b->(W.row.length:Int)<=d->Fit W sts->0<=beat->∀p,H p=none->Q (.tup [W.enc,.ref p,.int beat,.int c]) (up3 H p (.lst (sts.map fun (s:Nat)=>T.int (s:Int))))
def fS:List Str->List Nat->Str->Nat
 |x::r,s::q,n=>if x=n then s else fS r q n
 |_,_,_=>0
theorem DN:∀{ns:List Str}{sts:List Nat}{i:Nat}{n:Str},ns.Nodup->sts.length=ns.length->ns[i]?=some n->fS ns sts n=sts.getD i 0
 |[],_,_,_,_,_,e=>by simp at e
 |x::r,[],_,_,_,hl,_=>by cases hl
 |x::r,s::q,0,n,_,_,e=>by
  rw[YC,aau] at e
  unfold fS
  rw[if_pos e]
  rfl
 |x::r,s::q,i+1,n,h,hl,e=>by
  rw[YX] at e
  rw[Yb] at h
  unfold fS
  rw[if_neg fun z=>h.1 (by rw[z];exact O_ e),DN h.2 (Nat.succ.inj hl) e]
  simp
theorem Ko {m:Nat}{n:Str}(a:0<m):∀{ns:List Str}{sts:List Nat},(∀s∈sts,s<m)->fS ns sts n<m
 |[],_,_=>a
 |_::_,[],_=>a
 |x::r,s::q,h=>by
  unfold fS
  split
  ·
   exact h s k_
  ·
   exact Ko a fun y b=>h y (h_ _ b)
theorem DP {f:Str->Nat}{n:Nat}:∀(a:List ((Str × Int × List Str) × Nat)) (B:List (Str × Int × List Str)),(∀z∈a,f z.1.1=z.2/\z.2<n)->a.foldl ldZ ((List.range n).map (ldF B f))=(List.range n).map (ldF (B++a.map (·.1)) f)
 |[],B,_=>by rw[Yz,Yd];rfl
 |z::r,B,h=>by
  obtain⟨e,c⟩:=h z k_
  have q:ldZ ((List.range n).map (ldF B f)) z=(List.range n).map (ldF (B++[z.1]) f):=by
   have g:((List.range n).map (ldF B f)).getD (f z.1.1) 0=ldF B f (f z.1.1):=by
    rw[q_,z_,Ys (by omega)]
    rfl
   unfold ldZ
   rw[<- e,g]
   exact Ip (by omega)
  rw[aan,q,DP r _ fun y b=>h y (h_ _ b),Z9]
  rfl
theorem Jb {W:Wk}{sts:List Nat}(f:WkOk W) (F:Fit W sts):ldS W sts=lds W (fS (nm W) sts) W.row.length:=by
 have c:List.replicate W.row.length (0:Int)=(List.range W.row.length).map (ldF [] (fS (nm W) sts)):=by
  apply Z_;intro i;by_cases a:i<W.row.length
  ·rw[Y_,if_pos a,z_,Ys a];rfl
  rw[V_ (by rw[Yn];omega),V_ (by rw[e_,K_];omega)]
 unfold ldS;rw[c,DP _ _ fun z d=>?_]
 ·unfold lds;rw[ZZ,List.map_fst_zip (by rw[F.l];exact o_ _)]
 obtain⟨i,a⟩:=Y9 d;obtain⟨e,b⟩:=List.getElem?_zip_eq_some.mp a;refine⟨?_,F.lt _ (O_ b)⟩;rw[DN (ns:=nm W) (i:=i) f.nd (by rw[gM];exact F.l) (by unfold nm;rw[z_,e];rfl),q_,b];rfl
theorem Fit.hol {W:Wk}{sts:List Nat}(r:WkOk W) (F:Fit W sts):Hol W (fS (nm W) sts):=by
 have a:∀{i:Nat} {n:Str},(nm W)[i]?=some n->fS (nm W) sts n=sts.getD i 0:=fun e=>DN r.nd (by rw[gM];exact F.l) e;refine⟨fun o k=>?_,fun p m=>?_,fun t q=>?_⟩
 ·obtain⟨i,j,_,f,c,h⟩:=F.lk.oo o k;rw[a f,a c];exact h
 ·obtain⟨i,j,_,f,c,h⟩:=F.lk.pp p m;rw[a f,a c];rcases h with ⟨d,b⟩ | ⟨d,b⟩
  ·exact⟨fun _=>d,fun _=>b⟩
  exact⟨fun z=>absurd z b,fun z=>by rw[d] at z;exact absurd z (by decide)⟩
 obtain⟨i,g⟩:=Y9 q;rw[a (i:=i) (by unfold nm;rw[z_,g];rfl)];unfold mC;rcases F.kd i t g with h | h
 ·rw[h];rfl
 rw[D_ h,Bool.or_true]
theorem Fit.way {W:Wk}{sts:List Nat}{beat:Int}(a:WkOk W) (F:Fit W sts) (d:∀l∈ldS W sts,l<=beat):∃v,gP (top2 W - 1) (wys W beat W.row.length)=some v:=by
 have b:∀n,fS (nm W) sts n<W.row.length:=fun n=>Ko a.r1 F.lt;have c:Dok W (gA (nm W) (fS (nm W) sts) W.row.length):=ju a (List.Perm.refl _) (o_ _) b;refine aak.mp ((Io a (o_ _)).mpr ⟨_,Frw.ofD a c (Dt a (o_ _) b (F.hol a) (by rw[<- Jb a F];exact d)),by rw[e_,nH]⟩)
theorem Q5 {W:Wk}{r:List Str}(a:WkOk W) (b:r.length=W.row.length) (c:∀x∈r,x∈W.row):WkOk ⟨W.tasks,W.orders,W.pairs,r⟩ :=
 ⟨a.t1,a.t8,a.tk,a.nd,a.os,a.od,a.oo,a.ps,a.pd,a.pp,by show 1<=r.length;rw[b];exact a.r1,by show r.length<=8;rw[b];exact a.r8,fun x d=>a.rn x (c x d)⟩
def Ws:Sp3:=fun ts H Q=>∃(W:Wk) (c:Int),ts=[W.enc,.int c]/\WkOk W/\∀r:List Str,r.length=W.row.length->(∀x∈r,x∈W.row)->Q (Wk.enc ⟨W.tasks,W.orders,W.pairs,r⟩) H
section
variable {P:Program}{w:World}{K:Frag}{mg:Str->Option Value}{base:Heap}
abbrev xj:List Str:=["_law_script","_law_most","_law_wide","_law_works_here","_law_stands"]
theorem sc_drawn:FnScope xj ["_law_script","_law_most","_law_wide"] (au (top 46)):=bc
theorem DQ {f:Addr}{C:FuncData}(g:G3 K mg "_law_drawn" (top 46) ["_law_script","_law_most","_law_wide"] f C) (B:Bl mg) (j:Cal P w K mg base 3 "_law_works" (top 43) ["_law_script","_law_most","_law_wide"] Wn) (k:Cal P w K mg base 2 "_law_beat" (top 45) ["_law_cell_here","_law_works_here","_law_stands"] Wq) (e:Cal P w K mg base 1 "_law_cell" (top 37) ["_law_script","_law_k"] Iu):Cal P w K mg base 4 "_law_drawn" (top 46) ["_law_script","_law_most","_law_wide"] Wr:=by
 refine⟨f,C,g,?_⟩;refine fn3 g.fn sc_drawn (fun ts H Q h=>?_) (fun Z A x s H E ts H3 Q o h=>?_)
 ·obtain⟨a,r,b,d,rfl,_⟩:=h;rfl
 obtain⟨a,r,b,d,rfl,z,m,S,U,O,M,I⟩:=h;refine⟨_,(ao (oO (aM j o rfl (aa (v3 0) (aa (v3 1) (aa (v3 2) aj)))) (cN (n:=2) rfl (aH (aG (i:=3) sc_drawn.nd) (aH (aG (i:=4) sc_drawn.nd) bZ))))
   (aA (aJ (bj (aa (v3 3) (aa (v3 4) (aa (aM k o rfl (aa (aM e o rfl (aa (v3 0) (aa ak aj))) (aa (v3 3) (aa (v3 4) aj)))) (aa (aM e o rfl (aa (v3 0) (aa ak aj))) aj)))))))),?_⟩
 rw[show aO xj [T.ref a,T.int b,T.int d]=[some (T.ref a),some (T.int b),some (T.int d),none,none] from rfl];have hsz:sizeLine=16777216:=rfl;have G:=Box.mk I;clear I;refine aB fun R0 X=>?_;walk_at "";refine⟨a,r,b,d,rfl,z,m,S,U,O,M,fun W sts J V Y v p F=>?_⟩;have L:Sub3 H3 (up3 H3 p (.lst (sts.map fun (s:Nat)=>T.int (s:Int)))):=Sub3.new F;have y:up3 H3 p (.lst (sts.map fun (s:Nat)=>T.int (s:Int))) p=some (.lst (sts.map fun (s:Nat)=>T.int (s:Int))):=aq;have D:=Box.mk (fun q c (t:0<=q)=>G.out W sts q c J V Y v t p F);have u:=L _ _ z;try walk_at ""
 generalize up3 H3 p (.lst (sts.map fun (s:Nat)=>T.int (s:Int)))=H4 at L y u D ⊢;clear G;walk_at "n";walk_at "";refine⟨trivial,a,r,14,rfl,u,m,by decide,fun N=>⟨N,W,p,sts,rfl,J,y,v.l,v.lt,fun q t=>⟨a,r,15,rfl,u,m,by decide,fun R=>?_⟩⟩⟩;try dsimp only
 exact⟨by decide,Fin3.of Sub3.refl (D.out q R t)⟩
def xm:Sp3:=fun ts H Q=>∃(a:Addr) (ns:List Int),ts=[.ref a]/\H a=some (.rol (ns.map T.int))/\ns.length<=63/\∀b,Q (.bl true) b
theorem Jc {V:Wk}(b:WkOk V):0<=bV V:=by
 have:∀ts:List (Str × Int × List Str),(∀t∈ts,0<=t.2.1)->0<=(ts.map (·.2.1)).sum:=fun ts=>by
  induction ts with
  |nil=>exact fun _=>aaB 0
  |cons u r c =>
  intro h;have e:=h u (.head _);have d:=c fun t a=>h t (.tail _ a);rw[C_,YT];omega
 exact this _ fun t a=>by have:=(b.tk t a).lo;omega
def bnt (V:Wk) (n:Int):List (List Cse):=[[],[(0,[],.left (n+1))],[(0,[],.left (n - 1))],[(1,[],.left n)],[(0,V.tasks.map (·.1),.left 0)],[(0,[],.less [])],[(0,[],.less (V.tasks.map (·.1)))],[(0,[],.ways)],[(0,[],.left n),(0,[],.left n)]]
def bnT (a:List Cse):T:=.tup (a.map csT)
theorem Jd {V:Wk}(f:WkOk V) {beat:Int}{many:Nat}{b:List Cse}(h:b∈bnt V (bV V)):(∀c∈b,c.2.1.length<=8)/\(b.length<=1\/∃c,b=[c,c])/\ipB V beat many b=false:=by
 have e:V.tasks.map (·.1)≠[]:=fun z=>by have:=f.t1;have:=X6 List.length z;rw[e_,Yg] at this;omega
 have l:(V.tasks.map (·.1)).length<=8:=by rw[e_];exact f.t8
 have a:∀c:Cse,c.2.1.length<=8->(decide ((c.1,c.2.1)=((0,[]):NK))&&rsB V beat many [((c.1,c.2.1),.bl true)] c.2.2)=false->(∀d∈[c],d.2.1.length<=8)/\([c].length<=1\/∃d,[c]=[d,d])/\ipB V beat many [c]=false:=fun c k i=>⟨fun d j=>by rw[m_.mp j];exact k,.inl (o_ 1),i⟩;unfold bnt at h;simp only[j_,G_,Ym] at h;rcases h with rfl | rfl | rfl | rfl | rfl | rfl | rfl | rfl | rfl
 ·exact⟨fun _ z=>(nomatch z),.inl (X3 _),rfl⟩
 ·refine a _ (X3 _) ?_;show (_&&(decide (bV V+1=bV V)&&_))=false;rw[u_ (show ¬bV V+1=bV V by omega),Zm,Bool.and_false]
 ·refine a _ (X3 _) ?_;show (_&&(decide (bV V - 1=bV V)&&_))=false;rw[u_ (show ¬bV V - 1=bV V by omega),Zm,Bool.and_false]
 ·exact a _ (X3 _) rfl
 ·refine a _ l ?_;rw[u_ (fun z=>e (Prod.mk.inj z).2),Zm]
 ·exact a _ (X3 _) rfl
 ·refine a _ (X3 _) ?_;show (_&&((cA (0,V.tasks.map (·.1)) [((0,[]),T.bl true)]).isSome&&_))=false;have:cA (0,V.tasks.map (·.1)) [((0,[]),T.bl true)]=none:=by unfold cA;rw[if_neg (fun z=>e (Prod.mk.inj z).2.symm)];rfl
  rw[this];simp
 ·exact a _ (X3 _) rfl
 exact⟨fun c g=>by
  simp only[j_,G_,Ym,or_self] at g
  rw[g];exact X3 _,.inr ⟨_,rfl⟩,rfl⟩
abbrev xn:List Str:=["_law_script","_law_works_here","_law_stands","_law_beat_here","_law_cell_here","_law_many","_law_total","_law_whole","_law_here","_law_told","_law_bent"]
theorem sc_law:FnScope xn ["_law_script"] (au (top 48)):=bc
theorem Q6 {f:Addr}{fd:FuncData}(g:G3 K mg "law" (top 48) ["_law_script"] f fd) (B:Bl mg) (u:Cal P w K mg base 4 "_law_drawn" (top 46) ["_law_script","_law_most","_law_wide"] Wr) (C:Cal P w K mg base 1 "_law_moved" (top 47) ["_law_works_here","_law_cell_here"] Ws) (d:Cal P w K mg base 8 "is_paper" (top 35) ["works","beat","many","paper"] Wf):FnOk3 P w K mg base 9 f fd ["_law_script"] xm:=by
 refine fn3 g.fn sc_law (fun ts H Q h=>?_) (fun cdv A outer s H E ts H3 Q Y h=>?_)
 ·obtain⟨a,ns,rfl,_⟩:=h;rfl
 have hu30:=Room.u30 Y;obtain⟨a,ns,rfl,ha,h63,k⟩:=h;refine⟨_,(ao (oO (aM u Y rfl (aa (v3 0) (aa ak (aa ak aj)))) (cN (n:=4) rfl (aH (aG (i:=1) sc_law.nd) (aH (aG (i:=2) sc_law.nd) (aH (aG (i:=3) sc_law.nd) (aH (aG (i:=4) sc_law.nd) bZ))))))
   (ao (aF (i:=1) sc_law.nd (aM C Y rfl (aa (v3 1) (aa (aC aW (v3 4) ak) aj))))
   (ao (aF (i:=5) sc_law.nd (aC aR (aC aW (v3 4) ak) (aC aY (aN cP rfl B.len_ cR (aa (aK ix3 (v3 1) ak) aj)) ak)))
   (ao (aF (i:=6) sc_law.nd (aN (uf rfl) rfl B.sum_ ug (aa (bz rfl (bM (n0:=(au (top 48)).names) (N:=xn) (N':=["_law_task_here"]) (nt:=1) (cap:=[]) rfl rfl (by decide +kernel)) (cH (aK ix3 (v3 1) ak)) (fun cl pins s H C0 fp=>⟨(aG (i:=0) (show List.Nodup [("_law_task_here":Str)] by decide +kernel)),bQ,(aK ix3 (v3 0) ak)⟩)) aj)))
   (ao (aF (i:=7) sc_law.nd (bH cU rfl B.tuple_ cV (aa (bz rfl (bM (n0:=(au (top 48)).names) (N:=xn) (N':=["_law_task_here"]) (nt:=1) (cap:=[]) rfl rfl (by decide +kernel)) (cH (aK ix3 (v3 1) ak)) (fun cl pins s H C0 fp=>⟨(aG (i:=0) (show List.Nodup [("_law_task_here":Str)] by decide +kernel)),bQ,(aK ix3 (v3 0) ak)⟩)) aj)))
   (ao (cg S_ rfl (cI (bh (aa (v3 3) (aa (aC aW (v3 6) (aN (jV rfl) rfl B.max_ gH (aa ak (aa (v3 5) aj)))) (aa (aN (jV rfl) rfl B.max_ gH (aa ak (aa (aC aW (aC iy (v3 6) ak) (aN (jV rfl) rfl B.max_ gH (aa ak (aa (v3 5) aj)))) aj))) (aa ak aj)))))) (aG (i:=8) sc_law.nd) (ao (aF (i:=9) sc_law.nd (aM d Y rfl (aa (v3 1) (aa (v3 8) (aa (v3 5) (@aQ _ _ _ _ _ _ _ (@aQ _ _ _ _ _ _ _ (aa ak (@aQ _ _ _ _ _ _ _ aj (@aQ _ _ _ _ _ _ _ (aa cu (aa (v3 6) aj)) aj))) aj) aj))))))
    (ao (bK (PW3.pt (qC (fG (cM (aN Mq rfl B.isinstance_ my (aa (v3 9) (aa (S9 rfl B.bool_ Gk) aj))))) (kE (bA (qI hu30) (v3 9) (dO JF (v3 6) (aC cF (v3 8) (v3 5))))))) (aA (aJ cT)) aU)
    (@ao _ _ _ _ _ (@Hn _ 10 _ _ _ _ _ _ sc_law.nd (@aQ _ _ _ _ _ _ _ aj (@aQ _ _ _ _ _ _ _ (@aQ _ _ _ _ _ _ _ (aa ak (@aQ _ _ _ _ _ _ _ aj (@aQ _ _ _ _ _ _ _ (aa cu (aa (aC aY (v3 6) ak) aj)) aj))) aj) (@aQ _ _ _ _ _ _ _ (@aQ _ _ _ _ _ _ _ (aa ak (@aQ _ _ _ _ _ _ _ aj (@aQ _ _ _ _ _ _ _ (aa cu (aa (aC iy (v3 6) ak) aj)) aj))) aj) (@aQ _ _ _ _ _ _ _ (@aQ _ _ _ _ _ _ _ (aa ak (@aQ _ _ _ _ _ _ _ aj (@aQ _ _ _ _ _ _ _ (aa cu (aa (v3 6) aj)) aj))) aj) aj)))) rfl (Or.inl rfl) (by first | exact .inl rfl | exact .inr rfl))
    (@ao _ _ _ _ _ (@wJ _ 10 0 _ _ _ _ _ _ _ _ _ _ sc_law.nd (v3 10) (@aQ _ _ _ _ _ _ _ (@aQ _ _ _ _ _ _ _ (aa ak (aa (v3 7) (@aQ _ _ _ _ _ _ _ (aa cu (aa ak aj)) aj))) aj) (@aQ _ _ _ _ _ _ _ (@aQ _ _ _ _ _ _ _ (aa ak (@aQ _ _ _ _ _ _ _ aj (@aQ _ _ _ _ _ _ _ (aa cu (@aQ _ _ _ _ _ _ _ aj aj)) aj))) aj) (@aQ _ _ _ _ _ _ _ (@aQ _ _ _ _ _ _ _ (aa ak (@aQ _ _ _ _ _ _ _ aj (@aQ _ _ _ _ _ _ _ (aa cu (aa (v3 7) aj)) aj))) aj) aj))) rfl (Or.inl rfl) (by first | exact .inl rfl | exact .inr rfl))
    (@ao _ _ _ _ _ (@wJ _ 10 0 _ _ _ _ _ _ _ _ _ _ sc_law.nd (v3 10) (@aQ _ _ _ _ _ _ _ (@aQ _ _ _ _ _ _ _ (aa ak (@aQ _ _ _ _ _ _ _ aj (@aQ _ _ _ _ _ _ _ (aa cu (@aQ _ _ _ _ _ _ _ aj aj)) aj))) aj) (@aQ _ _ _ _ _ _ _ (@aQ _ _ _ _ _ _ _ (aa ak (@aQ _ _ _ _ _ _ _ aj (@aQ _ _ _ _ _ _ _ (aa cu (aa (v3 6) aj)) aj))) (@aQ _ _ _ _ _ _ _ (aa ak (@aQ _ _ _ _ _ _ _ aj (@aQ _ _ _ _ _ _ _ (aa cu (aa (v3 6) aj)) aj))) aj)) aj)) rfl (Or.inl rfl) (by first | exact .inl rfl | exact .inr rfl))
    (aA (bK (bA Cp (aM d Y rfl (aa (v3 1) (aa (v3 8) (aa (v3 5) (aa (aK ix3 (v3 10) (aC aR (v3 4) (aN cP rfl B.len_ cR (aa (v3 10) aj)))) aj))))) cT) (aA (aJ cT)) aU))))))))
   (aA (aJ cT)))))))),?_⟩
 rw[show aO xn [T.ref a]=[some (T.ref a),none,none,none,none,none,none,none,none,none,none] from rfl];have hsz:sizeLine=16777216:=rfl;have k':=Box.mk k;clear k;refine aB fun R0 hR0=>?_;walk_at "";refine⟨a,ns,8,8,rfl,ha,h63,by decide,by decide,by decide,by decide,fun W sts beat c hW _ _ hf hb p hp=>?_⟩;have r8:=hW.r8;have r1:=hW.r1;have M:=Box.mk hW;try walk_at ""
 generalize up3 H3 p (.lst (sts.map fun (s:Nat)=>T.int (s:Int)))=H5;clear hW hf hp ha h63;refine⟨trivial,?_⟩;walk_at "n";refine aB fun R1 hR1=>?_;walk_at "";refine⟨by first | trivial | exact⟨by decide,by decide +kernel⟩,W,c / 16,rfl,M.out,fun r X hr2=>?_⟩;have I:=Q5 M.out X hr2;try dsimp only
 generalize (⟨W.tasks,W.orders,W.pairs,r⟩:Wk)=V at I ⊢;have t1:=I.t1;have t8:=I.t8;have v1:=I.r1;have v8:=I.r8;have F:=Box.mk I;clear I X hr2 M r1 r8;walk_at "n";refine aB fun R2 hR2=>?_;have cm0:=M_ (c / 8) (show ((V.row.length:Int)+1)≠0 by omega);have cm1:=I_ (c / 8) (show (0:Int)<(V.row.length:Int)+1 by omega);obtain⟨m,hj⟩:∃m:Nat,c / 8%((V.row.length:Int)+1)=(m:Int):=⟨(c / 8%((V.row.length:Int)+1)).toNat,by omega⟩;have hm:m<=V.row.length:=by omega
 clear cm0 cm1;walk_at "";refine⟨by first | trivial | exact⟨by decide,by decide +kernel⟩,by omega,?_⟩;clear hj;walk_at "n";refine aB fun R3 hR3=>?_;walk_at "";walk_at "c";refine bL tkT (fun t=>T.int t.2.1) V.tasks [] trivial (by omega) (fun t ht Q' hq=>?_) (fun p3 hp3=>?_)
 ·have J:=Box.mk hq;clear hq;simp only[tkT];walk_at "";exact J.out
 rw[show (V.tasks.map fun t=>T.int t.2.1)=(V.tasks.map (·.2.1)).map T.int by rw[Yo];rfl,fL,dX];rw[show (V.tasks.map (·.2.1)).sum=bV V from rfl];generalize up3 H5 p3 _=H6;clear hp3;walk_at "n";refine aB fun R4 hR4=>?_;walk_at "";walk_at "c";refine bL tkT (fun t=>T.str t.1) V.tasks [] trivial (by omega) (fun t ht Q' hq=>?_) (fun p4 hp4=>?_)
 ·have J:=Box.mk hq;clear hq;simp only[tkT];walk_at "";exact J.out
 rw[show (V.tasks.map fun t=>T.str t.1)=(V.tasks.map (·.1)).map T.str by rw[Yo];rfl];generalize up3 H6 p4 _=H7;clear hp4;walk_at "n";refine aB fun R5 hR5=>?_;walk_at "";obtain⟨q,eq,q1,q8⟩:∃q:Int,(if (m:Int)>1 then (m:Int) else 1)=q/\1<=q/\q<=8:=⟨_,rfl,by split <;> omega,by split <;> omega⟩;have cd:∀x,vY x q:=fun x=>⟨by omega,Zw (ZQ _) (by omega)⟩;rw[eq];refine⟨cd _,cd _,by decide,fun v hp5=>?_⟩;have tn:=Jc F.out;have eL:[T.int beat,T.int (bV V / q),T.int (if (bV V - 1) / q>0 then (bV V - 1) / q else 0),T.int 0]=([beat,bV V / q,if (bV V - 1) / q>0 then (bV V - 1) / q else 0,0]:List Int).map T.int:=rfl;rw[eL];have hL:∀z∈([beat,bV V / q,if (bV V - 1) / q>0 then (bV V - 1) / q else 0,0]:List Int),0<=z:=fun z hz=>by
  simp only[j_,G_,Ym] at hz;rcases hz with rfl | rfl | rfl | rfl
  ·exact hb
  ·exact Int.ediv_nonneg tn (by omega)
  ·split <;> omega
  exact aaB 0
 generalize ([beat,bV V / q,if (bV V - 1) / q>0 then (bV V - 1) / q else 0,0]:List Int)=U at hL ⊢;have hL':=Box.mk hL;have l:up3 H7 v (.lst (U.map T.int)) v=some (.lst (U.map T.int)):=aq;generalize up3 H7 v (.lst (U.map T.int))=H8 at l ⊢;clear hL eL eq cd hp5 q1 q8 tn hb;refine bR T.int U (fun A Z H=>∃v8 L o:Option T,Z=[some (.ref a),some V.enc,some (.ref p),some (.int beat),some (.int c),some (.int (m:Int)),some (.int (bV V)),some (.tup ((V.tasks.map (·.1)).map T.str)),v8,L,o]/\H v=some (.lst (U.map T.int))) ⟨_,_,_,rfl,l⟩ ?_ ?_
 ·rintro Z H ⟨v8,L,o,rfl,l⟩;refine⟨.inl l,?_⟩;walk_at "n";walk_at "";exact Fin3.of Sub3.refl (k'.out _)
 rintro A b B Z H N e ⟨v8,L,o,rfl,l⟩ hN;refine⟨.inl l,?_⟩;have hb:0<=b:=hL'.out b (by rw[e];simp);have hN':Box (∀L o H',H' v=some (.lst (U.map T.int))->N [some (.ref a),some V.enc,some (.ref p),some (.int beat),some (.int c),some (.int (m:Int)),some (.int (bV V)),some (.tup ((V.tasks.map (·.1)).map T.str)),some (.int b),L,o] H'):=⟨fun L o H' h=>hN _ _ ⟨_,L,o,rfl,h⟩⟩;clear hN e k' hR5 hL';refine aB fun R6 hR6=>?_;walk_at "";refine⟨by decide,by decide,by decide,by decide,V,b,m,[(0,[],.left (bV V))],rfl,F.out,hb,hm,(fun c hc=>by rw[m_.mp hc];exact X3 _),.inl (o_ 1),?_⟩;have eb:ipB V b m [(0,[],.left (bV V))]=decide (b*m<bV V):=by show (decide (((0,[]):NK)=(0,[]))&&(decide (bV V=bV V)&&decide (b*m<bV V)))=_;rw[D_ rfl,D_ rfl,Zh,Zh]
 try dsimp only
 rw[eb];clear eb;walk_at "n";refine aB fun R7 hR7=>?_;have cm:CMul b m:=.inr ⟨by omega,by omega⟩;walk_at "";refine⟨by first | trivial | exact cm,?_⟩;clear cm;walk_at "n";refine aB fun R8 hR8=>?_;walk_at "";repeat (refine⟨by decide,?_⟩)
 intro p6 hp6;have n6:v≠p6:=bf l hp6;generalize y:up3 H p6 _=H9;have g6:=(congrFun y p6).symm;rw[aq] at g6;have j:=(congrFun y v).symm;rw[aD n6,l] at j;clear y l hp6 n6;walk_at "n";refine aB fun R9 hR9=>?_;walk_at "";repeat (refine⟨by decide,?_⟩)
 intro p7 S;have n7:=bf g6 S;have R:=bf j S;rw[aD n7,g6,gD];refine⟨by show 7<=sizeLine;decide,fun p8 hp8=>?_⟩;have n8:v≠p8:=bf (by rw[aD R];exact j) hp8;generalize y:up3 (up3 H9 p7 _) p8 _=H10;have g8:=(congrFun y p8).symm;rw[aq] at g8;have l:=(congrFun y v).symm;rw[aD n8,aD R,j] at l;clear y j g6 S hp8 n7 n8 R;walk_at "n";refine aB fun R10 hR10=>?_;walk_at "";repeat (refine⟨by decide,?_⟩)
 intro p9 O;have n7:=bf g8 O;have R:=bf l O;rw[aD n7,g8,gD];refine⟨by show 9<=sizeLine;decide,fun D G=>?_⟩;have n8:v≠D:=bf (by rw[aD R];exact l) G;generalize y:up3 (up3 H10 p9 _) D _=H11;have g0:=(congrFun y D).symm;rw[aq] at g0;have g10:H11 D=some (.lst ((bnt V (bV V)).map bnT)):=g0;have j:=(congrFun y v).symm;rw[aD n8,aD R,l] at j;clear y l g8 g0 O G n7 n8 R;walk_at "n";have m0:=M_ c (show (9:Int)≠0 by decide);have m1:=I_ c (show (0:Int)<9 by decide);obtain⟨i,hi⟩:∃i:Nat,c%9=(i:Int):=⟨(c%9).toNat,by omega⟩;have i9:i<(bnt V (bV V)).length:=by show i<9;omega
 have ai:atI ((bnt V (bV V)).map bnT) (c%9)=some (bnT (bnt V (bV V))[i]):=by rw[hi];exact bY (by rw[z_,g_ i9];rfl)
 obtain⟨b1,b2,b3⟩:=Jd (beat:=b) (many:=m) F.out (Yl i9);have bl:((bnt V (bV V)).map bnT).length=9:=rfl;generalize (bnt V (bV V))[i]=cs at *;generalize (bnt V (bV V)).map bnT=LB at *;have b1':=Box.mk b1;clear b1 i9 m0 m1 hi;walk_at "";refine⟨by decide,?_⟩;rw[show ((9:Nat):Int)=9 from rfl,ai,dX];refine⟨V,b,m,cs,rfl,F.out,hb,hm,b1'.out,b2,?_⟩;rw[b3];try dsimp only
 rw[Kc,fH];exact hN'.out _ _ _ j
abbrev xq:List Str:=["_law_works_here","_law_cell_here","_law_row","_law_at"]
theorem sc_moved:FnScope xq ["_law_works_here","_law_cell_here"] (au (top 47)):=bc
theorem DR {f:Addr}{z:FuncData}(g:G3 K mg "_law_moved" (top 47) ["_law_works_here","_law_cell_here"] f z) (B:Bl mg):Cal P w K mg base 1 "_law_moved" (top 47) ["_law_works_here","_law_cell_here"] Ws:=by
 refine⟨f,z,g,?_⟩;refine fn3 g.fn sc_moved (fun ts H Q h=>?_) (fun O A t s H E ts H3 Q I h=>?_)
 ·obtain⟨W,c,rfl,_⟩:=h;rfl
 have d:=Room.u30 I;obtain⟨W,c,rfl,D,C⟩:=h;refine⟨_,(ao (aF (i:=2) sc_moved.nd (aK ix3 (v3 0) ak))
   (ao (aF (i:=3) sc_moved.nd (aC aR (aC aW (v3 1) ak) (aN cP rfl B.len_ cR (aa (v3 2) aj))))
   (ao (bK (bA (dI d) (aC aR (v3 1) ak) ak) (ao (aF (i:=2) sc_moved.nd (aC aY (jq (v3 2) (du (v3 3)) dJ) (jq (v3 2) dJ (du (v3 3)))))
    (aA (bK (bA (dI d) (aC aR (aC aW (v3 1) ak) ak) ak) (aA (aF (i:=2) sc_moved.nd (G7 (v3 2) (du (uF ak))))) aU))) aU)
   (aA (aJ (aC aY (jq (v3 0) dJ (du ak)) (bj (aa (v3 2) aj)))))))),?_⟩
 rw[show aO xq [W.enc,T.int c]=[some (W.enc),some (T.int c),none,none] from rfl];have hsz:sizeLine=16777216:=rfl;have u:=Box.mk C;clear C;have r8:=D.r8;have U:=D.r1;have a:∀(r:List Str) (Z:List (Option T)),r.length=W.row.length->(∀x∈r,x∈W.row)->Fin3 Q (.tup ([.tup (W.tasks.map tkT),.tup (W.orders.map orT),.tup (W.pairs.map prT)]++[.tup (r.map T.str)])) H3:=fun r _ J N=>Fin3.of Sub3.refl (u.out r J N);refine aB fun R M=>?_;walk_at "";walk_at "n";have Y:=M_ (c / 8) (show (W.row.length:Int)≠0 by omega);have X:=I_ (c / 8) (show (0:Int)<(W.row.length:Int) by omega);obtain⟨j,V⟩:∃j:Nat,c / 8%(W.row.length:Int)=(j:Int):=⟨(c / 8%(W.row.length:Int)).toNat,by omega⟩;have cd:vY (c / 8) (W.row.length:Int):=⟨by omega,by
  have:W.row.length=1\/W.row.length=2\/W.row.length=3\/W.row.length=4\/W.row.length=5\/W.row.length=6\/W.row.length=7\/W.row.length=8:=by omega
  rcases this with e | e | e | e | e | e | e | e <;> rw[e] <;> decide +kernel⟩
 refine aB fun S L=>?_;walk_at "";refine⟨⟨by decide,by decide +kernel⟩,by omega,?_⟩;walk_at "n";refine aB fun R2 o=>?_;have key:∀(r:List Str),r.length=W.row.length->(∀x∈r,x∈W.row)->R2 { nx:=fun _ F=>Fin3 Q T.non F,rt:=Fin3 Q} [some W.enc,some (T.int c),some (T.tup (r.map T.str)),some (T.int (j:Int))] H3:=by intro r m n;have f:=a r [] m n;have G:=Box.mk f;clear f a u m n;walk_at "n";rw[show W.enc=T.tup [.tup (W.tasks.map tkT),.tup (W.orders.map orT),.tup (W.pairs.map prT),.tup (W.row.map T.str)] from rfl];walk_at "";rw[show ∀ts:List T,dm ts none (some 3)=ts.take 3 from fun ts=>oY (k:=3)];exact⟨by decide,by simp,G.out⟩
 have b:=Box.mk key;clear key o a u;walk_at "";refine⟨by decide,?_⟩;by_cases v:c%4=1
 ·rw[if_pos (D_ v)];rw[gF,oY,<- List.map_drop,<- List.map_take,<- H_];have p:∀x∈W.row.drop j++W.row.take j,x∈W.row:=fun x l=>by
   rcases B_.mp l with l | l
   ·exact List.mem_of_mem_drop l
   exact List.mem_of_mem_take l
  have q:(W.row.drop j++W.row.take j).length=W.row.length:=by rw[d_,aae,Y7];omega
  generalize W.row.drop j++W.row.take j=r at p q ⊢;refine⟨by rw[e_,e_,aae,Y7];omega,⟨by decide,by decide +kernel⟩,by decide,?_⟩;by_cases y:c / 4%2=1
  ·rw[if_pos (D_ y),<- aah];exact⟨trivial,b.out r.reverse (by rw[Yw];exact q) fun x l=>p x (List.mem_reverse.mp l)⟩
  rw[if_neg (Be y)];exact b.out r q p
 rw[if_neg (Be v)];exact b.out W.row rfl fun _ h=>h
abbrev DW:List Str:=["_law_script","_law_k","_law_first","_law_cell_here","_law_number","_law_found","_law_j"]
theorem sc_cell:FnScope DW ["_law_script","_law_k"] (au (top 37)):=bc
theorem Je {f:Addr}{fd:FuncData}(g:G3 K mg "_law_cell" (top 37) ["_law_script","_law_k"] f fd) (B:Bl mg):Cal P w K mg base 1 "_law_cell" (top 37) ["_law_script","_law_k"] Iu:=by
 refine⟨f,fd,g,?_⟩;refine fn3 g.fn sc_cell (fun ts H Q h=>?_) (fun cdv A W s H E ts H3 Q hr h=>?_)
 ·obtain⟨a,ns,k,rfl,_⟩:=h;rfl
 have o:=Room.u30 hr;obtain⟨a,ns,k,rfl,J,hl,hk,kk⟩:=h;refine⟨_,(ao (aF (i:=2) sc_cell.nd (aK ix3 (aC w5 (v3 0) (bh (aa ak aj))) ak))
   (ao (bK (bA (dI o) (aC aR (v3 2) ak) ak) (aA (aJ (aK ix3 (aC w5 (v3 0) (aC Bf (bh (aa ak aj)) ak)) (v3 1)))) aU)
   (ao (aF (i:=3) sc_cell.nd (aK ix3 (v3 0) (aC aR (v3 1) (aN cP rfl B.len_ cR (aa (v3 0) aj)))))
   (ao (aF (i:=4) sc_cell.nd (aC aR (aC aY (aC aY (aC cF (aC aR (v3 3) ak) ak) (aC cF ak (v3 1))) ak) ak))
   (ao (aF (i:=4) sc_cell.nd (aC aR (aC aY (aC cF (v3 4) (v3 4)) (v3 1)) ak))
   (ao (aF (i:=5) sc_cell.nd ak)
   (ao (cg S_ rfl (dj rfl B.range_ (aa ak aj)) (aG (i:=6) sc_cell.nd) (ao (aF (i:=4) sc_cell.nd (aC aR (aC aY (aC cF (v3 4) ak) ak) ak))
    (aA (aF (i:=5) sc_cell.nd (aC aY (aC cF (v3 5) ak) (v3 4))))))
   (aA (aJ (v3 5)))))))))),?_⟩
 rw[show aO DW [T.ref a,T.int (k:Int)]=[some (T.ref a),some (T.int (k:Int)),none,none,none,none,none] from rfl];have hsz:sizeLine=16777216:=rfl;have X:=Box.mk kk;clear kk;refine aB fun R0 hR0=>?_;walk_at "";refine⟨by decide,fun p1 l=>?_⟩;have Y:a≠p1:=bf J l;walk_at "";refine⟨by omega,fun S e=>?_⟩;have R:a≠S:=bf J (cC e).2;have F:Sub3 H3 (up3 (up3 H3 p1 (.lst [T.int 0])) S (.lst (ns.map T.int++[T.int 0]))):=(Sub3.new l).trans (Sub3.new e);have e1:ns.map T.int++[T.int 0]=(ns++[0]).map T.int:=by rw[H_];rfl
 obtain⟨G,v⟩:=pR (ns:=ns++[0]) (i:=0) (by rw[d_];simp);rw[e1] at F ⊢;have b:atI ((ns++[0]).map T.int) 0=some (T.int G):=v;rw[b,dX];have d:G%2≠0->1<=ns.length:=fun h=>by
  cases ns with
  |nil =>
   have z:atI (([0]:List Int).map T.int) 0=some (T.int 0):=rfl
   rw[ZZ,z] at b
   cases b
   exact absurd rfl h
  |cons x r=>simp
 have I:=F _ _ J;generalize up3 (up3 H3 p1 (.lst [T.int 0])) S (.lst ((ns++[0]).map T.int))=H4 at F I ⊢;clear v b e1 Y R l e J;walk_at "n";refine aB fun R1 U=>?_;walk_at "";refine⟨by decide,?_⟩;by_cases j:G%2=0
 ·rw[D_ j,if_pos rfl];clear U d;try walk_at ""
  refine⟨by decide,fun q1 q=>⟨⟨by decide,by decide,by decide⟩,fun q2 C=>?_⟩⟩;have n1:a≠q1:=bf I q;have n2:a≠q2:=bf I (cC C).2;rw[aD n2,aD n1,I,Dv];have e2:(List.replicate (Int.toNat 64) [T.int 0]).flatten=(List.replicate 64 (0:Int)).map T.int:=rfl;rw[e2];refine⟨by rw[e_,e_,Yn];omega,fun q3 L=>?_⟩;obtain⟨c,ec⟩:=pR (ns:=ns++List.replicate 64 0) (i:=k) (by rw[d_,Yn];omega);rw[Ah,aq,wy,<- H_,ec,dX];exact Fin3.of (F.trans ((Sub3.new q).trans ((Sub3.new C).trans (Sub3.new L)))) (X.out c)
 rw[u_ j,if_neg t_];have h1:=d j;clear d;walk_at "n";refine aB fun R2 hR2=>?_;obtain⟨u,D⟩:=pR (ns:=ns) (i:=k%ns.length) (Nat.mod_lt _ (by omega));have p:atI (ns.map T.int) ((k:Int)%(ns.length:Int))=some (T.int u):=D;clear D;walk_at "";refine⟨by omega,?_⟩;walk_at "n";refine aB fun R3 hR3=>?_;have z0:=M_ u (show (2147483647:Int)≠0 by decide);have z1:=I_ u (show (0:Int)<2147483647 by decide);clear p;walk_at "";refine⟨by decide,.inr ⟨by decide,by decide⟩,.inl ⟨by decide,by decide⟩,by decide,?_⟩;generalize u%2147483647=z at z0 z1;have y0:=M_ (z*48271+69621*(k:Int)+7919) (show (2147483629:Int)≠0 by decide);have y1:=I_ (z*48271+69621*(k:Int)+7919) (show (0:Int)<2147483629 by decide);generalize (z*48271+69621*(k:Int)+7919)%2147483629=y at y0 y1;walk_at "n";refine aB fun R4 hR4=>?_;walk_at "";refine⟨.inl ⟨by omega,by omega⟩,by decide,?_⟩;have x0:=M_ (y*y+(k:Int)) (show (2147483587:Int)≠0 by decide);have x1:=I_ (y*y+(k:Int)) (show (0:Int)<2147483587 by decide);generalize (y*y+(k:Int))%2147483587=x at x0 x1;walk_at "n";refine aB fun R5 hR5=>?_;walk_at "";walk_at "n";refine aB fun R6 M=>?_;walk_at "";refine⟨by first | trivial | decide,by decide,by decide,?_⟩;generalize dH 0 (Int.toNat 9)=ts0;refine gW (fun r Z H=>∃(n O:Int) (V:Option T),Z=[some (.ref a),some (.int (k:Int)),some (.int G),some (.int u),some (.int n),some (.int O),V]/\0<=n/\n<2147483629/\Sub3 H3 H) ⟨x,0,_,rfl,x0,by omega,F⟩ ?_ ?_
 ·rintro Z H ⟨n,O,V,rfl,_,_,m⟩;refine⟨trivial,?_⟩;walk_at "n";walk_at "";exact Fin3.of m (X.out _)
 rintro t r Z H N ⟨n,O,V,rfl,n0,n1,m⟩ hN;refine⟨trivial,?_⟩;have hM:=Box.mk hN;clear hN M X;walk_at "";refine⟨.inl ⟨by omega,by omega⟩,by decide,.inr ⟨by decide,by decide⟩,?_⟩;exact hM.out _ _ ⟨_,_,_,rfl,M_ _ (by decide),Int.lt_trans (I_ _ (by decide)) (by decide),m⟩
abbrev DX:List Str:=["_law_cell_here","_law_letters","_law_word_here","_law_rest","_law_j"]
theorem sc_word:FnScope DX ["_law_cell_here"] (au (top 38)):=bc
theorem Jf {f:Addr}{v:FuncData}(g:G3 K mg "_law_word" (top 38) ["_law_cell_here"] f v) (B:Bl mg):Cal P w K mg base 1 "_law_word" (top 38) ["_law_cell_here"] QS:=by
 refine⟨f,v,g,?_⟩;refine fn3 g.fn sc_word (fun ts H Q h=>?_) (fun R A t s H E ts H3 Q hr h=>?_)
 ·obtain⟨c,rfl,_⟩:=h;rfl
 obtain⟨c,rfl,F⟩:=h;refine⟨_,(ao (aF (i:=1) sc_word.nd cu)
   (ao (aF (i:=2) sc_word.nd cu)
   (ao (aF (i:=3) sc_word.nd (aC aW (v3 0) ak))
   (ao (cg S_ rfl (dj rfl B.range_ (aa (aC aY ak (aC aR (v3 0) ak)) aj)) (aG (i:=4) sc_word.nd) (ao (aF (i:=2) sc_word.nd (aC aY (v3 2) (aK ix3 (v3 1) (aC aR (v3 3) ak))))
    (aA (aF (i:=3) sc_word.nd (aC aW (v3 3) ak)))))
   (aA (aJ (v3 2))))))),?_⟩
 rw[show aO DX [T.int c]=[some (T.int c),none,none,none,none] from rfl];have hsz:sizeLine=16777216:=rfl;have J:(mkS lC).length<=sizeLine:=by rw[cY];decide
 have D:=Box.mk F;clear F;have S:("":Str)=mkS []:=by decide +kernel
 refine aB fun V O=>?_;walk_at "";simp only[Cv];walk_at "n";refine aB fun X N=>?_;walk_at "";walk_at "n";refine aB fun R2 M=>?_;walk_at "";refine⟨⟨by decide,by decide +kernel⟩,?_⟩;walk_at "n";refine aB fun R3 n=>?_;walk_at "";have m0:=M_ c (show (8:Int)≠0 by decide);have Y:=I_ c (show (0:Int)<8 by decide);refine⟨by decide,trivial,by omega,by omega,?_⟩;have j:(dH 0 (1+c%8).toNat).length=(1+c%8).toNat:=by unfold dH;rw[e_,K_]
 generalize dH 0 (1+c%8).toNat=G at j;try rw[S]
 generalize c / 8=o;refine gW (fun r Z H=>∃(a:List Nat) (d:Int) (u:Option T),Z=[some (.int c),some (.str (mkS lC)),some (.str (mkS a)),some (.int d),u]/\(a.length:Int)+r.length=1+c%8/\(∀x∈a,97<=x/\x<=122)/\H3=H) ⟨[],o,_,rfl,by rw[j,Yg];omega,(fun _ z=>nomatch z),rfl⟩ ?_ ?_
 ·rintro Z H ⟨a,d,u,rfl,b,m,rfl⟩;refine⟨trivial,?_⟩;rw[Yg] at b;walk_at "n";walk_at "";exact Fin3.of Sub3.refl (D.out _ (Kd (by omega) (by omega) m))
 rintro x r Z H W ⟨a,d,u,rfl,b,m,rfl⟩ l;refine⟨trivial,?_⟩;rw[n_] at b;have L:=Box.mk l;have p:=Box.mk m;have C:a.length<8:=by omega
 have k:=Box.mk b;have I:=M_ d (show (26:Int)≠0 by decide);have U:=I_ d (show (0:Int)<26 by decide);have q:=Cw (d%26) I U;clear l D n b m;walk_at "";simp only[fj,q,dX];walk_at "";rw[show (⟨#[97+(d%26).toNat]⟩:Str)=mkS [97+(d%26).toNat] from rfl];refine⟨by decide,J,by rw[cY,cY];simp only[J_];omega,⟨by decide,by decide +kernel⟩,?_⟩;rw[wN];exact L.out _ _ ⟨_,_,_,rfl,by rw[d_,J_];have:=k.out;push_cast;omega,fun y e=>by
  rcases B_.mp e with e | e
  ·
   exact p.out y e
  ·
   rw[m_.mp e];omega,rfl⟩
abbrev sr:List Str:=["_law_words","_law_letters","_law_found","_law_word_here"]
theorem sc_unlike:FnScope sr ["_law_words"] (au (top 39)):=bc
theorem yH {f:Addr}{fd:FuncData}(g:G3 K mg "_law_unlike" (top 39) ["_law_words"] f fd) (B:Bl mg):Cal P w K mg base 1 "_law_unlike" (top 39) ["_law_words"] QT:=by
 refine⟨f,fd,g,?_⟩;refine fn3 g.fn sc_unlike (fun ts H Q h=>?_) (fun cdv A U s H E ts H3 Q hr h=>?_)
 ·obtain⟨a,ws,rfl,_⟩:=h;rfl
 have y:=Room.u31 hr;obtain⟨a,ws,rfl,G,hl,C,kk⟩:=h;refine⟨_,(ao (aF (i:=1) sc_unlike.nd cu)
   (ao (aF (i:=2) sc_unlike.nd (bh aj))
   (ao (cg S_ rfl (cI (v3 0)) (aG (i:=3) sc_unlike.nd) (ao (kJ S_ (bA (m5 y) (v3 3) (v3 2) rfl) (aA (aF (i:=3) sc_unlike.nd (aC aY (gC (v3 3) dJ (du (uF ak))) (aK ix3 (v3 1) (aC aR (aC aY (eV PySem.F.plainAttrs_str PySem.F.slot_str_index PySem.F.type_str_index Ad (v3 1) (aa (aK ix3 (v3 3) (uF ak)) aj)) ak) ak))))))
    (aA (cz (eV P_ T_ U_ bI (v3 2) (aa (v3 3) aj))))))
   (aA (aJ (v3 2)))))),?_⟩
 rw[show aO sr [T.ref a]=[some (T.ref a),none,none,none] from rfl];have hsz:sizeLine=16777216:=rfl;have al:(mkS lC).length<=sizeLine:=by rw[cY];decide
 have k':=Box.mk kk;clear kk;refine aB fun R0 hR0=>?_;walk_at "";simp only[Cv];walk_at "n";refine aB fun R1 hR1=>?_;walk_at "";refine⟨by decide,fun k v=>?_⟩;have t:a≠k:=bf G v;walk_at "n";refine aB fun R2 M=>?_;have ga:up3 H3 k (.lst []) a=some (.lst (ws.map T.str)):=by rw[aD t];exact G
 walk_at "";have u:=Box.mk C;clear C;refine bR T.str ws (fun A Z H=>∃(d:List Str) (v3:Option T),Z=[some (.ref a),some (.str (mkS lC)),some (.ref k),v3]/\H=up3 H3 k (.lst (d.map T.str))/\d.length=A.length/\Nms d) ⟨[],_,rfl,rfl,rfl,Nms.nil⟩ ?_ ?_
 ·rintro Z H ⟨d,v3,rfl,rfl,q,L⟩;refine⟨.inl (by rw[aD t];exact G),?_⟩;walk_at "n";walk_at "";exact Fin3.of Sub3.refl (k'.out d q L k v)
 rintro A x B Z H N e ⟨d,v3,rfl,rfl,q,L⟩ Y;refine⟨.inl (by rw[aD t];exact G),?_⟩;have hA:A.length+1<=8:=by have:=X6 List.length e;simp only[d_,n_] at this;omega
 obtain⟨b,c,rfl,J,hs0,S⟩:=Iw (u.out x (by rw[e];simp));have V:=Box.mk Y;clear Y e M k' ga;have gf:up3 H3 k (.lst (d.map T.str)) k=some (.lst (d.map T.str)):=aq;refine aB fun R3 I=>?_;walk_at "";refine yz (fun m Z H=>∃j:Nat,m+j=8/\Z=[some (.ref a),some (.str (mkS lC)),some (.ref k),some (.str (nmL b c j))]/\H=up3 H3 k (.lst (d.map T.str))/\∀i,i<j->nmL b c i∈d) ⟨8,0,rfl,rfl,rfl,(fun _ z=>absurd z (by omega))⟩ ?_;intro m Z H hI WI TB NX o n l;obtain⟨j,hm,rfl,rfl,p⟩:=hI;have hj:j<=d.length:=by
  rcases aax d.length j with z | z
  ·exact (pig d (fun i=>nmL b c i) (fun i i' h1 h2 h=>Iv (by omega) (by omega) h) fun i hi=>p i (by omega)).elim
  exact z
 walk_at "";refine⟨rfl,eZ d,?_⟩;split
 ·rename_i r;have W:nmL b c j∈d:=Classical.byContradiction fun h=>absurd r (by rw[rZ];simp [h]);clear l I;obtain⟨n⟩:=n;subst n;try dsimp only
  walk_at "";have X:=Iz b c j;have md:=Nat.mod_lt (c+j) (show 0<26 by decide);have D:=Qh (97+(c+j)%26) (by omega) (by omega);refine⟨by omega,by first | trivial | omega,by omega,?_⟩;rw[IK,zg,dX,show (⟨#[97+(c+j)%26]⟩:Str)=mkS [97+(c+j)%26] from rfl,D];clear D;walk_at "";have O:=Cw ((((97+(c+j)%26 - 97:Nat):Int)+1)%26) (M_ _ (by decide)) (I_ _ (by decide));have en:((((97+(c+j)%26 - 97:Nat):Int)+1)%26).toNat=(c+(j+1))%26:=by omega
  have sn:Txt.slice (nmL b c j) none (some (-1))=mkS b:=QW b _;refine⟨by decide,al,?_⟩;rw[fj,O,dX,en,sn,show (⟨#[97+(c+(j+1))%26]⟩:Str)=mkS [97+(c+(j+1))%26] from rfl,wN];obtain⟨o⟩:=o;subst o;refine⟨by rw[cY,cY];simp only[J_];omega,m - 1,by omega,j+1,by omega,rfl,rfl,fun i hi=>?_⟩;rcases aax i j with z | z
  ·exact p i z
  rw[show i=j by omega];exact W
 rename_i r;have R:nmL b c j∉d:=fun h=>r (by rw[rZ];simp [h]);clear n o;obtain⟨l⟩:=l;subst l;walk_at "n";try dsimp only
 walk_at "";refine⟨⟨trivial,trivial⟩,by omega,V.out _ _ ⟨d++[nmL b c j],some _,rfl,?_,by rw[d_,d_,q];rfl,L.snoc (QV J S) R⟩⟩;rw[H_];rfl
abbrev DY:List Str:=["_law_cell_here","_law_words","_law_k"]
theorem sc_pool:FnScope DY ["_law_cell_here"] (au (top 40)):=bc
theorem Jg {f:Addr}{G:FuncData}(g:G3 K mg "_law_pool" (top 40) ["_law_cell_here"] f G) (B:Bl mg) (d:Cal P w K mg base 1 "_law_word" (top 38) ["_law_cell_here"] QS) (a:Cal P w K mg base 1 "_law_unlike" (top 39) ["_law_words"] QT):Cal P w K mg base 2 "_law_pool" (top 40) ["_law_cell_here"] Wi:=by
 refine⟨f,G,g,?_⟩;refine fn3 g.fn sc_pool (fun ts H Q h=>?_) (fun V A v s H E ts H3 Q D h=>?_)
 ·obtain⟨c,rfl,_⟩:=h;rfl
 obtain⟨c,rfl,J⟩:=h;refine⟨_,(ao (aF (i:=1) sc_pool.nd (bh aj))
   (ao (cg S_ rfl (dj rfl B.range_ (aa ak aj)) (aG (i:=2) sc_pool.nd) (ao (cz (eV P_ T_ U_ bI (v3 1) (aa (aM d D rfl (aa (aC aR (v3 0) (aC cF ak (aC iz ak ak))) aj)) aj)))
    (aA (aF (i:=0) sc_pool.nd (aC aW (v3 0) (aC cF ak (aC iz ak ak)))))))
   (aA (aJ (aM a D rfl (aa (v3 1) aj)))))),?_⟩
 rw[show aO DY [T.int c]=[some (T.int c),none,none] from rfl];have hsz:sizeLine=16777216:=rfl;have I:=Box.mk J;clear J;refine aB fun X R=>?_;walk_at "";refine⟨by decide,fun j n=>?_⟩;walk_at "n";refine aB fun Y q=>?_;walk_at "";refine⟨trivial,by decide,by decide,?_⟩;have C:(dH 0 (Int.toNat 8)).length=8:=by unfold dH;rw[e_,K_];rfl
 generalize dH 0 (Int.toNat 8)=L at C;refine gW (fun r Z H=>∃(ws:List Str) (c:Int) (u:Option T),Z=[some (.int c),some (.ref j),u]/\H=up3 H3 j (.lst (ws.map T.str))/\ws.length+r.length=8/\∀x∈ws,isNm x) ⟨[],c,_,rfl,rfl,by rw[C];rfl,(fun _ z=>nomatch z)⟩ ?_ ?_
 ·rintro Z H ⟨ws,c,u,rfl,rfl,t,m⟩;refine⟨trivial,?_⟩;rw[Yg] at t;walk_at "n";walk_at "";refine⟨j,ws,rfl,aq,by omega,m,fun us h1 U p W=>?_⟩;refine Fin3.of ?_ (I.out us (by omega) U p (cC W).2);intro b o l;by_cases e:b=p
  ·subst e;rw[aq] at l ⊢;exact l
  rw[aD e] at l ⊢;rw[aD (bf l n)];exact l
 rintro x r Z H N ⟨ws,c,u,rfl,rfl,t,m⟩ F;refine⟨trivial,?_⟩;rw[n_] at t;have O:=Box.mk F;clear F q I;have S:up3 H3 j (.lst (ws.map T.str)) j=some (.lst (ws.map T.str)):=aq;walk_at "";refine⟨⟨trivial,trivial⟩,⟨by decide,by decide,by decide⟩,.inl ⟨by decide,by decide⟩,by decide,_,rfl,fun y M=>?_⟩;dsimp only;rw[S,Ai];refine⟨by rw[e_];omega,⟨by decide,by decide,by decide⟩,.inl ⟨by decide,by decide⟩,⟨by decide,by decide +kernel⟩,O.out _ _ ⟨ws++[y],_,_,rfl,?_,by rw[d_,J_];omega,fun z k=>?_⟩⟩
 ·rw[H_];exact oG
 rcases B_.mp k with k | k
 ·exact m z k
 rw[m_.mp k];exact M
abbrev Ea:List Str:=["_law_cell_here","_law_row","_law_pool_here","_law_unit","_law_stand","_law_turn","_law_some","_law_rest","_law_k","_law_other","_law_at","_law_digit","_law_length"]
theorem sc_task:FnScope Ea ["_law_cell_here","_law_row","_law_pool_here","_law_unit"] (au (top 41)):=bc
theorem Jh {f:Addr}{fd:FuncData}(g:G3 K mg "_law_task" (top 41) ["_law_cell_here","_law_row","_law_pool_here","_law_unit"] f fd) (B:Bl mg) (F:Cal P w K mg base 1 "_law_word" (top 38) ["_law_cell_here"] QS):Cal P w K mg base 2 "_law_task" (top 41) ["_law_cell_here","_law_row","_law_pool_here","_law_unit"] Wj:=by
 refine⟨f,fd,g,?_⟩;refine fn3 g.fn sc_task (fun ts H Q h=>?_) (fun cdv A outer s H E ts H3 Q hr h=>?_)
 ·obtain⟨c,Y,pp,a,e,d,rfl,_⟩:=h;rfl
 have hu30:=Room.u30 hr;have hu31:=Room.u31 hr;obtain⟨c,Y,pp,a,e,d,rfl,M,r1,r8,hrn,hpp,p8,hpn,u1,u2,kk⟩:=h;refine⟨_,(ao (aF (i:=4) sc_task.nd (aC aR (v3 0) (aN cP rfl B.len_ cR (aa (v3 1) aj))))
   (ao (aF (i:=5) sc_task.nd (aC aR (aC aW (v3 0) (aN cP rfl B.len_ cR (aa (v3 1) aj))) ak))
   (ao (aF (i:=0) sc_task.nd (aC aW (v3 0) (aC cF ak (aN cP rfl B.len_ cR (aa (v3 1) aj)))))
   (ao (aF (i:=6) sc_task.nd (bh aj))
   (ao (bK (bA (dI hu30) (aC aR (v3 0) ak) ak) (ao (aF (i:=6) sc_task.nd (bh (aa (aK ix3 (v3 1) (v3 4)) aj)))
    (ao (aF (i:=7) sc_task.nd (aC aW (v3 0) ak))
    (ao (cg S_ rfl (dj rfl B.range_ (aa ak aj)) (aG (i:=8) sc_task.nd) (ao (aF (i:=9) sc_task.nd (aK ix3 (aC aY (v3 2) (bh (aa (aK ix3 (v3 1) (v3 4)) aj))) (aC aR (v3 7) ak)))
     (ao (aF (i:=7) sc_task.nd (aC aW (v3 7) ak))
     (aA (bK (bA (z6 hu31) (v3 9) (v3 6) rfl) (aA (cz (eV P_ T_ U_ bI (v3 6) (aa (v3 9) aj)))) aU)))))
    (ao (aF (i:=10) sc_task.nd (aC aR (aC aR (v3 7) ak) (aN cP rfl B.len_ cR (aa (v3 6) aj))))
    (aA (aF (i:=6) sc_task.nd (aC aY (gC (v3 6) (du (v3 10)) dJ) (gC (v3 6) dJ (du (v3 10)))))))))) aU)
   (ao (aF (i:=0) sc_task.nd (aC aW (v3 0) (aC cF (aC cF ak ak) ak)))
   (ao (aF (i:=11) sc_task.nd (aC aY ak (aC aR (aC aW (v3 0) ak) ak)))
   (ao (aF (i:=12) sc_task.nd (aK ix3 (bh (aa (v3 11) (aa (aC aY (aC cF (v3 3) (v3 11)) (aC aR (aC aW (v3 0) ak) ak)) (aa (aC aY ak (aC aR (aC aW (v3 0) ak) (aC iy (aC iz ak ak) ak))) aj)))) (aC aR (v3 0) ak)))
   (aA (aJ (bj (aa (v3 4) (aa (v3 5) (aa (v3 12) (aa (bH cU rfl B.tuple_ cV (aa (v3 6) aj)) (aa (aM F hr rfl (aa (aC aW (v3 0) (aC cF ak (aC iz ak ak))) aj)) aj)))))))))))))))),?_⟩
 rw[show aO Ea [T.int c,T.ref Y,T.ref pp,T.int d]=[some (T.int c),some (T.ref Y),some (T.ref pp),some (T.int d),none,none,none,none,none,none,none,none,none] from rfl];have hsz:sizeLine=16777216:=rfl;have k':=Box.mk kk;clear kk;have hrn':=Box.mk hrn;have hpn':=Box.mk hpn;clear hrn hpn;refine aB fun R0 hR0=>?_;walk_at "";have b0:=M_ c (show (a.length:Int)≠0 by omega);have b1:=I_ c (show (0:Int)<(a.length:Int) by omega);refine⟨by omega,?_⟩;obtain⟨s,hs⟩:∃s:Nat,c%(a.length:Int)=(s:Int):=⟨(c%(a.length:Int)).toNat,by omega⟩;rw[hs] at b0 b1 ⊢;have v:s<a.length:=by omega
 have lg:(a.length:Int).natAbs.log2<9000:=Zw (ZQ _) (by omega);have lg8:(8*(a.length:Int)).natAbs.log2<9000:=Zw (ZQ _) (by omega);clear hs;walk_at "n";refine aB fun R1 hR1=>?_;walk_at "";refine⟨⟨by omega,lg⟩,by decide,?_⟩;have t0:=M_ (c / (a.length:Int)) (show (8:Int)≠0 by decide);have t1:=I_ (c / (a.length:Int)) (show (0:Int)<8 by decide);generalize c / (a.length:Int)%8=tn at t0 t1;walk_at "n";refine aB fun R2 hR2=>?_;walk_at "";refine⟨.inl ⟨by decide,by decide⟩,⟨by omega,lg8⟩,?_⟩;generalize c / (8*(a.length:Int))=c2;walk_at "n";refine aB fun R3 hR3=>?_;walk_at "";refine⟨by decide,fun p0 u=>?_⟩;walk_at "n";refine aB fun R4 hR4=>?_;have key:Box (∀(p:Addr) (ks:List Str) (v7 X W v10:Option T) (L:Hp3),Sub3 H3 L->L p=some (.lst (ks.map T.str))->Nms ks->ks.length<=4->(ks=[]\/a.getD s ""∈ks)->R4 { nx:=fun x H'=>Fin3 Q T.non H',rt:=Fin3 Q} [some (.int c2),some (.ref Y),some (.ref pp),some (.int d),some (.int (s:Int)),some (.int tn),some (.ref p),v7,X,W,v10,none,none] L):=by
  refine⟨fun p ks v7 X W v10 L D gp R hk4 hks=>?_⟩;clear M hpp u;walk_at "n";refine aB fun R5 hR5=>?_;walk_at "";refine⟨.inl ⟨by decide,by decide⟩,.inl ⟨by decide,by decide⟩,⟨by decide,by decide +kernel⟩,?_⟩;generalize c2 / (4*729*4)=l;walk_at "n";refine aB fun R6 hR6=>?_;walk_at "";refine⟨⟨by decide,by decide +kernel⟩,by decide,?_⟩;have d0:=M_ (l / 3) (show (9:Int)≠0 by decide);have d1:=I_ (l / 3) (show (0:Int)<9 by decide);generalize l / 3%9=dg at d0 d1;walk_at "n";refine aB fun R7 hR7=>?_;walk_at "";refine⟨.inr ⟨by omega,by omega⟩,⟨by decide,by decide +kernel⟩,by decide,⟨by decide,by decide +kernel⟩,⟨by decide,by decide,by decide⟩,by decide +kernel,by decide,fun V k=>⟨by decide,?_⟩⟩;have i0:=M_ l (show (3:Int)≠0 by decide);have i1:=I_ l (show (0:Int)<3 by decide);have e0:=M_ (l / 27) (show (2:Int)≠0 by decide);have e1:=I_ (l / 27) (show (0:Int)<2 by decide);have f0:=M_ (l / 3) (show ((10:Int)^Int.toNat 60 - 1)≠0 by decide +kernel);have f1:=I_ (l / 3) (show (0:Int)<(10:Int)^Int.toNat 60 - 1 by decide +kernel);have m1:d*(1+dg)<=10^57*9:=Int.mul_le_mul u2 (by omega) (by omega) (by decide +kernel);have m0:1*1<=d*(1+dg):=Int.mul_le_mul u1 (by omega) (by decide) (by omega);have p60:(10:Int)^Int.toNat 60=10^60:=rfl;rw[p60] at f0 f1 ⊢;have sb7:=D.trans (Sub3.new (o:=.lst [T.int (1+dg),T.int (d*(1+dg)+l / 27%2),T.int (1+l / 3%(10^60 - 1))]) k);have gp7:up3 L V (.lst [T.int (1+dg),T.int (d*(1+dg)+l / 27%2),T.int (1+l / 3%(10^60 - 1))]) p=_ := upa gp k;generalize up3 L V (.lst [T.int (1+dg),T.int (d*(1+dg)+l / 27%2),T.int (1+l / 3%(10^60 - 1))])=H5 at sb7 gp7 ⊢;generalize d*(1+dg)=ud at *;generalize l / 27%2=e27 at *;generalize l / 3%(10^60 - 1)=e3 at *;obtain⟨t,I,l1,l2⟩:∃t:Int,atI [T.int (1+dg),T.int (ud+e27),T.int (1+e3)] (l%3)=some (T.int t)/\1<=t/\t<10^60:=by
   rcases (show l%3=0\/l%3=1\/l%3=2 by omega) with h | h | h
   ·rw[h];exact⟨_,rfl,by omega,by omega⟩
   ·rw[h];exact⟨_,rfl,by omega,by omega⟩
   rw[h];exact⟨_,rfl,by omega,by omega⟩
  rw[I,dX];clear I gp D k;walk_at "n";walk_at "";refine⟨⟨by decide,by decide,by decide⟩,.inl ⟨by decide,by decide⟩,⟨by decide +kernel,by decide +kernel⟩,_,rfl,fun y hy=>⟨by decide,?_⟩⟩;exact Fin3.of sb7 (k'.out s tn t ks y v t0 t1 l1 l2 R hk4 hks hy)
 have q:up3 H3 p0 (.lst []) Y=_ := upa M u;have C:up3 H3 p0 (.lst []) p0=some (.lst (([]:List Str).map T.str)):=aq;have G:Sub3 H3 (up3 H3 p0 (.lst [])):=Sub3.new u;generalize up3 H3 p0 (.lst [])=L at q C G ⊢;clear u hR4 k';walk_at "";refine⟨by decide,?_⟩;by_cases h4:c2%4=1
 ·rw[D_ h4,if_pos rfl];try rw[q,wy]
  rw[j5 v,dX];refine⟨by decide,fun pf hpf=>⟨⟨by decide,by decide +kernel⟩,by first | trivial | decide,by decide,by decide,?_⟩⟩;have f0:=dz G hpf;have rl:(dH 0 (Int.toNat 3)).length=3:=by unfold dH;rw[e_,K_];rfl
  generalize dH 0 (Int.toNat 3)=ts0 at rl;have hxs:=hrn'.out _ (getD_memS v);have hx':=Box.mk hxs;clear hxs;refine gW (fun r Z H=>∃(m:List Str) (rest:Int) (X W:Option T),Z=[some (.int c2),some (.ref Y),some (.ref pp),some (.int d),some (.int (s:Int)),some (.int tn),some (.ref pf),some (.int rest),X,W,none,none,none]/\Sub3 H3 H/\H pf=some (.lst (m.map T.str))/\Nms m/\m.length+r.length<=4/\a.getD s ""∈m) ⟨[a.getD s ""],c2 / 4,_,_,rfl,G.trans (Sub3.new hpf),aq,Nms.nil.snoc hx'.out (fun z=>nomatch z),by rw[rl];exact o_ 4,m_.mpr rfl⟩ ?_ ?_
  ·rintro Z H ⟨m,rest,X,W,rfl,D,O,R,hl,hm⟩;refine⟨trivial,?_⟩;clear q C;walk_at "";have fl:1<=m.length:=List.length_pos_of_mem hm;have a0:=M_ (rest%4) (show (m.length:Int)≠0 by omega);have a1:=I_ (rest%4) (show (0:Int)<(m.length:Int) by omega);obtain⟨j,hj⟩:∃j:Nat,rest%4%(m.length:Int)=(j:Int):=⟨(rest%4%(m.length:Int)).toNat,by omega⟩;refine⟨by decide,by omega,fun V k=>?_⟩;rw[hj,aD (bf O k),O,JP,gF,oY];intro q2 n;have n12:V≠q2:=bf aq n;rw[Af,aD n12,aq,aq,gD];refine⟨by rw[aae,Y7,e_];omega,fun q3 hq3=>?_⟩;have pm:(m.drop j++m.take j).Perm m:=List.perm_append_comm.trans (by rw[List.take_append_drop]);refine key.out q3 (m.drop j++m.take j) _ _ _ _ _ (D.trans ((Sub3.new k).trans ((Sub3.new n).trans (Sub3.new hq3)))) (by rw[aq,H_,List.map_drop,List.map_take]) ⟨fun x hx=>R.nm x (pm.mem_iff.mp hx),pm.nodup_iff.mpr R.nd⟩ (by rw[pm.length_eq];simpa using hl) (.inr (pm.mem_iff.mpr hm))
  rintro x r Z H N ⟨m,rest,X,W,rfl,D,O,R,hl,hm⟩ hN;refine⟨trivial,?_⟩;rw[n_] at hl;have hM:=Box.mk hN;clear hN q C key;have q:=D _ _ M;have U:=D _ _ hpp;refine aB fun R5 hR5=>?_;walk_at "";try rw[j5 v,dX]
  refine⟨by decide,fun V k=>?_⟩;rw[aD (bf U k),U,gD];refine⟨by rw[e_,J_];omega,fun q2 n=>?_⟩;have S:=D.trans ((Sub3.new (o:=.lst [T.str (a.getD s "")]) k).trans (Sub3.new (o:=.lst (e.map T.str++[T.str (a.getD s "")])) n));have gf5:up3 (up3 H V (.lst [T.str (a.getD s "")])) q2 (.lst (e.map T.str++[T.str (a.getD s "")])) pf=some (.lst (m.map T.str)):=by rw[aD (bf (Sub3.new k _ _ O) n),aD (bf O k)];exact O
  have h0:=M_ rest (show (9:Int)≠0 by decide);have h1:=I_ rest (show (0:Int)<9 by decide);obtain⟨j,hj⟩:∃j:Nat,rest%9=(j:Int):=⟨(rest%9).toNat,by omega⟩;have hat:atI (e.map T.str++[T.str (a.getD s "")]) (j:Int)=some (T.str ((e++[a.getD s ""]).getD j "")):=by have:=j5 (ns:=e++[a.getD s ""]) (i:=j) (by rw[d_,J_];omega);rw[H_] at this;exact this
  have J:isNm ((e++[a.getD s ""]).getD j ""):=by
   have:=getD_memS (ns:=e++[a.getD s ""]) (i:=j) (by rw[d_,J_];omega);rcases B_.mp this with z | z
   ·exact hpn'.out _ z
   rw[m_.mp z];exact hx'.out
  refine⟨by decide,?_⟩;rw[hj,Ah,aq,wy,hat,dX];generalize up3 (up3 H V (.lst [T.str (a.getD s "")])) q2 (.lst (e.map T.str++[T.str (a.getD s "")]))=H5 at S gf5 ⊢;generalize (e++[a.getD s ""]).getD j ""=oth at J ⊢;clear hat k n q U D O;walk_at "n";walk_at "";refine⟨⟨by decide,by decide +kernel⟩,rfl,eZ m,?_⟩;split
  ·rename_i hm1;have hni:=(XM jb (x:=oth)).mp hm1;try walk_at ""
   refine⟨⟨trivial,trivial⟩,by omega,hM.out _ _ ⟨m++[oth],_,_,_,rfl,?_,?_,R.snoc J hni,by rw[d_,J_];omega,Yk _ hm⟩⟩
   ·intro b o hb;rw[aD (bf hb f0)];exact S b o hb
   rw[aq,H_];rfl
  exact hM.out _ _ ⟨m,_,_,_,rfl,S,gf5,R,by omega,hm⟩
 rw[u_ h4,if_neg t_];exact key.out p0 [] _ _ _ _ L G C Nms.nil (by decide) (.inl rfl)
abbrev pU:List Str:=["_law_script","_law_names","_law_some","_law_rank","_law_base","_law_ahead","_law_beside","_law_orders","_law_pairs","_law_p","_law_q","_law_one","_law_other","_law_word_here"]
theorem sc_links:FnScope pU ["_law_script","_law_names","_law_some"] (au (top 42)):=bc
theorem Eb {f:Addr}{fd:FuncData}(g:G3 K mg "_law_links" (top 42) ["_law_script","_law_names","_law_some"] f fd) (B:Bl mg) (r:Cal P w K mg base 1 "_law_cell" (top 37) ["_law_script","_law_k"] Iu):Cal P w K mg base 2 "_law_links" (top 42) ["_law_script","_law_names","_law_some"] Wl:=by
 refine⟨f,fd,g,?_⟩;refine fn3 g.fn sc_links (fun ts H Q h=>?_) (fun cdv A outer s H E ts H3 Q hr h=>?_)
 ·obtain⟨a,pn,ps,sc,ns,c,rfl,_⟩:=h;rfl
 have I:=Room.u30 hr;have hu31:=Room.u31 hr;obtain⟨a,pn,ps,sc,ns,c,rfl,ha,hsc,hpn,hnn,hn8,hps,hsl,kk⟩:=h;refine⟨_,(ao (aF (i:=3) sc_links.nd (aN Hu rfl B.sorted_ yq (aa (bz rfl (bM (n0:=(au (top 42)).names) (N:=pU) (N':=["_law_k","_law_some"]) (nt:=1) (cap:=[2]) rfl rfl (by decide +kernel)) (dj rfl B.range_ (aa (aN cP rfl B.len_ cR (aa (v3 1) aj)) aj)) (fun cl pins s H C0 fp=>⟨(aG (i:=0) (show List.Nodup [("_law_k":Str),("_law_some":Str)] by decide +kernel)),bQ,(bj (aa (aK ix3 (aK ix3 (v3 1) (v3 0)) ak) (aa (aK ix3 (aK ix3 (v3 1) (v3 0)) ak) (aa (v3 0) aj))))⟩)) aj)))
   (ao (aF (i:=4) sc_links.nd (aK ix3 (bh (aa ak (aa ak (aa ak aj)))) (aC aR (aC aW (aM r hr rfl (aa (v3 0) (aa ak aj))) ak) ak)))
   (ao (aF (i:=5) sc_links.nd (aM r hr rfl (aa (v3 0) (aa ak aj))))
   (ao (aF (i:=6) sc_links.nd (aM r hr rfl (aa (v3 0) (aa ak aj))))
   (ao (aF (i:=7) sc_links.nd (bh aj))
   (ao (aF (i:=8) sc_links.nd (bh aj))
   (ao (cg S_ rfl (dj rfl B.range_ (aa (aN cP rfl B.len_ cR (aa (v3 3) aj)) aj)) (aG (i:=9) sc_links.nd) (aA (cg S_ rfl (xZ rfl B.range_ (aa (aC aY (v3 9) ak) (aa (aN cP rfl B.len_ cR (aa (v3 3) aj)) aj))) (aG (i:=10) sc_links.nd) (ao (aF (i:=11) sc_links.nd (aK ix3 (v3 1) (aK ix3 (aK ix3 (v3 3) (v3 9)) ak)))
     (ao (aF (i:=12) sc_links.nd (aK ix3 (v3 1) (aK ix3 (aK ix3 (v3 3) (v3 10)) ak)))
     (ao (bK (bA (dI I) (aC aR (v3 5) (v3 4)) ak) (aA (cz (eV P_ T_ U_ bI (v3 7) (aa (bj (aa (v3 11) (aa (v3 12) aj))) aj)))) aU)
     (ao (aF (i:=13) sc_links.nd (aK ix3 (bh (aa cu (aa cu aj))) (bH Gi rfl B.int_ Ms (aa (dO (dI I) (aK ix3 (aK ix3 (v3 3) (v3 9)) ak) (aK ix3 (aK ix3 (v3 3) (v3 10)) ak)) aj))))
     (ao (bK (bA (m5 hu31) (aC aR (v3 6) ak) (bj (aa ak (aa ak aj))) rfl) (aA (cz (eV P_ T_ U_ bI (v3 8) (aa (bj (aa (v3 13) (aa (v3 11) (aa (v3 12) aj)))) aj)))) aU)
     (ao (bK (bA (m5 hu31) (aC aR (v3 6) ak) (bj (aa ak (aa ak aj))) rfl) (aA (cz (eV P_ T_ U_ bI (v3 8) (aa (bj (aa (v3 13) (aa (v3 12) (aa (v3 11) aj)))) aj)))) aU)
     (ao (aF (i:=5) sc_links.nd (aC aW (v3 5) (v3 4)))
     (aA (aF (i:=6) sc_links.nd (aC aW (v3 6) ak)))))))))))))
   (ao (bK (bA (dI I) (aC aR (v3 5) ak) ak) (aA (cz (Bq P_ PySem.F.slot_list_reverse PySem.F.type_list_reverse Dw (v3 7)))) aU)
   (ao (bK (bA (dI I) (aC aR (v3 6) ak) ak) (aA (cz (Bq P_ PySem.F.slot_list_reverse PySem.F.type_list_reverse Dw (v3 8)))) aU)
   (aA (aJ (bj (aa (bH cU rfl B.tuple_ cV (aa (v3 7) aj)) (aa (bH cU rfl B.tuple_ cV (aa (gC (v3 8) dJ (du ak)) aj)) aj)))))))))))))),?_⟩
 rw[show aO pU [T.ref a,T.ref pn,T.ref ps]=[some (T.ref a),some (T.ref pn),some (T.ref ps),none,none,none,none,none,none,none,none,none,none,none] from rfl];have hsz:sizeLine=16777216:=rfl;have k':=Box.mk kk;clear kk;refine aB fun R0 hR0=>?_;walk_at "";refine⟨trivial,by omega,by omega,?_⟩;rw[CV];walk_at "c";refine bL (fun (k:Nat)=>T.int (k:Int)) (fun k=>trT ((((c.map (·.1)).getD k 0:Nat):Int),(c.map (·.2.1)).getD k 0,(k:Int))) (List.range ns.length) [some (.ref ps)] trivial (by rw[K_];omega) (fun k hk Q' hq=>?_) (fun p1 hp1=>?_)
 ·have hk':k<c.length:=by have:=X7.mp hk;omega
  have x1:atI (c.map tk5) (k:Int)=some (.tup [.int ((c[k]).1:Int),.int (c[k]).2.1,.int (c[k]).2.2.1,sT (c[k]).2.2.2.1,.str (c[k]).2.2.2.2]):=bY (by rw[z_,g_ hk'];rfl);have y1:(c.map (·.1)).getD k 0=(c[k]).1:=by rw[q_,z_,g_ hk'];rfl
  have y2:(c.map (·.2.1)).getD k 0=(c[k]).2.1:=by rw[q_,z_,g_ hk'];rfl
  rw[y1,y2] at hq;generalize c[k]=tk at x1 hq;have hq':=Box.mk hq;clear hq k' hR0 y1 y2;walk_at "";exact⟨by decide,hq'.out⟩
 refine⟨(List.range ns.length).map fun k=>((((c.map (·.1)).getD k 0:Nat):Int),(c.map (·.2.1)).getD k 0,(k:Int)),by rw[Yo];rfl,by rw[e_,K_];omega,fun us Y hpw pk hpk=>?_⟩;obtain⟨ul,S,hx1,hx2⟩:=QX hsl Y hpw;have sb:Sub3 H3 (up3 (up3 H3 p1 (.lst ((List.range ns.length).map fun k=>trT ((((c.map (·.1)).getD k 0:Nat):Int),(c.map (·.2.1)).getD k 0,(k:Int))))) pk (.lst (us.map trT))):=(Sub3.new hp1).trans (Sub3.new hpk);have U:up3 (up3 H3 p1 (.lst ((List.range ns.length).map fun k=>trT ((((c.map (·.1)).getD k 0:Nat):Int),(c.map (·.2.1)).getD k 0,(k:Int))))) pk (.lst (us.map trT)) pk=some (.lst (us.map trT)):=aq;generalize up3 (up3 H3 p1 (.lst ((List.range ns.length).map fun k=>trT ((((c.map (·.1)).getD k 0:Nat):Int),(c.map (·.2.1)).getD k 0,(k:Int))))) pk (.lst (us.map trT))=H4 at sb U ⊢;clear Y hpw hpk hp1;have y:=Box.mk hx1;have V:=Box.mk hx2;clear hx1 hx2;walk_at "n";refine aB fun R1 hR1=>?_;walk_at "";refine⟨by decide,fun q1 v=>?_⟩;have x:=sb.trans (Sub3.new (o:=.lst [T.int 2,T.int 4,T.int 8]) v);have gk1:up3 H4 q1 (.lst [T.int 2,T.int 4,T.int 8]) pk=_ := upa U v;have gq1:up3 H4 q1 (.lst [T.int 2,T.int 4,T.int 8]) q1=some (.lst [T.int 2,T.int 4,T.int 8]):=aq;generalize up3 H4 q1 (.lst [T.int 2,T.int 4,T.int 8])=H5 at x gk1 gq1 ⊢;clear sb U v;refine⟨a,sc,0,rfl,x _ _ ha,hsc,by decide,fun c0=>?_⟩;dsimp only;obtain⟨bs,eb,hbs⟩:∃bs:Int,atI [T.int 2,T.int 4,T.int 8] (c0 / 2048%3)=some (T.int bs)/\(bs=2\/bs=4\/bs=8):=by
  have i0:=M_ (c0 / 2048) (show (3:Int)≠0 by decide);have i1:=I_ (c0 / 2048) (show (0:Int)<3 by decide);rcases (show c0 / 2048%3=0\/c0 / 2048%3=1\/c0 / 2048%3=2 by omega) with h | h | h
  ·rw[h];exact⟨2,rfl,.inl rfl⟩
  ·rw[h];exact⟨4,rfl,.inr (.inl rfl)⟩
  rw[h];exact⟨8,rfl,.inr (.inr rfl)⟩
 walk_at "";refine⟨⟨by decide,by decide +kernel⟩,by decide,?_⟩;have lgb:bs.natAbs.log2<9000:=Zw (ZQ _) (by omega);clear eb gq1;walk_at "n";refine aB fun R2 hR2=>?_;walk_at "";refine⟨a,sc,12,rfl,x _ _ ha,hsc,by decide,fun c1=>?_⟩;walk_at "n";refine aB fun R3 hR3=>?_;walk_at "";refine⟨a,sc,13,rfl,x _ _ ha,hsc,by decide,fun c2=>?_⟩;walk_at "n";refine aB fun R4 hR4=>?_;walk_at "";refine⟨by decide,fun L G=>?_⟩;walk_at "n";refine aB fun R5 hR5=>?_;walk_at "";refine⟨by decide,fun pq C=>?_⟩;have X:LkH H3 (up3 (up3 H5 L (.lst [])) pq (.lst [])) pk L pq us [] [] :=
  ⟨(x.trans (Sub3.new G)).trans (Sub3.new C),Sub3.new C _ _ (Sub3.new G _ _ gk1),by rw[aD (bf aq C)];exact aq,aq,dz x G,dz (x.trans (Sub3.new G)) C,bf gk1 G,bf (Sub3.new G _ _ gk1) C,bf aq C⟩
 generalize up3 (up3 H5 L (.lst [])) pq (.lst [])=H6 at X ⊢;clear x gk1 G C;walk_at "n";refine aB fun R6 hR6=>?_;have gk0:=X.k;walk_at "";refine⟨by first | trivial | omega,by omega,by omega,?_⟩;try rw[ul]
 rw[CV];have D:∃b:Nat->Str,∀p<ns.length,ns[S p]?=some (b p):=⟨fun p=>ns.getD (S p) "",fun p hp=>by
  have:=(y.out p hp).1
  dsimp only
  rw[q_,g_ this]
  rfl⟩
 obtain⟨b,D⟩:=D;obtain⟨J,hwd⟩:∃J:Nat->Nat->Str,∀p q,J p q=if (c.map (·.1)).getD (S p) 0=(c.map (·.1)).getD (S q) 0 then "with" else "apart":=⟨_,fun _ _=>rfl⟩
 have hwd':=Box.mk hwd;clear hwd;have hinj:Box (∀i j,i<ns.length->j<ns.length->b i=b j->i=j):=⟨fun i j hi hj e=>by
  have h1:=D i hi
  have h2:=D j hj
  rw[e,<- h2] at h1
  have e2:=(List.getElem?_inj (y.out i hi).1 hnn.nd).mp h1
  rcases Nat.lt_trichotomy i j with z | z | z
  ·
   exact absurd e2 (V.out i j z hj).1
  ·
   exact z
  ·
   exact absurd e2.symm (V.out j i z hi).1⟩
 refine bR (fun (k:Nat)=>T.int (k:Int)) (List.range ns.length) (fun A Z H=>∃(O:List (Str × Str)) (P:List (Str × Str × Str)) (ah be:Int) (v9 l m d n:Option T),Z=[some (.ref a),some (.ref pn),some (.ref ps),some (.ref pk),some (.int bs),some (.int ah),some (.int be),some (.ref L),some (.ref pq),v9,l,m,d,n]/\LkH H3 H pk L pq us O P/\Lk1 b J ns.length A.length 0 O P) ⟨[],[],_,_,_,_,_,_,_,rfl,X,⟨Zu,(fun _ z=>nomatch z),Zu,(fun _ z=>nomatch z),X3 _,X3 _⟩⟩ ?_ ?_
 ·rintro Z H ⟨O,P,ah,be,v9,l,m,d,n,rfl,t,W⟩;refine⟨trivial,?_⟩;have U:=t.k;have go:=t.o;have gp:=t.p;clear X gk0;walk_at "n";refine aB fun R7 hR7=>?_;walk_at "";refine⟨by decide,?_⟩;refine Dy ⟨trivial,trivial⟩ fun b7 H7 e7=>?_;obtain⟨O',pO,lh7⟩:∃O':List (Str × Str),O'.Perm O/\LkH H3 H7 pk L pq us O' P:=by
   cases b7
   ·rw[e7];exact⟨O,.refl _,t⟩
   refine⟨O.reverse,List.reverse_perm O,?_⟩;rw[e7,<- aah];exact t.putO
  have gp7:=lh7.p;clear e7 t U go gp;walk_at "n";refine aB fun R8 hR8=>?_;walk_at "";refine⟨by decide,?_⟩;refine Dy ⟨trivial,trivial⟩ fun b8 H8 e8=>?_;obtain⟨P',pP,lh8⟩:∃P':List (Str × Str × Str),P'.Perm P/\LkH H3 H8 pk L pq us O' P':=by
   cases b8
   ·rw[e8];exact⟨P,.refl _,lh7⟩
   refine⟨P.reverse,List.reverse_perm P,?_⟩;rw[e8,<- aah];exact lh7.putP
  have gp8:=lh8.p;have go8:=lh8.o;clear e8 lh7 gp7;walk_at "n";walk_at "";intro q1 v;refine⟨by decide,?_⟩;rw[show (12:Int)=((12:Nat):Int) from rfl,oY,<- List.map_take];exact Fin3.of (lh8.sb.trans (Sub3.new v)) (k'.out O' (P'.take 12) (QZ hn8 (fun p hp=>(y.out p hp).1) V.out D hwd'.out W pO pP))
 rintro A p B Z H N e ⟨O,P,ah,be,v9,l,m,d,n,rfl,t,W⟩ hN;refine⟨trivial,?_⟩;have hA:A.length<ns.length:=by have:=X6 List.length e;simp only[d_,n_,K_] at this;omega
 have hj:p=A.length:=by
  have h1:(List.range ns.length)[A.length]?=some p:=by rw[e,Yc (o_ _)];simp
  rw[Ys hA] at h1;exact (Q_ h1).symm
 have U:=t.k;have hN':=Box.mk hN;clear hN e k' hR6 X gk0;subst hj;walk_at "";refine⟨by first | trivial | omega,⟨by omega,by omega,by omega,by omega⟩,?_⟩;rw[show dH ((A.length:Int)+1) ((ns.length:Int) - ((A.length:Int)+1)).toNat=(List.range (ns.length - (A.length+1))).map (fun (i:Nat)=>T.int ((A.length:Int)+1+(i:Int))) by unfold dH;rw[show ((ns.length:Int) - ((A.length:Int)+1)).toNat=ns.length - (A.length+1) by omega]];refine bR (fun (i:Nat)=>T.int ((A.length:Int)+1+(i:Int))) (List.range (ns.length - (A.length+1))) (fun M Z H=>∃(O:List (Str × Str)) (P:List (Str × Str × Str)) (ah be:Int) (l m d n:Option T),Z=[some (.ref a),some (.ref pn),some (.ref ps),some (.ref pk),some (.int bs),some (.int ah),some (.int be),some (.ref L),some (.ref pq),some (.int (A.length:Int)),l,m,d,n]/\LkH H3 H pk L pq us O P/\Lk1 b J ns.length A.length (A.length+1+M.length) O P) ⟨O,P,_,_,_,_,_,_,rfl,t,W.skip (fun p' q' _ z=>by unfold Dn at *;omega) (by omega)⟩ ?_ ?_
 ·rintro Z H ⟨O,P,ah,be,l,m,d,n,rfl,t,W⟩;refine⟨trivial,?_⟩;rw[K_] at W;exact hN'.out _ _ ⟨O,P,_,_,_,_,_,_,_,rfl,t,W.skip (fun p' q' hq z=>by rw[d_,J_];unfold Dn at *;omega) (by rw[d_,J_];omega)⟩
 rintro M i B2 Z H N2 e2 ⟨O,P,ah,be,l,m,d,n,rfl,t,W⟩ hN2;refine⟨trivial,?_⟩;have hA2:M.length<ns.length - (A.length+1):=by have:=X6 List.length e2;simp only[d_,n_,K_] at this;omega
 have hi2:i=M.length:=by
  have h1:(List.range (ns.length - (A.length+1)))[M.length]?=some i:=by rw[e2,Yc (o_ _)];simp
  rw[Ys hA2] at h1;exact (Q_ h1).symm
 subst hi2;have hM:Box (∀(b1 b2 b3:Bool) (ah be:Int) (l m d n:Option T) (H':Hp3),LkH H3 H' pk L pq us (bif b1 then O++[(b A.length,b (A.length+1+M.length))] else O) (bif b3 then (bif b2 then P++[(J A.length (A.length+1+M.length),b A.length,b (A.length+1+M.length))] else P)++[(J A.length (A.length+1+M.length),b (A.length+1+M.length),b A.length)] else (bif b2 then P++[(J A.length (A.length+1+M.length),b A.length,b (A.length+1+M.length))] else P))->N2 [some (.ref a),some (.ref pn),some (.ref ps),some (.ref pk),some (.int bs),some (.int ah),some (.int be),some (.ref L),some (.ref pq),some (.int (A.length:Int)),l,m,d,n] H'):=⟨fun b1 b2 b3 ah be l m d n H' hl=>hN2 _ _ ⟨_,_,_,_,_,_,_,_,rfl,hl,by
  have:=W.step hinj.out (by omega) (by omega) b1 b2 b3
  rw[d_,J_]
  exact this⟩⟩
 have ol:=W.ol;have pl_:=W.pl;clear hN2 e2 hN' W;obtain⟨q,hq⟩:∃q,q=A.length+1+M.length:=⟨_,rfl⟩;have hqm:q<ns.length:=by omega
 have eqI:(A.length:Int)+1+(M.length:Int)=(q:Int):=by omega
 rw[<- hq] at hM ol pl_;obtain⟨ip,up⟩:=y.out A.length hA;obtain⟨iq,uq⟩:=y.out q hqm;have u1:atI (us.map trT) (A.length:Int)=some (.tup [.int (((c.map (·.1)).getD (S A.length) 0:Nat):Int),.int (us.getD A.length (0,0,0)).2.1,.int (S A.length:Int)]):=bY (by rw[z_,up];rfl);have u2:atI (us.map trT) (q:Int)=some (.tup [.int (((c.map (·.1)).getD (S q) 0:Nat):Int),.int (us.getD q (0,0,0)).2.1,.int (S q:Int)]):=bY (by rw[z_,uq];rfl);have n1:atI (ns.map T.str) (S A.length:Int)=some (.str (b A.length)):=bY (by rw[z_,D _ hA];rfl);have n2:atI (ns.map T.str) (S q:Int)=some (.str (b q)):=bY (by rw[z_,D _ hqm];rfl);have hw:=hwd'.out A.length q;have U:=t.k;have gn:=t.sb _ _ hpn;have go:=t.o;dsimp only;rw[eqI];clear eqI hq;generalize (c.map (·.1)).getD (S A.length) 0=s1 at *;generalize (c.map (·.1)).getD (S q) 0=s2 at *;refine aB fun Ra hRa=>?_;walk_at "";obtain⟨hRa⟩:=hRa;subst hRa;refine aB fun Rb hRb=>?_;walk_at "";obtain⟨hRb⟩:=hRb;subst hRb;refine aB fun Rc hRc=>?_;walk_at "";refine⟨by omega,?_⟩;refine uY (p1:=True/\True) ⟨trivial,trivial⟩ (by decide) (by omega) fun b1 Hb eb=>?_;have lhb:LkH H3 Hb pk L pq us (bif b1 then O++[(b A.length,b q)] else O) P:=by
  cases b1
  ·rw[eb];exact t
  have:=t.putO (O':=O++[(b A.length,b q)]);rw[H_] at this;rw[eb];exact this
 clear eb U gn go t;have U:=lhb.k;obtain⟨hRc⟩:=hRc;subst hRc;refine aB fun Rd hRd=>?_;walk_at "";refine⟨by decide,fun q1 v=>?_⟩;have R:=lhb.new (u:=.lst [T.str "apart",T.str "with"]) v;have gq1:up3 Hb q1 (.lst [T.str "apart",T.str "with"]) q1=some (.lst [T.str "apart",T.str "with"]):=aq;generalize up3 Hb q1 (.lst [T.str "apart",T.str "with"])=Hc at R gq1 ⊢;clear lhb U v;have U:=R.k;walk_at "";have hwd2:atI [T.str "apart",T.str "with"] (if decide ((s1:Int)=(s2:Int))=true then 1 else 0)=some (T.str (J A.length q)):=by
  by_cases z:s1=s2
  ·rw[hw,if_pos z,D_ (by rw[z]),if_pos rfl];rfl
  rw[hw,if_neg z,u_ (by omega),if_neg t_];rfl
 rw[hwd2,dX];clear hwd2 hw gq1 U;obtain⟨hRd⟩:=hRd;subst hRd;have gp:=R.p;refine aB fun Re hRe=>?_;walk_at "";refine⟨by decide,by decide,rfl,rfl,?_⟩;refine uY (p1:=True/\True) ⟨trivial,trivial⟩ (by decide) (by omega) fun b2 Hd ed=>?_;have lhd:LkH H3 Hd pk L pq us (bif b1 then O++[(b A.length,b q)] else O) (bif b2 then P++[(J A.length q,b A.length,b q)] else P):=by
  cases b2
  ·rw[ed];exact R
  have:=R.putP (P':=P++[(J A.length q,b A.length,b q)]);rw[H_] at this;rw[ed];exact this
 have hP1:(bif b2 then P++[(J A.length q,b A.length,b q)] else P).length<=2*(9*A.length+q)+1:=by
  cases b2
  ·exact Nat.le_succ_of_le pl_
  show (P++[_]).length<=_;rw[d_];simp;exact pl_
 have hM2:=Box.mk (hM.out b1 b2);clear ed R gp hM;generalize (bif b2 then P++[(J A.length q,b A.length,b q)] else P)=P1 at *;obtain⟨hRe⟩:=hRe;subst hRe;have gp:=lhd.p;refine aB fun Rf hRf=>?_;walk_at "";refine⟨by decide,by decide,rfl,rfl,?_⟩;refine uY (p1:=True/\True) ⟨trivial,trivial⟩ (by decide) (by omega) fun b3 He ee=>?_;have lhe:LkH H3 He pk L pq us (bif b1 then O++[(b A.length,b q)] else O) (bif b3 then P1++[(J A.length q,b q,b A.length)] else P1):=by
  cases b3
  ·rw[ee];exact lhd
  have:=lhd.putP (P':=P1++[(J A.length q,b q,b A.length)]);rw[H_] at this;rw[ee];exact this
 clear ee lhd gp;obtain⟨hRf⟩:=hRf;subst hRf;walk_at "";exact⟨⟨by omega,lgb⟩,⟨by decide,by decide +kernel⟩,hM2.out b3 _ _ _ _ _ _ _ lhe⟩
abbrev ji:List Str:=["_law_script","_law_most","_law_wide","_law_first","_law_pool_here","_law_spread","_law_kinds","_law_row","_law_k","_law_unit","_law_some","_law_names","_law_tasks","_law_orders","_law_pairs"]
theorem sc_works:FnScope ji ["_law_script","_law_most","_law_wide"] (au (top 43)):=bc
theorem Ec {f:Addr}{fd:FuncData}(g:G3 K mg "_law_works" (top 43) ["_law_script","_law_most","_law_wide"] f fd) (B:Bl mg) (l:Cal P w K mg base 1 "_law_cell" (top 37) ["_law_script","_law_k"] Iu) (F_pool:Cal P w K mg base 2 "_law_pool" (top 40) ["_law_cell_here"] Wi) (F_task:Cal P w K mg base 2 "_law_task" (top 41) ["_law_cell_here","_law_row","_law_pool_here","_law_unit"] Wj) (J:Cal P w K mg base 1 "_law_unlike" (top 39) ["_law_words"] QT) (F_links:Cal P w K mg base 2 "_law_links" (top 42) ["_law_script","_law_names","_law_some"] Wl):Cal P w K mg base 3 "_law_works" (top 43) ["_law_script","_law_most","_law_wide"] Wn:=by
 refine⟨f,fd,g,?_⟩;refine fn3 g.fn sc_works (fun ts H Q h=>?_) (fun cdv A outer s H E ts H3 Q hr h=>?_)
 ·obtain⟨a,sc,m,c,rfl,_⟩:=h;rfl
 obtain⟨a,sc,m,c,rfl,ha,L,m1,m8,w1,w8,kk⟩:=h;refine⟨_,(ao (aF (i:=3) sc_works.nd (aM l hr rfl (aa (v3 0) (aa ak aj))))
   (ao (aF (i:=4) sc_works.nd (aM F_pool hr rfl (aa (aM l hr rfl (aa (v3 0) (aa ak aj))) aj)))
   (ao (aF (i:=5) sc_works.nd (aK ix3 (bh (aa ak (aa ak (aa ak (aa ak aj))))) (aC aR (aC aW (v3 3) ak) ak)))
   (ao (aF (i:=6) sc_works.nd (aM l hr rfl (aa (v3 0) (aa ak aj))))
   (ao (aF (i:=7) sc_works.nd (bh aj))
   (ao (cg S_ rfl (dj rfl B.range_ (aa (aC aY ak (aC aR (aC aW (v3 3) ak) (v3 2))) aj)) (aG (i:=8) sc_works.nd) (ao (cz (eV P_ T_ U_ bI (v3 7) (aa (aK ix3 (v3 4) (aC aR (v3 6) (v3 5))) aj)))
    (aA (aF (i:=6) sc_works.nd (aC aW (v3 6) (v3 5))))))
   (ao (aF (i:=9) sc_works.nd (aC aY ak (aC aR (aM l hr rfl (aa (v3 0) (aa ak aj))) (aC iz ak ak))))
   (ao (aF (i:=10) sc_works.nd (bh aj))
   (ao (cg S_ rfl (dj rfl B.range_ (aa (aC aY ak (aC aR (aC aW (v3 3) ak) (v3 1))) aj)) (aG (i:=8) sc_works.nd) (aA (cz (eV P_ T_ U_ bI (v3 10) (aa (aM F_task hr rfl (aa (aM l hr rfl (aa (v3 0) (aa (aC aY ak (v3 8)) aj))) (aa (v3 7) (aa (v3 4) (aa (v3 9) aj))))) aj)))))
   (ao (aF (i:=11) sc_works.nd (aM J hr rfl (aa (bz rfl (bM (n0:=(au (top 43)).names) (N:=ji) (N':=["_law_one"]) (nt:=1) (cap:=[]) rfl rfl (by decide +kernel)) (cI (v3 10)) (fun cl pins s H C0 fp=>⟨(aG (i:=0) (show List.Nodup [("_law_one":Str)] by decide +kernel)),bQ,(aK ix3 (v3 0) ak)⟩)) aj)))
   (ao (vV (i:=12) rfl sc_works.nd (bM (n0:=(au (top 43)).names) (N:=ji) (N':=["_law_name","_law_one"]) (nt:=2) (cap:=[]) rfl rfl (by decide +kernel)) (wK rfl B.zip_ (aa (v3 11) (aa (v3 10) aj))) (fun cl pins s H C0 fp=>⟨(cN (n:=2) rfl (aH (aG (i:=0) (show List.Nodup [("_law_name":Str),("_law_one":Str)] by decide +kernel)) (aH (aG (i:=1) (show List.Nodup [("_law_name":Str),("_law_one":Str)] by decide +kernel)) bZ))),bQ,(bj (aa (v3 0) (aa (aK ix3 (v3 1) ak) (aa (aK ix3 (v3 1) ak) aj))))⟩))
   (ao (oO (aM F_links hr rfl (aa (v3 0) (aa (v3 11) (aa (v3 10) aj)))) (cN (n:=2) rfl (aH (aG (i:=13) sc_works.nd) (aH (aG (i:=14) sc_works.nd) bZ))))
   (aA (aJ (bj (aa (bj (aa (bH cU rfl B.tuple_ cV (aa (v3 12) aj)) (aa (v3 13) (aa (v3 14) (aa (bH cU rfl B.tuple_ cV (aa (v3 7) aj)) aj))))) (aa (bz rfl (bM (n0:=(au (top 43)).names) (N:=ji) (N':=["_law_one"]) (nt:=1) (cap:=[]) rfl rfl (by decide +kernel)) (cI (v3 10)) (fun cl pins s H C0 fp=>⟨(aG (i:=0) (show List.Nodup [("_law_one":Str)] by decide +kernel)),bQ,(aK ix3 (v3 0) ak)⟩)) aj))))))))))))))))),?_⟩
 rw[show aO ji [T.ref a,T.int m,T.int c]=[some (T.ref a),some (T.int m),some (T.int c),none,none,none,none,none,none,none,none,none,none,none,none] from rfl];have hsz:sizeLine=16777216:=rfl;have k':=Box.mk kk;clear kk;refine aB fun R0 hR0=>?_;walk_at "";refine⟨a,sc,0,rfl,ha,L,by decide,fun v=>?_⟩;walk_at "n";refine aB fun R1 hR1=>?_;walk_at "";refine⟨a,sc,2,rfl,ha,L,by decide,fun c1=>⟨c1,rfl,fun d hpl M I hpp=>?_⟩⟩;have sb1:Sub3 H3 (up3 H3 I (.lst (d.map T.str))):=Sub3.new hpp;have gp1:up3 H3 I (.lst (d.map T.str)) I=some (.lst (d.map T.str)):=aq;generalize up3 H3 I (.lst (d.map T.str))=H4 at sb1 gp1 ⊢;clear hpp;walk_at "n";refine aB fun R2 hR2=>?_;obtain⟨sp,eb,hsp⟩:∃sp:Int,atI [T.int 1,T.int 2,T.int 3,T.int 8] (v / 512%4)=some (T.int sp)/\1<=sp/\sp<=8:=by
  have i0:=M_ (v / 512) (show (4:Int)≠0 by decide);have i1:=I_ (v / 512) (show (0:Int)<4 by decide);rcases (show v / 512%4=0\/v / 512%4=1\/v / 512%4=2\/v / 512%4=3 by omega) with h | h | h | h
  ·rw[h];exact⟨1,rfl,by decide⟩
  ·rw[h];exact⟨2,rfl,by decide⟩
  ·rw[h];exact⟨3,rfl,by decide⟩
  rw[h];exact⟨8,rfl,by decide⟩
 walk_at "";refine⟨by decide,fun q1 D=>⟨⟨by decide,by decide +kernel⟩,by decide,?_⟩⟩;try rw[eb,dX]
 have Y:=sb1.trans (Sub3.new (o:=.lst [T.int 1,T.int 2,T.int 3,T.int 8]) D);have gp2:up3 H4 q1 (.lst [T.int 1,T.int 2,T.int 3,T.int 8]) I=_ := upa gp1 D;generalize up3 H4 q1 (.lst [T.int 1,T.int 2,T.int 3,T.int 8])=H5 at Y gp2 ⊢;have lgs:sp.natAbs.log2<9000:=Zw (ZQ _) (by omega);clear sb1 gp1 D eb;walk_at "n";refine aB fun R3 hR3=>?_;walk_at "";refine⟨a,sc,1,rfl,Y _ _ ha,L,by decide,fun c2=>?_⟩;walk_at "n";refine aB fun R4 hR4=>?_;walk_at "";refine⟨by decide,fun S X=>?_⟩;have sb3:=Y.trans (Sub3.new (o:=.lst []) X);have f0:=dz Y X;have gp3:up3 H5 S (.lst []) I=_ := upa gp2 X;have npr:I≠S:=bf gp2 X;have gr3:up3 H5 S (.lst []) S=some (.lst (([]:List Str).map T.str)):=aq;generalize up3 H5 S (.lst [])=H6 at sb3 gp3 gr3 ⊢;clear Y gp2 X;walk_at "n";refine aB fun R5 hR5=>?_;walk_at "";have w0:=M_ (v / 2) (show c≠0 by omega);have w2:=I_ (v / 2) (show 0<c by omega);refine⟨⟨by decide,by decide +kernel⟩,by omega,by first | trivial | omega,by omega,by omega,?_⟩;have rl:(dH 0 (1+v / 2%c).toNat).length=(1+v / 2%c).toNat:=by unfold dH;rw[e_,K_]
 generalize dH 0 (1+v / 2%c).toNat=ts0 at rl;have hpn':=Box.mk M;clear M;refine gW (fun r Z H=>∃(k:List Str) (c2:Int) (v8:Option T),Z=[some (.ref a),some (.int m),some (.int c),some (.int v),some (.ref I),some (.int sp),some (.int c2),some (.ref S),v8,none,none,none,none,none,none]/\Sub3 H3 H/\H I=some (.lst (d.map T.str))/\H S=some (.lst (k.map T.str))/\(k.length:Int)+r.length=1+v / 2%c/\∀x∈k,isNm x) ⟨[],c2,_,rfl,sb3,gp3,gr3,by rw[rl,Yg];omega,(fun _ z=>nomatch z)⟩ ?_ ?_
 ·rintro Z H ⟨k,c3,v8,rfl,V,gp,gr,hrl,hrn⟩;refine⟨trivial,?_⟩;rw[Yg] at hrl;have r1:1<=k.length:=by omega
  have r8:k.length<=8:=by omega
  have rw_:(k.length:Int)<=c:=by omega
  have F:=Box.mk hrn;clear hrn sb3 gp3 gr3 hrl rl w0 w2;walk_at "n";refine aB fun R6 hR6=>?_;walk_at "";refine⟨a,sc,3,rfl,V _ _ ha,L,by decide,fun c4=>⟨⟨by decide,by decide,by decide⟩,?_⟩⟩;walk_at "";refine⟨by decide +kernel,?_⟩;have p57:(10:Int)^Int.toNat 57=10^57:=rfl;rw[p57];have u0:=M_ c4 (show ((10:Int)^57)≠0 by decide +kernel);have u9:=I_ c4 (show (0:Int)<(10:Int)^57 by decide +kernel);obtain⟨q,hu⟩:∃q:Int,1+c4%10^57=q:=⟨_,rfl⟩;have u1:1<=q:=by omega
  have u2:q<=10^57:=by omega
  rw[hu];clear hu u0 u9 p57;walk_at "n";refine aB fun R7 hR7=>?_;walk_at "";refine⟨by decide,fun ps C=>?_⟩;have sb4:=V.trans (Sub3.new (o:=.lst []) C);have g0:=dz V C;have gp4:up3 H ps (.lst []) I=_ := upa gp C;have gr4:up3 H ps (.lst []) S=_ := upa gr C;have gs4:up3 H ps (.lst []) ps=some (.lst (([]:List Tk5).map tk5)):=aq;have nps1:I≠ps:=bf gp C;have nps2:S≠ps:=bf gr C;generalize up3 H ps (.lst [])=H7 at sb4 gp4 gr4 gs4 ⊢;clear V gp gr C;walk_at "n";refine aB fun R8 hR8=>?_;walk_at "";have t0:=M_ (v / 64) (show m≠0 by omega);have t2:=I_ (v / 64) (show 0<m by omega);refine⟨⟨by decide,by decide +kernel⟩,by omega,by first | trivial | omega,by omega,by omega,?_⟩;obtain⟨n,hn⟩:∃n:Nat,(1+v / 64%m).toNat=n:=⟨_,rfl⟩;have n1:1<=n:=by omega
  have n8:n<=8:=by omega
  have nm_:(n:Int)<=m:=by omega
  rw[hn,CV];clear hn t0 t2;refine bR (fun (i:Nat)=>T.int (i:Int)) (List.range n) (fun A Z H=>∃(p:List Tk5) (v8:Option T),Z=[some (.ref a),some (.int m),some (.int c),some (.int v),some (.ref I),some (.int sp),some (.int c3),some (.ref S),v8,some (.int q),some (.ref ps),none,none,none,none]/\Sub3 H3 H/\H I=some (.lst (d.map T.str))/\H S=some (.lst (k.map T.str))/\H ps=some (.lst (p.map tk5))/\p.length=A.length/\∀t∈p,TkO k t) ⟨[],_,rfl,sb4,gp4,gr4,gs4,rfl,(fun _ z=>nomatch z)⟩ ?_ ?_
  ·rintro Z H ⟨p,v8,rfl,V,gp,gr,gs,hsl,hss⟩;refine⟨trivial,?_⟩;rw[K_] at hsl;have G:=Box.mk hss;clear hss sb4 gp4 gr4 gs4;walk_at "n";refine aB fun R9 hR9=>?_;walk_at "";walk_at "c";refine bL tk5 (fun t=>T.str t.2.2.2.2) p [] (.inl gs) (by omega) (fun t ht Q' hq=>?_) (fun q1 D=>?_)
   ·have x1:atI [T.int (t.1:Int),T.int t.2.1,T.int t.2.2.1,sT t.2.2.2.1,T.str t.2.2.2.2] 4=some (T.str t.2.2.2.2):=rfl;have W:=Box.mk hq;clear hq k' hR9;simp only[tk5];walk_at "";exact W.out
   rw[show (p.map fun t=>T.str t.2.2.2.2)=(p.map (·.2.2.2.2)).map T.str by rw[Yo];rfl];refine⟨q1,p.map (·.2.2.2.2),rfl,aq,by rw[e_];omega,fun x hx=>?_,fun ns hnl hnn pn M=>?_⟩
   ·obtain⟨t,ht,rfl⟩:=y_.mp hx;exact (G.out t ht).nm
   rw[e_] at hnl;have sb5:=V.trans ((Sub3.new D).trans (Sub3.new (o:=.lst (ns.map T.str)) M));have st5:=(Sub3.new D).trans (Sub3.new (o:=.lst (ns.map T.str)) M);have gr5:=st5 _ _ gr;have gs5:=st5 _ _ gs;have gn5:up3 (up3 H q1 (.lst ((p.map (·.2.2.2.2)).map T.str))) pn (.lst (ns.map T.str)) pn=some (.lst (ns.map T.str)):=aq;try dsimp only
   generalize up3 (up3 H q1 (.lst ((p.map (·.2.2.2.2)).map T.str))) pn (.lst (ns.map T.str))=H8 at sb5 gr5 gs5 gn5 ⊢;clear st5 V gp gr gs D M;walk_at "n";refine aB fun R10 hR10=>?_;walk_at "";rw[lG,show ∀x0 x1 x2 x3 x4 x5 x6 x7 x8 x9 x10 x11 x12 x13 x14,oR 2 [] [x0,x1,x2,x3,x4,x5,x6,x7,x8,x9,x10,x11,x12,x13,x14]=[none,none] from fun _ _ _ _ _ _ _ _ _ _ _ _ _ _ _=>rfl];refine jE (fun z=>T.str z.1) (fun z=>tk5 z.2) (fun z=>.tup [.str z.1,.int z.2.2.2.1,sT z.2.2.2.2.1]) (ns.zip p) [] (still:=fun H'=>aX pn (ns.map T.str) H'/\aX ps (p.map tk5) H') (H:=H8) ⟨.inl gn5,.inl gs5⟩ (by rw[List.length_zip];omega) (fun z U Q' hq=>?_) ?_
   ·obtain⟨zn,R⟩:=z;have x2:atI [T.int (R.1:Int),T.int R.2.1,T.int R.2.2.1,sT R.2.2.2.1,T.str R.2.2.2.2] 2=some (T.int R.2.2.1):=rfl;have x3:atI [T.int (R.1:Int),T.int R.2.1,T.int R.2.2.1,sT R.2.2.2.1,T.str R.2.2.2.2] 3=some (sT R.2.2.2.1):=rfl;have W:=Box.mk hq;clear hq k' hR10;simp only[tk5];walk_at "";exact⟨by decide,W.out⟩
   try dsimp only
   intro pt hpt;have st6:=Sub3.new (o:=.lst ((ns.zip p).map fun z=>T.tup [.str z.1,.int z.2.2.2.1,sT z.2.2.2.2.1])) hpt;have gr6:=st6 _ _ gr5;have gs6:=st6 _ _ gs5;have gn6:=st6 _ _ gn5;have gt6:up3 H8 pt (.lst ((ns.zip p).map fun z=>T.tup [.str z.1,.int z.2.2.2.1,sT z.2.2.2.2.1])) pt=some (.lst ((ns.zip p).map fun z=>T.tup [.str z.1,.int z.2.2.2.1,sT z.2.2.2.2.1])):=aq;have sb6:Sub3 H3 (up3 H8 pt (.lst ((ns.zip p).map fun z=>T.tup [.str z.1,.int z.2.2.2.1,sT z.2.2.2.2.1]))):=sb5.trans st6;try dsimp only
   generalize up3 H8 pt (.lst ((ns.zip p).map fun z=>T.tup [.str z.1,.int z.2.2.2.1,sT z.2.2.2.2.1]))=H9 at sb6 gr6 gs6 gn6 gt6 ⊢;clear st6 sb5 gr5 gs5 gn5 hpt;walk_at "n";refine aB fun R11 hR11=>?_;walk_at "";refine⟨a,pn,ps,sc,ns,p,rfl,sb6 _ _ ha,L,gn6,hnn,by omega,gs6,by omega,fun O P lk=>?_⟩;try walk_at ""
   walk_at "n";walk_at "";refine⟨trivial,by decide,?_⟩;walk_at "c";refine bL tk5 (fun t=>T.int (t.1:Int)) p [] (.inl gs6) (by omega) (fun t ht Q' hq=>?_) (fun pz hpz=>?_)
   ·have x0:atI [T.int (t.1:Int),T.int t.2.1,T.int t.2.2.1,sT t.2.2.2.1,T.str t.2.2.2.2] 0=some (T.int (t.1:Int)):=rfl;have W:=Box.mk hq;clear hq k';simp only[tk5];walk_at "";exact W.out
   obtain⟨ok,ft,el⟩:=Q0 hnn (by omega) (by omega) (by omega) G.out r1 r8 F.out lk;refine⟨by decide,?_⟩;have ee:(p.map fun t=>T.int (t.1:Int))=(p.map (·.1)).map fun (s:Nat)=>T.int (s:Int):=by rw[Yo];rfl
   have ew:T.tup [T.tup ((ns.zip p).map fun z=>T.tup [T.str z.1,T.int z.2.2.2.1,sT z.2.2.2.2.1]),T.tup (O.map orT),T.tup (P.map prT),T.tup (k.map T.str)]=(mkW ns p O P k).enc:=by unfold Wk.enc mkW;rw[Yo];rfl
   rw[ee,ew];refine Fin3.of ?_ (k'.out (mkW ns p O P k) (p.map (·.1)) ok (by rw[el];omega) rw_ ft pz (dz sb6 hpz));intro b o hb;by_cases e:b=pz
   ·subst e;rw[aq] at hb ⊢;exact hb
   rw[aD e] at hb ⊢;exact sb6 b o hb
  rintro A i B Z H N e ⟨p,v8,rfl,V,gp,gr,gs,hsl,hss⟩ hN;refine⟨trivial,?_⟩;have hA:A.length<n:=by have:=X6 List.length e;simp only[d_,n_,K_] at this;omega
  have hi:i<n:=X7.mp (by rw[e];simp);have hM:=Box.mk hN;have G:=Box.mk hss;clear hN hss e sb4 gp4 gr4 gs4 k' hR8;walk_at "";refine⟨⟨trivial,trivial⟩,a,sc,4+i,by rw[show (4:Int)+(i:Int)=((4+i:Nat):Int) by push_cast;rfl],V _ _ ha,L,by omega,fun c5=>⟨c5,S,I,k,d,q,rfl,gr,r1,r8,F.out,gp,hpl,hpn'.out.nm,u1,u2,fun s tn len ks nam h1 h2 h3 h4 h5 h6 h7 h8 h9=>?_⟩⟩;dsimp only;rw[gs,Ai];refine⟨by rw[e_];omega,hM.out _ _ ⟨p++[(s,tn,len,ks,nam)],_,rfl,fun b u hb=>?_,?_,?_,?_,by rw[d_,d_,hsl];rfl,fun z U=>?_⟩⟩
  ·rw[aD (bf hb g0)];exact V b u hb
  ·rw[aD nps1];exact gp
  ·rw[aD nps2];exact gr
  ·rw[aq,H_];rfl
  rcases B_.mp U with U | U
  ·exact G.out z U
  rw[m_.mp U];exact⟨h1,h4,h5,h6,h7,h8,h9⟩
 rintro x r Z H N ⟨k,c3,v8,rfl,V,gp,gr,hrl,hrn⟩ hN;refine⟨trivial,?_⟩;rw[n_] at hrl;have hM:=Box.mk hN;have F:=Box.mk hrn;have hj0:=M_ c3 (show sp≠0 by omega);have hj1:=I_ c3 (show 0<sp by omega);obtain⟨j,hj⟩:∃j:Nat,c3%sp=(j:Int):=⟨(c3%sp).toNat,by omega⟩;have hat:=j5 (ns:=d) (i:=j) (by omega);have hnx:=hpn'.out.nm _ (getD_memS (ns:=d) (i:=j) (by omega));generalize d.getD j ""=y at hat hnx;clear hN hrn sb3 gp3 gr3 k' hR5;walk_at "";refine⟨⟨trivial,trivial⟩,by omega,by omega,⟨by omega,lgs⟩,hM.out _ _ ⟨k++[y],_,_,rfl,fun b u hb=>?_,?_,?_,by rw[d_,J_];push_cast;push_cast at hrl;omega,fun z U=>?_⟩⟩
 ·rw[aD (bf hb f0)];exact V b u hb
 ·rw[aD npr];exact gp
 ·rw[aq,H_];rfl
 rcases B_.mp U with U | U
 ·exact F.out z U
 rw[m_.mp U];exact hnx
abbrev xu:List Str:=["_law_works_here","_law_stands","_law_found","_law_task_here","_law_stand"]
theorem sc_loads:FnScope xu ["_law_works_here","_law_stands"] (au (top 44)):=bc
theorem Ed {f:Addr}{R:FuncData}(g:G3 K mg "_law_loads" (top 44) ["_law_works_here","_law_stands"] f R) (B:Bl mg):Cal P w K mg base 1 "_law_loads" (top 44) ["_law_works_here","_law_stands"] Wo:=by
 refine⟨f,R,g,?_⟩;refine fn3 g.fn sc_loads (fun ts H Q h=>?_) (fun cdv A y s H E ts H3 Q hr h=>?_)
 ·obtain⟨W,q,sts,rfl,_⟩:=h;rfl
 obtain⟨W,q,sts,rfl,X,v,hsl,p,V⟩:=h;refine⟨_,(ao (aF (i:=2) sc_loads.nd (aC Bf (bh (aa ak aj)) (aN cP rfl B.len_ cR (aa (aK ix3 (v3 0) ak) aj))))
   (ao (cg S_ rfl (Hw rfl B.zip_ (aa (aK ix3 (v3 0) ak) (aa (v3 1) aj))) (cN (n:=2) rfl (aH (aG (i:=3) sc_loads.nd) (aH (aG (i:=4) sc_loads.nd) bZ))) (aA (oO (aC aY (aK ix3 (v3 2) (v3 4)) (aK ix3 (v3 3) ak)) (Mj (v3 2) (v3 4) yd))))
   (aA (aJ (v3 2))))),?_⟩
 rw[show aO xu [W.enc,T.ref q]=[some (W.enc),some (T.ref q),none,none,none] from rfl];have hsz:sizeLine=16777216:=rfl;have U:=Box.mk V;clear V;have r8:=X.r8;have t8:=X.t8;refine aB fun R0 hR0=>?_;walk_at "";refine⟨by decide,fun D m=>⟨⟨by omega,by omega,by omega⟩,fun d k=>?_⟩⟩;have S:∀n:Nat,(List.replicate n [T.int 0]).flatten=(List.replicate n (0:Int)).map T.int:=fun n=>by
  induction n with
  |zero=>rfl
  |succ n ih=>rw[Yr,Yr,YM,ih];rfl
 rw[S];have G:=(cC k).2;have c:Sub3 H3 (up3 (up3 H3 D (.lst [T.int 0])) d (.lst ((List.replicate W.row.length (0:Int)).map T.int))):=(Sub3.new m).trans (Sub3.new k);have l:up3 (up3 H3 D (.lst [T.int 0])) d (.lst ((List.replicate W.row.length (0:Int)).map T.int)) d=some (.lst ((List.replicate W.row.length (0:Int)).map T.int)):=aq;have r:=c _ _ v;generalize up3 (up3 H3 D (.lst [T.int 0])) d (.lst ((List.replicate W.row.length (0:Int)).map T.int))=H4 at c l r ⊢;clear S k m;walk_at "n";refine aB fun R1 x=>?_;walk_at "";rw[lG];have t:=Box.mk p;clear p;refine bR (fun z=>T.tup [tkT z.1,T.int (z.2:Int)]) (W.tasks.zip sts) (fun A Z H=>∃(v3 C:Option T),Z=[some W.enc,some (.ref q),some (.ref d),v3,C]/\Sub3 H3 H/\H d=some (.lst ((A.foldl ldZ (List.replicate W.row.length 0)).map T.int))) ⟨_,_,rfl,c,l⟩ ?_ ?_
 ·rintro Z H ⟨v3,C,rfl,u,M⟩;refine⟨.inl (u _ _ v),?_⟩;walk_at "n";walk_at "";refine Fin3.of (fun b o j=>?_) (U.out d G);by_cases e:b=d
  ·subst e;rw[aq] at j;rw[<- j];exact M
  rw[aD e] at j;exact u b o j
 rintro A z B Z H N e ⟨v3,C,rfl,u,M⟩ O;refine⟨.inl (u _ _ v),?_⟩;have F:z∈W.tasks.zip sts:=by rw[e];simp
 have Y:z.2<W.row.length:=t.out _ (ZX F).2;have a:(A++[z]).foldl ldZ (List.replicate W.row.length 0)=ldZ (A.foldl ldZ (List.replicate W.row.length 0)) z:=by rw[List.foldl_append];rfl
 have hll:(A.foldl ldZ (List.replicate W.row.length 0)).length=W.row.length:=by rw[w6,Yn]
 have I:=Box.mk O;clear O e c l r U x F;rw[a] at I;generalize A.foldl ldZ (List.replicate W.row.length 0)=L at *;clear a;have x1:atI (L.map T.int) (z.2:Int)=some (T.int (L.getD z.2 0)):=by
  have J:z.2<L.length:=by omega
  rw[bY (by rw[z_,g_ J];rfl),q_,g_ J];rfl
 obtain⟨⟨tn,tl,tk⟩,zs⟩:=z;simp only[tkT];walk_at "";rw[wz Y,dX];refine⟨trivial,I.out _ _ ⟨_,_,rfl,fun b o j=>?_,?_⟩⟩
 ·rw[aD (bf j G)];exact u b o j
 rw[aq];unfold ldZ;rw[List.map_set]
abbrev uZ:List Str:=["_law_cell_here","_law_works_here","_law_stands","_law_loads_here","_law_total","_law_some"]
theorem sc_beat:FnScope uZ ["_law_cell_here","_law_works_here","_law_stands"] (au (top 45)):=bc
theorem Ji {f:Addr}{fd:FuncData}(g:G3 K mg "_law_beat" (top 45) ["_law_cell_here","_law_works_here","_law_stands"] f fd) (B:Bl mg) (b:Cal P w K mg base 1 "_law_loads" (top 44) ["_law_works_here","_law_stands"] Wo):Cal P w K mg base 2 "_law_beat" (top 45) ["_law_cell_here","_law_works_here","_law_stands"] Wq:=by
 refine⟨f,fd,g,?_⟩;refine fn3 g.fn sc_beat (fun ts H Q h=>?_) (fun cdv A outer s H E ts H3 Q hr h=>?_)
 ·obtain⟨c,W,q,sts,rfl,_⟩:=h;rfl
 obtain⟨c,W,q,sts,rfl,l,hq,hsl,p,kk⟩:=h;refine⟨_,(ao (aF (i:=3) sc_beat.nd (aM b hr rfl (aa (v3 1) (aa (v3 2) aj))))
   (ao (aF (i:=4) sc_beat.nd (aN (uf rfl) rfl B.sum_ ug (aa (v3 3) aj)))
   (ao (aF (i:=5) sc_beat.nd (bh (aa (aN (jW rfl) rfl B.max_ gH (aa (v3 3) aj)) (aa (aN (jW rfl) rfl B.max_ gH (aa (v3 3) aj)) (aa (aN (jV rfl) rfl B.max_ gH (aa ak (aa (aC iy (aN (jW rfl) rfl B.max_ gH (aa (v3 3) aj)) ak) aj))) (aa (aC aW (v3 4) (aN cP rfl B.len_ cR (aa (v3 3) aj))) (aa (aC aY (aC aW (v3 4) (aN cP rfl B.len_ cR (aa (v3 3) aj))) ak) aj)))))))
   (ao (aF (i:=5) sc_beat.nd (aC aY (v3 5) (bh (aa (aN (jW rfl) rfl B.max_ gH (aa (bz rfl (bM (n0:=(au (top 45)).names) (N:=uZ) (N':=["_law_task_here"]) (nt:=1) (cap:=[]) rfl rfl (by decide +kernel)) (cH (aK ix3 (v3 1) ak)) (fun cl pins s H C0 fp=>⟨(aG (i:=0) (show List.Nodup [("_law_task_here":Str)] by decide +kernel)),bQ,(aK ix3 (v3 0) ak)⟩)) aj)) (aa (v3 4) aj)))))
   (ao (aF (i:=5) sc_beat.nd (aC aY (v3 5) (bh (aa (aC aR (aC aW (v3 0) ak) (aN (GR rfl) rfl B.min_ Oa (aa (aC cF ak (v3 4)) (aa (aC cF ak (aC iz ak ak)) aj)))) (aa (aC aR (aC aW (v3 0) ak) (aC iz ak ak)) aj)))))
   (aA (aJ (aK ix3 (v3 5) (aC aR (v3 0) ak))))))))),?_⟩
 rw[show aO uZ [T.int c,W.enc,T.ref q]=[some (T.int c),some (W.enc),some (T.ref q),none,none,none] from rfl];have hsz:sizeLine=16777216:=rfl;have k':=Box.mk kk;clear kk;have r1:=l.r1;have r8:=l.r8;have t8:=l.t8;have t1:=l.t1;have hln:=IV W sts;have Z:=Q4 (sts:=sts) l;have O:=IW hsl p;have htp:=Ja l;rw[<- O] at htp;refine aB fun R0 hR0=>?_;walk_at "";refine⟨W,q,sts,rfl,l,hq,hsl,p,fun pl hpl=>?_⟩;have D:Sub3 H3 (up3 H3 pl (.lst ((ldS W sts).map T.int))):=Sub3.new hpl;have gl:up3 H3 pl (.lst ((ldS W sts).map T.int)) pl=some (.lst ((ldS W sts).map T.int)):=aq;have k:=Box.mk Z;clear Z O p hq;try dsimp only
 generalize up3 H3 pl (.lst ((ldS W sts).map T.int))=H4 at D gl ⊢;generalize ldS W sts=L at *;walk_at "n";refine aB fun R1 hR1=>?_;have is:=fL L;walk_at "";walk_at "n";refine aB fun R2 hR2=>?_;have lgr:(W.row.length:Int).natAbs.log2<9000:=Zw (ZQ _) (by omega);have hne:¬L=[]:=fun z=>by rw[z,Yg] at hln;omega
 walk_at "";refine⟨trivial,fun m1 Y _=>⟨trivial,fun m2 X _=>⟨trivial,fun m3 hm3 _=>⟨⟨by omega,lgr⟩,⟨by omega,lgr⟩,by decide,fun p1 hp1=>?_⟩⟩⟩⟩;obtain⟨xs,hxs,hx0,C⟩:∃xs:List Int,[T.int m1,T.int m2,T.int (if m3 - 1>0 then m3 - 1 else 0),T.int (L.sum / (W.row.length:Int)),T.int (L.sum / (W.row.length:Int)+1)]=xs.map T.int/\(∀x∈xs,0<=x)/\xs.length=5:=by
  have d0:0<=L.sum / (W.row.length:Int):=Int.ediv_nonneg (by omega) (by omega);refine⟨[m1,m2,if m3 - 1>0 then m3 - 1 else 0,L.sum / (W.row.length:Int),L.sum / (W.row.length:Int)+1],rfl,fun x a=>?_,rfl⟩;simp only[j_,G_,Ym] at a;rcases a with rfl | rfl | rfl | rfl | rfl
  ·exact k.out _ Y
  ·exact k.out _ X
  ·split <;> omega
  ·exact d0
  omega
 rw[hxs];have u:=D.trans (Sub3.new (o:=.lst (xs.map T.int)) hp1);have r:up3 H4 p1 (.lst (xs.map T.int)) p1=some (.lst (xs.map T.int)):=aq;generalize up3 H4 p1 (.lst (xs.map T.int))=H5 at u r ⊢;clear hxs hp1 D gl Y X hm3;walk_at "n";refine aB fun R3 hR3=>?_;walk_at "";walk_at "c";have htk:=Box.mk l.tk;refine bL tkT (fun t=>T.int t.2.1) W.tasks [] trivial (by omega) (fun t ht Q' hq=>?_) (fun p2 I=>?_)
 ·have x1:atI [T.str t.1,T.int t.2.1,sT t.2.2] 1=some (T.int t.2.1):=rfl;have hq':=Box.mk hq;clear hq k' hR3;simp only[tkT];walk_at "";exact hq'.out
 rw[show (W.tasks.map fun t=>T.int t.2.1)=(W.tasks.map (·.2.1)).map T.int by rw[Yo];rfl,fL,dX];refine⟨fun z=>by have:=X6 List.length z;rw[e_,Yg] at this;omega,fun m hm _=>⟨by decide,fun p3 V=>?_⟩⟩;have hm0:0<=m:=by obtain⟨t,ht,rfl⟩:=y_.mp hm;have:=(htk.out t ht).lo;omega
 have F:=(Sub3.new (o:=.lst ((W.tasks.map (·.2.1)).map T.int)) I).trans (Sub3.new (o:=.lst [T.int m,T.int L.sum]) V);have v:=u.trans F;rw[F _ _ r,gD];generalize up3 (up3 H5 p2 (.lst ((W.tasks.map (·.2.1)).map T.int))) p3 (.lst [T.int m,T.int L.sum])=H6 at v ⊢;refine⟨by rw[e_,C,n_,J_];omega,fun p4 R=>?_⟩;obtain⟨ys,hys,hy0,hyl⟩:∃ys:List Int,xs.map T.int++[T.int m,T.int L.sum]=ys.map T.int/\(∀x∈ys,0<=x)/\ys.length=7:=by
  refine⟨xs++[m,L.sum],by rw[H_];rfl,fun x a=>?_,by rw[d_,C];rfl⟩;rcases B_.mp a with a | a
  ·exact hx0 x a
  simp only[j_,G_,Ym] at a;rcases a with rfl | rfl
  ·exact hm0
  omega
 rw[hys];have y:=v.trans (Sub3.new (o:=.lst (ys.map T.int)) R);have gy:up3 H6 p4 (.lst (ys.map T.int)) p4=some (.lst (ys.map T.int)):=aq;try dsimp only
 generalize up3 H6 p4 (.lst (ys.map T.int))=H7 at y gy ⊢;clear hys hx0 C u r v F I V R hm;walk_at "n";refine aB fun R4 hR4=>?_;walk_at "";have M:0<(if 9*(10:Int)^Int.toNat 60<2*L.sum then 9*(10:Int)^Int.toNat 60 else 2*L.sum):=by
  split
  ·decide +kernel
  omega
 refine⟨⟨by decide,by decide +kernel⟩,.inl ⟨by decide,by decide⟩,⟨by decide,by decide,by decide⟩,.inl ⟨by decide,by decide⟩,M,⟨by decide,by decide +kernel⟩,⟨by decide,by decide,by decide⟩,by decide +kernel,by decide,fun p5 e=>?_⟩;generalize (if 9*(10:Int)^Int.toNat 60<2*L.sum then 9*(10:Int)^Int.toNat 60 else 2*L.sum)=mn at M e ⊢;have e0:=M_ (c / 9) (show mn≠0 by omega);have e1:=M_ (c / 9) (show ((10:Int)^Int.toNat 60)≠0 by decide +kernel);generalize c / 9%mn=a1 at e0 ⊢;generalize c / 9%(10:Int)^Int.toNat 60=a2 at e1 ⊢;rw[aD (bf gy e),gy,gD];refine⟨by rw[e_,hyl,n_,J_];omega,fun p6 hp6=>?_⟩;obtain⟨d,G,U,hzl⟩:∃d:List Int,ys.map T.int++[T.int a1,T.int a2]=d.map T.int/\(∀x∈d,0<=x)/\d.length=9:=by
  refine⟨ys++[a1,a2],by rw[H_];rfl,fun x a=>?_,by rw[d_,hyl];rfl⟩;rcases B_.mp a with a | a
  ·exact hy0 x a
  simp only[j_,G_,Ym] at a;rcases a with rfl | rfl
  ·exact e0
  exact e1
 rw[G];have sb6:=y.trans ((Sub3.new e).trans (Sub3.new (o:=.lst (d.map T.int)) hp6));have gz:∀Hx:Hp3,up3 Hx p6 (.lst (d.map T.int)) p6=some (.lst (d.map T.int)):=fun _=>aq;have i0:=M_ c (show (9:Int)≠0 by decide);have i1:=I_ c (show (0:Int)<9 by decide);obtain⟨j,hj⟩:∃j:Nat,c%9=(j:Int):=⟨(c%9).toNat,by omega⟩;have J:j<d.length:=by omega
 have hat:atI (d.map T.int) (j:Int)=some (T.int d[j]):=bY (by rw[z_,g_ J];rfl);have S:=U _ (Yl J);generalize d[j]=n at hat S;try dsimp only
 have k2:=Box.mk (Fin3.of sb6 (k'.out n S));clear G U hzl y gy k' hp6 e;walk_at "n";walk_at "";refine⟨by decide,?_⟩;first
  |exact k2.out
  | (rw[dX];exact k2.out)
def Q7:Sp3:=fun ts H Q=>∃W:Wk,ts=[W.enc]/\WkOk W/\∀p,H p=none->Q (.ref p) (up3 H p (.lst ((lkW ["with"] W).map orT)))
def Q8:Sp3:=fun ts H Q=>∃(x:T) (L:List (Str × Str)) (s:Str),ts=[x,.str s]/\((∃a,x=.ref a/\H a=some (.lst (L.map orT)))\/x=.tup (L.map orT))/\L.length<=100 /\
 ∀(p:Addr) (kvs:List (Str × T)),H p=none->(∀z,(aP z kvs).isSome=true↔RT (fun a b=>(a,b)∈L) s z)->Q (.ref p) (up3 H p (.dct kvs))
def Q9:Sp3:=fun ts H Q=>∃(W:Wk) (t:Str),ts=[W.enc,.str t]/\WkOk W/\∀(p:Addr) (kvs:List (Str × T)),H p=none->(∀z,(aP z kvs).isSome=true↔RT (lkR ["with"] W) t z)->Q (.ref p) (up3 H p (.dct kvs))
def Rg:Sp3:=fun ts H Q=>∃(W:Wk) (t:Str),ts=[W.enc,.str t]/\WkOk W/\∀(p:Addr) (kvs:List (Str × T)),H p=none->(∀z,(aP z kvs).isSome=true↔RT (lkR ["with"] W) z t)->Q (.ref p) (up3 H p (.dct kvs))
def Wu:Sp3:=fun ts H Q=>∃(W:Wk) (a b:Addr) (c d:List (Str × T)),ts=[W.enc,.ref a,.ref b]/\WkOk W/\H a=some (.dct c)/\H b=some (.dct d)/\Q (sT ((W.tasks.map (·.1)).filter fun x=>(aP x c).isSome&&(aP x d).isSome)) H
def Wv:Sp3:=fun ts H Q=>∃(W:Wk) (a b:Addr) (c d:List (Str × T)),ts=[W.enc,.ref a,.ref b]/\WkOk W/\H a=some (.dct c)/\H b=some (.dct d)/\Q (sT ((W.tasks.map (·.1)).filter fun x=>(aP x c).isSome&&!(aP x d).isSome)) H
def Ww:Sp3:=fun ts H Q=>∃(W:Wk) (t:Str),ts=[W.enc,.str t]/\WkOk W/\Q (sT (fM W t)) H
def Wx:Sp3:=fun ts H Q=>∃(W:Wk) (t:Str),ts=[W.enc,.str t]/\WkOk W/\Q (sT (iH W t)) H
abbrev lH:List Str:=["works","links","word","one","other"]
theorem sc_links_of:FnScope lH ["works"] (au (top 2)):=bc
theorem su {f:Addr}{C:FuncData}(g:G3 K mg "links_of" (top 2) ["works"] f C) (B:Bl mg):Cal P w K mg base 1 "links_of" (top 2) ["works"] Q7:=by
 refine⟨f,C,g,?_⟩;refine fn3 g.fn sc_links_of (fun ts H Q h=>?_) (fun J A t s H E ts H3 Q G h=>?_)
 ·obtain⟨W,rfl,_⟩:=h;rfl
 have l:=Room.u30 G;obtain⟨⟨tk,c,prs,j⟩,rfl,v,k⟩:=h;refine⟨_,(ao (aF (i:=1) sc_links_of.nd (bH Gh rfl B.list_ ww (aa (aK ix3 (v3 0) ak) aj)))
   (ao (cg S_ rfl (cH (aK ix3 (v3 0) ak)) (cN (n:=3) rfl (aH (aG (i:=2) sc_links_of.nd) (aH (aG (i:=3) sc_links_of.nd) (aH (aG (i:=4) sc_links_of.nd) bZ)))) (aA (bK (bA (dI l) (v3 2) cu) (ao (cz (eV P_ T_ U_ bI (v3 1) (aa (bj (aa (v3 3) (aa (v3 4) aj))) aj)))
     (aA (cz (eV P_ T_ U_ bI (v3 1) (aa (bj (aa (v3 4) (aa (v3 3) aj))) aj))))) aU)))
   (aA (aJ (v3 1))))),?_⟩
 rw[show aO lH [Wk.enc ⟨tk,c,prs,j⟩]=[some (T.tup [T.tup (tk.map tkT),T.tup (c.map orT),T.tup (prs.map prT),T.tup (j.map T.str)]),none,none,none,none] from rfl];have hsz:sizeLine=16777216:=rfl;have D:c.length<=28:=v.os;have x:prs.length<=12:=v.ps;walk_at "";intro p L;refine bR prT prs (fun A Z H=>∃(q v3 u:Option T),Z=[some (T.tup [T.tup (tk.map tkT),T.tup (c.map orT),T.tup (prs.map prT),T.tup (j.map T.str)]),some (.ref p),q,v3,u]/\H=up3 H3 p (.lst ((c++A.flatMap (lkP ["with"])).map orT))) ⟨none,none,none,rfl,by simp⟩ ?_ ?_
 ·rintro Z H ⟨q,v3,u,rfl,rfl⟩;refine⟨trivial,?_⟩;walk_at "";exact Fin3.of Sub3.refl (k p L)
 rintro A ⟨w,a,b⟩ B Z H N e ⟨q,v3,u,rfl,rfl⟩ z;have I:=pI ["with"] A;have M:A.length<=12:=by have:=X6 List.length e;simp only[d_,n_] at this;omega
 have m:(c++A.flatMap (lkP ["with"])).length<=52:=by rw[d_];omega
 have d:N [some (T.tup [T.tup (tk.map tkT),T.tup (c.map orT),T.tup (prs.map prT),T.tup (j.map T.str)]),some (.ref p),some (.str w),some (.str a),some (.str b)] (up3 H3 p (.lst ((c++A.flatMap (lkP ["with"])).map orT++(lkP ["with"] (w,a,b)).map orT))):=z _ _ ⟨_,_,_,rfl,by rw[List.flatMap_append,<- Z9,H_];simp⟩;generalize c++A.flatMap (lkP ["with"])=F at d m;replace d:=Box.mk d;refine⟨trivial,?_⟩;clear z e k v I;simp only[prT];walk_at "";refine⟨trivial,?_⟩;by_cases r:w="with"
 ·subst r;have o:lkP ["with"] ("with",a,b)=[(a,b),(b,a)]:=by unfold lkP;simp
  rw[o] at d;try simp only[Zg,if_true]
  refine⟨⟨trivial,trivial⟩,by omega,by omega,⟨trivial,trivial⟩,by omega,by simp;omega,?_⟩;have y:=d.out;simp only[C_,Yz,orT] at y;rw[Z9];exact y
 have o:lkP ["with"] (w,a,b)=[]:=by unfold lkP;simp [r]
 rw[o,Yz,Yd] at d;simp only[r,Y8,A_,X8];exact d.out
abbrev nO:List Str:=["links","start","found","grown","one","other"]
theorem sc_reached:FnScope nO ["links","start"] (au (top 3)):=bc
theorem u5 {f:Addr}{fd:FuncData}(g:G3 K mg "reached" (top 3) ["links","start"] f fd) (B:Bl mg):Cal P w K mg base 1 "reached" (top 3) ["links","start"] Q8:=by
 refine⟨f,fd,g,?_⟩;refine fn3 g.fn sc_reached (fun ts H Q h=>?_) (fun cdv A outer s H E ts H3 Q hr h=>?_)
 ·obtain⟨x,L,s,rfl,_⟩:=h;rfl
 have M:=Room.u1 hr;obtain⟨x,L,t,rfl,hx,hL,k⟩:=h;refine⟨_,(ao (aF (i:=2) sc_reached.nd (Ao (v3 1) cT))
   (ao (aF (i:=3) sc_reached.nd cT)
   (ao (kJ S_ (cM (v3 3)) (ao (aF (i:=3) sc_reached.nd cT)
    (aA (cg S_ rfl (GC 0) (cN (n:=2) rfl (aH (aG (i:=4) sc_reached.nd) (aH (aG (i:=5) sc_reached.nd) bZ))) (aA (bK (PW3.pt (kI (oZ M (v3 4) (v3 2)) (iU (m9 M (v3 5) (v3 2))))) (ao (Gg M (v3 2) (v3 5) cT)
      (aA (aF (i:=3) sc_reached.nd cT))) aU))))))
   (aA (aJ (v3 2)))))),?_⟩
 rw[show aO nO [x,T.str t]=[some (x),some (T.str t),none,none,none,none] from rfl];have hsz:sizeLine=16777216:=rfl;walk_at "";intro p hp;refine⟨trivial,?_⟩;rw[Qu];refine⟨fun m Z H=>∃(F:List Str) (g:Bool) (J I:Option T),Z=[some x,some (.str t),some (.ref p),some (.bl g),J,I]/\H=up3 H3 p (.dct (dF F))/\t∈F/\F.Nodup/\(∀z∈F,RT (fun a b=>(a,b)∈L) t z)/\(g=false->∀a b,(a,b)∈L->a∈F->b∈F)/\m=2*(L.length+1 - F.length)+(if g then 1 else 0),
  ⟨_,[t],true,none,none,rfl,rfl,k_,by simp,(fun z C=>by rw[m_.mp C];exact .refl),(fun z=>nomatch z),rfl⟩,?_⟩
 have d:∀F:List Str,F.Nodup->(∀z∈F,RT (fun a b=>(a,b)∈L) t z)->F.length<=L.length+1:=fun F R hF=>by
  have:=uQ (l:=F) (m:=t::L.map (·.2)) R fun z C=>by
   cases hF z C with
   |refl=>exact k_
   |step _ r=>exact h_ _ (y_.mpr ⟨_,r,rfl⟩)
  simpa using this
 rintro m Z H ⟨F,g,J,I,rfl,rfl,hs,R,hR,hg,rfl⟩;walk_at "";cases g with
 |false=>simp only[A_,X8];refine Fin3.of Sub3.refl (k p _ hp fun z=>?_);rw[jZ,p_];exact⟨hR z,fun h=>VD hs (hg rfl) h⟩
 |true =>
  try simp only[if_true]
  have Y:(∃a,x=.ref a/\up3 H3 p (.dct (dF F)) a=some (.lst (L.map orT)))\/x=.tup (L.map orT):=by
   rcases hx with ⟨a,rfl,e⟩ | e
   ·
    exact .inl ⟨a,rfl,by rw[aD (bf e hp)];exact e⟩
   ·
    exact .inr e
  refine CT Y fun still S=>?_
  have v:∀c,still (up3 H3 p (.dct (dF c))):=by
   rcases S with rfl | ⟨a,rfl,e⟩
   ·
    exact fun _=>trivial
   ·
    have U:a≠p:=fun z=>by subst z;rw[aq] at e;cases e
    rw[aD U] at e
    exact fun c=>.inl (by rw[aD U];exact e)
  refine bR orT L (fun A Z H=>∃(c:List Str) (g':Bool) (J I:Option T),Z=[some x,some (.str t),some (.ref p),some (.bl g'),J,I]/\H=up3 H3 p (.dct (dF c))/\t∈c/\c.Nodup/\(∀z∈c,RT (fun a b=>(a,b)∈L) t z)/\(g'=false->c=F/\∀o∈A,o.1∈F->o.2∈F)/\(g'=true->F.length<c.length)) ⟨F,false,J,I,rfl,rfl,hs,R,hR,fun _=>⟨rfl,(fun _ h=>nomatch h)⟩,(fun z=>nomatch z)⟩ ?_ ?_
  ·
   rintro Z H ⟨c,g',J,I,rfl,rfl,u,q,j,V,X⟩
   refine⟨v c,?_⟩
   have b1:=d F R hR
   have b2:=d c q j
   cases g' with
   |true =>
    have:=X rfl
    exact⟨_,by simp only[if_true];omega,c,true,J,I,rfl,rfl,u,q,j,(fun z=>nomatch z),rfl⟩
   |false =>
    obtain⟨e,hc⟩:=V rfl
    subst e
    exact⟨_,by simp,c,false,J,I,rfl,rfl,u,q,j,fun _ a b D y=>hc (a,b) D y,rfl⟩
  ·
   rintro A ⟨a,b⟩ B Z H N e ⟨c,g',J,I,rfl,rfl,u,q,j,V,X⟩ hN
   refine⟨v c,?_⟩
   have D:(a,b)∈L:=by rw[e];simp
   have b2:=d c q j
   have l1:=jZ a c
   have l2:=jZ b c
   have l3:=Qt c
   have no:¬(a∈c/\b∉c)->N [some x,some (.str t),some (.ref p),some (.bl g'),some (.str a),some (.str b)] (up3 H3 p (.dct (dF c))):=fun hno=>hN _ _ ⟨c,g',_,_,rfl,rfl,u,q,j,fun hg'=>by
    obtain⟨e1,hc⟩:=V hg'
    subst e1
    refine⟨rfl,fun o W=>?_⟩
    rcases B_.mp W with W | W
    ·
     exact hc o W
    ·
     rw[m_.mp W]
     intro y
     exact Classical.byContradiction fun G=>hno ⟨y,G⟩,X⟩
   have O:a∈c->b∉c->N [some x,some (.str t),some (.ref p),some (.bl true),some (.str a),some (.str b)] (up3 H3 p (.dct (put3 b (T.bl true) (dF c)))):=fun y G=>by
    rw[Qs G]
    refine hN _ _ ⟨c++[b],true,_,_,rfl,rfl,Yk _ u,eU q G,fun z C=>?_,(fun z=>nomatch z),fun _=>?_⟩
    ·
     rcases B_.mp C with C | C
     ·
      exact j z C
     ·
      rw[m_.mp C]
      exact .step (j a y) D
    ·
     rw[d_,J_]
     cases g' with
     |true=>have:=X rfl;omega
     |false=>obtain⟨e1,_⟩:=V rfl;subst e1;omega
   replace no:=Box.mk no
   replace O:=Box.mk O
   clear hN V X v S d k hx Y hg hR j R q hs u e D
   simp only[orT]
   walk_at ""
   refine⟨trivial,?_⟩
   by_cases y:a∈c
   ·
    simp only[y,Zg,if_true]
    by_cases G:b∈c
    ·
     simp only[G,Zg,Yv,A_,X8]
     exact no.out fun z=>z.2 G
    ·
     simp only[G,Y8,Zx,if_true]
     exact⟨by omega,O.out y G⟩
   ·
    simp only[y,Y8,A_,X8]
    exact no.out fun z=>y z.1
abbrev gQ:List Str:=["works","task"]
theorem yI:FnScope gQ gQ (au (top 4)):=bc
theorem yJ {f:Addr}{j:FuncData}(g:G3 K mg "led_to" (top 4) gQ f j) (B:Bl mg) (c:Cal P w K mg base 1 "reached" (top 3) ["links","start"] Q8) (b:Cal P w K mg base 1 "links_of" (top 2) ["works"] Q7):Cal P w K mg base 2 "led_to" (top 4) gQ Q9:=by
 refine⟨f,j,g,?_⟩;refine fn3 g.fn yI (fun ts H Q h=>?_) (fun n A d s H E ts H3 Q l h=>?_)
 ·obtain⟨W,t,rfl,_⟩:=h;rfl
 obtain⟨W,t,rfl,m,k⟩:=h;refine⟨_,(aA (aJ (aM c l rfl (aa (aM b l rfl (aa (v3 0) aj)) (aa (v3 1) aj))))),?_⟩;rw[show aO gQ [W.enc,T.str t]=[some (W.enc),some (T.str t)] from rfl];walk_at "";refine⟨W,rfl,m,fun q u=>?_⟩;try dsimp only
 refine⟨_,lkW ["with"] W,t,rfl,.inl ⟨q,rfl,aq⟩,L_ (wR m) (by decide),fun p kvs i r=>?_⟩;obtain⟨v,i⟩:=cC i;refine Fin3.of (fun a o e=>?_) (k p kvs i r);by_cases h:a=p
 ·subst h;rw[aq] at e ⊢;exact e
 rw[aD h] at e ⊢;rw[aD (bf e u)];exact e
abbrev dG:List Str:=["works","task"]
theorem sy:FnScope dG dG (au (top 5)):=bc
theorem sE {f:Addr}{F:FuncData}(g:G3 K mg "led_from" (top 5) dG f F) (B:Bl mg) (d:Cal P w K mg base 1 "reached" (top 3) ["links","start"] Q8) (c:Cal P w K mg base 1 "links_of" (top 2) ["works"] Q7):Cal P w K mg base 2 "led_from" (top 5) dG Rg:=by
 refine⟨f,F,g,?_⟩;refine fn3 g.fn sy (fun ts H Q h=>?_) (fun L A y s H E ts H3 Q m h=>?_)
 ·obtain⟨W,t,rfl,_⟩:=h;rfl
 obtain⟨W,t,rfl,G,k⟩:=h;refine⟨_,(aA (aJ (aM d m rfl (aa (bz rfl (bM (n0:=(au (top 5)).names) (N:=dG) (N':=["one","other"]) (nt:=2) (cap:=[]) rfl rfl (by decide +kernel)) (cI (aM c m rfl (aa (v3 0) aj))) (fun M C s H S R=>⟨(cN (n:=2) rfl (aH (aG (i:=0) (show List.Nodup [("one":Str),("other":Str)] by decide +kernel)) (aH (aG (i:=1) (show List.Nodup [("one":Str),("other":Str)] by decide +kernel)) bZ))),bQ,(bj (aa (v3 1) (aa (v3 0) aj)))⟩)) (aa (v3 1) aj))))),?_⟩;rw[show aO dG [W.enc,T.str t]=[some (W.enc),some (T.str t)] from rfl];have hsz:sizeLine=16777216:=rfl;have U:=wR (ws:=["with"]) G;walk_at "";refine⟨W,rfl,G,fun q J=>?_⟩;try dsimp only
 rw[Aj,aq,qM];walk_at "c";refine gY orT (lkW ["with"] W) (fun A ys Z H=>H=up3 H3 q (.lst ((lkW ["with"] W).map orT))/\ys=(A.map swp).map orT/\∃u x:Option T,Z=[u,x]) ⟨rfl,rfl,none,none,rfl⟩ ?_ ?_
 ·rintro ys Z H ⟨rfl,rfl,u,x,rfl⟩;refine⟨.inl aq,by rw[e_,e_];omega,fun r m=>?_⟩;obtain⟨n0,v⟩:=cC m;refine⟨_,(lkW ["with"] W).map swp,t,rfl,.inl ⟨r,rfl,aq⟩,by rw[e_];omega,fun p kvs l I=>?_⟩;obtain⟨O,l⟩:=cC l;obtain⟨X,l⟩:=cC l;refine Fin3.of (fun a o e=>?_) (k p kvs l fun z=>(I z).trans Qv);by_cases h:a=p
  ·subst h;rw[aq] at e ⊢;exact e
  rw[aD h] at e ⊢;rw[aD (bf e v),aD (bf e J)];exact e
 rintro A ⟨a,b⟩ B ys Z H N e ⟨rfl,rfl,u,x,rfl⟩ D;have V:A.length<=52:=by have:=X6 List.length e;simp only[d_,n_] at this;omega
 refine⟨.inl aq,?_⟩;have j:=D (((A.map swp).map orT)++[orT (b,a)]) [some (.str a),some (.str b)] _ ⟨rfl,by rw[H_,H_];rfl,_,_,rfl⟩;replace j:=Box.mk j;clear D k e;simp only[orT] at j ⊢;walk_at "";exact⟨trivial,by omega,by omega,j.out⟩
abbrev d7:List Str:=["works","found","other"]
theorem u6:FnScope d7 d7 (au (top 6)):=bc
theorem vd {f:Addr}{r:FuncData}(g:G3 K mg "in_both" (top 6) d7 f r) (B:Bl mg):Cal P w K mg base 1 "in_both" (top 6) d7 Wu:=by
 refine⟨f,r,g,?_⟩;refine fn3 g.fn u6 (fun ts H Q h=>?_) (fun D A o s H E ts H3 Q C h=>?_)
 ·obtain⟨W,a,b,d,j,rfl,_⟩:=h;rfl
 have c:=Room.u1 C;obtain⟨⟨tk,m,prs,l⟩,a,b,d,j,rfl,I,R,L,k⟩:=h;refine⟨_,(aA (aJ (bH cU rfl B.tuple_ cV (aa (bz rfl (bM (n0:=(au (top 6)).names) (N:=d7) (N':=["task","found","other"]) (nt:=1) (cap:=[1,2]) rfl rfl (by decide +kernel)) (cH (aK ix3 (v3 0) ak)) (fun M q s H S O=>⟨(aG (i:=0) (show List.Nodup [("task":Str),("found":Str),("other":Str)] by decide +kernel)),(iV (PW3.pt (kI (oZ c (aK ix3 (v3 0) ak) (v3 1)) (iU (oZ c (aK ix3 (v3 0) ak) (v3 2)))))),(aK ix3 (v3 0) ak)⟩)) aj)))),?_⟩;rw[show aO d7 [Wk.enc ⟨tk,m,prs,l⟩,T.ref a,T.ref b]=[some (T.tup [T.tup (tk.map tkT),T.tup (m.map orT),T.tup (prs.map prT),T.tup (l.map T.str)]),some (T.ref a),some (T.ref b)] from rfl];have hsz:sizeLine=16777216:=rfl;have U:tk.length<=8:=I.t8;walk_at "";walk_at "c";refine gb tkT (fun t=>T.str t.1) (fun t=>(aP t.1 d).isSome&&(aP t.1 j).isSome) tk [some (.ref a),some (.ref b)] trivial (by omega) (fun t z F n=>?_) (fun t z u F n=>?_) (fun p G=>?_)
 ·obtain⟨nm,J,ks⟩:=t;simp only[tkT];dsimp only at n;cases y:(aP nm d).isSome <;> cases v:(aP nm j).isSome <;> simp only[y,v,aaz,Bool.and_false,Yv,Zx,Zh,Zm] at n <;> walk_at ""
 ·simp only[tkT];walk_at "";try exact n
 walk_at "";refine Fin3.of (Sub3.new G) ?_;have e:(tk.filter fun t=>(aP t.1 d).isSome&&(aP t.1 j).isSome).map (fun t=>T.str t.1)=((tk.map (·.1)).filter fun x=>(aP x d).isSome&&(aP x j).isSome).map T.str:=by rw[List.filter_map,Yo];rfl
 rw[e];exact k
abbrev c7:List Str:=["works","task"]
theorem sG:FnScope c7 c7 (au (top 8)):=bc
theorem sH {f:Addr}{v:FuncData}(g:G3 K mg "group_of" (top 8) c7 f v) (B:Bl mg) (c:Cal P w K mg base 1 "in_both" (top 6) ["works","found","other"] Wu) (d:Cal P w K mg base 2 "led_to" (top 4) c7 Q9) (b:Cal P w K mg base 2 "led_from" (top 5) c7 Rg):Cal P w K mg base 3 "group_of" (top 8) c7 Ww:=by
 refine⟨f,v,g,?_⟩;refine fn3 g.fn sG (fun ts H Q h=>?_) (fun C A l s H E ts H3 Q j h=>?_)
 ·obtain⟨W,t,rfl,_⟩:=h;rfl
 obtain⟨W,t,rfl,m,k⟩:=h;refine⟨_,(aA (aJ (aM c j rfl (aa (v3 0) (aa (aM d j rfl (aa (v3 0) (aa (v3 1) aj))) (aa (aM b j rfl (aa (v3 0) (aa (v3 1) aj))) aj)))))),?_⟩;rw[show aO c7 [W.enc,T.str t]=[some (W.enc),some (T.str t)] from rfl];walk_at "";refine⟨W,t,rfl,m,fun p y D i=>?_⟩;try dsimp only
 refine⟨W,t,rfl,m,fun q u F r=>?_⟩;obtain⟨z,n⟩:=cC F;try dsimp only
 refine⟨W,p,q,y,u,rfl,m,by rw[aD (Ne.symm z)];exact aq,aq,?_⟩;refine Fin3.of (fun a o e=>by rw[aD (bf e n),aD (bf e D)];exact e) ?_;rw[show (W.tasks.map (·.1)).filter (fun x=>(aP x y).isSome&&(aP x u).isSome)=fM W t from ?_]
 ·exact k
 unfold fM;refine ZF fun x G=>?_;rw[W_,X_,@p_ _ (Classical.propDecidable _),i x,r x]
abbrev bJ:List Str:=["works","found","other"]
theorem jj:FnScope bJ bJ (au (top 7)):=bc
theorem jk {f:Addr}{r:FuncData}(g:G3 K mg "in_first_alone" (top 7) bJ f r) (B:Bl mg):Cal P w K mg base 1 "in_first_alone" (top 7) bJ Wv:=by
 refine⟨f,r,g,?_⟩;refine fn3 g.fn jj (fun ts H Q h=>?_) (fun D A o s H E ts H3 Q C h=>?_)
 ·obtain⟨W,a,b,d,j,rfl,_⟩:=h;rfl
 have c:=Room.u1 C;obtain⟨⟨tk,m,prs,l⟩,a,b,d,j,rfl,I,R,L,k⟩:=h;refine⟨_,(aA (aJ (bH cU rfl B.tuple_ cV (aa (bz rfl (bM (n0:=(au (top 7)).names) (N:=bJ) (N':=["task","found","other"]) (nt:=1) (cap:=[1,2]) rfl rfl (by decide +kernel)) (cH (aK ix3 (v3 0) ak)) (fun M q s H S O=>⟨(aG (i:=0) (show List.Nodup [("task":Str),("found":Str),("other":Str)] by decide +kernel)),(iV (PW3.pt (kI (oZ c (aK ix3 (v3 0) ak) (v3 1)) (iU (m9 c (aK ix3 (v3 0) ak) (v3 2)))))),(aK ix3 (v3 0) ak)⟩)) aj)))),?_⟩;rw[show aO bJ [Wk.enc ⟨tk,m,prs,l⟩,T.ref a,T.ref b]=[some (T.tup [T.tup (tk.map tkT),T.tup (m.map orT),T.tup (prs.map prT),T.tup (l.map T.str)]),some (T.ref a),some (T.ref b)] from rfl];have hsz:sizeLine=16777216:=rfl;have U:tk.length<=8:=I.t8;walk_at "";walk_at "c";refine gb tkT (fun t=>T.str t.1) (fun t=>(aP t.1 d).isSome&&!(aP t.1 j).isSome) tk [some (.ref a),some (.ref b)] trivial (by omega) (fun t z F n=>?_) (fun t z u F n=>?_) (fun p G=>?_)
 ·obtain⟨nm,J,ks⟩:=t;simp only[tkT];dsimp only at n;cases y:(aP nm d).isSome <;> cases v:(aP nm j).isSome <;> simp only[y,v,aaz,Bool.and_false,Yv,Zx,Zh,Zm] at n <;> walk_at ""
 ·simp only[tkT];walk_at "";try exact n
 walk_at "";refine Fin3.of (Sub3.new G) ?_;have e:(tk.filter fun t=>(aP t.1 d).isSome&&!(aP t.1 j).isSome).map (fun t=>T.str t.1)=((tk.map (·.1)).filter fun x=>(aP x d).isSome&&!(aP x j).isSome).map T.str:=by rw[List.filter_map,Yo];rfl
 rw[e];exact k
abbrev dh:List Str:=["works","task"]
theorem sI:FnScope dh dh (au (top 9)):=bc
theorem sJ {f:Addr}{v:FuncData}(g:G3 K mg "ahead_of" (top 9) dh f v) (B:Bl mg) (b:Cal P w K mg base 1 "in_first_alone" (top 7) ["works","found","other"] Wv) (c:Cal P w K mg base 2 "led_from" (top 5) dh Rg) (d:Cal P w K mg base 2 "led_to" (top 4) dh Q9):Cal P w K mg base 3 "ahead_of" (top 9) dh Wx:=by
 refine⟨f,v,g,?_⟩;refine fn3 g.fn sI (fun ts H Q h=>?_) (fun C A l s H E ts H3 Q j h=>?_)
 ·obtain⟨W,t,rfl,_⟩:=h;rfl
 obtain⟨W,t,rfl,m,k⟩:=h;refine⟨_,(aA (aJ (aM b j rfl (aa (v3 0) (aa (aM c j rfl (aa (v3 0) (aa (v3 1) aj))) (aa (aM d j rfl (aa (v3 0) (aa (v3 1) aj))) aj)))))),?_⟩;rw[show aO dh [W.enc,T.str t]=[some (W.enc),some (T.str t)] from rfl];walk_at "";refine⟨W,t,rfl,m,fun p y D i=>?_⟩;try dsimp only
 refine⟨W,t,rfl,m,fun q u F r=>?_⟩;obtain⟨z,n⟩:=cC F;try dsimp only
 refine⟨W,p,q,y,u,rfl,m,by rw[aD (Ne.symm z)];exact aq,aq,?_⟩;refine Fin3.of (fun a o e=>by rw[aD (bf e n),aD (bf e D)];exact e) ?_;rw[show (W.tasks.map (·.1)).filter (fun x=>(aP x y).isSome&&!(aP x u).isSome)=iH W t from ?_]
 ·exact k
 unfold iH;refine ZF fun x G=>?_;rw[W_,X_,@p_ _ (Classical.propDecidable _),i x,aab,<- Bool.not_eq_true,r x]
def lJ:Sp3:=fun ts H Q=>∃(W:Wk) (x:T) (a:List Str),ts=[W.enc,x]/\WkOk W/\SeqS H x a/\Q (.int (numOf (W.tasks.map (·.1)) a)) H
def Ef:Sp3:=fun ts H Q=>∃(W:Wk) (n:Int),ts=[W.enc,.int n]/\WkOk W/\0<=n/\n<2^W.tasks.length/\Q (sT (pick (W.tasks.map (·.1)) n)) H
def Kp:Sp3:=fun ts H Q=>∃(ks:List Str) (k:Str),ts=[sT ks,.str k]/\Q (.bl (mC ks k)) H
def nP:Sp3:=fun ts H Q=>∃a b:Int,ts=[.int a,.int b]/\Q (.bl (decide (Builtin.bitAnd a b=b))) H
def Kq:Sp3:=fun ts H Q=>∃(W:Wk) (t:Str),ts=[W.enc,.str t]/\WkOk W/\∀p,H p=none->Q (.ref p) (up3 H p (.lst ((je W t).map T.str)))
def Kr:Sp3:=fun ts H Q=>∃W:Wk,ts=[W.enc]/\WkOk W/\∀p,H p=none->Q (.ref p) (up3 H p (.lst (W.tasks.map (ruT W (W.tasks.map (·.1))))))
def Ks:Sp3:=fun ts H Q=>∃(W:Wk) (a:Addr) (beat:Int) (b:Str) (D S:List Str),ts=[.ref a,.int beat,.str b,.int (numOf (W.tasks.map (·.1)) D),.int (numOf (W.tasks.map (·.1)) S)]/\WkOk W/\H a=some (.lst (W.tasks.map (ruT W (W.tasks.map (·.1)))))/\Q (.bl (uU W beat b D S)) H
abbrev jM:List Str:=["works","tasks","number","worth","task"]
theorem sc_number_of:FnScope jM ["works","tasks"] (au (top 15)):=bc
theorem pW {f:Addr}{n:FuncData}(g:G3 K mg "number_of" (top 15) ["works","tasks"] f n) (B:Bl mg):Cal P w K mg base 1 "number_of" (top 15) ["works","tasks"] lJ:=by
 refine⟨f,n,g,?_⟩;refine fn3 g.fn sc_number_of (fun ts H Q h=>?_) (fun u A l s H E ts H3 Q r h=>?_)
 ·obtain⟨W,x,d,rfl,_⟩:=h;rfl
 have j:=Room.u31 r;obtain⟨⟨tk,c,prs,b⟩,x,d,rfl,z,C,k⟩:=h;refine⟨_,(ao (aF (i:=2) sc_number_of.nd ak)
   (ao (aF (i:=3) sc_number_of.nd ak)
   (ao (cg S_ rfl (cH (aK ix3 (v3 0) ak)) (aG (i:=4) sc_number_of.nd) (ao (bK (bA (m5 j) (aK ix3 (v3 4) ak) (v3 1) rfl) (aA (aF (i:=2) sc_number_of.nd (aC aY (v3 2) (v3 3)))) aU)
    (aA (aF (i:=3) sc_number_of.nd (aC cF (v3 3) ak)))))
   (aA (aJ (v3 2)))))),?_⟩
 rw[show aO jM [Wk.enc ⟨tk,c,prs,b⟩,x]=[some (T.tup [T.tup (tk.map tkT),T.tup (c.map orT),T.tup (prs.map prT),T.tup (b.map T.str)]),some (x),none,none,none] from rfl];have hsz:sizeLine=16777216:=rfl;have F:tk.length<=8:=z.t8;walk_at "";refine bR tkT tk (fun A Z H=>∃v:Option T,H=H3/\Z=[some (T.tup [T.tup (tk.map tkT),T.tup (c.map orT),T.tup (prs.map prT),T.tup (b.map T.str)]),some x,some (.int (numOf (A.map (·.1)) d)),some (.int (2^A.length)),v]) ⟨none,rfl,rfl⟩ ?_ ?_
 ·rintro Z H ⟨v,rfl,rfl⟩;refine⟨trivial,?_⟩;walk_at "";exact Fin3.of Sub3.refl k
 rintro A t B Z H N e ⟨v,rfl,rfl⟩ m;have q:A.length+1<=8:=by have:=X6 List.length e;simp only[d_,n_] at this;omega
 have D:0<(2:Int)^A.length/\(2:Int)^A.length<=256:=by
  have:A.length=0\/A.length=1\/A.length=2\/A.length=3\/A.length=4\/A.length=5\/A.length=6\/A.length=7:=by omega
  rcases this with e | e | e | e | e | e | e | e <;> rw[e] <;> decide
 have o:CMul (2^A.length) 2:=.inl ⟨by omega,by omega⟩;have a:∀v,N [some (T.tup [T.tup (tk.map tkT),T.tup (c.map orT),T.tup (prs.map prT),T.tup (b.map T.str)]),some x,some (.int (numOf (A.map (·.1)) d+2^A.length*(if t.1∈d then 1 else 0))),some (.int (2^A.length*2)),v] H:=fun v=>by have:=m [some (T.tup [T.tup (tk.map tkT),T.tup (c.map orT),T.tup (prs.map prT),T.tup (b.map T.str)]),some x,some (.int (numOf ((A++[t]).map (·.1)) d)),some (.int (2^(A++[t]).length)),v] H ⟨v,rfl,rfl⟩;rw[show (2:Int)^(A++[t]).length=2^A.length*2 by rw[d_,J_,aaw],H_,C_,Yz,lA,e_] at this;exact this
 replace a:=Box.mk a;obtain⟨nm,y,ks⟩:=t;refine⟨trivial,?_⟩;clear m e k;simp only[tkT,sT];walk_at "";refine Ie C ?_;by_cases p:nm∈d
 ·simp only[p,Zg,if_true,A_,X8,fH,Int.mul_one] at a ⊢;exact⟨by first | trivial | exact o,a.out _⟩
 simp only[p,Y8,if_true,A_,X8,fH,Int.mul_zero,Int.add_zero] at a ⊢;exact⟨by first | trivial | exact o,a.out _⟩
abbrev cW:List Str:=["kinds","kind"]
theorem lK:FnScope cW cW (au (top 11)):=bc
theorem lL {f:Addr}{e:FuncData}(g:G3 K mg "may_be_done" (top 11) cW f e) (B:Bl mg):Cal P w K mg base 1 "may_be_done" (top 11) cW Kp:=by
 refine⟨f,e,g,?_⟩;refine fn3 g.fn lK (fun ts H Q h=>?_) (fun j A d s H E ts H3 Q i h=>?_)
 ·obtain⟨ks,k,rfl,_⟩:=h;rfl
 have b:=Room.u30 i;have c:=Room.u31 i;obtain⟨ks,a,rfl,k⟩:=h;refine⟨_,(aA (aJ (S5 (dO (dI b) (aN cP rfl B.len_ cR (aa (v3 0) aj)) ak) (oK (dO (m5 c) (v3 1) (v3 0) rfl))))),?_⟩;rw[show aO cW [sT ks,T.str a]=[some (T.tup (ks.map T.str)),some (T.str a)] from rfl];have l:pl 20 (T.str a)=true:=rfl;have n:=eZ ks;have m:dR false (T.str a) (ks.map T.str)=decide (a∈ks):=by unfold dR;have:(T.str a∈ks.map T.str)↔a∈ks:=eY jb;simp only[this];simp
 walk_at "";unfold mC at k;cases ks with
 |nil=>simp only[Zg,Bool.true_or,Yg,if_true] at k ⊢;exact Fin3.of Sub3.refl k
 |cons y r =>
  have:¬(((r.length+1:Nat)):Int)=0:=by omega
  simp only[n_,this,Y8,A_,X8] at k ⊢
  exact⟨trivial,trivial,Fin3.of Sub3.refl (by simpa using k)⟩
abbrev fU:List Str:=["number","part"]
theorem vf:FnScope fU fU (au (top 20)):=bc
theorem vg {f:Addr}{e:FuncData}(g:G3 K mg "has_all" (top 20) fU f e) (B:Bl mg):Cal P w K mg base 1 "has_all" (top 20) fU nP:=by
 refine⟨f,e,g,?_⟩;refine fn3 g.fn vf (fun ts H Q h=>?_) (fun i A d s H E ts H3 Q j h=>?_)
 ·obtain⟨a,b,rfl,_⟩:=h;rfl
 have c:=Room.u30 j;obtain⟨a,b,rfl,k⟩:=h;refine⟨_,(aA (aJ (dO (dI c) (aC Bd (v3 0) (v3 1)) (v3 1)))),?_⟩;rw[show aO fU [T.int a,T.int b]=[some (T.int a),some (T.int b)] from rfl];walk_at "";exact Fin3.of Sub3.refl k
abbrev cJ:List Str:=["works","task"]
theorem mD:FnScope cJ cJ (au (top 18)):=bc
theorem mF {f:Addr}{y:FuncData}(g:G3 K mg "apart_from" (top 18) cJ f y) (B:Bl mg):Cal P w K mg base 1 "apart_from" (top 18) cJ Kq:=by
 refine⟨f,y,g,?_⟩;refine fn3 g.fn mD (fun ts H Q h=>?_) (fun L A v s H E ts H3 Q G h=>?_)
 ·obtain⟨W,t,rfl,_⟩:=h;rfl
 have c:=Room.u30 G;obtain⟨⟨tk,m,prs,l⟩,t,rfl,O,k⟩:=h;refine⟨_,(aA (aJ (bz rfl (bM (n0:=(au (top 18)).names) (N:=cJ) (N':=["word","one","other","task"]) (nt:=3) (cap:=[1]) rfl rfl (by decide +kernel)) (cH (aK ix3 (v3 0) ak)) (fun R x s H U S=>⟨(cN (n:=3) rfl (aH (aG (i:=0) (show List.Nodup [("word":Str),("one":Str),("other":Str),("task":Str)] by decide +kernel)) (aH (aG (i:=1) (show List.Nodup [("word":Str),("one":Str),("other":Str),("task":Str)] by decide +kernel)) (aH (aG (i:=2) (show List.Nodup [("word":Str),("one":Str),("other":Str),("task":Str)] by decide +kernel)) bZ)))),(iV (PW3.pt (kI (bA (dI c) (v3 0) cu) (iU (bA (dI c) (v3 1) (v3 3)))))),(v3 2)⟩)))),?_⟩;rw[show aO cJ [Wk.enc ⟨tk,m,prs,l⟩,T.str t]=[some (T.tup [T.tup (tk.map tkT),T.tup (m.map orT),T.tup (prs.map prT),T.tup (l.map T.str)]),some (T.str t)] from rfl];have hsz:sizeLine=16777216:=rfl;have I:prs.length<=12:=O.ps;walk_at "";walk_at "c";refine gY prT prs (fun A ys Z H=>H=H3/\ys=((A.filter fun p=>decide (p.1=("apart":Str))&&decide (p.2.1=t)).map (·.2.2)).map T.str/\∃o u r:Option T,Z=[o,u,r,some (.str t)]) ⟨rfl,rfl,none,none,none,rfl⟩ ?_ ?_
 ·rintro ys Z H ⟨rfl,rfl,o,u,r,rfl⟩;refine⟨trivial,?_,fun p M=>Fin3.of Sub3.refl (k p M)⟩;rw[e_,e_];exact L_ (Yx _ _) (by omega)
 rintro A ⟨w,a,b⟩ B ys Z H N e ⟨rfl,rfl,o,u,r,rfl⟩ q;have J:A.length<=12:=by have:=X6 List.length e;simp only[d_,n_] at this;omega
 have V:((A.filter fun p=>decide (p.1=("apart":Str))&&decide (p.2.1=t)).map (·.2.2)).length<=12:=by rw[e_];exact L_ (Yx _ _) J
 refine⟨trivial,?_⟩;have D:Box (w="apart"/\a=t->N (((A.filter fun p=>decide (p.1=("apart":Str))&&decide (p.2.1=t)).map (·.2.2)).map T.str++[T.str b]) [some (.str w),some (.str a),some (.str b),some (.str t)] H):=⟨fun h=>q _ _ _ ⟨rfl,by rw[Zv];simp [h],_,_,_,rfl⟩⟩;have C:Box (¬(w="apart"/\a=t)->N (((A.filter fun p=>decide (p.1=("apart":Str))&&decide (p.2.1=t)).map (·.2.2)).map T.str) [some (.str w),some (.str a),some (.str b),some (.str t)] H):=⟨fun h=>q _ _ _ ⟨rfl,by rw[Zv];simp [h],_,_,_,rfl⟩⟩;generalize ((A.filter fun p=>decide (p.1=("apart":Str))&&decide (p.2.1=t)).map (·.2.2))=F at *;clear q k e;simp only[prT];walk_at "";refine⟨trivial,?_⟩;by_cases d:w="apart"
 ·simp only[d,Zg,if_true];by_cases j:a=t
  ·simp only[j,Zg,if_true];have:=D.out ⟨d,j⟩;rw[d,j] at this;exact⟨by omega,this⟩
  simp only[j,Y8,A_,X8];have:=C.out fun z=>j z.2;rw[d] at this;exact this
 simp only[d,Y8,A_,X8];exact C.out fun z=>d z.1
abbrev iJ:List Str:=["works","beat","many","paper","walk","cases","stands","done","reason"]
theorem sc_is_paper:FnScope iJ ["works","beat","many","paper"] (au (top 35)):=bc
theorem sO {f:Addr}{fd:FuncData}(g:G3 K mg "is_paper" (top 35) ["works","beat","many","paper"] f fd) (B:Bl mg) {d:Addr}(I_Walk:InsC K d ["works","beat","rules","whole"]) (u:MkC P w K mg base d 5 "Walk" ["self","works","beat"] (V4 d)) (j:Cal P w K mg base 2 "are_sorted" (top 34) ["works","paper"] We) (l:Cal P w K mg base 2 "is_done" (top 29) ["walk","done"] (Kl d)) (k:Cal P w K mg base 7 "is_reason" (top 33) ["walk","many","cases","stands","done","reason"] (Wd w d)):Cal P w K mg base 8 "is_paper" (top 35) ["works","beat","many","paper"] Wf:=by
 refine⟨f,fd,g,?_⟩;refine fn3 g.fn sc_is_paper (fun ts H Q h=>?_) (fun cdv A outer s H E ts H3 Q R h=>?_)
 ·obtain⟨W,beat,many,m,rfl,_⟩:=h;rfl
 have S:=Room.u30 R;obtain⟨W,beat,many,m,rfl,hW,hb,hm,c8,D,kk⟩:=h;refine⟨_,(ao (aF (i:=4) sc_is_paper.nd (Hm u (R.mono (by decide)) rfl (aa (v3 0) (aa (v3 1) aj))))
   (ao (aF (i:=5) sc_is_paper.nd (bH (BX (w:=w) rfl (u40 R) rfl) rfl B.dict_ Ig (aa (bz rfl (bM (n0:=(au (top 35)).names) (N:=iJ) (N':=["stands","done","reason"]) (nt:=3) (cap:=[]) rfl rfl (by decide +kernel)) (cH (v3 3)) (fun cl pins s H C0 fp=>⟨(cN (n:=3) rfl (aH (aG (i:=0) (show List.Nodup [("stands":Str),("done":Str),("reason":Str)] by decide +kernel)) (aH (aG (i:=1) (show List.Nodup [("stands":Str),("done":Str),("reason":Str)] by decide +kernel)) (aH (aG (i:=2) (show List.Nodup [("stands":Str),("done":Str),("reason":Str)] by decide +kernel)) bZ)))),bQ,(bj (aa (bj (aa (v3 0) (aa (v3 1) aj))) (aa cT aj)))⟩)) aj)))
   (ao (bK (PW3.pt (qC (uK (w:=w) rfl S (bj (aa ak (aa (bj aj) aj))) (v3 5)) (kE (fG (cM (aM j R rfl (aa (v3 0) (aa (v3 3) aj)))))))) (aA (aJ cT)) aU)
   (ao (cg S_ rfl (cH (v3 3)) (cN (n:=3) rfl (aH (aG (i:=6) sc_is_paper.nd) (aH (aG (i:=7) sc_is_paper.nd) (aH (aG (i:=8) sc_is_paper.nd) bZ)))) (ao (bK (PW3.pt (qC (fG (zL vZ vZ ak (v3 6) (v3 2))) (kE (fG (cM (aM l R rfl (aa (v3 4) (aa (v3 7) aj)))))))) (aA (aJ cT)) aU)
    (aA (bK (fG (cM (aM k R rfl (aa (v3 4) (aa (v3 2) (aa (v3 5) (aa (v3 6) (aa (v3 7) (aa (v3 8) aj))))))))) (aA (aJ cT)) aU))))
   (aA (aJ cT)))))),?_⟩
 rw[show aO iJ [W.enc,T.int beat,T.int (many:Int),T.tup (m.map csT)]=[some (W.enc),some (T.int beat),some (T.int (many:Int)),some (T.tup (m.map csT)),none,none,none,none,none] from rfl];have hsz:sizeLine=16777216:=rfl;have M:=Box.mk kk;clear kk;refine aB fun R0 hR0=>?_;walk_at "";intro a ha;refine⟨a,W,beat,rfl,hW,aq,fun H4 kp hw=>⟨rfl,?_⟩⟩;have sb:Sub3 H3 H4:=fun b o e=>kp b o (bf e ha) (by rw[aD (bf e ha)];exact e);clear kp ha;walk_at "n";refine aB fun R1 hR1=>?_;walk_at "";have cl:m.length<=2:=by
  rcases D with z | ⟨c,z⟩
  ·omega
  rw[z];exact o_ 2
 walk_at "c";refine gY csT m (fun A ys Z H=>∃x F I:Option T,Z=[x,F,I]/\H=H4/\ys=A.map fun c=>T.tup [.tup [.int c.1,.tup (c.2.1.map T.str)],.bl true]) ⟨_,_,_,rfl,rfl,rfl⟩ ?_ ?_;rotate_left
 ·rintro A c B ys Z H N e ⟨x,F,I,rfl,rfl,rfl⟩ hN;refine⟨trivial,?_⟩;have hA:A.length<2:=by have:=X6 List.length e;simp only[d_,n_] at this;omega
  have L:Box (∀x F I,N ((A.map fun c=>T.tup [.tup [.int c.1,.tup (c.2.1.map T.str)],.bl true])++[.tup [.tup [.int c.1,.tup (c.2.1.map T.str)],.bl true]]) [x,F,I] H):=⟨fun x F I=>hN _ _ _ ⟨x,F,I,rfl,rfl,by rw[H_];rfl⟩⟩;clear hN e M;simp only[csT,sT];walk_at "";exact⟨trivial,by decide,by decide,by omega,L.out _ _ _⟩
 rintro ys Z H ⟨x,F,I,rfl,rfl,rfl⟩;refine⟨trivial,by rw[e_];omega,fun p hp=>?_⟩;rw[rE (fun c:Cse=>(c.1,c.2.1)) (fun _=>T.bl true) m,dX];intro p1 J;have s1:Sub3 H (up3 H p (.lst (m.map fun c=>T.tup [.tup [.int c.1,.tup (c.2.1.map T.str)],.bl true]))):=Sub3.new hp;generalize up3 H p (.lst (m.map fun c=>T.tup [.tup [.int c.1,.tup (c.2.1.map T.str)],.bl true]))=H5 at s1 J ⊢;generalize v:mgN [] (m.map fun c:Cse=>((c.1,c.2.1),T.bl true))=kvs;have g1:up3 H5 p1 (.dcn w kvs) p1=some (.dcn w kvs):=aq;have s2:Sub3 H5 (up3 H5 p1 (.dcn w kvs)):=Sub3.new J;have O:=hw.sub (s1.trans s2);have V:=sb.trans (s1.trans s2);generalize up3 H5 p1 (.dcn w kvs)=H6 at g1 s2 O V ⊢;clear s1 s2 hp J sb hw;walk_at "n";refine aB fun R2 X=>?_;have e00:T.tup [T.int 0,T.tup []]=T.tup [T.int 0,T.tup (([]:List Str).map T.str)]:=rfl;walk_at "";refine⟨by decide,by decide,?_⟩;have y:∀c:Cse,cA (0,[]) [((c.1,c.2.1),T.bl true)]=if (c.1,c.2.1)=((0,[]):NK) then some (T.bl true) else none:=fun c=>rfl
 cases q:cA (0,[]) kvs with
 |none =>
  rw[if_pos (show (!(none:Option T).isSome)=true from rfl)];have G:=M.out;have e:ipB W beat many m=false:=by
   rcases D with z | ⟨c,z⟩
   ·match m,z,v with
    |[],_,_=>rfl
    |[c],_,v =>
     have C:kvs=[((c.1,c.2.1),T.bl true)]:=v.symm
     rw[C,y] at q
     show (decide ((c.1,c.2.1)=((0,[]):NK))&&rsB W beat many [((c.1,c.2.1),.bl true)] c.2.2)=false
     by_cases h:(c.1,c.2.1)=((0,[]):NK)
     ·
      rw[if_pos h] at q;cases q
     ·
      rw[u_ h];rfl
   rw[z];rfl
  rw[e] at G;exact Fin3.of V G
 |some t =>
 rw[if_neg (show ¬(!(some t).isSome)=true from t_)];rcases D with z | ⟨c,z⟩
 ·match m,z,v,M,c8,X with
  |[],_,v,_,_,_ =>
   have C:kvs=[]:=v.symm
   rw[C] at q
   cases q
  |[c],_,v,M,c8,X =>
   have C:kvs=[((c.1,c.2.1),T.bl true)]:=v.symm
   have hk:(c.1,c.2.1)=((0,[]):NK):=by
    rw[C,y] at q
    by_cases h:(c.1,c.2.1)=((0,[]):NK)
    ·
     exact h
    ·
     rw[if_neg h] at q;cases q
   refine⟨W,[c],rfl,hW,c8,.inl ⟨o_ 1,?_⟩⟩
   have G:Q (.bl (decide ((c.1,c.2.1)=((0,[]):NK))&&rsB W beat many [((c.1,c.2.1),.bl true)] c.2.2)) H3:=M.out
   rw[D_ hk,Zh] at G
   rw[<- C] at G
   obtain⟨c1,c2,r⟩:=c
   obtain⟨rfl,rfl⟩:=Prod.mk.inj hk
   have k3:=Box.mk G
   clear M G v C q hk y e00 c8
   try dsimp only
   rw[fH]
   simp only[Yv,A_,X8]
   walk_at "n"
   refine aB fun R3 hR3=>?_
   walk_at ""
   refine bR csT [((0,[],r):Cse)] (fun A Z H=>∃v6 v7 U:Option T,Z=[some W.enc,some (.int beat),some (.int (many:Int)),some (.tup [csT (0,[],r)]),some (.ref a),some (.ref p1),v6,v7,U]/\H=H6/\(A≠[]->rsB W beat many kvs r=true)) ⟨_,_,_,rfl,rfl,fun z=>absurd rfl z⟩ ?_ ?_
   ·
    rintro Z H ⟨v6,v7,U,rfl,rfl,hA⟩
    refine⟨trivial,?_⟩
    walk_at "n"
    walk_at ""
    have Y:=k3.out
    rw[hA (by simp)] at Y
    exact Fin3.of V Y
   ·
    rintro A c B Z H N e ⟨v6,v7,U,rfl,rfl,hA⟩ hN
    refine⟨trivial,?_⟩
    have ec:c=((0,[],r):Cse):=by
     have:c∈[((0,[],r):Cse)]:=by rw[e];simp
     exact m_.mp this
    subst ec
    have L:=Box.mk fun v6 v7 U (z:rsB W beat many kvs r=true)=>hN _ H ⟨v6,v7,U,rfl,rfl,fun _=>z⟩
    clear hN e hA hR3
    simp only[csT,sT,Yz]
    walk_at ""
    refine⟨trivial,?_⟩
    rw[if_pos (by decide),if_neg (by simp)]
    refine⟨a,W,beat,rfl,hW,O,?_⟩
    try dsimp only
    rw[fH]
    simp only[Yv,A_,X8]
    refine⟨a,p1,W,beat,many,kvs,r,rfl,hW,O,hb,hm,g1,?_⟩
    try dsimp only
    rw[fH]
    have Y:=k3.out
    cases er:rsB W beat many kvs r with
    |true =>
     rw[if_neg (by decide)]
     exact L.out _ _ _ er
    |false =>
     rw[if_pos (by decide)]
     rw[er] at Y
     exact Fin3.of V Y
 subst z;refine⟨W,[c,c],rfl,hW,c8,.inr ⟨c,rfl,?_⟩⟩;exact Fin3.of V M.out
abbrev dY:List Str:=["works","paper","places"]
theorem sc_are_sorted:FnScope dY ["works","paper"] (au (top 34)):=bc
theorem mG {f:Addr}{U:FuncData}(g:G3 K mg "are_sorted" (top 34) ["works","paper"] f U) (B:Bl mg) (a:Cal P w K mg base 1 "number_of" (top 15) ["works","tasks"] lJ):Cal P w K mg base 2 "are_sorted" (top 34) ["works","paper"] We:=by
 refine⟨f,U,g,?_⟩;refine fn3 g.fn sc_are_sorted (fun ts H Q h=>?_) (fun cdv A F s H E ts H3 Q O h=>?_)
 ·obtain⟨W,b,rfl,_⟩:=h;rfl
 have m:=Room.u30 O;obtain⟨W,b,rfl,hW,c8,V⟩:=h;refine⟨_,(ao (vV (i:=2) rfl sc_are_sorted.nd (bM (n0:=(au (top 34)).names) (N:=dY) (N':=["stands","done","reason","works"]) (nt:=3) (cap:=[0]) rfl rfl (by decide +kernel)) (cH (v3 1)) (fun M u s H C0 fp=>⟨(cN (n:=3) rfl (aH (aG (i:=0) (show List.Nodup [("stands":Str),("done":Str),("reason":Str),("works":Str)] by decide +kernel)) (aH (aG (i:=1) (show List.Nodup [("stands":Str),("done":Str),("reason":Str),("works":Str)] by decide +kernel)) (aH (aG (i:=2) (show List.Nodup [("stands":Str),("done":Str),("reason":Str),("works":Str)] by decide +kernel)) bZ)))),bQ,(bj (aa (v3 0) (aa (aM a O rfl (aa (v3 3) (aa (v3 1) aj))) aj)))⟩))
   (aA (aJ (aN (um rfl) rfl B.all_ uh (aa (bz rfl (bM (n0:=(au (top 34)).names) (N:=dY) (N':=["one","other"]) (nt:=2) (cap:=[]) rfl rfl (by decide +kernel)) (wK rfl B.zip_ (aa (v3 2) (aa (gC (v3 2) (du ak) dJ) aj))) (fun M u s H C0 fp=>⟨(cN (n:=2) rfl (aH (aG (i:=0) (show List.Nodup [("one":Str),("other":Str)] by decide +kernel)) (aH (aG (i:=1) (show List.Nodup [("one":Str),("other":Str)] by decide +kernel)) bZ))),bQ,(dO (Px m) (v3 0) (v3 1))⟩)) aj))))),?_⟩
 rw[show aO dY [W.enc,T.tup (b.map csT)]=[some (W.enc),some (T.tup (b.map csT)),none] from rfl];have hsz:sizeLine=16777216:=rfl;have C:=Box.mk V;clear V;refine aB fun R0 hR0=>?_;walk_at "";have M:b.length<=2:=by
  rcases C.out with ⟨z,_⟩ | ⟨c,z,_⟩
  ·omega
  rw[z];exact o_ 2
 walk_at "c";refine gY csT b (fun A ys Z H=>∃d k j:Option T,Z=[d,k,j,some W.enc]/\H=H3/\ys=A.map (plT W)) ⟨_,_,_,rfl,rfl,rfl⟩ ?_ ?_;rotate_left
 ·rintro A c B ys Z H N e ⟨d,k,j,rfl,rfl,rfl⟩ S;refine⟨trivial,?_⟩;have hA:A.length<2:=by have:=X6 List.length e;simp only[d_,n_] at this;omega
  have G:Box (∀d k j,N (A.map (plT W)++[plT W c]) [d,k,j,some W.enc] H):=⟨fun d k j=>S _ _ _ ⟨d,k,j,rfl,rfl,by rw[H_];rfl⟩⟩;clear S e C;simp only[csT];walk_at "";refine⟨trivial,W,_,c.2.1,rfl,hW,.inl rfl,?_⟩;exact⟨by decide,by omega,G.out _ _ _⟩
 rintro ys Z H ⟨d,k,j,rfl,rfl,rfl⟩;refine⟨trivial,by rw[e_];omega,fun p hp=>?_⟩;have x:up3 H p (.lst (b.map (plT W))) p=some (.lst (b.map (plT W))):=aq;have Y:Sub3 H (up3 H p (.lst (b.map (plT W)))):=Sub3.new hp;generalize up3 H p (.lst (b.map (plT W)))=D at x Y ⊢;walk_at "n";walk_at "";intro p1 v;have I:p≠p1:=bf x v;obtain⟨L,eL,y⟩:∃L:List (Cse × Cse),eN (b.map (plT W)) (dm (b.map (plT W)) (some 1) none)=L.map (fun q=>.tup [plT W q.1,plT W q.2])/\((L=[]/\Q (.bl true) H)\/((∃c,L=[(c,c)])/\Q (.bl false) H)):=by
  rcases C.out with ⟨z,q⟩ | ⟨c,z,q⟩
  ·match b,z with
   |[],_=>exact⟨[],rfl,.inl ⟨rfl,q⟩⟩
   |[c],_=>exact⟨[],rfl,.inl ⟨rfl,q⟩⟩
  subst z;exact⟨[(c,c)],rfl,.inr ⟨⟨c,rfl⟩,q⟩⟩
 rw[aD I,x,J9,eL];have X:up3 D p1 (.lst (dm (b.map (plT W)) (some 1) none)) p=some (.lst (b.map (plT W))):=by rw[aD I];exact x
 have J:up3 D p1 (.lst (dm (b.map (plT W)) (some 1) none)) p1=some (.lst (dm (b.map (plT W)) (some 1) none)):=aq;have l:=Y.trans (Sub3.new (o:=.lst (dm (b.map (plT W)) (some 1) none)) v);generalize up3 D p1 (.lst (dm (b.map (plT W)) (some 1) none))=H5 at X J l ⊢;walk_at "c";refine jE (fun q:Cse × Cse=>plT W q.1) (fun q=>plT W q.2) (fun q=>T.bl false) L [] ⟨.inl X,.inl J⟩ ?_ (fun q R Q' r=>?_) (fun p2 t=>?_)
 ·rcases y with ⟨rfl,_⟩ | ⟨⟨c,rfl⟩,_⟩
  ·exact X3 _
  show 1<=sizeLine;decide
 ·have e:q.1=q.2:=by
   rcases y with ⟨rfl,_⟩ | ⟨⟨c,rfl⟩,_⟩
   ·cases R
   rw[m_.mp R]
  rw[e];simp only[plT];have h2:=Box.mk r;clear r C y;walk_at "";simpa using h2.out
 rcases y with ⟨rfl,q⟩ | ⟨⟨c,rfl⟩,q⟩
 ·exact Fin3.of (l.trans (Sub3.new t)) q
 exact Fin3.of (l.trans (Sub3.new t)) q
abbrev dM:List Str:=["walk","many","cases","stands","done","reason"]
theorem pX:FnScope dM dM (au (top 33)):=bc
theorem pY {f:Addr}{u:FuncData}(g:G3 K mg "is_reason" (top 33) dM f u) (B:Bl mg) {b:Addr}(l:InsC K b ["works","beat","rules","whole"]) (i:Cal P w K mg base 4 "is_left" (top 30) ["walk","left","done","length"] (Wa b)) (d:Cal P w K mg base 1 "is_less" (top 31) ["cases","stands","done","other"] (Wb w)) (e:Cal P w K mg base 6 "is_ways" (top 32) ["walk","cases","stands","done","others"] (Wc b)):Cal P w K mg base 7 "is_reason" (top 33) dM (Wd w b):=by
 refine⟨f,u,g,?_⟩;refine fn3 g.fn pX (fun ts H Q h=>?_) (fun z A o s H E ts H3 Q m h=>?_)
 ·obtain⟨a,c,W,beat,many,kvs,r,rfl,_⟩:=h;rfl
 have j:=Room.u30 m;obtain⟨a,c,W,beat,many,kvs,r,rfl,q,t,y,D,x,v⟩:=h;refine⟨_,(ao (bK (bA (dI j) (aK ix3 (v3 5) ak) cu) (aA (aJ (aM i m rfl (aa (v3 0) (aa (aC iy (v3 1) (v3 3)) (aa (v3 4) (aa (aK ix3 (v3 5) ak) aj))))))) aU)
   (ao (bK (bA (dI j) (aK ix3 (v3 5) ak) cu) (aA (aJ (aM d m rfl (aa (v3 2) (aa (v3 3) (aa (v3 4) (aa (aK ix3 (v3 5) ak) aj))))))) aU)
   (aA (aJ (oM (dO S6 (v3 3) (v3 1)) (oK (aM e m rfl (aa (v3 0) (aa (v3 2) (aa (v3 3) (aa (v3 4) (aa (aK ix3 (v3 5) ak) aj)))))))))))),?_⟩
 rw[show aO dM [T.ref a,T.int (many:Int),T.ref c,T.int 0,T.tup [],rsT r]=[some (T.ref a),some (T.int (many:Int)),some (T.ref c),some (T.int 0),some (T.tup []),some (rsT r)] from rfl];have hsz:sizeLine=16777216:=rfl;have p:=Box.mk v;clear v;cases r with
 |left n =>
  have C:=q.r8
  simp only[rsT]
  walk_at ""
  refine⟨a,W,beat,(many:Int) - 0,n,rfl,q,t,by omega,by omega,?_⟩
  have k:=p.out
  rw[show (many:Int) - 0=(many:Int) by omega]
  exact Fin3.of Sub3.refl k
 |less O=>simp only[rsT];walk_at "";rw[if_neg (by decide +kernel)];refine⟨c,kvs,0,[],O,rfl,x,by decide,?_⟩;have k:=p.out;unfold rsB at k;rw[List.all_nil,aaz];exact Fin3.of Sub3.refl k
 |ways =>
 simp only[rsT];walk_at "";rw[if_neg (by decide +kernel),if_neg (by decide +kernel)];have k:Fin3 Q (.bl false) H3:=Fin3.of Sub3.refl p.out;split
 ·exact⟨a,c,W,beat,rfl,q,t,y,k⟩
 exact k
abbrev d9:List Str:=["walk","cases","stands","done","others"]
theorem vh:FnScope d9 d9 (au (top 32)):=bc
theorem vm {f:Addr}{n:FuncData}(g:G3 K mg "is_ways" (top 32) d9 f n) (B:Bl mg) {d:Addr}(j:InsC K d ["works","beat","rules","whole"]) (b:Cal P w K mg base 5 "dones_behind" (top 28) ["walk","stand","done"] (V9 d)):Cal P w K mg base 6 "is_ways" (top 32) d9 (Wc d):=by
 refine⟨f,n,g,?_⟩;refine fn3 g.fn vh (fun ts H Q h=>?_) (fun t A k s H E ts H3 Q o h=>?_)
 ·obtain⟨a,c,W,beat,rfl,_⟩:=h;rfl
 have e:=Room.u30 o;obtain⟨a,c,W,beat,rfl,q,r,x,p⟩:=h;refine⟨_,(ao (bK (bA (qI e) (v3 4) (aM b o rfl (aa (v3 0) (aa (v3 2) (aa (v3 3) aj))))) (aA (aJ cT)) aU)
   (aA (aJ (aN (um rfl) rfl B.all_ uh (aa (bz rfl (bM (n0:=(au (top 32)).names) (N:=d9) (N':=["other","cases","stands"]) (nt:=1) (cap:=[1,2]) rfl rfl (by decide +kernel)) (cH (v3 4)) (fun C m s H D y=>⟨(aG (i:=0) (show List.Nodup [("other":Str),("cases":Str),("stands":Str)] by decide +kernel)),bQ,(wG (w:=w) rfl e (bj (aa (aC aY (v3 2) ak) (aa (v3 0) aj))) (v3 1))⟩)) aj))))),?_⟩
 rw[show aO d9 [T.ref a,T.ref c,T.int 0,T.tup [],T.tup []]=[some (T.ref a),some (T.ref c),some (T.int 0),some (T.tup []),some (T.tup [])] from rfl];have hsz:sizeLine=16777216:=rfl;have u:=Box.mk p;clear p;walk_at "";refine⟨a,W,beat,rfl,q,r,x,fun l v=>?_⟩;try dsimp only
 rw[Ag];refine⟨rfl,Qw l,?_⟩;rw[u_ (fun z=>v (Ze.mp z.symm)),fH];exact Fin3.of Sub3.refl u.out
abbrev eE:List Str:=["cases","stands","done","other"]
theorem vo:FnScope eE eE (au (top 31)):=bc
theorem vp {f:Addr}{u:FuncData}(g:G3 K mg "is_less" (top 31) eE f u) (B:Bl mg):Cal P w K mg base 1 "is_less" (top 31) eE (Wb w):=by
 refine⟨f,u,g,?_⟩;refine fn3 g.fn vo (fun ts H Q h=>?_) (fun F A l s H E ts H3 Q q h=>?_)
 ·obtain⟨c,kvs,st,D,O,rfl,_⟩:=h;rfl
 have a:=Room.u30 q;have d:=Room.u31 q;obtain⟨c,kvs,st,D,O,rfl,J,I,y⟩:=h;refine⟨_,(aA (aJ (oM (wG (w:=w) rfl a (bj (aa (v3 1) (aa (v3 3) aj))) (v3 0)) (oM (dO (qI a) (v3 3) (v3 2)) (oK (aN (um rfl) rfl B.all_ uh (aa (bz rfl (bM (n0:=(au (top 31)).names) (N:=eE) (N':=["task","other"]) (nt:=1) (cap:=[3]) rfl rfl (by decide +kernel)) (cH (v3 2)) (fun L o s H R M=>⟨(aG (i:=0) (show List.Nodup [("task":Str),("other":Str)] by decide +kernel)),bQ,(dO (m5 d) (v3 0) (v3 1) rfl)⟩)) aj))))))),?_⟩;rw[show aO eE [T.ref c,T.int st,sT D,sT O]=[some (T.ref c),some (T.int st),some (sT D),some (sT O)] from rfl];have hsz:sizeLine=16777216:=rfl;have v:=Box.mk y;clear y;walk_at "";refine⟨by decide,?_⟩;simp only[sT];walk_at "";have b:=v.out;clear v;cases m:cA (st,O) kvs with
 |none=>rw[m] at b;rw[if_neg (by decide)];exact Fin3.of Sub3.refl b
 |some t =>
 rw[m] at b;rw[if_pos (by rfl)];refine⟨eZ _,eZ _,?_⟩;have e:(O.map T.str=D.map T.str)↔O=D:=⟨fun z=>List.map_inj_right (fun _ _ z=>jb z) |>.mp z,fun z=>by rw[z]⟩;by_cases j:O=D
 ·rw[if_neg (by rw[D_ (e.mpr j)];decide)];rw[D_ j] at b;exact Fin3.of Sub3.refl b
 rw[if_pos (by rw[u_ (fun z=>j (e.mp z))];rfl)];rw[u_ j] at b;walk_at "c";have n:Box (Q (.bl (D.all fun x=>decide (x∈O))) H3):=⟨b⟩;clear b;refine bL T.str (fun x=>T.bl (decide (x∈O))) D [some (.tup (O.map T.str))] trivial (by omega) (fun x W S r=>?_) (fun p G=>?_)
 ·have k:=Box.mk r;clear r n;have U:=eZ O;have V:pl 20 (T.str x)=true:=rfl;walk_at "";rw[V1];exact⟨trivial,trivial,k.out⟩
 have C:bF (D.map fun x=>T.bl (decide (x∈O)))=some (D.map fun x=>decide (x∈O)):=by rw[<- iD,Yo];rfl
 rw[C,dX,List.all_map];exact Fin3.of (Sub3.new G) n.out
abbrev fV:List Str:=["walk","left","done","length"]
theorem vz:FnScope fV fV (au (top 30)):=bc
theorem vA {f:Addr}{o:FuncData}(g:G3 K mg "is_left" (top 30) fV f o) (B:Bl mg) {c:Addr}(d:InsC K c ["works","beat","rules","whole"]) (b:Cal P w K mg base 3 "length_left" (top 27) ["walk","done"] (V8 c)):Cal P w K mg base 4 "is_left" (top 30) fV (Wa c):=by
 refine⟨f,o,g,?_⟩;refine fn3 g.fn vz (fun ts H Q h=>?_) (fun t A k s H E ts H3 Q l h=>?_)
 ·obtain⟨a,W,beat,left,n,rfl,_⟩:=h;rfl
 have i:=Room.u30 l;obtain⟨a,W,beat,left,n,rfl,v,m,x,D,q⟩:=h;refine⟨_,(aA (aJ (oM (dO (dI i) (v3 3) (aM b l rfl (aa (v3 0) (aa (v3 2) aj)))) (oK (dO JF (v3 3) (aC cF (dw d (v3 0)) (v3 1))))))),?_⟩;rw[show aO fV [T.ref a,T.int left,T.tup [],T.int n]=[some (T.ref a),some (T.int left),some (T.tup []),some (T.int n)] from rfl];have hsz:sizeLine=16777216:=rfl;have u:=Box.mk q;clear q;obtain⟨p,y,z⟩:=m.ex;have C:=wX (W:=W) (beat:=beat) (p:=p);walk_at "";refine⟨a,W,beat,rfl,v,m,?_⟩;have r:CMul beat left:=.inr ⟨by omega,by omega⟩;walk_at "";have j:=u.out;by_cases e:n=bV W
 ·rw[if_pos (D_ e)];rw[D_ e,Zh] at j;exact⟨by first | trivial | exact r,Fin3.of Sub3.refl j⟩
 rw[if_neg (by simpa using e)];rw[u_ e,Zm] at j;exact Fin3.of Sub3.refl j
abbrev nQ:List Str:=["walk","done","number","own","length","kinds","group","ahead","apart"]
theorem sc_is_done:FnScope nQ ["walk","done"] (au (top 29)):=bc
theorem vB {f:Addr}{I:FuncData}(g:G3 K mg "is_done" (top 29) ["walk","done"] f I) (B:Bl mg) {k:Addr}(d:InsC K k ["works","beat","rules","whole"]) (c:Cal P w K mg base 1 "number_of" (top 15) ["works","tasks"] lJ) (j:Cal P w K mg base 1 "tasks_of" (top 16) ["works","number"] Ef) (b:Cal P w K mg base 1 "has_all" (top 20) ["number","part"] nP):Cal P w K mg base 2 "is_done" (top 29) ["walk","done"] (Kl k):=by
 refine⟨f,I,g,?_⟩;refine fn3 g.fn sc_is_done (fun ts H Q h=>?_) (fun U A C s H E ts H3 Q o h=>?_)
 ·obtain⟨a,W,beat,rfl,_⟩:=h;rfl
 have l:=Room.u30 o;obtain⟨a,W,beat,rfl,M,S,L⟩:=h;refine⟨_,(ao (aF (i:=2) sc_is_done.nd (aM c o rfl (aa (dw d (v3 0)) (aa (v3 1) aj))))
   (ao (bK (bA (qI l) (aM j o rfl (aa (dw d (v3 0)) (aa (v3 2) aj))) (v3 1)) (aA (aJ cT)) aU)
   (ao (cg S_ rfl (cI (dw d (v3 0))) (cN (n:=6) rfl (aH (aG (i:=3) sc_is_done.nd) (aH (aG (i:=4) sc_is_done.nd) (aH (aG (i:=5) sc_is_done.nd) (aH (aG (i:=6) sc_is_done.nd) (aH (aG (i:=7) sc_is_done.nd) (aH (aG (i:=8) sc_is_done.nd) bZ))))))) (aA (bK (PW3.pt (kI (cM (aM b o rfl (aa (v3 2) (aa (v3 3) aj)))) (iU (fG (cM (aM b o rfl (aa (v3 2) (aa (aC JV (v3 6) (v3 7)) aj)))))))) (aA (aJ cT)) aU)))
   (aA (aJ cT))))),?_⟩
 rw[show aO nQ [T.ref a,T.tup []]=[some (T.ref a),some (T.tup []),none,none,none,none,none,none,none] from rfl];have hsz:sizeLine=16777216:=rfl;have J:=Box.mk L;clear L;obtain⟨p,g1,F⟩:=S.ex;have f1:=jh (W:=W) (beat:=beat) (p:=p);have f3:=lD (W:=W) (beat:=beat) (p:=p);refine aB fun Y R=>?_;walk_at "";refine⟨W,_,[],rfl,M,.inl rfl,?_⟩;rw[j4];walk_at "n";refine aB fun R1 O=>?_;walk_at "";refine⟨W,0,rfl,M,by decide,Int.pow_pos (by decide),?_⟩;have V:sT (pick (W.tasks.map (·.1)) 0)=.tup []:=by have:=pL W;unfold pk nm at this;rw[show ((0:Nat):Int)=0 from rfl] at this;rw[this];rfl
 try dsimp only
 rw[V,Ag];refine⟨rfl,rfl,?_⟩;rw[D_ rfl,fH];rw[if_neg (by decide)];walk_at "n";refine aB fun R2 y=>?_;walk_at "";refine bR (ruT W (W.tasks.map (·.1))) W.tasks (fun A Z H=>∃v3 v q u r m:Option T,Z=[some (.ref a),some (.tup []),some (.int 0),v3,v,q,u,r,m]/\H=H3) ⟨_,_,_,_,_,_,rfl,rfl⟩ ?_ ?_
 ·rintro Z H ⟨v3,v,q,u,r,m,rfl,rfl⟩;refine⟨.inl F,?_⟩;walk_at "n";walk_at "";exact Fin3.of Sub3.refl J.out
 rintro A t B Z H N e ⟨v3,v,q,u,r,m,rfl,rfl⟩ G;refine⟨.inl F,?_⟩;have x:t.1∈W.tasks.map (·.1):=y_.mpr ⟨t,by rw[e];simp,rfl⟩;have X:decide (Builtin.bitAnd 0 (numOf (W.tasks.map (·.1)) [t.1])=numOf (W.tasks.map (·.1)) [t.1])=false:=by have:=j0 (A:=[]) x;rw[j4] at this;exact u_ fun z=>nomatch this.mp z
 have D:=Box.mk fun v3 v q u r m=>G _ H ⟨v3,v,q,u,r,m,rfl,rfl⟩;clear G e y J;simp only[ruT];walk_at "";refine⟨trivial,_,_,rfl,?_⟩;rw[X];exact D.out _ _ _ _ _ _
abbrev eQ:List Str:=["walk","stand","done","number"]
theorem sc_dones_behind:FnScope eQ ["walk","stand","done"] (au (top 28)):=bc
theorem jQ {f:Addr}{R:FuncData}(g:G3 K mg "dones_behind" (top 28) ["walk","stand","done"] f R) (B:Bl mg) {b:Addr}(j:InsC K b ["works","beat","rules","whole"]) (d:Cal P w K mg base 1 "number_of" (top 15) ["works","tasks"] lJ) (e:Cal P w K mg base 1 "tasks_of" (top 16) ["works","number"] Ef) (c:MtC P w K mg base b 4 "greatest_at" ["self","stand","done"] (V7 b)):Cal P w K mg base 5 "dones_behind" (top 28) ["walk","stand","done"] (V9 b):=by
 refine⟨f,R,g,?_⟩;refine fn3 g.fn sc_dones_behind (fun ts H Q h=>?_) (fun cdv A J s H E ts H3 Q F h=>?_)
 ·obtain⟨a,W,beat,rfl,_⟩:=h;rfl
 obtain⟨a,W,beat,rfl,v,O,X,U⟩:=h;refine⟨_,(ao (aF (i:=3) sc_dones_behind.nd (aM d F rfl (aa (dw j (v3 0)) (aa (v3 2) aj))))
   (aA (aJ (bH cU rfl B.tuple_ cV (aa (bz rfl (bM (n0:=(au (top 28)).names) (N:=eQ) (N':=["filling","walk","number"]) (nt:=1) (cap:=[0,3]) rfl rfl (by decide +kernel)) (cI (pA c (F.mono (by decide)) (v3 0) (aa (v3 1) (aa (v3 3) aj)))) (fun cl M s H C0 fp=>⟨(aG (i:=0) (show List.Nodup [("filling":Str),("walk":Str),("number":Str)] by decide +kernel)),bQ,(aM e F rfl (aa (dw j (v3 1)) (aa (aC aY (v3 2) (v3 0)) aj)))⟩)) aj))))),?_⟩
 rw[show aO eQ [T.ref a,T.int 0,T.tup []]=[some (T.ref a),some (T.int 0),some (T.tup []),none] from rfl];have hsz:sizeLine=16777216:=rfl;have S:=Box.mk U;clear U;obtain⟨p,L,g2⟩:=O.ex;have f1:=jh (W:=W) (beat:=beat) (p:=p);have Z:=Dh (W:=W) (beat:=beat) (p:=p) (m:="greatest_at") (by decide +kernel);refine aB fun R0 Y=>?_;walk_at "";refine⟨W,_,[],rfl,v,.inl rfl,?_⟩;rw[j4];walk_at "n";have gl:(gfl W beat 0 0).length<=256:=by have h1:=pQ bu (fls W beat 0 0);have h2:(fls W beat 0 0).length<=256:=L_ (Yx _ _) (by rw[K_];exact pM v);unfold gfl;rw[Yw];omega
 have t:=QK (W:=W) (k:=0) X;walk_at "";refine⟨by first | trivial | exact Z,a,W,beat,0,0,rfl,v,O,v.r1,gO W,fun n r=>?_⟩;have D:a≠n:=bf L r;have g3:up3 H3 n (.lst ((gfl W beat 0 0).map bU)) a=some (.ins b (wkF W beat p)):=by rw[aD D];exact L
 have I:up3 H3 n (.lst ((gfl W beat 0 0).map bU)) n=some (.lst ((gfl W beat 0 0).map bU)):=aq;have V:Sub3 H3 (up3 H3 n (.lst ((gfl W beat 0 0).map bU))):=Sub3.new r;generalize up3 H3 n (.lst ((gfl W beat 0 0).map bU))=H4 at g3 I V ⊢;try dsimp only
 rw[Aj,I,qM];walk_at "c";have o:∀f∈gfl W beat 0 0,f<top2 W:=fun f G=>(fls_mem.mp (pN G)).1;have l:=Box.mk t;clear t;generalize gfl W beat 0 0=y at *;refine bL bU (fun f=>sT (pk W f)) y [some (.ref a),some (.int 0)] (.inl I) (by omega) (fun f G Q' x=>?_) (fun q x=>?_)
 ·have u:=o f G;have C:=Box.mk x;clear x o S l;simp only[bU];walk_at "";refine⟨W,(f:Int),by simp,v,by omega,by unfold top2 at u;exact_mod_cast u,C.out⟩
 rw[show (y.map fun f=>sT (pk W f))=(y.map (pk W)).map sT by rw[Yo];rfl];exact Fin3.of (V.trans (Sub3.new x)) (S.out (y.map (pk W)) fun z=>l.out (Ze.mp z))
abbrev cX:List Str:=["walk","done"]
theorem lM:FnScope cX cX (au (top 27)):=bc
theorem lN {f:Addr}{l:FuncData}(g:G3 K mg "length_left" (top 27) cX f l) (B:Bl mg) {b:Addr}(e:InsC K b ["works","beat","rules","whole"]) (c:Cal P w K mg base 1 "number_of" (top 15) ["works","tasks"] lJ) (d:MtC P w K mg base b 2 "load_at" ["self","number"] (Kh b)):Cal P w K mg base 3 "length_left" (top 27) cX (V8 b):=by
 refine⟨f,l,g,?_⟩;refine fn3 g.fn lM (fun ts H Q h=>?_) (fun q A j s H E ts H3 Q n h=>?_)
 ·obtain⟨a,W,beat,rfl,_⟩:=h;rfl
 obtain⟨a,W,beat,rfl,i,k,o⟩:=h;refine⟨_,(aA (aJ (pA d (n.mono (by decide)) (v3 0) (aa (aC iy (dw e (v3 0)) (aM c n rfl (aa (dw e (v3 0)) (aa (v3 1) aj)))) aj)))),?_⟩;rw[show aO cX [T.ref a,T.tup []]=[some (T.ref a),some (T.tup [])] from rfl];have hsz:sizeLine=16777216:=rfl;have r:=Box.mk o;clear o;obtain⟨p,x,t⟩:=k.ex;have v:=jh (W:=W) (beat:=beat) (p:=p);have y:=rT (W:=W) (beat:=beat) (p:=p);have z:=Dh (W:=W) (beat:=beat) (p:=p) (m:="load_at") (by decide +kernel);walk_at "";refine⟨trivial,W,_,[],rfl,i,.inl rfl,?_⟩;rw[j4];have u:=gO W;refine⟨a,W,beat,top2 W - 1,by show [T.ref a,T.int ((top2 W:Int) - 1 - 0)]=_;rw[show (top2 W:Int) - 1 - 0=((top2 W - 1:Nat):Int) by omega],i,k,by omega,?_⟩;rw[Dq i];exact Fin3.of Sub3.refl r.out
abbrev cD:List Str:=["self","stand","done"]
theorem lO:FnScope cD cD (au (topm 25 2)):=bc
theorem lQ {f:Addr}{z:FuncData}{c:Addr}(g:GM K c "greatest_at" "Walk.greatest_at" (topm 25 2) cD f z) (B:Bl mg) (r:InsC K c ["works","beat","rules","whole"]) (i:Cal P w K mg base 2 "greatest_numbers" (top 22) ["numbers"] V6) (j:MtC P w K mg base c 3 "fillings_at" cD (V5 c)):MtC P w K mg base c 4 "greatest_at" cD (V7 c):=by
 refine⟨g.cls,f,z,g.mt,g.b,?_⟩;refine fn3 g.fn lO (fun ts H Q h=>?_) (fun M A u s H E ts H3 Q x h=>?_)
 ·obtain⟨a,W,beat,k,d,rfl,_⟩:=h;rfl
 obtain⟨a,W,beat,k,d,rfl,D,y,I,F,C⟩:=h;refine⟨_,(aA (aJ (aM i x rfl (aa (pA j (x.mono (by decide)) (v3 0) (aa (v3 1) (aa (v3 2) aj))) aj)))),?_⟩;rw[show aO cD [T.ref a,T.int (k:Int),T.int (d:Int)]=[some (T.ref a),some (T.int (k:Int)),some (T.int (d:Int))] from rfl];have hsz:sizeLine=16777216:=rfl;have O:=Box.mk C;clear C;have L:=pM D;obtain⟨G,R,_⟩:=y.ex;have J:=Dh (W:=W) (beat:=beat) (p:=G) (m:="fillings_at") (by decide +kernel);walk_at "";refine⟨by first | trivial | exact J,a,W,beat,k,d,rfl,D,y,I,F,fun v t=>?_⟩;have n:(fls W beat k d).length<=256:=L_ (Yx _ _) (by rw[K_];exact L);refine⟨v,fls W beat k d,rfl,aq,n,fun p N=>?_⟩;have l:Sub3 H3 (up3 H3 v (.lst ((fls W beat k d).map bU))):=Sub3.new t;refine Fin3.of ?_ (O.out p (dz l N));intro b o q;by_cases e:b=p
 ·subst e;rw[aq] at q ⊢;exact q
 rw[aD e] at q ⊢;exact l b o q
abbrev di:List Str:=["numbers","greatest","number"]
theorem sc_greatest_numbers:FnScope di ["numbers"] (au (top 22)):=bc
theorem ig {f:Addr}{fd:FuncData}(g:G3 K mg "greatest_numbers" (top 22) ["numbers"] f fd) (B:Bl mg) (c:Cal P w K mg base 1 "has_all" (top 20) ["number","part"] nP):Cal P w K mg base 2 "greatest_numbers" (top 22) ["numbers"] V6:=by
 refine⟨f,fd,g,?_⟩;refine fn3 g.fn sc_greatest_numbers (fun ts H Q h=>?_) (fun cdv A R s H E ts H3 Q hr h=>?_)
 ·obtain⟨a,fs,rfl,_⟩:=h;rfl
 obtain⟨a,fs,rfl,M,hl,k⟩:=h;refine⟨_,(ao (aF (i:=1) sc_greatest_numbers.nd (bh aj))
   (ao (cg S_ rfl (Oe rfl B.reversed_ (v3 0)) (aG (i:=2) sc_greatest_numbers.nd) (aA (bK (fG (cM (aN (N6 rfl) rfl B.any_ Mr (aa (bz rfl (bM (n0:=(au (top 22)).names) (N:=di) (N':=["other","number"]) (nt:=1) (cap:=[2]) rfl rfl (by decide +kernel)) (cI (v3 1)) (fun cl W s H C0 fp=>⟨(aG (i:=0) (show List.Nodup [("other":Str),("number":Str)] by decide +kernel)),bQ,(aM c hr rfl (aa (v3 0) (aa (v3 1) aj)))⟩)) aj)))) (aA (cz (eV P_ T_ U_ bI (v3 1) (aa (v3 2) aj)))) aU)))
   (aA (aJ (Bo rfl rfl B.list_ rfl B.reversed_ (v3 1)))))),?_⟩
 rw[show aO di [T.ref a]=[some (T.ref a),none,none] from rfl];have hsz:sizeLine=16777216:=rfl;refine aB fun R0 hR0=>?_;walk_at "";refine⟨by omega,fun F C=>?_⟩;walk_at "n";have l:Sub3 H3 (up3 H3 F (.lst [])):=Sub3.new C;have J:up3 H3 F (.lst []) F=some (.lst ((gre bu []).map bU)):=aq;generalize up3 H3 F (.lst [])=H1 at l J;try dsimp only
 refine aB fun R1 O=>?_;have V:=l _ _ M;walk_at "";rw[<- aah];refine bR bU fs.reverse (fun A Z H=>∃(q:Addr) (v:Option T),Z=[some (.ref a),some (.ref q),v]/\Sub3 H3 H/\H3 q=none/\H q=some (.lst ((gre bu A.reverse).map bU))) ⟨F,none,rfl,l,C,J⟩ ?_ ?_
 ·rintro Z H ⟨q,v,rfl,y,d,D⟩;refine⟨.inl (y _ _ M),?_⟩;walk_at "n";rw[List.reverse_reverse] at D;clear J V;walk_at "";intro p hp;have S:H3 p=none:=by
   cases e:H3 p with
   |none=>rfl
   |some o=>rw[y _ _ e] at hp;cases hp
  rw[<- aah];refine Fin3.of ?_ (k p S);intro b o j;by_cases e:b=p
  ·subst e;rw[aq] at j ⊢;exact j
  rw[aD e] at j ⊢;exact y b o j
 rintro A n B Z H N e ⟨q,v,rfl,y,d,D⟩ Y;refine⟨.inl (y _ _ M),?_⟩;have hA:A.length+1<=256:=by have:=X6 List.length e;simp only[d_,n_,Yw] at this;omega
 have t:=Box.mk Y;have x:gre bu (A++[n]).reverse=if (gre bu A.reverse).any (fun g=>bu g n) then gre bu A.reverse else gre bu A.reverse++[n]:=by rw[List.reverse_append];rfl
 have gl:=pQ bu A.reverse;rw[Yw] at gl;clear Y e k O J V;generalize gre bu A.reverse=G at *;walk_at "";walk_at "c";refine bL bU (fun g=>T.bl (bu g n)) G [some (bU n)] (.inl D) (by omega) (fun g hg Q' L=>?_) (fun I m=>?_)
 ·clear t;walk_at "";exact⟨(g:Int),(n:Int),rfl,L⟩
 have z:q≠I:=bf D m;have U:(G.map fun g=>T.bl (bu g n))=(G.map fun g=>bu g n).map T.bl:=by rw[Yo];rfl
 have X:up3 H I (.lst ((G.map fun g=>bu g n).map T.bl)) q=some (.lst (G.map bU)):=by rw[aD z];exact D
 have r:Sub3 H3 (up3 H I (.lst ((G.map fun g=>bu g n).map T.bl))):=y.trans (Sub3.new m);rw[U,iD,dX];generalize up3 H I (.lst ((G.map fun g=>bu g n).map T.bl))=H5 at X r;have ea:(G.map fun g=>bu g n).any id=G.any fun g=>bu g n:=by rw[List.any_map];rfl
 rw[ea];cases j:G.any fun g=>bu g n
 ·rw[j] at x;simp only[A_,X8] at x;clear ea U m z;simp only[Zx,if_true];walk_at "";refine⟨⟨trivial,trivial⟩,by omega,t.out _ _ ⟨q,_,rfl,?_,d,?_⟩⟩
  ·intro b o u;by_cases e:b=q
   ·subst e;rw[d] at u;cases u
   rw[aD e];exact r b o u
  rw[aq,x,H_];rfl
 rw[j] at x;simp only[if_true] at x;simp only[Yv,A_,X8];exact t.out _ _ ⟨q,_,rfl,r,d,by rw[x];exact X⟩
abbrev lR:List Str:=["self","works","beat"]
theorem Jk:FnScope lR lR (au (topm 25 0)):=bc
theorem Jl {f:Addr}{fd:FuncData}{c:Addr}(g:GI K mg c "Walk" "Walk.__init__" (topm 25 0) lR f fd) (B:Bl mg) (d:InsC K c ["works","beat","rules","whole"]) (l:Cal P w K mg base 4 "rules_of" (top 19) ["works"] Kr) (i:Cal P w K mg base 1 "number_of" (top 15) ["works","tasks"] lJ) (j:Cal P w K mg base 1 "names_of" (top 13) ["tasks"] V2):MkC P w K mg base c 5 "Walk" lR (V4 c):=by
 refine⟨g.at_,f,fd,g.mk_,g.b,?_⟩;refine fn3 g.fn Jk (fun ts H Q h=>?_) (fun cdv A U s H E ts H3 Q O h=>?_)
 ·obtain⟨a,W,beat,rfl,_⟩:=h;rfl
 obtain⟨a,W,beat,rfl,N,ha,k⟩:=h;refine⟨_,(ao (ph d (v3 0) (v3 1))
   (ao (ph d (v3 0) (v3 2))
   (ao (ph d (v3 0) (aM l O rfl (aa (v3 1) aj)))
   (aA (ph d (v3 0) (aM i O rfl (aa (v3 1) (aa (aM j O rfl (aa (aK ix3 (v3 1) ak) aj)) aj)))))))),?_⟩
 rw[show aO lR [T.ref a,W.enc,T.int beat]=[some (T.ref a),some (W.enc),some (T.int beat)] from rfl];have hsz:sizeLine=16777216:=rfl;have k':=Box.mk k;clear k;refine aB fun R0 hR0=>?_;walk_at "";have Y:up3 H3 a (.ins c (dB "works" W.enc [])) a=some (.ins c [("works",W.enc)]):=aq;refine⟨by decide,?_⟩;have v:∀b o,b≠a->H3 b=some o->up3 H3 a (.ins c (dB "works" W.enc [])) b=some o:=fun b o m e=>by rw[aD m];exact e
 generalize up3 H3 a (.ins c (dB "works" W.enc []))=M at Y v ⊢;walk_at "n";refine aB fun R1 hR1=>?_;walk_at "";refine⟨by decide,?_⟩;have u:dB "beat" (T.int beat) [("works",W.enc)]=[(("works":Str),W.enc),(("beat":Str),.int beat)]:=by unfold dB;rw[if_neg (by decide +kernel)];rfl
 rw[u];have I:up3 M a (.ins c [("works",W.enc),("beat",.int beat)]) a=some (.ins c [("works",W.enc),("beat",.int beat)]):=aq;have r:∀b o,b≠a->H3 b=some o->up3 M a (.ins c [("works",W.enc),("beat",.int beat)]) b=some o:=fun b o m e=>by rw[aD m];exact v b o m e
 generalize up3 M a (.ins c [("works",W.enc),("beat",.int beat)])=F at I r ⊢;clear Y v u;walk_at "n";refine aB fun R2 hR2=>?_;walk_at "";refine⟨W,rfl,N,fun p V=>?_⟩;have t:a≠p:=bf I V;have g3:up3 F p (.lst (W.tasks.map (ruT W (W.tasks.map (·.1))))) p=some (.lst (W.tasks.map (ruT W (W.tasks.map (·.1))))):=aq;have Z:up3 F p (.lst (W.tasks.map (ruT W (W.tasks.map (·.1))))) a=some (.ins c [("works",W.enc),("beat",.int beat)]):=by rw[aD t];exact I
 have y:∀b o,b≠a->H3 b=some o->up3 F p (.lst (W.tasks.map (ruT W (W.tasks.map (·.1))))) b=some o:=fun b o m e=>by rw[aD (bf (r b o m e) V)];exact r b o m e
 generalize up3 F p (.lst (W.tasks.map (ruT W (W.tasks.map (·.1)))))=D at g3 Z y ⊢;clear I r V;walk_at "";refine⟨by decide,?_⟩;have u:dB "rules" (T.ref p) [("works",W.enc),("beat",.int beat)]=[(("works":Str),W.enc),(("beat":Str),.int beat),(("rules":Str),.ref p)]:=by unfold dB;rw[if_neg (by decide +kernel)];unfold dB;rw[if_neg (by decide +kernel)];rfl
 rw[u];have L:up3 D a (.ins c [("works",W.enc),("beat",.int beat),("rules",.ref p)]) a=some (.ins c [("works",W.enc),("beat",.int beat),("rules",.ref p)]):=aq;have C:up3 D a (.ins c [("works",W.enc),("beat",.int beat),("rules",.ref p)]) p=some (.lst (W.tasks.map (ruT W (W.tasks.map (·.1))))):=by rw[aD (Ne.symm t)];exact g3
 have n:∀b o,b≠a->H3 b=some o->up3 D a (.ins c [("works",W.enc),("beat",.int beat),("rules",.ref p)]) b=some o:=fun b o m e=>by rw[aD m];exact y b o m e
 generalize up3 D a (.ins c [("works",W.enc),("beat",.int beat),("rules",.ref p)])=J at L C n ⊢;clear g3 Z y u;walk_at "n";walk_at "";refine⟨W.tasks,rfl,N.t8,fun q G=>?_⟩;have R:a≠q:=bf L G;have S:p≠q:=bf C G;try dsimp only
 refine⟨W,_,W.tasks.map (·.1),rfl,N,.inr ⟨q,rfl,aq⟩,?_⟩;have ew:numOf (W.tasks.map (·.1)) (W.tasks.map (·.1))=(top2 W:Int) - 1:=by have h1:=jx (W:=W) (A:=nm W) fun x hx=>hx;have h2:=gO W;rw[bT];show ((bB (nm W) (nm W):Nat):Int)=_;rw[h1];omega
 rw[ew];have g7:up3 J q (.lst ((W.tasks.map (·.1)).map T.str)) a=some (.ins c [("works",W.enc),("beat",.int beat),("rules",.ref p)]):=by rw[aD R];exact L
 have X:up3 J q (.lst ((W.tasks.map (·.1)).map T.str)) p=some (.lst (W.tasks.map (ruT W (W.tasks.map (·.1))))):=by rw[aD S];exact C
 have z:∀b o,b≠a->H3 b=some o->up3 J q (.lst ((W.tasks.map (·.1)).map T.str)) b=some o:=fun b o m e=>by rw[aD (bf (n b o m e) G)];exact n b o m e
 generalize up3 J q (.lst ((W.tasks.map (·.1)).map T.str))=H8 at g7 X z ⊢;clear L C n G;walk_at "";refine⟨by decide,?_⟩;have u:dB "whole" (T.int ((top2 W:Int) - 1)) [("works",W.enc),("beat",.int beat),("rules",.ref p)]=wkF W beat p:=by unfold dB;rw[if_neg (by decide +kernel)];unfold dB;rw[if_neg (by decide +kernel)];unfold dB;rw[if_neg (by decide +kernel)];rfl
 rw[u];exact Fin3.of Sub3.refl (k'.out _ (fun b o m e=>by rw[aD m];exact z b o m e) ⟨p,aq,by rw[aD (Ne.symm t)];exact X⟩)
abbrev fJ:List Str:=["self","stand","done","kind","left"]
theorem sc_fillings_at:FnScope fJ ["self","stand","done"] (au (topm 25 1)):=bc
theorem lU {f:Addr}{Y:FuncData}{l:Addr}(g:GM K l "fillings_at" "Walk.fillings_at" (topm 25 1) ["self","stand","done"] f Y) (B:Bl mg) (j:InsC K l ["works","beat","rules","whole"]) (m:Cal P w K mg base 2 "parts_of" (top 24) ["number"] Kg) (c:Cal P w K mg base 2 "is_filling_number" (top 21) ["rules","beat","kind","done","number"] Ks):MtC P w K mg base l 3 "fillings_at" ["self","stand","done"] (V5 l):=by
 refine⟨g.cls,f,Y,g.mt,g.b,?_⟩;refine fn3 g.fn sc_fillings_at (fun ts H Q h=>?_) (fun cdv A L s H E ts H3 Q V h=>?_)
 ·obtain⟨a,W,beat,k,d,rfl,_⟩:=h;rfl
 obtain⟨a,W,beat,k,d,rfl,y,hw,hk,R,kk⟩:=h;refine⟨_,(ao (bK (bA S7 (v3 1) (aN cP rfl B.len_ cR (aa (aK ix3 (dw j (v3 0)) ak) aj))) (aA (aJ (bh aj))) aU)
   (ao (aF (i:=3) sc_fillings_at.nd (aK ix3 (aK ix3 (dw j (v3 0)) ak) (v3 1)))
   (ao (aF (i:=4) sc_fillings_at.nd (aM m V rfl (aa (aC iy (dw j (v3 0)) (v3 2)) aj)))
   (aA (aJ (bz rfl (bM (n0:=(au (topm 25 1)).names) (N:=fJ) (N':=["number","kind","done","self"]) (nt:=1) (cap:=[3,2,0]) rfl rfl (by decide +kernel)) (cI (v3 4)) (fun cl U s H C0 fp=>⟨(aG (i:=0) (show List.Nodup [("number":Str),("kind":Str),("done":Str),("self":Str)] by decide +kernel)),(iV (cM (aM c V rfl (aa (dw j (v3 3)) (aa (dw j (v3 3)) (aa (v3 1) (aa (v3 2) (aa (v3 0) aj)))))))),(v3 0)⟩))))))),?_⟩
 rw[show aO fJ [T.ref a,T.int (k:Int),T.int (d:Int)]=[some (T.ref a),some (T.int (k:Int)),some (T.int (d:Int)),none,none] from rfl];have hsz:sizeLine=16777216:=rfl;have Z:=Box.mk kk;clear kk;have t2:=pM y;have t1:=gO W;obtain⟨p,G,J⟩:=hw.ex;have f1:=jh (W:=W) (beat:=beat) (p:=p);have f2:=wX (W:=W) (beat:=beat) (p:=p);have f3:=lD (W:=W) (beat:=beat) (p:=p);have f4:=rT (W:=W) (beat:=beat) (p:=p);have x1:=QH hk;have I:=Box.mk G;have O:=Box.mk J;generalize wkF W beat p=fs at *;refine aB fun R0 hR0=>?_;walk_at "";rw[u_ (by omega),if_neg t_];walk_at "n";refine aB fun R1 hR1=>?_;walk_at "";walk_at "n";refine aB fun R2 hR2=>?_;walk_at "";refine⟨top2 W - 1 - d,by rw[show ((top2 W - 1 - d:Nat):Int)=(top2 W:Int) - 1 - (d:Int) by omega],by omega,fun pl r=>?_⟩;have n1:a≠pl:=bf G r;have n2:p≠pl:=bf J r;have u:=yF (W:=W) (beat:=beat) (k:=k) y R;have S:(rQ (top2 W - 1 - d)).length<=256:=by unfold rQ;exact L_ (Yx _ _) (by rw[K_];omega)
 have x:∀i∈rQ (top2 W - 1 - d),i<top2 W:=fun i C=>by have:=X7.mp (E_.mp C).1;omega
 generalize rQ (top2 W - 1 - d)=ps at *;have n:Sub3 H3 (up3 H3 pl (.lst (ps.map bU))):=Sub3.new r;have h1:=n _ _ I.out;have X:=n _ _ O.out;have h3:up3 H3 pl (.lst (ps.map bU)) pl=some (.lst (ps.map bU)):=aq;generalize up3 H3 pl (.lst (ps.map bU))=H4 at n h1 X h3 ⊢;clear G J x1 f1 f4 n1 n2 r;walk_at "n";have z:=Box.mk x;have v:=Box.mk u;clear x u;walk_at "";walk_at "c";refine gb (still:=aX pl (ps.map bU)) (H:=H4) bU bU (fil W beat k d) ps [some (.str (W.row.getD k "")),some (.int (d:Int)),some (.ref a)] (.inl h3) (by omega) ?c1 ?c2 ?c3
 case c2=>exact fun i C _ Q' t=>t
 case c1 =>
  intro i C Q' t
  have M:=z.out i C
  have F:=Box.mk t
  clear Z t
  simp only[bU]
  walk_at ""
  refine⟨W,p,beat,W.row.getD k "",pk W d,pk W i,?_,y,X,?_⟩
  ·
   rw[QJ y R,QJ y M]
  ·
   exact F.out
 case c3 =>
  intro q t
  rw[v.out]
  refine Fin3.of ?_ (Z.out q (dz n t))
  intro b o D
  by_cases e:b=q
  ·
   subst e;rw[aq] at D ⊢;exact D
  ·
   rw[aD e] at D ⊢;exact n b o D
abbrev eF:List Str:=["self","number"]
theorem vC:FnScope eF eF (au (topm 25 3)):=bc
theorem vD {f:Addr}{u:FuncData}{c:Addr}(g:GM K c "load_at" "Walk.load_at" (topm 25 3) eF f u) (B:Bl mg) (j:InsC K c ["works","beat","rules","whole"]) (d:Cal P w K mg base 1 "has_all" (top 20) ["number","part"] nP):MtC P w K mg base c 2 "load_at" eF (Kh c):=by
 refine⟨g.cls,f,u,g.mt,g.b,?_⟩;refine fn3 g.fn vC (fun ts H Q h=>?_) (fun G A m s H E ts H3 Q C h=>?_)
 ·obtain⟨a,W,beat,i,rfl,_⟩:=h;rfl
 obtain⟨a,W,beat,i,rfl,x,F,y,v⟩:=h;refine⟨_,(aA (aJ (aN (uf rfl) rfl B.sum_ ug (aa (bz rfl (bM (n0:=(au (topm 25 3)).names) (N:=eF) (N':=["rule","number"]) (nt:=1) (cap:=[1]) rfl rfl (by decide +kernel)) (cI (dw j (v3 0))) (fun L r s H S R=>⟨(aG (i:=0) (show List.Nodup [("rule":Str),("number":Str)] by decide +kernel)),(iV (cM (aM d C rfl (aa (v3 1) (aa (aK ix3 (v3 0) ak) aj))))),(aK ix3 (v3 0) ak)⟩)) aj)))),?_⟩;rw[show aO eF [T.ref a,T.int (i:Int)]=[some (T.ref a),some (T.int (i:Int))] from rfl];have hsz:sizeLine=16777216:=rfl;have n:=Box.mk v;clear v;have U:W.tasks.length<=8:=x.t8;obtain⟨p,O,D⟩:=F.ex;have M:=lD (W:=W) (beat:=beat) (p:=p);generalize wkF W beat p=V at *;walk_at "";walk_at "c";refine gb (still:=aX p (W.tasks.map (ruT W (W.tasks.map (·.1))))) (H:=H3) (ruT W (W.tasks.map (·.1))) (fun t=>T.int t.2.1) (fun t=>decide (t.1∈pk W i)) W.tasks [some (.int (i:Int))] (.inl D) (by omega) ?c1 ?c2 ?c3
 case c1 =>
  intro t o I k
  have z:t.1∈W.tasks.map (·.1):=y_.mpr ⟨t,o,rfl⟩
  have J:decide (Builtin.bitAnd (i:Int) (numOf (W.tasks.map (·.1)) [t.1])=numOf (W.tasks.map (·.1)) [t.1])=decide (t.1∈pk W i):=by
   rw[<- QJ x y,W_,p_,p_]
   exact j0 z
  have l:=Box.mk k
  clear n k
  simp only[ruT]
  walk_at ""
  refine⟨_,_,rfl,?_⟩
  rw[J]
  exact l.out
 case c2 =>
  intro t o _ I k
  clear n
  simp only[ruT]
  walk_at ""
  try exact k
 case c3 =>
  intro q k
  have e:ints3 ((W.tasks.filter fun t=>decide (t.1∈pk W i)).map fun t=>T.int t.2.1)=some ((W.tasks.filter fun t=>decide (t.1∈pk W i)).map (·.2.1)):=by
   rw[<- fL,Yo];rfl
  rw[e,dX]
  exact Fin3.of (Sub3.new k) n.out
abbrev iK:List Str:=["number","parts","worth"]
theorem sc_parts_of:FnScope iK ["number"] (au (top 24)):=bc
theorem sS {f:Addr}{fd:FuncData}(g:G3 K mg "parts_of" (top 24) ["number"] f fd) (B:Bl mg) (c:Cal P w K mg base 1 "has_all" (top 20) ["number","part"] nP):Cal P w K mg base 2 "parts_of" (top 24) ["number"] Kg:=by
 refine⟨f,fd,g,?_⟩;refine fn3 g.fn sc_parts_of (fun ts H Q h=>?_) (fun cdv A outer s H E ts H3 Q hr h=>?_)
 ·obtain⟨N,rfl,_⟩:=h;rfl
 obtain⟨N,rfl,hN,k⟩:=h;refine⟨_,(ao (aF (i:=1) sc_parts_of.nd (bh (aa ak aj)))
   (ao (aF (i:=2) sc_parts_of.nd ak)
   (ao (kJ S_ (bA vZ (v3 2) (v3 0)) (ao (bK (cM (aM c hr rfl (aa (v3 0) (aa (v3 2) aj)))) (aA (aF (i:=1) sc_parts_of.nd (aC aY (v3 1) (bz rfl (bM (n0:=(au (top 24)).names) (N:=iK) (N':=["part","worth"]) (nt:=1) (cap:=[2]) rfl rfl (by decide +kernel)) (cI (v3 1)) (fun cl pins s H C0 fp=>⟨(aG (i:=0) (show List.Nodup [("part":Str),("worth":Str)] by decide +kernel)),bQ,(aC aY (v3 0) (v3 1))⟩))))) aU)
    (aA (aF (i:=2) sc_parts_of.nd (aC cF (v3 2) ak)))))
   (aA (aJ (v3 1)))))),?_⟩
 rw[show aO iK [T.int (N:Int)]=[some (T.int (N:Int)),none,none] from rfl];have hsz:sizeLine=16777216:=rfl;have k':=Box.mk k;clear k;refine aB fun R0 hR0=>?_;walk_at "";refine⟨by decide,fun M I=>?_⟩;have v:Sub3 H3 (up3 H3 M (.lst [T.int 0])):=Sub3.new I;have W:up3 H3 M (.lst [T.int 0]) M=some (.lst (((List.range (2^0)).filter (bu N)).map bU)):=by
  have h0:bu N 0=true:=by rw[fP];exact Nat.and_zero N
  rw[aq,show (List.range (2^0))=[0] from rfl,Zi,h0];rfl
 generalize up3 H3 M (.lst [T.int 0])=H4 at v W ⊢;walk_at "n";refine aB fun R1 hR1=>?_;walk_at "";walk_at "n";refine aB fun R2 Y=>?_;refine⟨fun m Z H=>∃(j:Nat) (q:Addr),Z=[some (.int (N:Int)),some (.ref q),some (.int ((2^j:Nat):Int))]/\Sub3 H3 H/\H3 q=none/\H q=some (.lst (((List.range (2^j)).filter (bu N)).map bU))/\m=512 - 2^j/\(∀i,i+1=j->2^i<=N),⟨_,0,M,rfl,v,I,W,rfl,(fun i h=>by omega)⟩,?_⟩;rintro m Z H ⟨j,q,rfl,R,O,t,rfl,hj⟩;have hj9:2^j<=256:=by
  cases j with
  |zero=>decide
  |succ i =>
   have h1:=hj i rfl
   have h2:i<8:=by
    rcases aax i 8 with z | z
    ·
     exact z
    ·
     have:=Nat.pow_le_pow_right (n:=2) (by decide) z
     omega
   exact L_ (Nat.pow_le_pow_right (by decide) (show i+1<=8 by omega)) (by decide)
 have hp:=Nat.pow_pos (n:=j) (show 0<2 by decide);walk_at "";by_cases C:2^j<=N
 ·have d:decide (((2^j:Nat):Int)<=(N:Int))=true:=D_ (Int.ofNat_le.mpr C);rw[d,if_pos rfl];have hlen:(((List.range (2^j)).filter (bu N))).length<=256:=L_ (Yx _ _) (by rw[K_];exact hj9);have l:=Dg (N:=N) (k:=j);have e2:((2^j:Nat):Int)*2=((2^(j+1):Nat):Int):=by rw[Nat.pow_succ];push_cast;rfl
  have cm:CMul ((2^j:Nat):Int) 2:=.inl ⟨by omega,by omega⟩;have J:2^(j+1)=2^j*2:=by rw[Nat.pow_succ]
  have y:Box (∀(F:Addr) (G:Hp3),Sub3 H3 G->H3 F=none->G F=some (.lst (((List.range (2^(j+1))).filter (bu N)).map bU))->∃m',m'<512 - 2^j/\∃(U:Nat) (q:Addr),([some (.int (N:Int)),some (.ref F),some (.int (((2^j:Nat):Int)*2))]:St3)=[some (.int (N:Int)),some (.ref q),some (.int ((2^U:Nat):Int))]/\Sub3 H3 G/\H3 q=none/\G q=some (.lst (((List.range (2^U)).filter (bu N)).map bU))/\m'=512 - 2^U/\(∀i,i+1=U->2^i<=N)):=⟨fun F G s1 s2 s3=>⟨_,by omega,j+1,F,by rw[e2],s1,s2,s3,rfl,fun i hi=>by rw[show i=j by omega];exact C⟩⟩;clear hj Y k' W v e2 d J;generalize (List.range (2^(j+1))).filter (bu N)=nx at *;generalize hcur:(List.range (2^j)).filter (bu N)=a at *;refine⟨(N:Int),((2^j:Nat):Int),rfl,?_⟩;rw[show decide (Builtin.bitAnd (N:Int) ((2^j:Nat):Int)=((2^j:Nat):Int))=bu N (2^j) from rfl];generalize 2^j=p at *;cases u:bu N p with
  |false=>rw[u] at l;simp only[A_,X8,Yd] at l;simp only[fH,A_,X8];rw[<- l] at t;exact⟨by first | trivial | exact cm,y.out q _ R O t⟩
  |true =>
  rw[u] at l;simp only[if_true] at l;try simp only[fH,if_true]
  walk_at "c";rw[t,qM];refine bL bU (fun i=>bU (i+p)) a [some (.int (p:Int))] (.inl t) (by omega) (fun i hi Q' r=>?_) (fun S x=>?_)
  ·simp only[bU] at r ⊢;rw[show ((i+p:Nat):Int)=(i:Int)+(p:Int) by push_cast;rfl] at r;have X:=Box.mk r;clear r y;walk_at "";exact X.out
  have V:q≠S:=bf t x;rw[aD V,t,gD];refine⟨by rw[e_,e_];omega,fun pq D=>?_⟩;have L:Sub3 H3 (up3 (up3 H S (.lst (a.map fun i=>bU (i+p)))) pq (.lst (a.map bU++a.map fun i=>bU (i+p)))):=(R.trans (Sub3.new x)).trans (Sub3.new D);have h30:H3 pq=none:=dz (R.trans (Sub3.new x)) D;have gq:up3 (up3 H S (.lst (a.map fun i=>bU (i+p)))) pq (.lst (a.map bU++a.map fun i=>bU (i+p))) pq=some (.lst (nx.map bU)):=by rw[aq,l,H_,Yo];rfl
  generalize up3 (up3 H S (.lst (a.map fun i=>bU (i+p)))) pq (.lst (a.map bU++a.map fun i=>bU (i+p)))=H5 at L gq ⊢;exact⟨by first | trivial | exact cm,y.out pq _ L h30 gq⟩
 have d:decide (((2^j:Nat):Int)<=(N:Int))=false:=u_ (fun z=>C (Int.ofNat_le.mp z));rw[d,if_neg t_];rw[wW (by omega)] at t;walk_at "n";walk_at "";refine Fin3.of ?_ (k'.out q O);intro b o u;by_cases e:b=q
 ·subst e;rw[aq] at u;rw[t,u]
 rw[aD e] at u;exact R b o u
theorem sU:FnScope ["tasks"] ["tasks"] (au (top 13)):=bc
theorem sV {f:Addr}{d:FuncData}(g:G3 K mg "names_of" (top 13) ["tasks"] f d) (B:Bl mg):Cal P w K mg base 1 "names_of" (top 13) ["tasks"] V2:=by
 refine⟨f,d,g,?_⟩;refine fn3 g.fn sU (fun ts H Q h=>?_) (fun l A a s H E ts H3 Q p h=>?_)
 ·obtain⟨tk,rfl,_⟩:=h;rfl
 obtain⟨tk,rfl,q,k⟩:=h;refine⟨_,(aA (aJ (bz rfl (bM (n0:=(au (top 13)).names) (N:=["tasks"]) (N':=["task"]) (nt:=1) (cap:=[]) rfl rfl (by decide +kernel)) (cH (v3 0)) (fun o c s H u n=>⟨(aG (i:=0) (show List.Nodup [("task":Str)] by decide +kernel)),bQ,(aK ix3 (v3 0) ak)⟩)))),?_⟩;rw[show aO ["tasks"] [T.tup (tk.map tkT)]=[some (T.tup (tk.map tkT))] from rfl];have hsz:sizeLine=16777216:=rfl;have e:=Box.mk k;clear k;walk_at "";walk_at "c";refine bL tkT (fun t=>T.str t.1) tk [] trivial (by omega) (fun t v r m=>?_) (fun j b=>?_)
 ·clear e;simp only[tkT];walk_at "";try exact m
 have:=e.out j b;rw[Yo] at this;exact Fin3.of Sub3.refl this
abbrev lV:List Str:=["works","rules","name","length","kinds","own","group","ahead","apart"]
theorem sc_rules_of:FnScope lV ["works"] (au (top 19)):=bc
theorem sW {f:Addr}{V:FuncData}(g:G3 K mg "rules_of" (top 19) ["works"] f V) (B:Bl mg) (d:Cal P w K mg base 1 "number_of" (top 15) ["works","tasks"] lJ) (j:Cal P w K mg base 1 "apart_from" (top 18) ["works","task"] Kq) (l:Cal P w K mg base 3 "ahead_of" (top 9) ["works","task"] Wx) (m:Cal P w K mg base 3 "group_of" (top 8) ["works","task"] Ww):Cal P w K mg base 4 "rules_of" (top 19) ["works"] Kr:=by
 refine⟨f,V,g,?_⟩;refine fn3 g.fn sc_rules_of (fun ts H Q h=>?_) (fun cdv A O s H E ts H3 Q u h=>?_)
 ·obtain⟨W,rfl,_⟩:=h;rfl
 obtain⟨⟨tk,c,prs,b⟩,rfl,r,k⟩:=h;refine⟨_,(ao (aF (i:=1) sc_rules_of.nd (bh aj))
   (ao (cg S_ rfl (cH (aK ix3 (v3 0) ak)) (cN (n:=3) rfl (aH (aG (i:=2) sc_rules_of.nd) (aH (aG (i:=3) sc_rules_of.nd) (aH (aG (i:=4) sc_rules_of.nd) bZ)))) (ao (aF (i:=5) sc_rules_of.nd (aM d u rfl (aa (v3 0) (aa (bj (aa (v3 2) aj)) aj))))
    (ao (aF (i:=6) sc_rules_of.nd (aM d u rfl (aa (v3 0) (aa (aM m u rfl (aa (v3 0) (aa (v3 2) aj))) aj))))
    (ao (aF (i:=7) sc_rules_of.nd (aM d u rfl (aa (v3 0) (aa (aM l u rfl (aa (v3 0) (aa (v3 2) aj))) aj))))
    (ao (aF (i:=8) sc_rules_of.nd (aM d u rfl (aa (v3 0) (aa (aM j u rfl (aa (v3 0) (aa (v3 2) aj))) aj))))
    (aA (cz (eV P_ T_ U_ bI (v3 1) (aa (bj (aa (v3 5) (aa (v3 3) (aa (v3 4) (aa (v3 6) (aa (v3 7) (aa (v3 8) aj))))))) aj)))))))))
   (aA (aJ (v3 1))))),?_⟩
 rw[show aO lV [Wk.enc ⟨tk,c,prs,b⟩]=[some (T.tup [T.tup (tk.map tkT),T.tup (c.map orT),T.tup (prs.map prT),T.tup (b.map T.str)]),none,none,none,none,none,none,none,none] from rfl];have hsz:sizeLine=16777216:=rfl;have t8:tk.length<=8:=r.t8;walk_at "";refine⟨by omega,fun p R=>?_⟩;refine bR tkT tk (fun A Z H=>∃(J v3 S I M L C:Option T) (t:Hp3),Z=[some (T.tup [T.tup (tk.map tkT),T.tup (c.map orT),T.tup (prs.map prT),T.tup (b.map T.str)]),some (.ref p),J,v3,S,I,M,L,C]/\H=up3 t p (.lst (A.map (ruT ⟨tk,c,prs,b⟩ (tk.map (·.1)))))/\Sub3 H3 t/\H3 p=none) ⟨none,none,none,none,none,none,none,H3,rfl,rfl,Sub3.refl,R⟩ ?_ ?_
 ·rintro Z H ⟨J,v3,S,I,M,L,C,t,rfl,rfl,D,_⟩;refine⟨trivial,?_⟩;walk_at "";refine Fin3.of (fun a o e=>?_) (k p R);by_cases h:a=p
  ·subst h;rw[aq] at e ⊢;exact e
  rw[aD h] at e ⊢;exact D _ _ e
 rintro A ⟨nm,y,ks⟩ B Z H N e ⟨J,v3,S,I,M,L,C,t,rfl,rfl,D,_⟩ U;have X:A.length<=8:=by have:=X6 List.length e;simp only[d_,n_] at this;omega
 refine⟨trivial,?_⟩;have v:Box (∀q,up3 t p (.lst (A.map (ruT ⟨tk,c,prs,b⟩ (tk.map (·.1))))) q=none->N [some (T.tup [T.tup (tk.map tkT),T.tup (c.map orT),T.tup (prs.map prT),T.tup (b.map T.str)]),some (.ref p),some (.str nm),some (.int y),some (sT ks),some (.int (numOf (tk.map (·.1)) [nm])),some (.int (numOf (tk.map (·.1)) (fM ⟨tk,c,prs,b⟩ nm))),some (.int (numOf (tk.map (·.1)) (iH ⟨tk,c,prs,b⟩ nm))),some (.int (numOf (tk.map (·.1)) (je ⟨tk,c,prs,b⟩ nm)))] (up3 (up3 (up3 t p (.lst (A.map (ruT ⟨tk,c,prs,b⟩ (tk.map (·.1)))))) q (.lst ((je ⟨tk,c,prs,b⟩ nm).map T.str))) p (.lst (A.map (ruT ⟨tk,c,prs,b⟩ (tk.map (·.1)))++[ruT ⟨tk,c,prs,b⟩ (tk.map (·.1)) (nm,y,ks)])))):=⟨fun q z=>by
  obtain⟨F,x⟩:=cC z
  refine U _ _ ⟨_,_,_,_,_,_,_,up3 t q (.lst ((je ⟨tk,c,prs,b⟩ nm).map T.str)),rfl,?_,D.trans (Sub3.new x),R⟩
  rw[H_,Ak (Ne.symm F),oG]
  rfl⟩
 have G:(A.map (ruT ⟨tk,c,prs,b⟩ (tk.map (·.1)))).length<=8:=by rw[e_];exact X
 generalize A.map (ruT ⟨tk,c,prs,b⟩ (tk.map (·.1)))=Y at v G;clear U e k X;simp only[tkT];walk_at "";refine⟨trivial,by omega,⟨tk,c,prs,b⟩,_,[nm],rfl,r,.inl rfl,?_⟩;walk_at "";refine⟨⟨tk,c,prs,b⟩,nm,rfl,r,?_⟩;try dsimp only
 refine⟨⟨tk,c,prs,b⟩,_,fM ⟨tk,c,prs,b⟩ nm,rfl,r,.inl rfl,?_⟩;walk_at "";refine⟨⟨tk,c,prs,b⟩,nm,rfl,r,?_⟩;try dsimp only
 refine⟨⟨tk,c,prs,b⟩,_,iH ⟨tk,c,prs,b⟩ nm,rfl,r,.inl rfl,?_⟩;walk_at "";refine⟨⟨tk,c,prs,b⟩,nm,rfl,r,fun q z=>?_⟩;obtain⟨F,x⟩:=cC z;have n1':=Ne.symm F;try dsimp only
 refine⟨⟨tk,c,prs,b⟩,_,je ⟨tk,c,prs,b⟩ nm,rfl,r,.inr ⟨q,rfl,aq⟩,?_⟩;walk_at "";exact⟨⟨trivial,trivial⟩,by omega,by omega,v.out q z⟩
abbrev dW:List Str:=["rules","beat","kind","done","number","load","own","length","kinds","group","ahead","apart"]
theorem sc_is_filling_number:FnScope dW ["rules","beat","kind","done","number"] (au (top 21)):=bc
theorem gR {f:Addr}{fd:FuncData}(g:G3 K mg "is_filling_number" (top 21) ["rules","beat","kind","done","number"] f fd) (B:Bl mg) (b:Cal P w K mg base 1 "has_all" (top 20) ["number","part"] nP) (d:Cal P w K mg base 1 "may_be_done" (top 11) ["kinds","kind"] Kp):Cal P w K mg base 2 "is_filling_number" (top 21) ["rules","beat","kind","done","number"] Ks:=by
 refine⟨f,fd,g,?_⟩;refine fn3 g.fn sc_is_filling_number (fun ts H Q h=>?_) (fun cdv A outer s H E ts H3 Q L h=>?_)
 ·obtain⟨W,a,beat,c,D,S,rfl,_⟩:=h;rfl
 have O:=Room.u30 L;obtain⟨W,a,beat,c,D,S,rfl,hW,ha,k⟩:=h;refine⟨_,(ao (aF (i:=5) sc_is_filling_number.nd ak)
   (ao (cg S_ rfl (cI (v3 0)) (cN (n:=6) rfl (aH (aG (i:=6) sc_is_filling_number.nd) (aH (aG (i:=7) sc_is_filling_number.nd) (aH (aG (i:=8) sc_is_filling_number.nd) (aH (aG (i:=9) sc_is_filling_number.nd) (aH (aG (i:=10) sc_is_filling_number.nd) (aH (aG (i:=11) sc_is_filling_number.nd) bZ))))))) (aA (bK (cM (aM b L rfl (aa (v3 4) (aa (v3 6) aj)))) (ao (bK (PW3.pt (qC (cM (aM b L rfl (aa (v3 3) (aa (v3 6) aj)))) (kE (fG (cM (aM d L rfl (aa (v3 8) (aa (v3 2) aj)))))))) (aA (aJ cT)) aU)
     (ao (bK (PW3.pt (qC (fG (cM (aM b L rfl (aa (v3 4) (aa (v3 9) aj))))) (kE (fG (cM (aM b L rfl (aa (aC JV (v3 4) (v3 3)) (aa (v3 10) aj)))))))) (aA (aJ cT)) aU)
     (ao (bK (bA (qI O) (aC Bd (v3 4) (v3 11)) ak) (aA (aJ cT)) aU)
     (aA (aF (i:=5) sc_is_filling_number.nd (aC aY (v3 5) (v3 7))))))) aU)))
   (aA (aJ (dO vZ (v3 5) (v3 1)))))),?_⟩
 rw[show aO dW [T.ref a,T.int beat,T.str c,T.int (numOf (W.tasks.map (·.1)) D),T.int (numOf (W.tasks.map (·.1)) S)]=[some (T.ref a),some (T.int beat),some (T.str c),some (T.int (numOf (W.tasks.map (·.1)) D)),some (T.int (numOf (W.tasks.map (·.1)) S)),none,none,none,none,none,none,none] from rfl];have hsz:sizeLine=16777216:=rfl;walk_at "";refine bR (ruT W (W.tasks.map (·.1))) W.tasks (fun A Z H=>∃(J I C F m l:Option T),Z=[some (.ref a),some (.int beat),some (.str c),some (.int (numOf (W.tasks.map (·.1)) D)),some (.int (numOf (W.tasks.map (·.1)) S)),some (.int (cL A S)),J,I,C,F,m,l]/\H=H3/\(A.all fun t=>!decide (t.1∈S)||okT W c D S t)=true) ⟨none,none,none,none,none,none,rfl,rfl,rfl⟩ ?_ ?_
 ·rintro Z H ⟨J,I,C,F,m,l,rfl,rfl,o⟩;refine⟨.inl ha,?_⟩;walk_at "";refine Fin3.of Sub3.refl ?_;unfold uU at k;rw[o,Zh] at k;exact k
 rintro A t B Z H N e ⟨J,I,C,F,m,l,rfl,rfl,o⟩ hN;refine⟨.inl ha,?_⟩;have y:t∈W.tasks:=by rw[e];simp
 have G:t.1∈W.tasks.map (·.1):=y_.mpr ⟨t,y,rfl⟩;have r:∀x∈fM W t.1,x∈W.tasks.map (·.1):=fun x j=>(E_.mp j).1;have u:∀x∈iH W t.1,x∈W.tasks.map (·.1):=fun x j=>(E_.mp j).1;have v:∀x∈je W t.1,x∈W.tasks.map (·.1):=fun x j=>by obtain⟨p,hp,rfl⟩:=y_.mp j;exact (hW.pp p (E_.mp hp).1).2.2.2
 have b1:decide (Builtin.bitAnd (numOf (W.tasks.map (·.1)) S) (numOf (W.tasks.map (·.1)) [t.1])=numOf (W.tasks.map (·.1)) [t.1])=decide (t.1∈S):=by rw[W_,p_,p_];exact j0 G
 have b2:decide (Builtin.bitAnd (numOf (W.tasks.map (·.1)) D) (numOf (W.tasks.map (·.1)) [t.1])=numOf (W.tasks.map (·.1)) [t.1])=decide (t.1∈D):=by rw[W_,p_,p_];exact j0 G
 have b3:decide (Builtin.bitAnd (numOf (W.tasks.map (·.1)) S) (numOf (W.tasks.map (·.1)) (fM W t.1))=numOf (W.tasks.map (·.1)) (fM W t.1))=@decide (∀x∈fM W t.1,x∈S) (Classical.propDecidable _):=by rw[W_,p_,@p_ _ (Classical.propDecidable _),fc];exact⟨fun h x j=>h x (r x j) j,fun h x _ j=>h x j⟩
 have b4:decide (Builtin.bitAnd (Builtin.bitOr (numOf (W.tasks.map (·.1)) S) (numOf (W.tasks.map (·.1)) D)) (numOf (W.tasks.map (·.1)) (iH W t.1))=numOf (W.tasks.map (·.1)) (iH W t.1))=@decide (∀x∈iH W t.1,x∈S++D) (Classical.propDecidable _):=by rw[W_,p_,@p_ _ (Classical.propDecidable _),Qg,fc];exact⟨fun h x j=>h x (u x j) j,fun h x _ j=>h x j⟩
 have b5:decide (Builtin.bitAnd (numOf (W.tasks.map (·.1)) S) (numOf (W.tasks.map (·.1)) (je W t.1))=0)=@decide (∀x∈je W t.1,x∉S) (Classical.propDecidable _):=by rw[W_,p_,@p_ _ (Classical.propDecidable _),pG];exact⟨fun h x j hs=>h x (v x j) ⟨hs,j⟩,fun h x _ z=>h x z.2 z.1⟩
 have q:Box (t.1∈S->okT W c D S t=false->Fin3 Q (.bl false) H):=⟨fun h1 h2=>by
  refine Fin3.of Sub3.refl ?_
  have e0:uU W beat c D S=false:=by
   unfold uU
   rw[Bool.and_eq_false_iff]
   refine .inl ?_
   rw[List.all_eq_false]
   exact⟨t,y,by simp [h1,h2]⟩
  rw[e0] at k
  exact k⟩
 have M:Box (∀(J I C F m l:Option T),(t.1∈S->okT W c D S t=true)->N [some (.ref a),some (.int beat),some (.str c),some (.int (numOf (W.tasks.map (·.1)) D)),some (.int (numOf (W.tasks.map (·.1)) S)),some (.int (cL A S+if t.1∈S then t.2.1 else 0)),J,I,C,F,m,l] H):=⟨fun J I C F m l h=>hN _ _ ⟨J,I,C,F,m,l,by rw[uV],rfl,by
  rw[List.all_append,o]
  by_cases z:t.1∈S
  ·
   simp [h z]
  ·
   simp [z]⟩⟩
 clear hN o k e r u v G y;obtain⟨nm,len,ks⟩:=t;dsimp only at *;generalize numOf (W.tasks.map (·.1)) D=nD at *;generalize numOf (W.tasks.map (·.1)) S=U at *;simp only[ruT];generalize numOf (W.tasks.map (·.1)) [nm]=n1 at *;generalize numOf (W.tasks.map (·.1)) (fM W nm)=n2 at *;generalize numOf (W.tasks.map (·.1)) (iH W nm)=n3 at *;generalize numOf (W.tasks.map (·.1)) (je W nm)=n4 at *;unfold okT at q M;dsimp only at q M;generalize R:decide (nm∈D)=c1 at *;generalize Y:@decide (∀x∈fM W nm,x∈S) (Classical.propDecidable _)=c3 at *;generalize V:@decide (∀x∈iH W nm,x∈S++D) (Classical.propDecidable _)=c4 at *;generalize X:@decide (∀x∈je W nm,x∉S) (Classical.propDecidable _)=c5 at *;clear R Y V X;walk_at "";refine⟨trivial,U,n1,rfl,?_⟩;rw[b1];by_cases hS:nm∈S
 ·simp only[hS,Zg,if_true,fH,true_implies] at q M ⊢;refine⟨nD,n1,rfl,?_⟩;rw[b2];cases c1 with
  |true =>
   try simp only[fH,if_true]
   exact q.out (by simp)
  |false =>
  simp only[fH,A_,X8];refine⟨ks,c,rfl,?_⟩;generalize mC ks c=c2 at *;cases c2 with
  |false=>simp only[fH,Zx,if_true];exact q.out (by simp)
  |true =>
  simp only[fH,Yv,A_,X8];refine⟨U,n2,rfl,?_⟩;rw[b3];cases c3 with
  |false=>simp only[fH,Zx,if_true];exact q.out (by simp)
  |true =>
  simp only[fH,Yv,A_,X8];refine⟨Builtin.bitOr U nD,n3,rfl,?_⟩;rw[b4];cases c4 with
  |false=>simp only[fH,Zx,if_true];exact q.out (by simp)
  |true =>
  simp only[fH,Yv,A_,X8];try rw[b5]
  cases c5 with
  |false=>simp only[Zx,if_true];exact q.out (by simp)
  |true =>
  simp only[Yv,A_,X8];exact M.out _ _ _ _ _ _ (by simp)
 simp only[hS,Y8,A_,X8,fH,Int.add_zero,false_implies] at q M ⊢;exact M.out _ _ _ _ _ _ (by first | trivial | simp)
abbrev lW:List Str:=["works","number","tasks","left","task"]
theorem sc_tasks_of:FnScope lW ["works","number"] (au (top 16)):=bc
theorem sX {f:Addr}{D:FuncData}(g:G3 K mg "tasks_of" (top 16) ["works","number"] f D) (B:Bl mg):Cal P w K mg base 1 "tasks_of" (top 16) ["works","number"] Ef:=by
 refine⟨f,D,g,?_⟩;refine fn3 g.fn sc_tasks_of (fun ts H Q h=>?_) (fun J A q s H E ts H3 Q G h=>?_)
 ·obtain⟨W,n,rfl,_⟩:=h;rfl
 have l:=Room.u30 G;obtain⟨⟨tk,c,prs,b⟩,n,rfl,M,n0,O,k⟩:=h;refine⟨_,(ao (aF (i:=2) sc_tasks_of.nd (bh aj))
   (ao (aF (i:=3) sc_tasks_of.nd (v3 1))
   (ao (cg S_ rfl (cH (aK ix3 (v3 0) ak)) (aG (i:=4) sc_tasks_of.nd) (ao (bK (bA (dI l) (aC aR (v3 3) ak) ak) (aA (cz (eV P_ T_ U_ bI (v3 2) (aa (aK ix3 (v3 4) ak) aj)))) aU)
    (aA (aF (i:=3) sc_tasks_of.nd (aC aW (v3 3) ak)))))
   (aA (aJ (bH cU rfl B.tuple_ cV (aa (v3 2) aj))))))),?_⟩
 rw[show aO lW [Wk.enc ⟨tk,c,prs,b⟩,T.int n]=[some (T.tup [T.tup (tk.map tkT),T.tup (c.map orT),T.tup (prs.map prT),T.tup (b.map T.str)]),some (T.int n),none,none,none] from rfl];have hsz:sizeLine=16777216:=rfl;have R:tk.length<=8:=M.t8;walk_at "";refine⟨by omega,fun p L=>?_⟩;refine gW (fun r Z H=>∃(A B:List (Str × Int × List Str)) (v:Option T),tk=A++B/\r=B.map tkT/\H=up3 H3 p (.lst ((pick (A.map (·.1)) n).map T.str))/\Z=[some (T.tup [T.tup (tk.map tkT),T.tup (c.map orT),T.tup (prs.map prT),T.tup (b.map T.str)]),some (.int n),some (.ref p),some (.int (n / 2^A.length)),v]) ⟨[],tk,none,rfl,rfl,rfl,by simp⟩ ?_ ?_
 ·rintro Z H ⟨A,B,v,j,e,rfl,rfl⟩;have I:B=[]:=Ze.mp e.symm;subst I;rw[Yd] at j;subst j;clear e;refine⟨trivial,?_⟩;walk_at "";exact Fin3.of (Sub3.new L) k
 rintro x r Z H N ⟨A,B,v,j,e,rfl,rfl⟩ C;cases B with
 |nil=>cases e
 |cons t B =>
 rw[C_,List.cons.injEq] at e;obtain⟨rfl,rfl⟩:=e;have F:A.length+1<=8:=by have:=X6 List.length j;simp only[d_,n_] at this;omega
 have d:=rJ (A.map (·.1)) [t.1] n;simp only[pick,e_] at d;have o:=wV (A.map (·.1)) n;rw[e_] at o;have m:n / 2^A.length / 2=n / 2^(A++[t]).length:=by rw[d_,J_,aaw,Int.ediv_ediv_of_nonneg (Int.le_of_lt (Int.pow_pos (by decide)))]
 have a:∀v,N [some (T.tup [T.tup (tk.map tkT),T.tup (c.map orT),T.tup (prs.map prT),T.tup (b.map T.str)]),some (.int n),some (.ref p),some (.int (n / 2^A.length / 2)),v] (up3 H3 p (.lst ((pick (A.map (·.1)++[t.1]) n).map T.str))):=fun v=>by rw[m];exact C _ _ ⟨A++[t],B,v,by rw[j];simp,rfl,by simp,rfl⟩
 rw[d] at a;replace a:=Box.mk a;obtain⟨nm,u,ks⟩:=t;refine⟨trivial,?_⟩;clear C j k d m;simp only[tkT,sT];walk_at "";try simp only[true_and]
 refine⟨by decide,?_⟩;by_cases y:n / 2^A.length%2=1
 ·simp only[y,if_true,Zg] at a ⊢;refine⟨by omega,?_⟩;have z:=a.out (some (T.tup [T.str nm,T.int u,T.tup (ks.map T.str)]));rw[H_] at z;exact⟨⟨by decide,by decide +kernel⟩,z⟩
 simp only[y,X8,Y8,A_,Yd] at a ⊢;exact⟨⟨by decide,by decide +kernel⟩,a.out _⟩
end
def Eg (K:Frag):Bool:=K.all fun p=>!(p.2.cls==.type "list")
theorem Eh {K:Frag}{a:Addr}{o:Obj}(e:K.lookup a=some o):(a,o)∈K:=by
 induction K with
 |nil=>cases e
 |cons p r c =>
 obtain⟨b,u⟩:=p;rw[YH] at e;split at e
 ·rename_i h;rw[eq_of_beq h,Q_ e];exact k_
 exact h_ _ (c e)
theorem yK {K:Frag}(h:Eg K=true) {a:Addr}{o:Obj}(e:K.lookup a=some o):o.cls≠.type "list":=fun z=>by
 have b:(a,o)∈K:=Eh e;have q:=Yq.mp h (a,o) b;rw[z] at q;simp at q
theorem uc {n:Nat}{us:List Value}(h:us.length=n+1):∃(a:Value) (r:List Value),us=a::r/\r.length=n:=by
 cases us with
 |nil=>exact nomatch h
 |cons a r=>exact⟨a,r,rfl,Nat.succ.inj h⟩
theorem uz {us:List Value}(h:us.length=0):us=[]:=ZR h
theorem ub1 {c:FuncData}{b:Str}(h:∀a:Value,bindArgs c ⟨[a],[]⟩=pure ([b].zip [a])) (us:List Value) (e:us.length=1):bindArgs c ⟨us,[]⟩=pure ([b].zip us):=by
 obtain⟨a,g,f,d⟩:=uc e;rw[f,uz d];exact h a
theorem ub2 {f:FuncData}{d c:Str}(h:∀b a:Value,bindArgs f ⟨[b,a],[]⟩=pure ([d,c].zip [b,a])) (us:List Value) (e:us.length=2):bindArgs f ⟨us,[]⟩=pure ([d,c].zip us):=by
 obtain⟨b,l,j,g⟩:=uc e;obtain⟨a,m,i,k⟩:=uc g;rw[j,i,uz k];exact h b a
theorem ub3 {g:FuncData}{f d i:Str}(h:∀c a b:Value,bindArgs g ⟨[c,a,b],[]⟩=pure ([f,d,i].zip [c,a,b])) (us:List Value) (e:us.length=3):bindArgs g ⟨us,[]⟩=pure ([f,d,i].zip us):=by
 obtain⟨c,q,n,k⟩:=uc e;obtain⟨a,r,l,o⟩:=uc k;obtain⟨b,p,j,m⟩:=uc o;rw[n,l,j,uz m];exact h c a b
theorem ub4 {k:FuncData}{f i j g:Str}(h:∀d b a c:Value,bindArgs k ⟨[d,b,a,c],[]⟩=pure ([f,i,j,g].zip [d,b,a,c])) (us:List Value) (e:us.length=4):bindArgs k ⟨us,[]⟩=pure ([f,i,j,g].zip us):=by
 obtain⟨d,t,r,p⟩:=uc e;obtain⟨b,u,q,n⟩:=uc p;obtain⟨a,v,l,m⟩:=uc n;obtain⟨c,w,s,o⟩:=uc m;rw[r,q,l,s,uz o];exact h d b a c
theorem ub5 {m:FuncData}{g k l j i:Str}(h:∀f c b d a:Value,bindArgs m ⟨[f,c,b,d,a],[]⟩=pure ([g,k,l,j,i].zip [f,c,b,d,a])) (us:List Value) (e:us.length=5):bindArgs m ⟨us,[]⟩=pure ([g,k,l,j,i].zip us):=by
 obtain⟨f,x,v,t⟩:=uc e;obtain⟨c,y,u,r⟩:=uc t;obtain⟨b,A,n,o⟩:=uc r;obtain⟨d,B,w,s⟩:=uc o;obtain⟨a,z,q,p⟩:=uc s;rw[v,u,n,w,q,uz p];exact h f c b d a
theorem ub6 {n:FuncData}{i l m k j o:Str}(h:∀g d c f b a:Value,bindArgs n ⟨[g,d,c,f,b,a],[]⟩=pure ([i,l,m,k,j,o].zip [g,d,c,f,b,a])) (us:List Value) (e:us.length=6):bindArgs n ⟨us,[]⟩=pure ([i,l,m,k,j,o].zip us):=by
 obtain⟨g,B,A,y⟩:=uc e;obtain⟨d,C,z,v⟩:=uc y;obtain⟨c,E,p,r⟩:=uc v;obtain⟨f,F,w,x⟩:=uc r;obtain⟨b,D,u,t⟩:=uc x;obtain⟨a,G,q,s⟩:=uc t;rw[A,z,p,w,u,q,uz s];exact h g d c f b a
theorem XX {K:Frag}{h:Heap}{j:Str->Option Value}{x:Str}{st:Stmt}{ps:List Str}{f:Addr}{oc:Value}{od g:Option Addr}{osl:Array (Option Value)}{kV d e b i:Value}(X:K.In h) (G:h.Ns mainGlobals j)
  (a:nsIn K mainGlobals x=some (some (.ref f))) (l:K.lookup f=some ⟨oc,od,.func (fnOf x x (bO st) (bC st) (au st) .none kV d e g b i),osl⟩) (c:codeIn K b x=true) (k:keepIn K (.ref f)=true)
  (m:∀(kV d e:Value) (g:Option Addr) (b i:Value) (us:List Value),us.length=ps.length->bindArgs (fnOf x x (bO st) (bC st) (au st) .none kV d e g b i) ⟨us,[]⟩=pure (ps.zip us)) :
  G3 K j x st ps f (fnOf x x (bO st) (bC st) (au st) .none kV d e g b i) :=
 have F:=kh (st:=st) l c k
 ⟨F,F.binds m,mg_of X G a⟩
theorem cj (i:Nat) (ps:List Str) (x:Str) (f:Addr) (m:Str) (t c:Nat) {K:Frag}{h:Heap}{b:Str->Option Value}(X:K.In h) (G:h.Ns mainGlobals b)
  (d:∀(kV doc pm:Value) (an:Option Addr) (cdv ct:Value) (us:List Value),us.length=ps.length->bindArgs (fnOf x x (bO (top i)) (bC (top i)) (au (top i)) .none kV doc pm an cdv ct) ⟨us,[]⟩=pure (ps.zip us))
  (a:nsIn K mainGlobals x=some (some (.ref f)):=by kernel_rfl) (l:K.lookup f=some (fO i x m t c):=by kernel_rfl) (e:codeIn K (.ref c) x=true:=by kernel_rfl) (k:keepIn K (.ref f)=true:=by kernel_rfl) :
  G3 K b x (top i) ps f (fnOf x x (bO (top i)) (bC (top i)) (au (top i)) .none .none .none (.str m t) none (.ref c) .none) :=
 XX X G a l e k d
def Wz:Stmt->Pos->Pos
 |.FunctionDef _ _ _ _ _ _ _ _ _ p,_=>p
 |_,p=>p
def dv:DefRec:=⟨"law",bO (top 48),bC (top 48),au (top 48),Wz (top 48) default⟩
theorem all_ok {l:PySem.W.OpenLaw}{w:World}{h:Heap}{mg:Str->Option Value}{fa:Addr}(X:(KK w.params).In h) (G:h.Ns mainGlobals mg) (hfa:mg "law"=some (.ref fa)) :
  ∃fd:FuncData,(∀(s:Shared) (v:Value),BindsTo s fd ⟨[v],[]⟩ [("_law_script",v)])/\∀base:Heap,(KK w.params).In base->base.Ns mainGlobals mg->FnOk3 l.prog w (KK w.params) mg base 9 fa fd ["_law_script"] xm:=by
 have at_:∀{n:Str} {v:Value},nsIn (KK w.params) mainGlobals n=some (some v)->mg n=some v:=fun e=>mg_of X G e;have d:∀{n:Str},nsIn (KK w.params) mainGlobals n=some none->mg n=none:=fun e=>PySem.W.mg_none_of X G e;have e:=hfa.symm.trans (at_ (v:=.ref 307) (by kernel_rfl));cases e;have B:Bl mg:=⟨d (by kernel_rfl),d (by kernel_rfl),d (by kernel_rfl),d (by kernel_rfl),d (by kernel_rfl),d (by kernel_rfl),d (by kernel_rfl),d (by kernel_rfl),d (by kernel_rfl),d (by kernel_rfl),d (by kernel_rfl),d (by kernel_rfl),d (by kernel_rfl),d (by kernel_rfl),d (by kernel_rfl),d (by kernel_rfl),d (by kernel_rfl),d (by kernel_rfl),d (by kernel_rfl),d (by kernel_rfl)⟩;have g__wall:=cj 0 ["k"] "_wall" 21 "__main__" 164 20 X G fun _ _ _ _ _ _=>ub1 fun _=>rfl;have g_links_of:=cj 2 ["works"] "links_of" 28 "stationrow.chains" 194 27 X G fun _ _ _ _ _ _=>ub1 fun _=>rfl;have g_reached:=cj 3 ["links","start"] "reached" 35 "stationrow.chains" 194 34 X G fun _ _ _ _ _ _=>ub2 fun _ _=>rfl;have g_led_to:=cj 4 ["works","task"] "led_to" 42 "stationrow.chains" 194 41 X G fun _ _ _ _ _ _=>ub2 fun _ _=>rfl;have g_led_from:=cj 5 ["works","task"] "led_from" 47 "stationrow.chains" 194 46 X G fun _ _ _ _ _ _=>ub2 fun _ _=>rfl;have g_in_both:=cj 6 ["works","found","other"] "in_both" 52 "stationrow.chains" 194 51 X G fun _ _ _ _ _ _=>ub3 fun _ _ _=>rfl;have q:=cj 7 ["works","found","other"] "in_first_alone" 57 "stationrow.chains" 194 56 X G fun _ _ _ _ _ _=>ub3 fun _ _ _=>rfl;have g_group_of:=cj 8 ["works","task"] "group_of" 64 "stationrow.chains" 194 63 X G fun _ _ _ _ _ _=>ub2 fun _ _=>rfl;have Z:=cj 9 ["works","task"] "ahead_of" 71 "stationrow.chains" 194 70 X G fun _ _ _ _ _ _=>ub2 fun _ _=>rfl;have L:=cj 11 ["kinds","kind"] "may_be_done" 78 "stationrow.checks" 261 77 X G fun _ _ _ _ _ _=>ub2 fun _ _=>rfl;have g_names_of:=cj 13 ["tasks"] "names_of" 83 "stationrow.texts" 271 82 X G fun _ _ _ _ _ _=>ub1 fun _=>rfl;have T:=cj 15 ["works","tasks"] "number_of" 90 "stationrow.sets" 279 89 X G fun _ _ _ _ _ _=>ub2 fun _ _=>rfl;have g_tasks_of:=cj 16 ["works","number"] "tasks_of" 97 "stationrow.sets" 279 96 X G fun _ _ _ _ _ _=>ub2 fun _ _=>rfl;have Q:=cj 18 ["works","task"] "apart_from" 102 "stationrow.fillings" 303 101 X G fun _ _ _ _ _ _=>ub2 fun _ _=>rfl;have g_rules_of:=cj 19 ["works"] "rules_of" 109 "stationrow.fillings" 303 108 X G fun _ _ _ _ _ _=>ub1 fun _=>rfl;have g_has_all:=cj 20 ["number","part"] "has_all" 116 "stationrow.fillings" 303 115 X G fun _ _ _ _ _ _=>ub2 fun _ _=>rfl;have j:=cj 21 ["rules","beat","kind","done","number"] "is_filling_number" 123 "stationrow.fillings" 303 122 X G fun _ _ _ _ _ _=>ub5 fun _ _ _ _ _=>rfl;have o:=cj 22 ["numbers"] "greatest_numbers" 128 "stationrow.fillings" 303 127 X G fun _ _ _ _ _ _=>ub1 fun _=>rfl;have g_parts_of:=cj 24 ["number"] "parts_of" 133 "stationrow.walks" 358 132 X G fun _ _ _ _ _ _=>ub1 fun _=>rfl;have I:=cj 27 ["walk","done"] "length_left" 185 "stationrow.papers" 428 184 X G fun _ _ _ _ _ _=>ub2 fun _ _=>rfl;have A:=cj 28 ["walk","stand","done"] "dones_behind" 190 "stationrow.papers" 428 189 X G fun _ _ _ _ _ _=>ub3 fun _ _ _=>rfl;have g_is_done:=cj 29 ["walk","done"] "is_done" 197 "stationrow.papers" 428 196 X G fun _ _ _ _ _ _=>ub2 fun _ _=>rfl;have g_is_left:=cj 30 ["walk","left","done","length"] "is_left" 204 "stationrow.papers" 428 203 X G fun _ _ _ _ _ _=>ub4 fun _ _ _ _=>rfl;have g_is_less:=cj 31 ["cases","stands","done","other"] "is_less" 209 "stationrow.papers" 428 208 X G fun _ _ _ _ _ _=>ub4 fun _ _ _ _=>rfl;have g_is_ways:=cj 32 ["walk","cases","stands","done","others"] "is_ways" 214 "stationrow.papers" 428 213 X G fun _ _ _ _ _ _=>ub5 fun _ _ _ _ _=>rfl;have U:=cj 33 ["walk","many","cases","stands","done","reason"] "is_reason" 221 "stationrow.papers" 428 220 X G fun _ _ _ _ _ _=>ub6 fun _ _ _ _ _ _=>rfl;have M:=cj 34 ["works","paper"] "are_sorted" 226 "stationrow.papers" 428 225 X G fun _ _ _ _ _ _=>ub2 fun _ _=>rfl;have g_is_paper:=cj 35 ["works","beat","many","paper"] "is_paper" 231 "stationrow.papers" 428 230 X G fun _ _ _ _ _ _=>ub4 fun _ _ _ _=>rfl;have g_cell:=cj 37 ["_law_script","_law_k"] "_law_cell" 238 mlw 505 237 X G fun _ _ _ _ _ _=>ub2 fun _ _=>rfl;have g_word:=cj 38 ["_law_cell_here"] "_law_word" 245 mlw 505 244 X G fun _ _ _ _ _ _=>ub1 fun _=>rfl;have g_unlike:=cj 39 ["_law_words"] "_law_unlike" 252 mlw 505 251 X G fun _ _ _ _ _ _=>ub1 fun _=>rfl;have g_pool:=cj 40 ["_law_cell_here"] "_law_pool" 259 mlw 505 258 X G fun _ _ _ _ _ _=>ub1 fun _=>rfl;have g_task:=cj 41 ["_law_cell_here","_law_row","_law_pool_here","_law_unit"] "_law_task" 266 mlw 505 265 X G fun _ _ _ _ _ _=>ub4 fun _ _ _ _=>rfl;have g_links:=cj 42 ["_law_script","_law_names","_law_some"] "_law_links" 271 mlw 505 270 X G fun _ _ _ _ _ _=>ub3 fun _ _ _=>rfl;have g_works:=cj 43 ["_law_script","_law_most","_law_wide"] "_law_works" 276 mlw 505 275 X G fun _ _ _ _ _ _=>ub3 fun _ _ _=>rfl;have g_loads:=cj 44 ["_law_works_here","_law_stands"] "_law_loads" 283 mlw 505 282 X G fun _ _ _ _ _ _=>ub2 fun _ _=>rfl;have g_beat:=cj 45 ["_law_cell_here","_law_works_here","_law_stands"] "_law_beat" 288 mlw 505 287 X G fun _ _ _ _ _ _=>ub3 fun _ _ _=>rfl;have g_drawn:=cj 46 ["_law_script","_law_most","_law_wide"] "_law_drawn" 295 mlw 505 294 X G fun _ _ _ _ _ _=>ub3 fun _ _ _=>rfl;have g_moved:=cj 47 ["_law_works_here","_law_cell_here"] "_law_moved" 302 mlw 505 301 X G fun _ _ _ _ _ _=>ub2 fun _ _=>rfl;have g_law:=cj 48 ["_law_script"] "law" 307 mlw 505 306 X G fun _ _ _ _ _ _=>ub1 fun _=>rfl;refine⟨fnOf "law" "law" (bO (top 48)) (bC (top 48)) (au (top 48)) .none .none .none (.str mlw 505) none (.ref 306) .none,fun s v=>.of_eq rfl,fun base _ _=>?_⟩;have k:Cls (KK w.params) 174:=⟨by kernel_rfl,by kernel_rfl,by kernel_rfl,by kernel_rfl⟩;have NF_Walk:∀n∈(["works","beat","rules","whole"]:List Str),findIn (KK w.params) (.ref 174) n=some none:=fun n hn=>by
  rcases j_.mp hn with rfl | hn
  ·kernel_rfl
  rcases j_.mp hn with rfl | hn
  ·kernel_rfl
  rcases j_.mp hn with rfl | hn
  ·kernel_rfl
  rw[m_.mp hn];kernel_rfl
 have b:InsC (KK w.params) 174 ["works","beat","rules","whole"]:=⟨k,NF_Walk⟩;have r:Fun (KK w.params) "__init__" "Walk.__init__" (topm 25 0) 147 (fnOf "__init__" "Walk.__init__" (bO (topm 25 0)) (bC (topm 25 0)) (au (topm 25 0)) .none .none .none (.str "stationrow.walks" 358) none (.ref 146) .none):=kh (oc:=.type "function") (od:=none) (osl:=#[]) (by kernel_rfl) (by kernel_rfl) (by kernel_rfl);have g_Walk:GI (KK w.params) mg 174 "Walk" "Walk.__init__" (topm 25 0) ["self","works","beat"] 147 _:=⟨⟨by kernel_rfl,by kernel_rfl,by kernel_rfl,by kernel_rfl⟩,r,r.binds fun _ _ _ _ _ _=>ub3 fun _ _ _=>rfl,at_ (v:=.ref 174) (by kernel_rfl)⟩;have g:Fun (KK w.params) "fillings_at" "Walk.fillings_at" (topm 25 1) 152 (fnOf "fillings_at" "Walk.fillings_at" (bO (topm 25 1)) (bC (topm 25 1)) (au (topm 25 1)) .none .none .none (.str "stationrow.walks" 358) none (.ref 151) .none):=kh (oc:=.type "function") (od:=none) (osl:=#[]) (by kernel_rfl) (by kernel_rfl) (by kernel_rfl);have D:GM (KK w.params) 174 "fillings_at" "Walk.fillings_at" (topm 25 1) ["self","stand","done"] 152 _:=⟨k,g,g.binds fun _ _ _ _ _ _=>ub3 fun _ _ _=>rfl,⟨by kernel_rfl,by kernel_rfl,by kernel_rfl⟩⟩;have f:Fun (KK w.params) "greatest_at" "Walk.greatest_at" (topm 25 2) 159 (fnOf "greatest_at" "Walk.greatest_at" (bO (topm 25 2)) (bC (topm 25 2)) (au (topm 25 2)) .none .none .none (.str "stationrow.walks" 358) none (.ref 158) .none):=kh (oc:=.type "function") (od:=none) (osl:=#[]) (by kernel_rfl) (by kernel_rfl) (by kernel_rfl);have E:GM (KK w.params) 174 "greatest_at" "Walk.greatest_at" (topm 25 2) ["self","stand","done"] 159 _:=⟨k,f,f.binds fun _ _ _ _ _ _=>ub3 fun _ _ _=>rfl,⟨by kernel_rfl,by kernel_rfl,by kernel_rfl⟩⟩;have t:Fun (KK w.params) "load_at" "Walk.load_at" (topm 25 3) 164 (fnOf "load_at" "Walk.load_at" (bO (topm 25 3)) (bC (topm 25 3)) (au (topm 25 3)) .none .none .none (.str "stationrow.walks" 358) none (.ref 163) .none):=kh (oc:=.type "function") (od:=none) (osl:=#[]) (by kernel_rfl) (by kernel_rfl) (by kernel_rfl);have g_load_at:GM (KK w.params) 174 "load_at" "Walk.load_at" (topm 25 3) ["self","number"] 164 _:=⟨k,t,t.binds fun _ _ _ _ _ _=>ub2 fun _ _=>rfl,⟨by kernel_rfl,by kernel_rfl,by kernel_rfl⟩⟩;have Y:=Je (P:=l.prog) (w:=w) (base:=base) g_cell B;have F_word:=Jf (P:=l.prog) (w:=w) (base:=base) g_word B;have R:=yH (P:=l.prog) (w:=w) (base:=base) g_unlike B;have F_pool:=Jg g_pool B F_word R;have F_task:=Jh g_task B F_word;have F_links:=Eb g_links B Y;have F_works:=Ec g_works B Y F_pool F_task R F_links;have F_loads:=Ed (P:=l.prog) (w:=w) (base:=base) g_loads B;have F_beat:=Ji g_beat B F_loads;have F_drawn:=DQ g_drawn B F_works F_beat Y;have F_moved:=DR (P:=l.prog) (w:=w) (base:=base) g_moved B;have a:=pW (P:=l.prog) (w:=w) (base:=base) T B;have N:=mF (P:=l.prog) (w:=w) (base:=base) Q B;have p:=jk (P:=l.prog) (w:=w) (base:=base) q B;have F:=u5 (P:=l.prog) (w:=w) (base:=base) g_reached B;have u:=su (P:=l.prog) (w:=w) (base:=base) g_links_of B;have y:=sE g_led_from B F u;have S:=yJ g_led_to B F u;have F_ahead_of:=sJ Z B p y S;have F_in_both:=vd (P:=l.prog) (w:=w) (base:=base) g_in_both B;have F_group_of:=sH g_group_of B F_in_both S y
 have F_rules_of:=sW g_rules_of B a N F_ahead_of F_group_of;have F_names_of:=sV (P:=l.prog) (w:=w) (base:=base) g_names_of B;have M_Walk:=Jl g_Walk B b F_rules_of a F_names_of;have O:=mG M B a;have x:=sX (P:=l.prog) (w:=w) (base:=base) g_tasks_of B;have c:=vg (P:=l.prog) (w:=w) (base:=base) g_has_all B;have F_is_done:=vB g_is_done B b a x c;have M_load_at:=vD g_load_at B b c;have J:=lN I B b a M_load_at
 have F_is_left:=vA g_is_left B b J;have F_is_less:=vp (P:=l.prog) (w:=w) (base:=base) g_is_less B;have m:=ig o B c;have F_parts_of:=sS g_parts_of B c;have K:=lL (P:=l.prog) (w:=w) (base:=base) L B;have i:=gR j B c K;have H:=lU D B b F_parts_of i;have C:=lQ E B b m H
 have z:=jQ A B b a x C
 have F_is_ways:=vm g_is_ways B b z;have V:=pY U B b F_is_left F_is_less F_is_ways;have F_is_paper:=sO g_is_paper B b M_Walk O F_is_done V;exact Q6 g_law B F_drawn F_moved F_is_paper
theorem walk {l:PySem.W.OpenLaw}{q:Program}{loose:List Str}{XP:(Str->Option Value)->Heap->Prop}{YP:World->Heap->Prop}{d:DefRec}{K:Params->Frag}(y:l.most=some 63) (j:d.params.defaults=[])
  (D:∀(w:World) (h:Heap),YP w h->(K w.params).In h) (i:∀w:World,Eg (K w.params)=true)
  (F:∀(w:World) (mg:Str->Option Value) (fa:Addr) (h:Heap),(K w.params).In h->h.Ns mainGlobals mg->mg d.name=some (.ref fa) ->
   ∃fd:FuncData,(∀(s:Shared) (u:Value),BindsTo s fd ⟨[u],[]⟩ [("_law_script",u)])/\∀base:Heap,(K w.params).In base->base.Ns mainGlobals mg->FnOk3 l.prog w (K w.params) mg base 9 fa fd ["_law_script"] xm) :
  PySem.W.WalkO q loose XP YP l.row.toRowW d [] (fun f vs=>PySem.call f vs):=by
 refine L2.walk_of (n:=63) (k:=9) (x:="_law_script") (CX:=fun _=>CX0) (sp:=fun w=>qH (K w.params) xm) y (by decide) j ⟨rfl,by decide,by decide,rfl⟩ D F (fun w H a ns E J p=>?_) fun _ _ _ _ _ z=>z;refine⟨[.ref a],fun b=>if b=a then some (.rol (ns.map T.int)) else none,fun t _=>t=.bl true,.cons .ofRef .nil,fun b o e=>?_,⟨a,ns,rfl,if_pos rfl,E,fun _=>rfl⟩,fun v L t G _ _ r q=>?_⟩
 ·dsimp only at e;by_cases g:b=a
  ·rw[if_pos g] at e;cases e;subst g;rcases p with p | ⟨o,A,n,C,I,_⟩
   ·refine⟨_,p,?_⟩;have:∀c:List Int,Reps (K w.params) H (c.map T.int) (c.map V.int):=fun c=>by
     induction c with
     |nil=>exact .nil
     |cons m r B=>exact .cons .ofInt B
    exact this ns
   exact absurd I (yK (i w) C)
  rw[if_neg g] at e;cases e
 subst q;exact r.bl
end M
open PySem PySem.W PyProof.Rows
set_option maxRecDepth 100000 in
set_option maxHeartbeats 0 in
theorem PySem.Challenge.cw_stationrow_k50_one_case_holds : PySem.Challenge.rw_stationrow_k50_one_case.Holds := by
 refine holds_law (by kernel_rfl) fun said=>?_;refine holds_open (d:=M.dv) (kwd:=[]) (q:=M.qv) (loose:=[]) (Xt:=fun s=>xlAt M.qv [] s&&recOk (RowW.records (OpenLaw.row PySem.Challenge.rw_stationrow_k50_one_case).toRowW) s) (XP:=XL M.qv []) (Yf:=Hook.obs M.HK) (Ya:=Hook.val M.HK) (YP:=Hook.says M.HK) (N:=3380) M.left (Hook.of M.HK) (Hook.keeps M.HK) (fun s e=>xl_of s (Bool.and_eq_true_iff.mp e).1) XL.keeps (by kernel_rfl) (by kernel_rfl) (by kernel_rfl) (fun s e=>recFacts_of (Bool.and_eq_true_iff.mp e).2) (by kernel_rfl) (by first | assumption | kernel_rfl) (by kernel_rfl) ⟨rfl,rfl,rfl,rfl,rfl,by decide +kernel⟩ ?hw ?hc
 case hw=>w_witness2
 case hc=>exact M.walk (l:=PySem.Challenge.rw_stationrow_k50_one_case) rfl rfl (fun w h Y=>kIn_of Y) (fun w=>by kernel_rfl) fun w mg fa h KX G hmg=>M.all_ok KX G hmg
#print axioms PySem.Challenge.cw_stationrow_k50_one_case_holds
