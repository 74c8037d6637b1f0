import PyProof.Rows.All
import PyProof.EqAt
import PyProof.EqKinds
import PyProof.TupleCall
import PyProof.NeKinds
import PyProof.ReprRoads
import PyProof.ReprLen
import PyProof.StrWalks
import PyProof.Rows.SetFrom
import PyProof.WalksMore
import KE.KIntText
import PyProof.EnumMake
import PyProof.WalkInts
import KE.KRevSl
import PyProof.StrCalls
import PyProof.Rows.StrFit
import KE.KDictOf
import PyProof.AttrMissHeap
import PyProof.StrLawsTight
import Wide.Line
import OpenK.KOwn
import KE.KFromBytes
import KE.KItem
import KE.KIsAll
import PySem.Challenge.RW_stationrow_k30_dealings_right_or_not
abbrev a_:=@List.length_append
abbrev b_:=@List.mem_singleton
abbrev d_:=@List.getElem?_eq_getElem
abbrev e_:=@PySem.wpAny_bind
abbrev g_:=@List.length_map
abbrev h_:=@List.size_toArray
abbrev i_:=@List.mem_cons_self
abbrev j_:=@List.length_cons
abbrev k_:=@List.mem_cons
abbrev l_:=@PySem.Heap.get?_push_of_some
abbrev m_:=@List.map_cons
abbrev n_:=@PySem.PassesOwn.never
abbrev o_:=@decide_eq_false
abbrev p_:=@Bool.false_ne_true
abbrev q_:=@List.mem_cons_of_mem
abbrev t_:=@List.length_range
abbrev u_:=@Nat.le_refl
abbrev v_:=@List.mem_append
abbrev x_:=@List.length_singleton
abbrev y_:=@decide_eq_true
abbrev z_:=@PySem.wpAny_pure
abbrev A_:=@List.getD_eq_getElem?_getD
abbrev B_:=@List.map_append
abbrev C_:=@List.mem_map
abbrev D_:=@PySem.Heap.lt_size
abbrev E_:=@List.foldl_append
abbrev F_:=@congrArg
abbrev G_:=@List.getElem?_map
abbrev H_:=@Nat.lt_of_lt_of_le
abbrev I_:=@PySem.F.plainAttrs_list
abbrev J_:=@List.all_eq_true
abbrev K_:=@PySem.Heap.get?_push_size
abbrev L_:=@List.mem_range
abbrev M_:=@List.not_mem_nil
abbrev N_:=@Nat.le_trans
abbrev O_:=@List.map_map
abbrev P_:=@List.mem_append_right
abbrev Qp:=@List.getElem?_append_right
abbrev Qq:=@PySem.F.slot_list_append
abbrev Qs:=@PySem.F.type_list_append
abbrev Qt:=@Nat.ne_of_lt
abbrev Qu:=@Option.some.inj
abbrev Qv:=@List.append_nil
abbrev Qw:=@decide_eq_true_iff
abbrev Qx:=@List.getElem_mem
abbrev Qy:=@List.getElem?_append_left
abbrev Qz:=@List.getElem?_eq_none
abbrev QB:=@List.nodup_cons
abbrev QC:=@List.append_assoc
abbrev QD:=@PyProof.Rows.slot_tuple_getitem
abbrev QF:=@List.getElem?_cons_zero
abbrev QG:=@PySem.wpAny_newObj_type
abbrev QH:=@Int.emod_lt_of_pos
abbrev QJ:=@Int.emod_nonneg
abbrev QK:=@List.sum_cons
abbrev QL:=@List.map_congr_left
abbrev QM:=@PyProof.Rows.callWith_type1
abbrev QQ:=@List.flatten_cons
abbrev QR:=@Nat.lt_irrefl
abbrev QS:=@List.mem_filter
abbrev QT:=@List.find?_cons
abbrev QV:=@Bool.eq_iff_iff
abbrev QW:=@Bool.false_eq_true
abbrev QX:=@List.getElem?_cons_succ
abbrev QZ:=@PySem.wpAny_mono
abbrev Q0:=@Int.toNat_natCast
abbrev Q4:=@if_false
abbrev Q5:=@of_decide_eq_true
abbrev Q6:=@List.take_of_length_le
abbrev Q7:=@or_false
abbrev Q8:=@Nat.zero_add
abbrev Q9:=@List.nodup_append
abbrev Q_:=@List.replicate_succ
abbrev Ra:=@List.getElem?_eq_some_iff
abbrev Rb:=@List.length_filter_le
abbrev Rc:=@List.length_take
abbrev Rf:=@Nat.le_of_lt
abbrev Rg:=@List.map_nil
abbrev Rh:=@List.mem_of_getElem?
abbrev Ri:=@PySem.wpAny_truthy_bool
abbrev Rj:=@List.cons.injEq
abbrev Rk:=@Array.length_toList
abbrev Rm:=@Int.toNat_of_nonneg
abbrev Rn:=@List.getElem?_set_self
abbrev Ro:=@List.length_drop
abbrev Rp:=@List.lookup_cons
abbrev Rq:=@PySem.Heap.size_push
abbrev Rr:=@PySem.wpAny_Call_Name_kw
abbrev Rt:=@PySem.F.slot_tuple_iterator_next
abbrev Ru:=@PySem.wpAny_passesOwn
abbrev Rv:=@List.length_nil
abbrev Rx:=@List.mem_append_left
abbrev Ry:=@List.getElem?_set_ne
abbrev Rz:=@PySem.wpAny_field
abbrev RB:=@Nat.lt_succ_of_lt
abbrev RC:=@List.getElem?_of_mem
abbrev RD:=@PySem.AutoSeq1.wpAny_loadPart'
abbrev RG:=@List.map_eq_nil_iff
abbrev RJ:=@List.getElem?_replicate
abbrev RK:=@PySem.wpAny_callSpecial?_slot
abbrev RL:=@Bool.and_eq_true
abbrev RM:=@List.any_eq_true
abbrev RN:=@PySem.wpAny_getItem_str_slice
abbrev RP:=@List.nodup_nil
abbrev RQ:=@List.eq_nil_of_length_eq_zero
abbrev RT:=@Nat.lt_trans
abbrev RV:=@List.find?_eq_none
abbrev RW:=@PySem.wpAny_holding
abbrev RX:=@List.length_replicate
abbrev RZ:=@PySem.wpAny_call_entry
abbrev R_:=@List.cons_append
abbrev Sd:=@List.drop_eq_getElem_cons
abbrev Sg:=@beq_eq_false_iff_ne
abbrev Sh:=@List.getElem?_range
abbrev Sq:=@List.length_reverse
abbrev Ss:=@List.filter_eq_self
abbrev Su:=@PySem.Paired.length
abbrev Sv:=@PySem.F.args_tuple_add_2
abbrev Sw:=@PySem.F.slot_list_getattribute
abbrev Sx:=@List.Pairwise.imp_of_mem
abbrev Sy:=@Bool.not_true
abbrev SJ:=@PySem.wpAny_pyIter_tuple
abbrev SM:=@Int.natCast_nonneg
abbrev SN:=@PySem.Calls.spliced_cons
abbrev SQ:=@PySem.call_meets
abbrev SX:=@PySem.tupleKind_room_in1
abbrev S5:=@Nat.not_lt
abbrev S6:=@Nat.zero_le
abbrev S7:=@Nat.ne_of_gt
abbrev S8:=@PySem.Calls.spliced_nil
abbrev S9:=@Option.some.injEq
abbrev S_:=@List.pairwise_map
abbrev Tc:=@List.find?_append
open PySem.W (Frag InstAt LeftO cellsFrom_some codeIn emptyDict findIn fnOf instObj kHook keepIn kia_one kitOne kitx_dict kitx_list kitx_tuple lookIn methodObj mg_of mroIn nsIn plainGet recOk xlAt)
noncomputable section
open PySem PySem.Spec PyProof.Rows
set_option Elab.async false
set_option linter.all false
set_option maxRecDepth 100000
namespace L2
def cH (s:Stmt):Arguments:=match s with
 |.FunctionDef _ a _ _ _ _ _ _ _ _=>a
 |_=>{ posonlyargs:=[],args:=[],vararg:=none,kwonlyargs:=[],kw_defaults:=[],kwarg:=none,defaults:=[]}
def b7 (s:Stmt):List Stmt:=match s with
 |.FunctionDef _ _ b _ _ _ _ _ _ _=>b
 |_=>[]
def aB (s:Stmt):Scope:=match s with
 |.FunctionDef _ _ _ _ _ _ sc _ _ _=>sc
 |_=>{ kind:=.function,names:=[],isGenerator:=false,isCoroutine:=false}
end L2
namespace M
open L2
def top (i:Nat):Stmt:=PySem.Challenge.pw_stationrow_k30_dealings_right_or_not.main.body.getD i (.Pass ⟨0,0,0,0⟩)
def qv:Program:={ PySem.Challenge.pw_stationrow_k30_dealings_right_or_not with main:={ PySem.Challenge.pw_stationrow_k30_dealings_right_or_not.main with body:=([1,3,5,6,7,8,9,10,11,12,13,14,15,16,17,18,20,21,22,23,24,25,26,27,28,29,30,31,32,33,34,35,36,37,38,39,40,41,42]:List Nat).map top}}
def en (P:Params) (n:Str) (t:Nat) (v:Value):DictEntry:=⟨PyData.keyHash P n,.str n t,v⟩
def cO (n:Str) (c:Nat) (b:Bool) (a j l k:Nat):Obj:=⟨.type "code",none,.fields #[.str n a,.str n (a+1),.str "/claim/cut.py" (a+2),.int l 0,.int k 0,.int 0 0,.int 0 0,.int 3 0,.ref (c - (bif b then 5 else 3)),.bool true,.int 181 0,.ref (c - (bif b then 4 else 2)),.none,bif b then .ref (c - 3) else .none,bif b then .ref (c - 2) else .none,.ref (c - 1),.int j 0,.int l 0,.str "/claim/cut.py" (j+1)],#[]⟩
def fO (i:Nat) (n m:Str) (t c:Nat):Obj:=⟨.type "function",none,.func (fnOf n n (cH (top i)) (b7 (top i)) (aB (top i)) .none .none .none (.str m t) none (.ref c) .none),#[]⟩
abbrev mlw:Str := "law_stationrow_k30_dealings_right_or_not"
def fx (i:Nat) (n m:Str) (t c:Nat) (b:Bool) (a j l k:Nat):(Params->DictEntry) × Frag:=(fun P=>en P n (j+2) (.ref (c+1)),[(c,cO n c b a j l k),(c+1,fO i n m t c)])
def TB:List ((Params->DictEntry) × Frag):=[fx 1 "may_be_done" "stationrow.checks" 187 20 true 189 194 2 2,
 fx 3 "names_of" "stationrow.texts" 197 25 false 199 202 5 1,
 fx 5 "load_of" "stationrow.dealings" 205 30 false 207 210 8 2,
 fx 6 "loads_of" "stationrow.dealings" 205 35 false 213 216 10 2,
 fx 7 "texts_of" "stationrow.dealings" 205 42 true 219 225 12 1,
 fx 8 "stands_of" "stationrow.dealings" 205 49 true 228 236 17 1,
 fx 9 "number_fault" "stationrow.dealings" 205 56 true 239 244 23 2,
 fx 10 "strange_fault" "stationrow.dealings" 205 63 true 247 254 27 2,
 fx 11 "twice_fault" "stationrow.dealings" 205 70 true 257 263 33 1,
 fx 12 "lost_fault" "stationrow.dealings" 205 77 true 266 273 40 2,
 fx 13 "order_fault" "stationrow.dealings" 205 84 true 276 284 46 2,
 fx 14 "pair_fault" "stationrow.dealings" 205 91 true 287 296 52 2,
 fx 15 "kind_fault" "stationrow.dealings" 205 96 false 299 302 58 2,
 fx 16 "beat_fault" "stationrow.dealings" 205 103 true 305 313 65 3,
 fx 17 "tasks_fault" "stationrow.dealings" 205 110 true 316 321 70 2,
 fx 18 "fault_of" "stationrow.dealings" 205 117 true 324 330 72 3,
 fx 20 "_law_numbers" mlw 333 124 true 335 344 75 1,
 fx 21 "_law_draw" mlw 333 131 true 347 352 90 2,
 fx 22 "_law_great" mlw 333 138 true 355 362 94 2,
 fx 23 "_law_free_name" mlw 333 145 true 365 377 99 3,
 fx 24 "_law_names" mlw 333 150 false 380 383 111 2,
 fx 25 "_law_turn" mlw 333 157 true 386 393 122 2,
 fx 26 "_law_lengths" mlw 333 162 false 396 399 128 2,
 fx 27 "_law_chained" mlw 333 167 false 402 405 134 2,
 fx 28 "_law_pairs" mlw 333 172 false 408 411 141 4,
 fx 29 "_law_some_kinds" mlw 333 177 false 414 417 157 3,
 fx 30 "_law_kinds" mlw 333 182 false 420 423 163 4,
 fx 31 "_law_works" mlw 333 187 false 426 429 178 3,
 fx 32 "_law_beat" mlw 333 192 false 432 435 196 2,
 fx 33 "_law_flat" mlw 333 199 true 438 444 202 1,
 fx 34 "_law_names_fault" mlw 333 206 true 447 455 207 2,
 fx 35 "_law_at" mlw 333 213 true 458 465 218 1,
 fx 36 "_law_laid_fault" mlw 333 218 false 468 471 224 3,
 fx 37 "_law_fault" mlw 333 223 false 474 477 245 3,
 fx 38 "_law_settled" mlw 333 230 true 480 489 252 2,
 fx 39 "_law_dealing" mlw 333 235 false 492 495 265 2,
 fx 40 "_law_loads" mlw 333 240 false 498 501 276 2,
 fx 41 "_law_same" mlw 333 245 false 504 507 281 2,
 fx 42 "law" mlw 333 250 false 510 513 289 1]
def KK (P:Params):Frag:=(3,⟨.type "dict",none,.dict ([en P "__name__" 165 (.str mlw 333),
 en P "__doc__" 166 .none,
 en P "__package__" 167 .none,
 en P "__loader__" 168 (.builtin "__main__.__loader__#opaque"),
 en P "__spec__" 169 .none,
 en P "__annotations__" 170 (.ref 6),
 en P "__builtins__" 171 (.ref 4),
 en P "__file__" 173 (.str "/claim/cut.py" 172),
 en P "__cached__" 174 .none]++TB.map fun r=>r.1 P).toArray 48,#[]⟩)::(TB.map fun r=>r.2).flatten
def HK:PySem.W.Hook:=kHook KK [3,20,21,25,26,30,31,35,36,42,43,49,50,56,57,63,64,70,71,77,78,84,85,91,92,96,97,103,104,110,111,117,118,124,125,131,132,138,139,145,146,150,151,157,158,162,163,167,168,172,173,177,178,182,183,187,188,192,193,199,200,206,207,213,214,218,219,223,224,230,231,235,236,240,241,245,246,250,251] (fun _=>by kernel_rfl)
theorem left:LeftO (PySem.W.OpenLaw.row PySem.Challenge.rw_stationrow_k30_dealings_right_or_not).prog qv [] (fun s=>xlAt qv [] s&&recOk (PySem.W.RowW.records (PySem.W.OpenLaw.row PySem.Challenge.rw_stationrow_k30_dealings_right_or_not).toRowW) s) (PySem.W.Hook.obs HK) (PySem.W.Hook.val HK) 2484:=by
 intro w;kernel_rfl
end M
namespace L2
abbrev Key:=Sum Int Str
def lw:Key->Value->Bool
 |.inl k,v=>Value.isInt k v
 |.inr x,v=>Value.isStrOf x v
def O4 (w:World):Key->Int
 |.inl k=>hashInt k
 |.inr x=>hashStr w x
theorem bM:∀{k:Key}{v:Value},lw k v=true->(∃i t,k=Sum.inl i/\v=Value.int i t)\/(∃x t,k=Sum.inr x/\v=Value.str x t)
 |.inl i,v,h=>by
  obtain⟨t,e⟩:=Value.isInt_shape (k:=i) (v:=v) h
  exact .inl ⟨i,t,rfl,e⟩
 |.inr x,v,h=>by
  obtain⟨t,e⟩:=Value.isStrOf_shape (x:=x) (v:=v) h
  exact .inr ⟨x,t,rfl,e⟩
theorem uF (i:Int) (t:Tok):lw (.inl i) (.int i t)=true:=by simp [lw,Value.isInt]
theorem uG (x:Str) (t:Tok):lw (.inr x) (.str x t)=true:=by simp [lw,Value.isStrOf]
theorem Ew (a b:Int):decide ((Sum.inl a:Key)=Sum.inl b)=(a==b):=by
 by_cases e:a=b
 ·subst e;simp
 have h:¬(Sum.inl a:Key)=Sum.inl b:=fun q=>e (Sum.inl.inj q);rw[o_ h];exact (Sg.mpr e).symm
theorem Ex (a b:Str):decide ((Sum.inr a:Key)=Sum.inr b)=decide (a=b):=by
 by_cases e:a=b
 ·subst e;simp
 have h:¬(Sum.inr a:Key)=Sum.inr b:=fun q=>e (Sum.inr.inj q);rw[o_ h,o_ e]
theorem Ey (a:Int) (b:Str):decide ((Sum.inl a:Key)=Sum.inr b)=false:=o_ (fun q=>nomatch q)
theorem Ez (a:Str) (b:Int):decide ((Sum.inr a:Key)=Sum.inl b)=false:=o_ (fun q=>nomatch q)
def bQ (prog:Program) (w:World):PySem.KeyKind prog w Key where
 is:=lw
 hash:=O4 w
 inj:=fun v a b ha hb=>by
  rcases bM ha with ⟨i,t,rfl,rfl⟩ | ⟨x,t,rfl,rfl⟩
  ·
   rcases bM hb with ⟨j,u,rfl,e⟩ | ⟨y,u,rfl,e⟩
   ·
    injection e with e1 _;rw[e1]
   ·
    exact nomatch e
  ·
   rcases bM hb with ⟨j,u,rfl,e⟩ | ⟨y,u,rfl,e⟩
   ·
    exact nomatch e
   ·
    injection e with e1 _;rw[e1]
 byValue:=fun k v h=>by
  rcases bM h with ⟨i,t,rfl,rfl⟩ | ⟨x,t,rfl,rfl⟩ <;> rfl
 pyHash:=fun hv h=>by
  rcases bM hv with ⟨i,t,rfl,rfl⟩ | ⟨x,t,rfl,rfl⟩
  ·
   exact wpAny_pyHash_int h
  ·
   exact wpAny_pyHash_str h
 eqBool:=fun hu hv h=>by
  rcases bM hu with ⟨i,t,rfl,rfl⟩ | ⟨x,t,rfl,rfl⟩
  ·
   rcases bM hv with ⟨j,u,rfl,rfl⟩ | ⟨y,u,rfl,rfl⟩
   ·
    rw[Ew] at h;exact wpAny_eqBool_int h
   ·
    rw[Ey] at h;exact SeqAt.EqAt.int_str i t y u _ _ _ _ h
  ·
   rcases bM hv with ⟨j,u,rfl,rfl⟩ | ⟨y,u,rfl,rfl⟩
   ·
    rw[Ez] at h;exact SeqAt.EqAt.str_int x t j u _ _ _ _ h
   ·
    rw[Ex] at h;exact wpAny_eqBool_str h
 «strs»:=fun k x t v h=>by
  rcases bM h with ⟨i,u,rfl,e⟩ | ⟨y,u,rfl,e⟩
  ·
   exact nomatch e
  ·
   injection e with e1 _
   subst e1
   cases v <;> rfl
theorem oJ (prog:Program) (w:World) (i:Int) (t:Tok):(bQ prog w).is (.inl i) (.int i t)=true:=uF i t
theorem oK (prog:Program) (w:World) (x:Str) (t:Tok):(bQ prog w).is (.inr x) (.str x t)=true:=uG x t
inductive V where
 |non | bl (b:Bool) | int (i:Int) | str (x:Str) | byt (b:Array UInt8) | flt (b:UInt64) | ref (a:Addr) | ty (n:String)
 deriving DecidableEq
def RelV:V->Value->Prop
 |.non,u=>u=Value.none
 |.bl b,u=>u=Value.bool b
 |.int i,u=>∃t,u=Value.int i t
 |.str x,u=>∃t,u=Value.str x t
 |.byt b,u=>∃t,u=Value.bytes b t
 |.flt b,u=>∃t,u=Value.float b t
 |.ref a,u=>u=Value.ref a
 |.ty n,u=>u=Value.type n
abbrev Vals:List V->List Value->Prop:=Paired RelV
theorem Vals.length {xs:List V}{us:List Value}(r:Vals xs us):xs.length=us.length:=Su r
theorem Vals.get:∀{xs:List V}{us:List Value}{i:Nat}{x:V},Vals xs us->xs[i]?=some x->∃u,us[i]?=some u/\RelV x u
 |_,_,_,_,.nil,e=>by simp at e
 |_,_,0,_,.cons r _,e=>by simp at e;subst e;exact⟨_,rfl,r⟩
 |_,_,i+1,x,.cons _ t,e=>by
  obtain⟨u,h1,h2⟩:=Vals.get (i:=i) (x:=x) t (by simpa using e)
  exact⟨u,by simpa using h1,h2⟩
theorem Vals.set {x:V}{u:Value}(r:RelV x u):∀{xs:List V}{us:List Value}(i:Nat),Vals xs us->Vals (xs.set i x) (us.set i u)
 |_,_,_,.nil=>.nil
 |_,_,0,.cons _ t=>.cons r t
 |_,_,i+1,.cons q t=>.cons q (Vals.set r i t)
theorem Vals.append:∀{xs ys:List V}{us ws:List Value},Vals xs us->Vals ys ws->Vals (xs++ys) (us++ws)
 |_,_,_,_,.nil,s=>s
 |_,_,_,_,.cons r t,s=>.cons r (Vals.append t s)
theorem Vals.take:∀{xs:List V}{us:List Value}(n:Nat),Vals xs us->Vals (xs.take n) (us.take n)
 |_,_,0,_=>.nil
 |_,_,_+1,.nil=>.nil
 |_,_,n+1,.cons r t=>.cons r (Vals.take n t)
theorem Vals.drop:∀{xs:List V}{us:List Value}(n:Nat),Vals xs us->Vals (xs.drop n) (us.drop n)
 |_,_,0,r=>r
 |_,_,_+1,.nil=>.nil
 |_,_,n+1,.cons _ t=>Vals.drop n t
def RelO:Option V->Option Value->Prop
 |some v,some u=>RelV v u
 |none,none=>True
 |_,_=>False
def KV {κ:Type}:List (κ × V)->List (κ × Value)->Prop:=Paired fun (p:κ × V) (q:κ × Value)=>p.1=q.1/\RelV p.2 q.2
def kV:Key->V
 |.inl i=>.int i
 |.inr x=>.str x
inductive HO where
 |lst (xs:List V)
 |tup (xs:List V)
 |dK (kvs:List (Key × V)) | dT (kvs:List (List Key × V))
 |set (S:Int->Bool) (n:Nat)
 |ins (C dx:Addr) (fs:List (Str × V))
 |own (x:Addr)
 |xd (fs:List (Str × V))
 |met (f x:Addr)
 |rng (lo hi:Int)
 |frz (o:Obj) (u:HO)
 |tbl (ps:Array Value)
 |ext (φ:Heap->Prop)
abbrev Hp:=Addr->Option HO
def upd (H:Hp) (a:Addr) (o:HO):Hp:=fun b=>if b=a then some o else H b
theorem cA {H:Hp}{a:Addr}{o:HO}:upd H a o a=some o:=by unfold upd;rw[if_pos rfl]
theorem aW {H:Hp}{a b:Addr}{o:HO}(h:b≠a):upd H a o b=H b:=by unfold upd;rw[if_neg h]
theorem JP {H:Hp}{a b:Addr}{o u:HO}(h:H a=some o) (h':H b=some u) (d:o≠u):a≠b:=by
 intro e;subst e;rw[h] at h';exact d (Qu h')
theorem bN {H:Hp}{a b:Addr}{o:HO}(h:H a=some o) (h':H b=none):a≠b:=by
 intro e;subst e;rw[h] at h';cases h'
def Tup0 (h:Heap) (a:Addr) (items:Array Value):Prop:=∃o,h.get? a=some o/\o.cls=.type "tuple"/\∃n,o.data=.seq items n/\o.dict=none
theorem Tup0.is {h:Heap}{a:Addr}{items:Array Value}(x:Tup0 h a items):IsTup h a items:=by
 obtain⟨o,ho,hc,n,hd,_⟩:=x;exact⟨o,ho,hc,n,hd⟩
theorem Tup0.new (h:Heap) (items:Array Value):Tup0 (h.push { cls:=.type "tuple",data:=.seq items}) h.objs.size items:=⟨_,K_ _ rfl,rfl,_,rfl,rfl⟩
section
variable (P:Program) (w:World)
def ObjOk (H:Hp) (h:Heap) (a:Addr):HO->Prop
 |.lst xs=>xs.length<=sizeLine/\∃(its:List Value) (n:Nat),Vals xs its/\h.get? a=some { cls:=.type "list",data:=.seq its.toArray n}
 |.tup xs=>xs.length<=sizeLine/\∃its:List Value,Vals xs its/\Tup0 h a its.toArray
 |.dK kvs=>kvs.length<=sizeLine/\(a==sysModules)=false/\∃vs,KV kvs vs/\h.DictOf (bQ P w) a vs
 |.dT kvs=>kvs.length<=sizeLine/\(a==sysModules)=false/\∃xs:List (List Key × Addr × Value),
   Paired (fun (p:List Key × V) (q:List Key × Addr × Value)=>p.1=q.1/\H q.2.1=some (.tup (p.1.map kV))/\RelV p.2 q.2.2) kvs xs /\
   ∃o es ep,h.get? a=some o/\o.ExactDict/\o.data=.dict es ep/\es.toList=xs.map (entryOfKey (tupleKind (bQ P w)))/\(xs.map (·.1)).Nodup
 |.set S n=>h.SetOf (intKind P w) a S n
 |.ins C dx fs=>H dx=some (.own a)/\fs.length<=1000/\dx≠a/\h.get? a=some (instObj C dx) /\
   ∃mA,h.Ns1 dx mA/\(∀f,RelO (fs.lookup f) (mA f))/\PySem.Within mA (fs.map (·.1))
 |.own _=>∃o,h.get? a=some o
 |.xd fs=>∃mA,h.Ns1 a mA/\∀f,RelO (fs.lookup f) (mA f)
 |.rng lo hi=>∃t u v,h.get? a=some { cls:=.type "range",data:=.fields #[.int lo t,.int hi u,.int 1 v]}
 |.frz o u=>h.get? a=some o/\ObjOk H h a u
 |.tbl ps=>h.get? a=some { cls:=.none,data:=.fields ps}
 |.met f x=>h.get? a=some (methodObj (.ref f) (.ref x))
 |.ext φ=>φ h/\(∃o,h.get? a=some o)/\∀h1 h2:Heap,φ h1->(∀o,h1.get? a=some o->h2.get? a=some o)->φ h2
def HOk (H:Hp) (h:Heap):Prop:=∀a o,H a=some o->ObjOk P w H h a o
end
section
variable {P:Program}{w:World}{H H':Hp}{h h':Heap}{a:Addr}{o:HO}
theorem ObjOk.lt (x:ObjOk P w H h a o):a<h.objs.size:=by
 cases o with
 |lst xs=>obtain⟨_,_,_,_,e⟩:=x;exact D_ e
 |tup xs=>obtain⟨_,_,_,p⟩:=x;exact p.is.lt
 |dK kvs=>obtain⟨_,_,_,_,o,_,_,e,_⟩:=x;exact D_ e
 |dT kvs=>obtain⟨_,_,_,_,o,_,_,e,_⟩:=x;exact D_ e
 |set S n=>obtain⟨o,_,_,_,e,_⟩:=x;exact D_ e
 |ins C dx fs=>obtain⟨_,_,_,e,_⟩:=x;exact D_ e
 |own y=>obtain⟨_,e⟩:=x;exact D_ e
 |xd fs=>obtain⟨_,⟨_,_,_,e,_⟩,_⟩:=x;exact D_ e
 |rng lo hi=>obtain⟨_,_,_,e⟩:=x;exact D_ e
 |frz ob u=>obtain⟨e,_⟩:=x;exact D_ e
 |tbl ps=>exact D_ (show h.get? a=some _ from x)
 |met f y=>exact D_ (show h.get? a=some _ from x)
 |ext φ=>obtain⟨_,⟨_,e⟩,_⟩:=x;exact D_ e
theorem Paired.mapP {α β:Type}{F G:α->β->Prop}:∀{l₁:List α}{l₂:List β},Paired F l₁ l₂->(∀a b,F a b->G a b)->Paired G l₁ l₂
 |_,_,.nil,_=>.nil
 |_,_,.cons r t,f=>.cons (f _ _ r) (Paired.mapP t f)
theorem ObjOk.stay (x:ObjOk P w H h a o) (k:∀b u,(b=a\/H b=some (.own a))->h.get? b=some u->h'.get? b=some u)
  (ho:∀b,H b=some (.own a)->H' b=some (.own a)) (ht:∀b xs,H b=some (.tup xs)->H' b=some (.tup xs)):ObjOk P w H' h' a o:=by
 induction o with
 |lst xs=>obtain⟨z,its,n,r,e⟩:=x;exact⟨z,its,n,r,k _ _ (.inl rfl) e⟩
 |tup xs=>obtain⟨z,its,r,ob,e,c⟩:=x;exact⟨z,its,r,ob,k _ _ (.inl rfl) e,c⟩
 |dK kvs=>obtain⟨z,y,vs,r,ob,es,ep,e,c⟩:=x;exact⟨z,y,vs,r,ob,es,ep,k _ _ (.inl rfl) e,c⟩
 |dT kvs=>obtain⟨z,y,xs,r,ob,es,ep,e,c⟩:=x;exact⟨z,y,xs,Paired.mapP r fun p q z=>⟨z.1,ht _ _ z.2.1,z.2.2⟩,ob,es,ep,k _ _ (.inl rfl) e,c⟩
 |set S n=>obtain⟨ob,es,ep,t,e,c⟩:=x;exact⟨ob,es,ep,t,k _ _ (.inl rfl) e,c⟩
 |ins C dx fs=>obtain⟨d,z,ne,e,mA,⟨od,es,ep,e2,c⟩,r⟩:=x;exact⟨ho _ d,z,ne,k _ _ (.inl rfl) e,mA,⟨od,es,ep,k _ _ (.inr d) e2,c⟩,r⟩
 |own y=>obtain⟨ob,e⟩:=x;exact⟨ob,k _ _ (.inl rfl) e⟩
 |xd fs=>obtain⟨mA,⟨od,es,ep,e,c⟩,r⟩:=x;exact⟨mA,⟨od,es,ep,k _ _ (.inl rfl) e,c⟩,r⟩
 |rng lo hi=>obtain⟨t,u,v,e⟩:=x;exact⟨t,u,v,k _ _ (.inl rfl) e⟩
 |frz ob u ih=>obtain⟨e,q⟩:=x;exact⟨k _ _ (.inl rfl) e,ih q⟩
 |tbl ps =>
  have e:h.get? a=some { cls:=.none,data:=.fields ps}:=x
  show h'.get? a=some { cls:=.none,data:=.fields ps}
  exact k a _ (.inl rfl) e
 |met f y =>
  have e:h.get? a=some (methodObj (.ref f) (.ref y)):=x
  show h'.get? a=some (methodObj (.ref f) (.ref y))
  exact k a _ (.inl rfl) e
 |ext φ=>obtain⟨p,⟨o,e⟩,st⟩:=x;exact⟨st _ _ p fun o q=>k _ _ (.inl rfl) q,⟨o,k _ _ (.inl rfl) e⟩,st⟩
theorem HOk.lt (x:HOk P w H h) (e:H a=some o):a<h.objs.size:=(x a o e).lt
theorem HOk.fresh (x:HOk P w H h) (e:h.objs.size<=a):H a=none:=by
 cases q:H a with
 |none=>rfl
 |some u=>exact absurd (H_ (x.lt q) e) (QR _)
theorem HOk.kept (x:HOk P w H h) (k:∀b u,h.get? b=some u->h'.get? b=some u):HOk P w H h':=fun a o e =>
 (x a o e).stay (fun b u _ q=>k b u q) (fun _ q=>q) fun _ _ q=>q
theorem HOk.laid (x:HOk P w H h) (k:∀b u,h.get? b=some u->h'.get? b=some u) (hp:h.objs.size<=a) (new:ObjOk P w (upd H a o) h' a o):HOk P w (upd H a o) h':=fun b u e=>by
 have hn:=x.fresh hp;by_cases hb:b=a
 ·subst hb;rw[cA] at e;cases e;exact new
 rw[aW hb] at e;exact (x b u e).stay (fun c v _ q=>k c v q) (fun c q=>by rw[aW (bN q hn)];exact q) fun c xs q=>by rw[aW (bN q hn)];exact q
end
def Rd (H:Hp) (a:Addr) (u:HO):Prop:=H a=some u\/∃o,H a=some (.frz o u)
theorem Rd.of {H:Hp}{a:Addr}{u:HO}(h:H a=some u):Rd H a u:=.inl h
theorem Rd.ok {P:Program}{w:World}{H:Hp}{h:Heap}{a:Addr}{u:HO}(r:Rd H a u) (x:HOk P w H h):ObjOk P w H h a u:=by
 rcases r with r | ⟨o,r⟩
 ·exact x a u r
 obtain⟨_,q⟩:=x a _ r;exact q
def Mut:Option HO->Prop
 |some (.lst _)=>True
 |some (.dK _)=>True
 |some (.dT _)=>True
 |some (.set _ _)=>True
 |some (.ins _ _ _)=>True
 |some (.ext _)=>True
 |_=>False
section
variable {P:Program}{w:World}{H:Hp}{h h':Heap}{x e:Addr}{o':HO}
theorem HOk.write (ok:HOk P w H h) (mu:Mut (H x)) (he:e=x\/H e=some (.own x)) (k:∀b u,b≠e->h.get? b=some u->h'.get? b=some u) (heo:∃u,h'.get? e=some u)
  (new:ObjOk P w (upd H x o') h' x o'):HOk P w (upd H x o') h':=fun b u q=>by
 have nown:∀c y,H c=some (.own y)->c≠x:=fun c y r z=>by subst z;rw[r] at mu;exact mu
 have ntup:∀c xs,H c=some (.tup xs)->c≠x:=fun c xs r z=>by subst z;rw[r] at mu;exact mu
 by_cases hb:b=x
 ·subst hb;rw[cA] at q;cases q;exact new
 rw[aW hb] at q;by_cases hbe:b=e
 ·have q':H b=some (.own x):=by
   rcases he with z | z
   ·exact absurd (hbe.trans z) hb
   rw[hbe];exact z
  rw[q] at q';cases q';obtain⟨v,hv⟩:=heo;exact⟨v,by rw[hbe];exact hv⟩
 refine (ok b u q).stay (fun c v hc r=>k c v ?_ r) (fun c r=>by rw[aW (nown c b r)];exact r) fun c xs r=>by rw[aW (ntup c xs r)];exact r
 rcases hc with rfl | hc
 ·exact hbe
 rintro rfl;rcases he with z | z
 ·exact nown c b hc z
 rw[hc] at z;cases z;exact hb rfl
end
structure Un (fs ex:List Addr) (H H':Hp) (h h':Heap):Prop where
 keep:∀b o,h.get? b=some o->H b=none->b∉fs->b∉ex->h'.get? b=some o
 slot:∀b o,h.get? b=some o->H b=none->b∈fs->b∉ex->∃sl,h'.get? b=some { o with slots:=sl}
 free:∀b o,h.get? b=some o->H b=none->b∉ex->H' b=none
 there:∀b o,h.get? b=some o->b∉ex->∃o',h'.get? b=some o'
 tups:∀b xs,H b=some (.tup xs)->H' b=some (.tup xs)
 frzs:∀b o u,H b=some (.frz o u)->H' b=some (.frz o u)
 tbls:∀b ps,H b=some (.tbl ps)->∃more,H' b=some (.tbl (ps++more))
section
variable {fs fs' ex ex':List Addr}{H H1 H2:Hp}{h h1 h2 h':Heap}{a x e:Addr}{o:HO}
theorem Un.any (u:Un fs ex H H1 h h1) {b:Addr}{ob:Obj}(q:h.get? b=some ob) (n:H b=none) (hx:b∉ex):∃sl,h1.get? b=some { ob with slots:=sl}:=by
 by_cases hb:b∈fs
 ·exact u.slot b ob q n hb hx
 exact⟨ob.slots,u.keep b ob q n hb hx⟩
theorem Un.trans (a:Un fs ex H H1 h h1) (b:Un fs ex H1 H2 h1 h2):Un fs ex H H2 h h2 where
 keep:=fun c ob q n hc hx=>b.keep c ob (a.keep c ob q n hc hx) (a.free c ob q n hx) hc hx
 slot:=fun c ob q n hc hx=>by
  obtain⟨sl,e1⟩:=a.slot c ob q n hc hx
  obtain⟨sl',e2⟩:=b.slot c _ e1 (a.free c ob q n hx) hc hx
  exact⟨sl',e2⟩
 free:=fun c ob q n hx=>by
  obtain⟨o',e1⟩:=a.there c ob q hx
  exact b.free c o' e1 (a.free c ob q n hx) hx
 there:=fun c ob q hx=>by
  obtain⟨o',e1⟩:=a.there c ob q hx
  exact b.there c o' e1 hx
 tups:=fun c xs q=>b.tups c xs (a.tups c xs q)
 frzs:=fun c ob xs q=>b.frzs c ob xs (a.frzs c ob xs q)
 tbls:=fun c ps q=>by
  obtain⟨m1,e1⟩:=a.tbls c ps q
  obtain⟨m2,e2⟩:=b.tbls c _ e1
  exact⟨m1++m2,by rw[e2,Array.append_assoc]⟩
theorem Un.kept (k:∀b u,h.get? b=some u->h'.get? b=some u):Un fs ex H H h h' :=
 ⟨fun b ob q _ _ _=>k b ob q,fun b ob q _ _ _=>⟨ob.slots,k b ob q⟩,fun _ _ _ n _=>n,fun b ob q _=>⟨ob,k b ob q⟩,fun _ _ q=>q,fun _ _ _ q=>q,fun _ ps q=>⟨#[],by rw[q];simp⟩⟩
theorem Un.refl:Un fs ex H H h h:=Un.kept fun _ _ q=>q
theorem Un.laid (k:∀b u,h.get? b=some u->h'.get? b=some u) (hp:h.objs.size<=a) (hn:H a=none):Un fs ex H (upd H a o) h h' where
 keep:=fun b u q _ _ _=>k b u q
 slot:=fun b u q _ _ _=>⟨u.slots,k b u q⟩
 free:=fun b u q n _=>by rw[aW (Qt (H_ (D_ q) hp))];exact n
 there:=fun b u q _=>⟨u,k b u q⟩
 tups:=fun b xs q=>by rw[aW (bN q hn)];exact q
 frzs:=fun b u xs q=>by rw[aW (bN q hn)];exact q
 tbls:=fun b ps q=>⟨#[],by rw[aW (bN q hn),q];simp⟩
theorem Un.write (mu:Mut (H x)) (he:e=x\/H e=some (.own x)) (k:∀b u,b≠e->h.get? b=some u->h'.get? b=some u) (heo:∃u,h'.get? e=some u):Un fs ex H (upd H x o) h h':=by
 have hx:∀b,H b=none->b≠x:=fun b n z=>by subst z;rw[n] at mu;exact mu
 have hb:∀b,H b=none->b≠e:=fun b n z=>by
  subst z;rcases he with r | r
  ·exact hx b n r
  rw[n] at r;cases r
 have hm:∀b u,H b=some u->¬Mut (some u)->b≠x:=fun b u q nm z=>by subst z;rw[q] at mu;exact nm mu
 refine⟨fun b u q n _ _=>k b u (hb b n) q,fun b u q n _ _=>⟨u.slots,k b u (hb b n) q⟩,fun b u q n _=>by rw[aW (hx b n)];exact n,fun b u q _=>?_,
  fun b xs q=>by rw[aW (hm b _ q fun z=>z)];exact q,fun b u xs q=>by rw[aW (hm b _ q fun z=>z)];exact q,fun b ps q=>⟨#[],by rw[aW (hm b _ q fun z=>z),q];simp⟩⟩
 by_cases hbe:b=e
 ·subst hbe;exact heo
 exact⟨u,k b u hbe q⟩
theorem Un.mono (u:Un fs ex H H1 h h1) (hs:∀b∈fs,b∈fs') (hx:∀b∈ex,b∈ex'):Un fs' ex' H H1 h h1 :=
 ⟨fun b ob q n hb he=>u.keep b ob q n (fun z=>hb (hs b z)) fun z=>he (hx b z),fun _ _ q n _ he=>u.any q n fun z=>he (hx _ z),fun b ob q n he=>u.free b ob q n fun z=>he (hx b z),fun b ob q he=>u.there b ob q fun z=>he (hx b z),u.tups,u.frzs,u.tbls⟩
end
def trk (h:Heap) (H:Hp):List Addr:=(List.range h.objs.size).filter fun a=>(H a).isSome
def mj (h:Heap) (H:Hp):Heap:=PySem.W.hideAll h (trk h H)
theorem uH (h:Heap) (H:Hp):(mj h H).objs.size=h.objs.size:=PySem.W.hideAll_size _ _
theorem vI {h:Heap}{H:Hp}{b:Addr}{o:Obj}(e:h.get? b=some o) (n:H b=none):(mj h H).get? b=some o :=
 PySem.W.hideAll_get _ e fun hm=>by
  have q:(H b).isSome=true:=(QS.mp hm).2;rw[n] at q;simp at q
theorem zu {h:Heap}{H:Hp}{b:Addr}{o:Obj}(e:(mj h H).get? b=some o):h.get? b=some o/\H b=none:=by
 have e':h.get? b=some o:=PySem.W.of_hideAll (trk h H) e;refine⟨e',?_⟩;cases q:H b with
 |none=>rfl
 |some x =>
  have hm:b∈trk h H:=QS.mpr ⟨L_.mpr (D_ e'),by simp [q]⟩
  have z:(mj h H).get? b=none:=PySem.W.hideAll_none (trk h H) hm
  rw[z] at e;cases e
def zx (g h : Heap) (L : Addr) : List (Addr × Obj):=(List.range h.objs.size).filterMap fun a => if a = L \/ (g.get? a).isSome = true then none else (h.get? a).map fun o => (a,o)
def rest (g h:Heap) (L d:Addr):List (Addr × Obj):=(zx g h L).filter fun p=>decide (p.1≠d)
structure Mod (K:Frag) (mg:Str->Option Value) (base:Heap):Prop where
 kin:K.In base
 glob:base.Ns mainGlobals mg
 blt:∃mb,base.Ns builtinsNs mb/\∀x:Str,x≠"__name__"->mb x=bootBuiltins x
 nolimit:base.NoLimit
structure Cx where
 prog:Program
 w:World
 K:Frag
 mg:Str->Option Value
 base:Heap
 A:Around
 N:List Str
 s₀:Shared
 H₀:Hp
 env:Env
 outer:List Env
 stack:List Env
 ex:List Addr
 fn:Str->Bool
 calm:Bool
 pn:List (Addr × Obj)
 xe:Value->Shared->Prop
def frs (l : List Env) : List Addr:=l.filterMap (·.frame)
abbrev Cx.fs (X:Cx):List Addr:=frs X.outer
def Vis (sc:Scope) (x:Str):Prop:=sc.names.lookup x=some .local\/sc.names.lookup x=some .cell\/sc.names.lookup x=some .free
def Loc (sc:Scope) (x:Str):Prop:=sc.names.lookup x=some .local\/sc.names.lookup x=some .cell
def Look (env:Env) (h:Heap) (m:Str->Option Value) (x:Str) (u:Value):Prop :=
 (env.kindOf x=some .local/\m x=some u)\/((env.kindOf x=some .cell\/env.kindOf x=some .free)/\∃c,env.cells.lookup x=some c/\h.IsCell c (some u))
structure Cx.Ok (X:Cx):Prop where
 mod:Mod X.K X.mg X.base
 kind:X.env.scope.kind=.function
 glob:X.env.globals=mainGlobals
 blt:X.env.builtins=builtinsNs
 above:X.s₀.heap.objs.size<=X.env.locals
 inj:∀x y c,X.env.cells.lookup x=some c->X.env.cells.lookup y=some c->x=y
 has:∀x,(X.env.kindOf x=some .cell\/X.env.kindOf x=some .free)->∃c,X.env.cells.lookup x=some c
 cab:∀x c,X.fn x=true->X.env.cells.lookup x=some c->X.s₀.heap.objs.size<=c
 hd:X.calm=true->X.A.handled=none
 frames:X.A.frames=some X.stack
 stk:X.stack=X.outer\/(X.stack=X.env::X.outer/\X.env.frame=some X.env.locals)
 exf:∀b∈X.ex,b≠X.env.locals/\∀x c,X.env.cells.lookup x=some c->c≠b
 bs:∀b o,X.base.get? b=some o->X.s₀.heap.get? b=some o/\X.H₀ b=none
 bsz:X.base.objs.size<=X.s₀.heap.objs.size
 noex:∀b o,X.base.get? b=some o->b∉X.ex
 exfs:∀b∈X.ex,b∉X.fs
 funs:X.s₀.heap.FunFrames X.base X.outer
 frf:∀b∈X.fs,X.H₀ b=none
structure Inv (X:Cx) (pins:List (Addr × Obj)) (Z:List (Option V)) (H:Hp) (s:Shared):Prop where
 ok:X.Ok
 os:s.os=X.s₀.os
 bare:AllBare s.gens
 base:Un X.fs X.ex X.H₀ H X.s₀.heap s.heap
 loc:∃m,s.heap.Ns X.env.locals m/\∀(i:Nat) (x:Str) (v:V),X.N[i]?=some x->Z[i]?=some (some v)->Vis X.env.scope x->∃u,RelV v u/\Look X.env s.heap m x u
 cell:∀x c,X.env.cells.lookup x=some c->∃v,s.heap.IsCell c v
 free:H X.env.locals=none
 freeC:∀x c,X.env.cells.lookup x=some c->H c=none
 pin:∀p∈X.pn++pins,s.heap.get? p.1=some p.2/\H p.1=none/\p.1≠X.env.locals/\p.1∉X.fs/\∀v,p.2.data≠.cell v
 hok:HOk X.prog X.w H s.heap
 len:Z.length=X.N.length
section
variable {X:Cx}{pins:List (Addr × Obj)}{Z:List (Option V)}{H H':Hp}{s:Shared}{h':Heap}
theorem Cx.Ok.nofr (ok:X.Ok) {b:Addr}{o:Obj}(e:X.base.get? b=some o):b∉X.fs:=fun hb=>by
 have:=(ok.funs.mem hb).1;rw[e] at this;cases this
theorem Inv.bs (I:Inv X pins Z H s):∀b o,X.base.get? b=some o->s.heap.get? b=some o/\H b=none:=fun b o e =>
 ⟨I.base.keep b o (I.ok.bs b o e).1 (I.ok.bs b o e).2 (I.ok.nofr e) (I.ok.noex b o e),I.base.free b o (I.ok.bs b o e).1 (I.ok.bs b o e).2 (I.ok.noex b o e)⟩
theorem Inv.bk (I:Inv X pins Z H s):∀b o,X.base.get? b=some o->s.heap.get? b=some o:=fun b o e=>(I.bs b o e).1
theorem Inv.mod (I:Inv X pins Z H s):Mod X.K X.mg X.base:=I.ok.mod
theorem Inv.kIn (I:Inv X pins Z H s):X.K.In s.heap:=I.ok.mod.kin.keeps I.bk
theorem Inv.nolimit (I:Inv X pins Z H s):s.heap.NoLimit:=I.ok.mod.nolimit.keeps I.bk
theorem Inv.lt (I:Inv X pins Z H s):X.env.locals<s.heap.objs.size:=let ⟨_,hn,_⟩:=I.loc;hn.lt
theorem Inv.sz (I:Inv X pins Z H s):X.s₀.heap.objs.size<=s.heap.objs.size:=N_ I.ok.above (Rf I.lt)
theorem Inv.nofs (I:Inv X pins Z H s) {a:Addr}(h:s.heap.objs.size<=a):a∉X.fs:=fun hb=>by
 obtain⟨_,o,ho,_⟩:=I.ok.funs.mem hb;exact absurd (H_ (D_ ho) (N_ I.sz h)) (QR _)
theorem Inv.cne (I:Inv X pins Z H s):∀x c,X.env.cells.lookup x=some c->c≠X.env.locals:=fun x c e z=>by
 obtain⟨v,o,ho,hd⟩:=I.cell x c e;obtain⟨m,⟨o',es,ep,ho',hd',_⟩,_⟩:=I.loc;rw[z,ho'] at ho;cases ho;rw[hd'] at hd;cases hd
theorem Inv.funs (I:Inv X pins Z H s):s.heap.FunFrames X.base X.outer:=by
 have all:∀(l:List Env),(∀b∈frs l,b∈X.fs)->X.s₀.heap.FunFrames X.base l->s.heap.FunFrames X.base l:=by
  intro l;induction l with
  |nil=>intro _ _;trivial
  |cons env r ih =>
  intro hs hl;obtain ⟨hk,⟨L,o,hf,hn,ho,hd⟩,hr⟩:=hl;have hL : L ∈ X.fs:=hs L (by unfold frs; rw [List.filterMap_cons,hf]; exact i_);obtain ⟨sl,e⟩:=I.base.slot L o ho (I.ok.frf L hL) hL fun z => I.ok.exfs L z hL;exact ⟨hk,⟨L,_,hf,hn,e,hd⟩,ih (fun b hb => hs b (by unfold frs; rw [List.filterMap_cons,hf]; exact q_ _ hb)) hr⟩
 exact all X.outer (fun _ hb=>hb) I.ok.funs
theorem Inv.stack (I:Inv X pins Z H s):s.heap.FunFrames X.base X.stack:=by
 rcases I.ok.stk with e | ⟨e,hf⟩
 ·rw[e];exact I.funs
 rw[e];obtain⟨m,hn,_⟩:=I.loc;refine .cons (by rw[I.ok.kind];decide) hf hn ?_ I.funs;exact Heap.get?_none_of_le (N_ I.ok.bsz I.ok.above)
theorem Inv.stkSub (I:Inv X pins Z H s):∀b∈frs X.stack,b∈X.env.locals::X.fs:=fun b hb=>by
 rcases I.ok.stk with e | ⟨e,hf⟩
 ·rw[e] at hb;exact q_ _ hb
 rw [e] at hb;unfold frs at hb;rw [List.filterMap_cons,hf] at hb;exact hb
theorem Inv.stkFree (I:Inv X pins Z H s):∀b∈frs X.stack,H b=none:=fun b hb=>by
 rcases k_.mp (I.stkSub b hb) with e | hb
 ·rw[e];exact I.free
 obtain⟨_,o,ho,_⟩:=I.ok.funs.mem hb;exact I.base.free b o ho (I.ok.frf b hb) fun z=>I.ok.exfs b z hb
theorem Inv.step {g':Array GenState}{t':Nat}{d':Drawn}{ch:List Addr}(I:Inv X pins Z H s)
  (hch:∀b∈ch,(b∈X.ex\/X.s₀.heap.objs.size<=b)/\b≠X.env.locals/\(∀x c,X.env.cells.lookup x=some c->c≠b)/\∀p∈X.pn++pins,p.1≠b)
  (keep:∀b o,b≠X.env.locals->b∉X.fs->b∉ch->s.heap.get? b=some o->H b=none->h'.get? b=some o)
  (slot:∀b o,b≠X.env.locals->b∈X.fs->b∉ch->s.heap.get? b=some o->H b=none->∃sl,h'.get? b=some { o with slots:=sl}) (free:∀b o,b∉ch->s.heap.get? b=some o->H b=none->H' b=none)
  (there:∀b o,b∉ch->s.heap.get? b=some o->∃o',h'.get? b=some o')
  (tups:∀b xs,H b=some (.tup xs)->H' b=some (.tup xs)) (frzs:∀b o u,H b=some (.frz o u)->H' b=some (.frz o u)) (tbls:∀b ps,H b=some (.tbl ps)->∃more,H' b=some (.tbl (ps++more)))
  (ns:∀m,s.heap.Ns X.env.locals m->h'.Ns X.env.locals m) (hok:HOk X.prog X.w H' h') (hg:AllBare g') :
  Inv X pins Z H' { s with heap:=h',gens:=g',drawn:=d',toks:=t'}:=by
 have neL:∀b o,X.s₀.heap.get? b=some o->b≠X.env.locals:=fun b o e=>Qt (H_ (D_ e) I.ok.above);have neC:∀b o,X.s₀.heap.get? b=some o->b∉X.ex->b∉ch:=fun b o e hx hb=>by
  rcases (hch b hb).1 with z | z
  ·exact hx z
  exact absurd (H_ (D_ e) z) (QR _)
 have cellK:∀x c,X.env.cells.lookup x=some c->∀v,s.heap.IsCell c v->h'.IsCell c v:=fun x c e v ⟨o,ho,hd⟩=>by
  have nch:c∉ch:=fun z=>(hch c z).2.2.1 x c e rfl;by_cases hc:c∈X.fs
  ·obtain⟨sl,q⟩:=slot c o (I.cne x c e) hc nch ho (I.freeC x c e);exact⟨_,q,hd⟩
  exact⟨o,keep c o (I.cne x c e) hc nch ho (I.freeC x c e),hd⟩
 refine⟨I.ok,I.os,hg,⟨fun b o e n hb hx=>?_,fun b o e n hb hx=>?_,fun b o e n hx=>?_,fun b o e hx=>?_,fun b xs e=>tups b xs (I.base.tups b xs e),fun b o xs e=>frzs b o xs (I.base.frzs b o xs e),fun b ps e=>?_⟩,?_,fun x c e=>?_,?_,fun x c e=>?_,fun p hp=>?_,hok,I.len⟩
 ·exact keep b o (neL b o e) hb (neC b o e hx) (I.base.keep b o e n hb hx) (I.base.free b o e n hx)
 ·obtain⟨sl,e1⟩:=I.base.slot b o e n hb hx;obtain⟨sl',e2⟩:=slot b _ (neL b o e) hb (neC b o e hx) e1 (I.base.free b o e n hx);exact⟨sl',e2⟩
 ·obtain⟨o',e1⟩:=I.base.there b o e hx;exact free b o' (neC b o e hx) e1 (I.base.free b o e n hx)
 ·obtain⟨o',e1⟩:=I.base.there b o e hx;exact there b o' (neC b o e hx) e1
 ·obtain⟨m1,e1⟩:=I.base.tbls b ps e;obtain⟨m2,e2⟩:=tbls b _ e1;exact⟨m1++m2,by rw[e2,Array.append_assoc]⟩
 ·obtain⟨m,hn,hl⟩:=I.loc;refine⟨m,ns m hn,fun i x v e1 e2 e3=>?_⟩;obtain⟨u,r,l⟩:=hl i x v e1 e2 e3;refine⟨u,r,?_⟩;rcases l with l | ⟨k,c,e,z⟩
  ·exact .inl l
  exact .inr ⟨k,c,e,cellK x c e _ z⟩
 ·obtain⟨v,z⟩:=I.cell x c e;exact⟨v,cellK x c e v z⟩
 ·obtain⟨m,⟨o,_,_,ho,_⟩,_⟩:=I.loc;exact free _ o (fun z=>(hch _ z).2.1 rfl) ho I.free
 ·obtain⟨v,o,ho,hd⟩:=I.cell x c e;exact free c o (fun z=>(hch c z).2.2.1 x c e rfl) ho (I.freeC x c e)
 obtain⟨e,n,ne,nf,d⟩:=I.pin p hp;have nch:p.1∉ch:=fun z=>(hch p.1 z).2.2.2 p hp rfl;exact⟨keep p.1 p.2 ne nf nch e n,free p.1 p.2 nch e n,ne,nf,d⟩
theorem Inv.un {t':Nat}(I:Inv X pins Z H s) (u:Un X.fs [] H H' s.heap h') (hok:HOk X.prog X.w H' h'):Inv X pins Z H' { s with heap:=h',toks:=t'}:=by
 obtain⟨m,⟨o,es,ep,ho,r⟩,_⟩:=id I.loc;obtain⟨sl,hL⟩:=u.any ho I.free (by simp);exact I.step (g':=s.gens) (d':=s.drawn) (ch:=[]) (fun _ z=>nomatch z) (fun b o _ hb _ e n=>u.keep b o e n hb (by simp)) (fun b o _ hb _ e n=>u.slot b o e n hb (by simp)) (fun b o _ e n=>u.free b o e n (by simp)) (fun b o _ e=>u.there b o e (by simp)) u.tups u.frzs u.tbls (fun m' hm=>by
  obtain⟨o',es',ep',ho',r'⟩:=hm
  rw[ho] at ho';cases ho'
  exact⟨_,es',ep',hL,r'⟩) hok I.bare
theorem Inv.call {g':Array GenState}{t':Nat}{d':Drawn}{ch:List Addr}(I:Inv X pins Z H s) (u:Un (frs X.stack) ch H H' s.heap h') (hok:HOk X.prog X.w H' h') (hg:AllBare g')
  (hch:∀b∈ch,(b∈X.ex\/X.s₀.heap.objs.size<=b)/\b≠X.env.locals/\(∀x c,X.env.cells.lookup x=some c->c≠b)/\∀p∈X.pn++pins,p.1≠b) :
  Inv X pins Z H' { s with heap:=h',gens:=g',drawn:=d',toks:=t'}:=by
 obtain⟨m,⟨o,es,ep,ho,r⟩,_⟩:=id I.loc;obtain⟨sl,hL⟩:=u.any ho I.free fun z=>(hch _ z).2.1 rfl;exact I.step (ch:=ch) hch (fun b o hL hb hc e n=>u.keep b o e n (fun z=>(k_.mp (I.stkSub b z)).elim hL hb) hc) (fun b o _ _ hc e n=>u.any e n hc) (fun b o hc e n=>u.free b o e n hc) (fun b o hc e=>u.there b o e hc) u.tups u.frzs u.tbls (fun m' hm=>by
  obtain⟨o',es',ep',ho',r'⟩:=hm
  rw[ho] at ho';cases ho'
  exact⟨_,es',ep',hL,r'⟩) hok hg
theorem Inv.turned {t':Nat}{it:Addr}(I:Inv X pins Z H s) (k:∀b o,b≠it->s.heap.get? b=some o->h'.get? b=some o) (hn:H it=none) (hL:it≠X.env.locals)
  (h1:it∈X.ex\/X.s₀.heap.objs.size<=it) (h2:∀x c,X.env.cells.lookup x=some c->c≠it) (h3:∀p∈X.pn++pins,p.1≠it):Inv X pins Z H { s with heap:=h',toks:=t'}:=by
 have nit:∀b u,H b=some u->b≠it:=fun b u e z=>by rw[z,hn] at e;cases e
 refine I.step (g':=s.gens) (d':=s.drawn) (ch:=[it]) (fun b hb=>?_) (fun b o _ _ hc e _=>k b o (fun z=>hc (by simp [z])) e) (fun b o _ _ hc e _=>⟨o.slots,k b o (fun z=>hc (by simp [z])) e⟩) (fun _ _ _ _ n=>n)
  (fun b o hc e=>⟨o,k b o (fun z=>hc (by simp [z])) e⟩) (fun _ _ e=>e) (fun _ _ _ e=>e) (fun b ps e=>⟨#[],by rw[e];simp⟩) (fun m hm=>?_) (fun b u e=>?_) I.bare
 ·have e:b=it:=by simpa using hb
  subst e;exact⟨h1,hL,h2,h3⟩
 ·obtain⟨o,es,ep,ho,r⟩:=hm;exact⟨o,es,ep,k _ o (Ne.symm hL) ho,r⟩
 refine (I.hok b u e).stay (fun c v hc q=>k c v ?_ q) (fun _ q=>q) fun _ _ q=>q;rcases hc with z | z
 ·rw[z];exact nit b u e
 exact nit c _ z
theorem Inv.tok (I:Inv X pins Z H s) (t:Nat):Inv X pins Z H { s with toks:=t}:=I.un (h':=s.heap) (t':=t) Un.refl I.hok
theorem Inv.kept {t':Nat}(I:Inv X pins Z H s) (k:∀b u,s.heap.get? b=some u->h'.get? b=some u):Inv X pins Z H { s with heap:=h',toks:=t'}:=I.un (Un.kept k) (I.hok.kept k)
theorem Inv.laid {a:Addr}{o:HO}{t':Nat}(I:Inv X pins Z H s) (k:∀b u,s.heap.get? b=some u->h'.get? b=some u) (hp:s.heap.objs.size<=a) (new:ObjOk X.prog X.w (upd H a o) h' a o) :
  Inv X pins Z (upd H a o) { s with heap:=h',toks:=t'}:=I.un (Un.laid k hp (I.hok.fresh hp)) (I.hok.laid k hp new)
theorem Inv.write {x e:Addr}{o:HO}{t':Nat}(I:Inv X pins Z H s) (mu:Mut (H x)) (he:e=x\/H e=some (.own x)) (k:∀b u,b≠e->s.heap.get? b=some u->h'.get? b=some u) (heo:∃u,h'.get? e=some u)
  (new:ObjOk X.prog X.w (upd H x o) h' x o):Inv X pins Z (upd H x o) { s with heap:=h',toks:=t'}:=I.un (Un.write mu he k heo) (I.hok.write mu he k heo new)
theorem Inv.pins_of {pins':List (Addr × Obj)}(I:Inv X pins Z H s) (h:∀p∈pins',s.heap.get? p.1=some p.2/\H p.1=none/\p.1≠X.env.locals/\p.1∉X.fs/\∀v,p.2.data≠.cell v):Inv X pins' Z H s :=
 ⟨I.ok,I.os,I.bare,I.base,I.loc,I.cell,I.free,I.freeC,fun p hp=>(v_.mp hp).elim (fun z=>I.pin p (Rx _ z)) (h p),I.hok,I.len⟩
theorem oM {N:List Str}(hN:N.Nodup) {i j:Nat}{x:Str}(a:N[i]?=some x) (b:N[j]?=some x):i=j:=by
 obtain⟨h1,e1⟩:=Ra.mp a;obtain⟨h2,e2⟩:=Ra.mp b;exact (List.getElem_inj hN).mp (e1.trans e2.symm)
theorem lz {M:Model}{A:Around}{E:Value->Shared->Prop}{i:Nat}{x:Str}{v:V}{u:Value}{Q:Unit->Shared->Prop}(I:Inv X pins Z H s) (hN:X.N.Nodup) (hi:X.N[i]?=some x) (hx:Loc X.env.scope x) (r:RelV v u)
  (h:∀s',Inv X pins (Z.set i (some v)) H s'->(∃a,Heap.SameBut a s.heap s'.heap/\(a=X.env.locals\/X.env.cells.lookup x=some a))->Q () s') (hf:X.fn x=true\/X.env.scope.names.lookup x=some .local:=by first | exact .inl rfl | exact .inr rfl | assumption):wpAny M A (storeName X.env x u) Q E s:=by
 obtain⟨m,hn,hl⟩:=id I.loc;have hcls:(X.env.scope.kind==.class||(X.env.scope.kind==.module&&X.env.locals != X.env.globals))=false:=by rw[I.ok.kind];rfl
 have hiZ:i<Z.length:=by rw[I.len];exact (Ra.mp hi).1
 have cne:=I.cne;have tracked:∀{a:Addr} {h':Heap},(∃o,s.heap.get? a=some o/\H a=none)->Heap.SameBut a s.heap h'->HOk X.prog X.w H h':=fun {a h'} ha hs b ob e=>by
  obtain⟨_,_,hfree⟩:=ha;refine (I.hok b ob e).stay (fun c w' hc q=>(hs.2 c ?_).trans q) (fun _ q=>q) fun _ _ q=>q;rintro rfl;rcases hc with rfl | hc
  ·rw[hfree] at e;cases e
  rw[hfree] at hc;cases hc
 rcases hx with hk | hk
 ·refine wpAny_storeName_local hk hn (fun h' hn' hs=>?_) hcls;obtain⟨oL,_,_,hoL,_⟩:=id hn;refine h _ ⟨I.ok,I.os,I.bare,⟨fun b o e n hb hx=>?_,fun b o e n hb hx=>?_,I.base.free,fun b o e hx=>?_,I.base.tups,I.base.frzs,I.base.tbls⟩,⟨_,hn',fun j y v' e1 e2 e3=>?_⟩,fun y c e=>?_,I.free,I.freeC,fun p hp=>?_,tracked ⟨oL,hoL,I.free⟩ hs,by simpa using I.len⟩ ⟨_,hs,.inl rfl⟩
  ·exact (hs.2 b (Qt (H_ (D_ e) I.ok.above))).trans (I.base.keep b o e n hb hx)
  ·obtain⟨sl,e1⟩:=I.base.slot b o e n hb hx;exact⟨sl,(hs.2 b (Qt (H_ (D_ e) I.ok.above))).trans e1⟩
  ·obtain⟨o',e1⟩:=I.base.there b o e hx;exact⟨o',(hs.2 b (Qt (H_ (D_ e) I.ok.above))).trans e1⟩
  ·by_cases hj:j=i
   ·subst hj;rw[hi] at e1;cases e1;rw[Rn hiZ] at e2;cases e2;exact⟨u,r,.inl ⟨hk,by simp⟩⟩
   rw[Ry (Ne.symm hj)] at e2;obtain⟨u',r',q⟩:=hl j y v' e1 e2 e3;refine⟨u',r',?_⟩;rcases q with ⟨k,e⟩ | ⟨k,c,e,z⟩
   ·refine .inl ⟨k,?_⟩;have:y≠x:=fun e=>hj (oM hN e1 (e▸hi));simp [this,e]
   exact .inr ⟨k,c,e,z.sameBut hs (cne y c e)⟩
  ·obtain⟨w',z⟩:=I.cell y c e;exact⟨w',z.sameBut hs (cne y c e)⟩
  obtain⟨e,n,ne,nf,d⟩:=I.pin p hp;exact⟨(hs.2 p.1 ne).trans e,n,ne,nf,d⟩
 have hfn:X.fn x=true:=by
  rcases hf with z | z
  ·exact z
  rw[z] at hk;cases hk
 obtain⟨c,hc⟩:=I.ok.has x (.inl hk);obtain⟨w',z⟩:=I.cell x c hc;refine wpAny_storeName_cell I.ok.kind hk hc z (fun h' hc' hs=>?_);obtain⟨oc,hoc,hocd⟩:=id z;refine h { s with heap:=h'} ⟨I.ok,I.os,I.bare,⟨fun b o e n hb hx=>?_,fun b o e n hb hx=>?_,I.base.free,fun b o e hx=>?_,I.base.tups,I.base.frzs,I.base.tbls⟩,⟨m,hn.sameBut hs (Ne.symm (cne x c hc)),fun j y v' e1 e2 e3=>?_⟩,fun y c' e=>?_,I.free,I.freeC,fun p hp=>?_,tracked ⟨oc,hoc,I.freeC x c hc⟩ hs,by simpa using I.len⟩ ⟨c,hs,.inr hc⟩
 ·exact (hs.2 b (Qt (H_ (D_ e) (I.ok.cab x c hfn hc)))).trans (I.base.keep b o e n hb hx)
 ·obtain⟨sl,e1⟩:=I.base.slot b o e n hb hx;exact⟨sl,(hs.2 b (Qt (H_ (D_ e) (I.ok.cab x c hfn hc)))).trans e1⟩
 ·obtain⟨o',e1⟩:=I.base.there b o e hx;exact⟨o',(hs.2 b (Qt (H_ (D_ e) (I.ok.cab x c hfn hc)))).trans e1⟩
 ·by_cases hj:j=i
  ·subst hj;rw[hi] at e1;cases e1;rw[Rn hiZ] at e2;cases e2;exact⟨u,r,.inr ⟨.inl hk,c,hc,hc'⟩⟩
  rw[Ry (Ne.symm hj)] at e2;obtain⟨u',r',q⟩:=hl j y v' e1 e2 e3;refine⟨u',r',?_⟩;rcases q with q | ⟨k,c',e,z'⟩
  ·exact .inl q
  refine .inr ⟨k,c',e,z'.sameBut hs ?_⟩;rintro rfl;exact hj (oM hN e1 (I.ok.inj _ _ _ e hc▸hi))
 ·by_cases hcc:c'=c
  ·subst hcc;exact⟨_,hc'⟩
  obtain⟨w2,z2⟩:=I.cell y c' e;exact⟨w2,z2.sameBut hs hcc⟩
 obtain⟨e,n,ne,nf,d⟩:=I.pin p hp;refine⟨(hs.2 p.1 ?_).trans e,n,ne,nf,d⟩;intro q;rw[q,hoc] at e;have q':oc=p.2:=Qu e;exact d w' (by rw[<- q'];exact hocd)
theorem oN {M:Model}{A:Around}{E:Value->Shared->Prop}{i:Nat}{x:Str}{v:V}{u:Value}{Q:Unit->Shared->Prop}(I:Inv X pins Z H s) (hN:X.N.Nodup) (hi:X.N[i]?=some x) (hx:Loc X.env.scope x) (r:RelV v u)
  (h:∀s',Inv X pins (Z.set i (some v)) H s'->Q () s') (hf:X.fn x=true\/X.env.scope.names.lookup x=some .local:=by first | exact .inl rfl | exact .inr rfl | assumption):wpAny M A (storeName X.env x u) Q E s :=
 lz I hN hi hx r (fun s' I' _=>h s' I') hf
theorem Inv.call' {s':Shared}{ch:List Addr}(I:Inv X pins Z H s) (ho:s'.os=s.os) (u:Un (frs X.stack) ch H H' s.heap s'.heap) (hok:HOk X.prog X.w H' s'.heap) (hg:AllBare s'.gens)
  (hch:∀b∈ch,(b∈X.ex\/X.s₀.heap.objs.size<=b)/\b≠X.env.locals/\(∀x c,X.env.cells.lookup x=some c->c≠b)/\∀p∈X.pn++pins,p.1≠b):Inv X pins Z H' s':=by
 obtain⟨h',g',d',t',o'⟩:=s';have e:o'=s.os:=ho;subst e;exact I.call (g':=g') (t':=t') (d':=d') u hok hg hch
end
abbrev XK:=Value->Option Addr->Hp->Prop
abbrev St:=List (Option V)
abbrev VK:=V->Hp->Prop
abbrev TE:=St->Hp->VK->Prop
abbrev TT:=St->Hp->(Bool->Hp->Prop)->Prop
abbrev TA:=St->Hp->(List V->Hp->Prop)->Prop
structure Ends where
 nx:St->Hp->Prop
 rt:VK
 bk:St->Hp->Prop:=fun _ _=>False
 ct:St->Hp->Prop:=fun _ _=>False
abbrev TS:=Ends->St->Hp->Prop
def EP (X:Cx) (pins:List (Addr × Obj)) (Z:St) (Q:VK) (u:Value) (s':Shared):Prop:=∃v H',Inv X pins Z H' s'/\RelV v u/\Q v H'
def TP (X:Cx) (pins:List (Addr × Obj)) (Z:St) (Q:Bool->Hp->Prop) (b:Bool) (s':Shared):Prop:=∃H',Inv X pins Z H' s'/\Q b H'
def AP (X:Cx) (pins:List (Addr × Obj)) (Z:St) (Q:List V->Hp->Prop) (us:List Value) (s':Shared):Prop:=∃vs H',Inv X pins Z H' s'/\Vals vs us/\Q vs H'
def SP (X:Cx) (pins:List (Addr × Obj)) (D:Ends) (f:Flow) (s':Shared):Prop :=
 match f with
 |.next=>∃Z' H',Inv X pins Z' H' s'/\D.nx Z' H'
 |.brk=>∃Z' H',Inv X pins Z' H' s'/\D.bk Z' H'
 |.cont=>∃Z' H',Inv X pins Z' H' s'/\D.ct Z' H'
 |.ret u=>∃v Z' H',Inv X pins Z' H' s'/\RelV v u/\D.rt v H'
def PE (X:Cx) (e:Expr) (t:TE):Prop :=
 ∀(pins:List (Addr × Obj)) (s:Shared) (Z:St) (H:Hp) (Q:VK),Inv X pins Z H s->t Z H Q->wpAny (model X.prog X.w) X.A (eval e X.env) (EP X pins Z Q) X.xe s
def PT (X:Cx) (e:Expr) (t:TT):Prop :=
 ∀(pins:List (Addr × Obj)) (s:Shared) (Z:St) (H:Hp) (Q:Bool->Hp->Prop),Inv X pins Z H s->t Z H Q->wpAny (model X.prog X.w) X.A (isTrue e X.env (eval e X.env)) (TP X pins Z Q) X.xe s
def PW (X:Cx) (e:Expr) (t:TT):Prop :=
 ∀(whole:Sem Value) (pins:List (Addr × Obj)) (s:Shared) (Z:St) (H:Hp) (Q:Bool->Hp->Prop),Inv X pins Z H s->t Z H Q->wpAny (model X.prog X.w) X.A (isTrue e X.env whole) (TP X pins Z Q) X.xe s
theorem PW.pt {X:Cx}{e:Expr}{t:TT}(h:PW X e t):PT X e t:=h _
def PA (X:Cx) (es:List Expr) (t:TA):Prop :=
 ∀(pos:Pos) (pins:List (Addr × Obj)) (s:Shared) (Z:St) (H:Hp) (Q:List V->Hp->Prop),Inv X pins Z H s->t Z H Q->wpAny (model X.prog X.w) X.A (spliced (backTo pos (starEach es X.env))) (AP X pins Z Q) X.xe s
def PS (X:Cx) (st:Stmt) (t:TS):Prop :=
 ∀(pins:List (Addr × Obj)) (s:Shared) (Z:St) (H:Hp) (D:Ends),Inv X pins Z H s->t D Z H->wpAny (model X.prog X.w) X.A (exec st X.env) (SP X pins D) X.xe s
def PSs (X:Cx) (st:List Stmt) (t:TS):Prop :=
 ∀(pins:List (Addr × Obj)) (s:Shared) (Z:St) (H:Hp) (D:Ends),Inv X pins Z H s->t D Z H->wpAny (model X.prog X.w) X.A (execs st X.env) (SP X pins D) X.xe s
theorem thn {α:Type}{t:Sem α}{Q Q':α->Shared->Prop}{M:Model}{A:Around}{E:Value->Shared->Prop}{s:Shared}(h:wpAny M A t Q E s) (hQ:∀a s,Q a s->Q' a s):wpAny M A t Q' E s:=QZ h hQ fun _ _ x=>x
section
variable {X:Cx}
def JQ (i:Nat):TE:=fun Z H Q=>∃v,Z[i]?=some (some v)/\Q v H
def tC (v:V):TE:=fun _ H Q=>Q v H
theorem EY {i:Nat}{x:Str}{pos:Pos}(hN:X.N[i]?=some x) (hv:Vis X.env.scope x) (hd:(x==("__debug__":Str))=false:=by decide) (hcd:(x==("__classdict__":Str))=false:=by decide):PE X (.Name x pos) (JQ i):=by
 intro pins s Z H Q I h;obtain⟨v,e,h⟩:=h;obtain⟨m,hn,hl⟩:=I.loc;obtain⟨u,r,l⟩:=hl i x v hN e hv;have fin:EP X pins Z Q u s:=⟨v,H,I,r,h⟩;rcases l with ⟨hk,hm⟩ | ⟨hk,c,hc,hcell⟩
 ·exact wpAny_Name (wpAny_loadName_local I.ok.kind hk hn hm fin) hd
 rcases hk with hk | hk
 ·exact wpAny_Name (wpAny_loadName_cell I.ok.kind hk hc hcell fin) hd
 exact wpAny_Name (wpAny_loadName_free I.ok.kind hk hc hcell fin hcd) hd
theorem Fb {i j pos}:PE X (.Constant (.int i) j pos) (tC (.int i)):=fun _ _ _ H _ I h=>wpAny_Constant_int ⟨.int i,H,I.tok _,⟨_,rfl⟩,h⟩
theorem JR {b j pos}:PE X (.Constant (.bool b) j pos) (tC (.bl b)):=fun _ _ _ H _ I h=>Constant_bool ⟨.bl b,H,I,rfl,h⟩
theorem Fd {j pos}:PE X (.Constant .none j pos) (tC .non):=fun _ _ _ H _ I h=>Constant_none ⟨.non,H,I,rfl,h⟩
theorem Fe {x j pos}:PE X (.Constant (.str x) j pos) (tC (.str x)):=fun _ _ _ H _ I h=>Calls.Constant_str ⟨.str x,H,I.tok _,⟨_,rfl⟩,h⟩
def Gl (X:Cx) (x:Str):Prop:=X.env.kindOf x=some .globalImplicit
theorem rZ {E:Value->Shared->Prop}{pins:List (Addr × Obj)}{s:Shared}{Z:St}{H:Hp}{x:Str}{u:Value}{pos:Pos}{Q:Value->Shared->Prop}(I:Inv X pins Z H s) (hg:Gl X x) (hm:X.mg x=some u) (h:Q u s)
  (hd:(x==("__debug__":Str))=false:=by decide):wpAny (model X.prog X.w) X.A (eval (.Name x pos) X.env) Q E s :=
 Calls.Name_function_global I.ok.kind hg (Calls.loadGlobal_global (by rw[I.ok.glob];exact I.mod.glob.keeps I.bk) hm h) hd
theorem fU {E:Value->Shared->Prop}{pins:List (Addr × Obj)}{s:Shared}{Z:St}{H:Hp}{x:Str}{u:Value}{pos:Pos}{Q:Value->Shared->Prop}(I:Inv X pins Z H s) (hg:Gl X x) (hm:X.mg x=none) (hv:bootBuiltins x=some u) (h:Q u s)
  (hn:x≠"__name__":=by decide) (hd:(x==("__debug__":Str))=false:=by decide):wpAny (model X.prog X.w) X.A (eval (.Name x pos) X.env) Q E s:=by
 obtain⟨mb,h1,h2⟩:=I.mod.blt;exact Calls.Name_function_global I.ok.kind hg (Calls.loadGlobal_builtin (by rw[I.ok.glob];exact I.mod.glob.keeps I.bk) hm (by rw[I.ok.blt];exact h1.keeps I.bk) ((h2 x hn).trans hv) h) hd
theorem zy {x:Str}{v:V}{u:Value}{pos:Pos}(hg:Gl X x) (hm:X.mg x=some u) (r:RelV v u) (hd:(x==("__debug__":Str))=false:=by decide):PE X (.Name x pos) (tC v) :=
 fun _ _ _ H _ I h=>rZ I hg hm ⟨v,H,I,r,h⟩ hd
theorem zz {x:Str}{v:V}{u:Value}{pos:Pos}(hg:Gl X x) (hm:X.mg x=none) (hv:bootBuiltins x=some u) (r:RelV v u) (hn:x≠"__name__":=by decide) (hd:(x==("__debug__":Str))=false:=by decide):PE X (.Name x pos) (tC v) :=
 fun _ _ _ H _ I h=>fU I hg hm hv ⟨v,H,I,r,h⟩ hn hd
variable {a b:Expr}{ta tb:TE}{pos:Pos}
def PC (X:Cx) (op:CmpOp) (a b:Expr) (t:TE):Prop :=
 ∀(pins:List (Addr × Obj)) (s:Shared) (Z:St) (H:Hp) (Q:VK),Inv X pins Z H s->t Z H Q ->
  wpAny (model X.prog X.w) X.A (eval a X.env) (fun v s₁=>wpAny (model X.prog X.w) X.A (eval b X.env) (fun u s₂=>wpAny (model X.prog X.w) X.A (compareOp op v u) (EP X pins Z Q) X.xe s₂) X.xe s₁) X.xe s
theorem vJ (b:Expr) {op:CmpOp}(h:op≠.In) (h2:op≠.NotIn):behindInMarks op b=false:=by
 have e1:(op==CmpOp.In)=false:=by cases op <;> first | rfl | exact absurd rfl h
 have e2:(op==CmpOp.NotIn)=false:=by cases op <;> first | rfl | exact absurd rfl h2
 cases b <;> simp [behindInMarks,e1,e2]
def tB (t:TE):TT:=fun Z H Q=>t Z H fun x H1=>∃c,x=.bl c/\Q c H1
theorem vK {op:CmpOp}{t:TE}(h:PC X op a b t) (h1:behindInMarks op b=false:=by first | exact vJ _ (by decide) (by decide) | rfl):PT X (.Compare a [op] [b] pos) (tB t):=by
 intro pins s Z H Q I hw;refine wpAny_isTrue_Compare1 (thn (h pins s Z H _ I hw) fun v s1 h1=>thn h1 fun u s2 h2=>thn h2 fun c s3 ⟨x,H1,I1,r1,q1⟩=>?_) h1;obtain⟨d,rfl,q⟩:=q1;cases r1;exact Ri ⟨H1,I1,q⟩
theorem Ff {e:Expr}{t:TE}(h:PE X e t) (he:∀whole,isTrue e X.env whole=(do let v <- whole;standAt e.pos;holding [v] (truthy v)):=by intro _;rfl):PT X e (tB t):=by
 intro pins s Z H Q I hw;refine isTrue_plain (thn (h pins s Z H _ I hw) fun v s1 ⟨x,H1,I1,r1,q1⟩=>?_) (he _);obtain⟨d,rfl,q⟩:=q1;cases r1;exact Ri ⟨H1,I1,q⟩
variable {tA tB':TT}{rest:List Expr}
def O5 (t u:TT):TT:=fun Z H Q=>t Z H fun c H1=>if c=true then u Z H1 Q else Q false H1
def tOr (t u:TT):TT:=fun Z H Q=>t Z H fun c H1=>if c=true then Q true H1 else u Z H1 Q
def O6 (t:TT):TT:=fun Z H Q=>t Z H fun c H1=>Q (!c) H1
theorem zA (ha:PT X a tA):PW X (.BoolOp .And [a] pos) tA:=by
 intro wh pins s Z H Q I h;refine isTrue_and (thn (ha pins s Z H Q I h) fun c s1 e=>?_);cases c with
 |true=>exact isTrue_and_nil e
 |false=>exact e
theorem Fg (ha:PT X a tA):PW X (.BoolOp .Or [a] pos) tA:=by
 intro wh pins s Z H Q I h;refine isTrue_or (thn (ha pins s Z H Q I h) fun c s1 e=>?_);cases c with
 |false=>exact isTrue_or_nil e
 |true=>exact e
theorem Fi (ha:PT X a tA) (hb:PW X (.BoolOp .And (b::rest) pos) tB'):PW X (.BoolOp .And (a::b::rest) pos) (O5 tA tB'):=by
 intro wh pins s Z H Q I h;refine isTrue_and (thn (ha pins s Z H _ I h) fun c s1 ⟨H1,I1,q1⟩=>?_);cases c with
 |true=>exact hb wh pins s1 Z H1 Q I1 q1
 |false=>exact⟨H1,I1,q1⟩
theorem JS (ha:PT X a tA) (hb:PW X (.BoolOp .Or (b::rest) pos) tB'):PW X (.BoolOp .Or (a::b::rest) pos) (tOr tA tB'):=by
 intro wh pins s Z H Q I h;refine isTrue_or (thn (ha pins s Z H _ I h) fun c s1 ⟨H1,I1,q1⟩=>?_);cases c with
 |true=>exact⟨H1,I1,q1⟩
 |false=>exact hb wh pins s1 Z H1 Q I1 q1
theorem Fj (ha:PT X a tA):PT X (.UnaryOp .Not a pos) (O6 tA):=by
 intro pins s Z H Q I h;exact isTrue_not (ha pins s Z H (fun c H1=>Q (!c) H1) I h)
def JT (ta tb:TE):TE:=fun Z H Q=>ta Z H fun x H1=>∃c,x=.bl c/\if c=true then tb Z H1 Q else Q (.bl false) H1
def O7 (ta tb:TE):TE:=fun Z H Q=>ta Z H fun x H1=>∃c,x=.bl c/\if c=true then Q (.bl true) H1 else tb Z H1 Q
def JV (ta:TE):TE:=fun Z H Q=>ta Z H fun x H1=>∃c,x=.bl c/\Q (.bl (!c)) H1
theorem Fl {op}{t:TE}(h:PE X a t):PE X (.BoolOp op [a] pos) t:=fun pins s Z H Q I hw=>BoolOp_one (h pins s Z H Q I hw)
theorem Fo (ha:PE X a ta) (hb:PE X (.BoolOp .And (b::rest) pos) tb):PE X (.BoolOp .And (a::b::rest) pos) (JT ta tb):=by
 intro pins s Z H Q I h;refine BoolOp_and (thn (ha pins s Z H _ I h) fun v s1 ⟨x,H1,I1,r1,q1⟩=>?_);obtain⟨c,rfl,q1⟩:=q1;cases r1;refine Ri ?_;cases c with
 |true=>exact hb pins s1 Z H1 Q I1 q1
 |false=>exact⟨.bl false,H1,I1,rfl,q1⟩
theorem JW (ha:PE X a ta) (hb:PE X (.BoolOp .Or (b::rest) pos) tb):PE X (.BoolOp .Or (a::b::rest) pos) (O7 ta tb):=by
 intro pins s Z H Q I h;refine BoolOp_or (thn (ha pins s Z H _ I h) fun v s1 ⟨x,H1,I1,r1,q1⟩=>?_);obtain⟨c,rfl,q1⟩:=q1;cases r1;refine Ri ?_;cases c with
 |false=>exact hb pins s1 Z H1 Q I1 q1
 |true=>exact⟨.bl true,H1,I1,rfl,q1⟩
theorem Fp (ha:PE X a ta):PE X (.UnaryOp .Not a pos) (JV ta):=by
 intro pins s Z H Q I h;refine UnaryOp_ (thn (ha pins s Z H _ I h) fun v s1 ⟨x,H1,I1,r1,q1⟩=>?_);obtain⟨c,rfl,q1⟩:=q1;cases r1;exact not_of (Ri ⟨.bl (!c),H1,I1,rfl,q1⟩)
end
def SqL (K:Frag) (H:Hp) (a:Addr) (xs:List V):Prop :=
 Rd H a (.lst xs) \/
  ∃(o:Obj) (its:Array Value) (n:Nat),K.lookup a=some o/\o.cls=.type "list"/\o.dict=none/\o.data=.seq its n/\its.size<=sizeLine/\Vals xs its.toList
def SqT (K:Frag) (H:Hp) (a:Addr) (xs:List V):Prop :=
 Rd H a (.tup xs) \/
  ∃(o:Obj) (its:Array Value) (n:Nat),K.lookup a=some o/\o.cls=.type "tuple"/\o.dict=none/\o.data=.seq its n/\its.size<=sizeLine/\Vals xs its.toList
def O8:Value->Option V
 |.none=>some .non
 |.bool b=>some (.bl b)
 |.int i _=>some (.int i)
 |.str x _=>some (.str x)
 |.bytes b _=>some (.byt b)
 |.float b _=>some (.flt b)
 |.ref a=>some (.ref a)
 |.type n=>some (.ty n)
 |_=>none
theorem RelV.abs {x:V}{u:Value}(r:RelV x u):O8 u=some x:=by
 cases x with
 |non=>cases r;rfl
 |bl _=>cases r;rfl
 |int _=>obtain⟨t,rfl⟩:=r;rfl
 |str _=>obtain⟨t,rfl⟩:=r;rfl
 |byt _=>obtain⟨t,rfl⟩:=r;rfl
 |flt _=>obtain⟨t,rfl⟩:=r;rfl
 |ref _=>cases r;rfl
 |ty _=>cases r;rfl
theorem RelV.inj {x y:V}{u:Value}(r:RelV x u) (q:RelV y u):x=y:=Qu (r.abs.symm.trans q.abs)
theorem Vals.inj {xs ys:List V}{us:List Value}(h:Vals xs us) (h':Vals ys us):xs=ys:=by
 induction h generalizing ys with
 |nil=>cases h';rfl
 |cons r t ih =>
 cases h' with
 |cons r' t'=>rw[r.inj r',ih t']
section
variable {X:Cx}{pins:List (Addr × Obj)}{Z:St}{H:Hp}{s:Shared}{a:Addr}{xs ys:List V}
theorem SqL.of {K:Frag}(h:H a=some (.lst xs)):SqL K H a xs:=.inl (.inl h)
theorem SqT.of {K:Frag}(h:H a=some (.tup xs)):SqT K H a xs:=.inl (.inl h)
theorem Inv.list (I:Inv X pins Z H s) (h:SqL X.K H a xs):∃its:List Value,Vals xs its/\PlainL s.heap a its.toArray/\xs.length<=sizeLine:=by
 rcases h with h | ⟨o,its,n,hk,hc,hd,hs,hz,r⟩
 ·obtain⟨z,its,n,r,e⟩:=h.ok I.hok;exact⟨its,r,⟨_,n,e,rfl,rfl,rfl⟩,z⟩
 refine⟨its.toList,r,⟨o,n,I.kIn a o hk,hc,hd,by simpa using hs⟩,?_⟩;have e:=r.length;simp only[Rk] at e;omega
theorem Inv.tuple (I:Inv X pins Z H s) (h:SqT X.K H a xs):∃its:List Value,Vals xs its/\IsTup s.heap a its.toArray/\xs.length<=sizeLine:=by
 rcases h with h | ⟨o,its,n,hk,hc,_,hs,hz,r⟩
 ·obtain⟨z,its,r,p⟩:=h.ok I.hok;exact⟨its,r,p.is,z⟩
 refine⟨its.toList,r,⟨o,I.kIn a o hk,hc,n,by simpa using hs⟩,?_⟩;have e:=r.length;simp only[Rk] at e;omega
theorem Inv.list_inj (I:Inv X pins Z H s) (h:SqL X.K H a xs) (h':SqL X.K H a ys):xs=ys:=by
 obtain⟨its,r,⟨o,n,e,_,_,d⟩,_⟩:=I.list h;obtain⟨its',r',⟨o',n',e',_,_,d'⟩,_⟩:=I.list h';rw[e] at e';cases e';rw[d] at d';injection d' with d1 _;have:its=its':=by simpa using F_ Array.toList d1
 subst this;exact r.inj r'
theorem Inv.tuple_inj (I:Inv X pins Z H s) (h:SqT X.K H a xs) (h':SqT X.K H a ys):xs=ys:=by
 obtain⟨its,r,⟨o,e,_,n,d⟩,_⟩:=I.tuple h;obtain⟨its',r',⟨o',e',_,n',d'⟩,_⟩:=I.tuple h';rw[e] at e';cases e';rw[d] at d';injection d' with d1 _;have:its=its':=by simpa using F_ Array.toList d1
 subst this;exact r.inj r'
end
abbrev Cx.wish (X:Cx) (E:Value->Shared->Prop):Cx:={ X with xe:=E}
abbrev Cx.nox (X:Cx):Cx:=X.wish fun _ _=>False
theorem Cx.Ok.wish {X:Cx}(ok:X.Ok) (E:Value->Shared->Prop):(X.wish E).Ok :=
 ⟨ok.mod,ok.kind,ok.glob,ok.blt,ok.above,ok.inj,ok.has,ok.cab,ok.hd,ok.frames,ok.stk,ok.exf,ok.bs,ok.bsz,ok.noex,ok.exfs,ok.funs,ok.frf⟩
theorem Cx.Ok.unwish {X:Cx}{E:Value->Shared->Prop}(ok:(X.wish E).Ok):X.Ok :=
 ⟨ok.mod,ok.kind,ok.glob,ok.blt,ok.above,ok.inj,ok.has,ok.cab,ok.hd,ok.frames,ok.stk,ok.exf,ok.bs,ok.bsz,ok.noex,ok.exfs,ok.funs,ok.frf⟩
section
variable {X:Cx}{pins:List (Addr × Obj)}{Z:St}{H:Hp}{s:Shared}{E:Value->Shared->Prop}
theorem Inv.wish (I:Inv X pins Z H s) (E:Value->Shared->Prop):Inv (X.wish E) pins Z H s:=⟨I.ok.wish E,I.os,I.bare,I.base,I.loc,I.cell,I.free,I.freeC,I.pin,I.hok,I.len⟩
theorem Inv.unwish (I:Inv (X.wish E) pins Z H s):Inv X pins Z H s:=⟨I.ok.unwish,I.os,I.bare,I.base,I.loc,I.cell,I.free,I.freeC,I.pin,I.hok,I.len⟩
theorem SP.unwish {D:Ends}{f:Flow}{s':Shared}(h:SP (X.wish E) pins D f s'):SP X pins D f s':=by
 cases f with
 |next=>obtain⟨Z',H',I,q⟩:=h;exact⟨Z',H',I.unwish,q⟩
 |brk=>obtain⟨Z',H',I,q⟩:=h;exact⟨Z',H',I.unwish,q⟩
 |cont=>obtain⟨Z',H',I,q⟩:=h;exact⟨Z',H',I.unwish,q⟩
 |ret u=>obtain⟨v,Z',H',I,r,q⟩:=h;exact⟨v,Z',H',I.unwish,r,q⟩
theorem PE.nox {e:Expr}{t:TE}(h:PE X.nox e t):PE X e t:=fun pins s Z H Q I hw =>
 QZ (h pins s Z H Q (I.wish _) hw) (fun _ _ ⟨v,H',I',r,q⟩=>⟨v,H',I'.unwish,r,q⟩) fun _ _ z=>False.elim z
theorem PT.nox {e:Expr}{t:TT}(h:PT X.nox e t):PT X e t:=fun pins s Z H Q I hw =>
 QZ (h pins s Z H Q (I.wish _) hw) (fun _ _ ⟨H',I',q⟩=>⟨H',I'.unwish,q⟩) fun _ _ z=>False.elim z
theorem PSs.nox {st:List Stmt}{t:TS}(h:PSs X.nox st t):PSs X st t:=fun pins s Z H D I hw =>
 QZ (h pins s Z H D (I.wish _) hw) (fun _ _ q=>q.unwish) fun _ _ z=>False.elim z
variable {st:Stmt}{rest:List Stmt}{t u:TS}{e:Expr}{te:TE}{pos:Pos}
def JX:TS:=fun D Z H=>D.nx Z H
def O9 (t u:TS):TS:=fun D Z H=>t { D with nx:=u D} Z H
theorem zB:PSs X [] JX:=fun _ _ Z H _ I h=>wpAny_execs_nil ⟨Z,H,I,h⟩
theorem vL (h1:PS X st t) (h2:PSs X rest u):PSs X (st::rest) (O9 t u):=by
 intro pins s Z H D I h;refine wpAny_execs_cons (thn (h1 pins s Z H { D with nx:=u D} I h) fun f s1 q=>?_);cases f with
 |next=>obtain⟨Z',H',I',q⟩:=q;exact h2 pins s1 Z' H' D I' q
 |ret v=>exact q
 |brk=>exact q
 |cont=>exact q
theorem zE (h1:PS X st t):PSs X [st] t:=by
 intro pins s Z H D I h;refine wpAny_execs_cons (thn (h1 pins s Z H D I h) fun f s1 q=>?_);cases f with
 |next=>exact wpAny_execs_nil q
 |ret v=>exact q
 |brk=>exact q
 |cont=>exact q
theorem Inv.quiet {pins:List (Addr × Obj)}{Z:St}{H:Hp}{s:Shared}(I:Inv X pins Z H s):interactive X.env=false:=by simp [interactive,I.ok.kind]
def JZ (te:TE):TS:=fun D Z H=>te Z H fun _ H1=>D.nx Z H1
theorem zF (he:PE X e te) (hs:swapsWith e none pos.line X.env=pure false:=by rfl):PS X (.Expr e pos) (JZ te):=by
 intro pins s Z H D I h;exact wpAny_Expr_any (thn (he pins s Z H _ I h) fun v s1 ⟨x,H1,I1,r1,q1⟩=>⟨Z,H1,I1,q1⟩) I.quiet hs
def Pa (te:TE):TS:=fun D Z H=>te Z H D.rt
theorem Fq (he:PE X e te):PS X (.Return (some e) pos) (Pa te):=by
 intro pins s Z H D I h;exact wpAny_Return_some (thn (he pins s Z H _ I h) fun v s1 ⟨x,H1,I1,r1,q1⟩=>⟨x,Z,H1,I1,r1,q1⟩)
def Pb (c:TT) (t u:TS):TS:=fun D Z H=>c Z H fun b H1=>if b=true then t D Z H1 else u D Z H1
theorem J0 {c:Expr}{a b:List Stmt}{tc:TT}(hc:PT X c tc) (ha:PSs X a t) (hb:PSs X b u):PS X (.If c a b pos) (Pb tc t u):=by
 intro pins s Z H D I h;refine wpAny_If (thn (hc pins s Z H _ I h) fun d s1 ⟨H1,I1,q1⟩=>?_);cases d with
 |true=>exact ha pins s1 Z H1 D I1 q1
 |false=>exact hb pins s1 Z H1 D I1 q1
end
abbrev TG:=V->St->Hp->(St->Hp->Prop)->Prop
abbrev TGs:=List V->St->Hp->(St->Hp->Prop)->Prop
def PG (X:Cx) (target:Expr) (t:TG):Prop :=
 ∀(pins:List (Addr × Obj)) (s:Shared) (Z:St) (H:Hp) (v:V) (u:Value) (Q:St->Hp->Prop),Inv X pins Z H s->RelV v u->t v Z H Q ->
  wpAny (model X.prog X.w) X.A (assign target X.env u) (fun _ s'=>∃Z' H',Inv X pins Z' H' s'/\Q Z' H') X.xe s
def PGs (X:Cx) (ts:List Expr) (t:TGs):Prop :=
 ∀(pins:List (Addr × Obj)) (s:Shared) (Z:St) (H:Hp) (vs:List V) (us:List Value) (Q:St->Hp->Prop),Inv X pins Z H s->Vals vs us->t vs Z H Q ->
  wpAny (model X.prog X.w) X.A (assignInOrder ((assignEach ts X.env).map (·.2)) us) (fun _ s'=>∃Z' H',Inv X pins Z' H' s'/\Q Z' H') X.xe s
abbrev vM:=V->V->V->Hp->(Hp->Prop)->Prop
def PSet (X:Cx) (t:vM):Prop :=
 ∀(pins:List (Addr × Obj)) (s:Shared) (Z:St) (H:Hp) (o i v:V) (ov iv u:Value) (Q:Hp->Prop),Inv X pins Z H s->RelV o ov->RelV i iv->RelV v u->t o i v H Q ->
  wpAny (model X.prog X.w) X.A (setItem ov iv u) (fun _ s'=>∃H',Inv X pins Z H' s'/\Q H') X.xe s
section
variable {X:Cx}{pos:Pos}
def CZ (i:Nat):TG:=fun v Z H Q=>Q (Z.set i (some v)) H
theorem zG {i:Nat}{x:Str}(hN:X.N.Nodup) (hi:X.N[i]?=some x) (hx:Loc X.env.scope x) (hf:X.fn x=true\/X.env.scope.names.lookup x=some .local:=by first | exact .inl rfl | exact .inr rfl | assumption):PG X (.Name x pos) (CZ i):=by
 intro pins s Z H v u Q I r h;exact wpAny_assign_Name (oN I hN hi hx r (fun s' I'=>⟨_,H,I',h⟩) hf)
def Pg:TGs:=fun vs Z H Q=>vs=[]/\Q Z H
def J1 (t:TG) (u:TGs):TGs:=fun vs Z H Q=>∃v r,vs=v::r/\t v Z H fun Z' H'=>u r Z' H' Q
theorem zH:PGs X [] Pg:=by
 intro pins s Z H vs us Q I r h;obtain⟨e,h⟩:=h;subst e;cases r;exact assignInOrder_nil ⟨Z,H,I,h⟩
theorem vN {e:Expr}{es:List Expr}{t:TG}{u:TGs}(h1:PG X e t) (h2:PGs X es u)
  (hs:(assignEach (e::es) X.env).map (·.2)=assign e X.env::(assignEach es X.env).map (·.2):=by rfl):PGs X (e::es) (J1 t u):=by
 intro pins s Z H vs us Q I r h;obtain⟨v,vr,e1,h⟩:=h;subst e1;cases r with
 |cons r rr =>
 rw[hs];refine assignInOrder_cons (thn (h1 pins s Z H _ _ _ I r h) fun _ s1 ⟨Z1,H1,I1,q1⟩=>?_);exact h2 pins s1 Z1 H1 _ _ Q I1 rr q1
def Ph (K:Frag) (n:Nat) (t:TGs):TG:=fun v Z H Q=>∃a xs,v=.ref a/\SqT K H a xs/\xs.length=n/\t xs Z H Q
theorem Ft {es:List Expr}{k:Nat}{t:TGs}{n:Nat}(hc:X.calm=true) (h:PGs X es t)
  (hn:(assignEach es X.env).length=n:=by rfl) (hst:(assignEach es X.env).findIdx? (·.1)=none:=by rfl):PG X (.Tuple es k pos) (Ph X.K n t):=by
 intro pins s Z H v u Q I r hw;obtain⟨a,xs,e1,hq,hl,hw⟩:=hw;subst e1;cases r;obtain⟨its,rv,ht,hz⟩:=I.tuple hq;refine assign_Tuple_tuple (I.ok.hd hc) ht (by simp [hn,<- hl,rv.length]) hst fun h' hx=>?_;have I1:Inv X pins Z H { s with heap:=h'}:=I.kept (t':=s.toks) fun b o e=>hx b o (Qt (D_ e)) e;exact h pins _ Z H xs _ Q I1 (by simpa using rv) hw
def Pj (to ti:TE) (t:vM):TG:=fun v Z H Q=>to Z H fun o H1=>ti Z H1 fun i H2=>t o i v H2 fun H3=>Q Z H3
theorem Fv {o i:Expr}{to ti:TE}{t:vM}(ho:PE X o to) (hi:PE X i ti) (hs:PSet X t)
  (ha:∀v,assign (.Subscript o i pos) X.env v=(do
   let ov <- holding [v] (eval o X.env)
   let iv <- holding [v,ov] (eval i X.env)
   standAt pos
   holding [v,ov,iv] (setItem ov iv v)
   release [v,ov,iv] []):=by intro _;rfl):PG X (.Subscript o i pos) (Pj to ti t):=by
 intro pins s Z H v u Q I r h;rw[ha];refine e_ (RW (thn (ho pins s Z H _ I h) fun ov s1 ⟨x,H1,I1,r1,q1⟩=>?_));refine e_ (RW (thn (hi pins s1 Z H1 _ I1 q1) fun iv s2 ⟨y,H2,I2,r2,q2⟩=>?_));refine e_ (wpAny_standAt (e_ (RW (thn (hs pins s2 Z H2 x y v ov iv u _ I2 r1 r2 r q2) fun _ s3 ⟨H3,I3,q3⟩=>?_))));exact wpAny_release ⟨Z,H3,I3,q3⟩
def J2 (te:TE) (g:TG):TS:=fun D Z H=>te Z H fun x H1=>g x Z H1 D.nx
theorem Fw {tg e:Expr}{te:TE}{g:TG}(he:PE X e te) (hg:PG X tg g) (hs:swapsWithSole [tg] e pos.line X.env=pure false:=by rfl) (hw:swappedStores [tg] e X.env=pure none:=by rfl)
  (h1:(assignEach [tg] X.env).map (·.2)=[assign tg X.env]:=by rfl):PS X (.Assign [tg] e pos) (J2 te g):=by
 intro pins s Z H D I h;refine wpAny_Assign_stores (thn (he pins s Z H _ I h) fun v s1 ⟨x,H1,I1,r1,q1⟩=>?_) hs hw;rw[h1];exact thn (hg pins s1 Z H1 x v _ I1 r1 q1) fun _ s2 q=>q
theorem Fx {i:Nat}{x:Str}{e:Expr}{te:TE}{pos':Pos}(hN:X.N.Nodup) (hi:X.N[i]?=some x) (hx:Loc X.env.scope x) (he:PE X e te) (hs:swapsWith e (some (.Name x pos')) pos.line X.env=pure false:=by rfl) (hf:X.fn x=true\/X.env.scope.names.lookup x=some .local:=by first | exact .inl rfl | exact .inr rfl | assumption) :
  PS X (.Assign [.Name x pos'] e pos) (J2 te (CZ i)):=by
 intro pins s Z H D I h;refine wpAny_Assign_Name (thn (he pins s Z H _ I h) fun v s1 ⟨y,H1,I1,r1,q1⟩=>?_) hs;exact oN I1 hN hi hx r1 (fun s2 I2=>⟨_,H1,I2,q1⟩) hf
def Fy (c:TT) (tb:TS):TS:=fun D Z H=>∃W:Nat->St->Hp->Prop,(∃m,W m Z H)/\∀m Z H,W m Z H ->
 c Z H fun b H1=>if b=true then ∃N:St->Hp->Prop,(∀Z' H',N Z' H'->∃m',m'<m/\W m' Z' H')/\tb { D with nx:=N,ct:=N,bk:=D.nx} Z H1 else D.nx Z H1
theorem vO {c:Expr}{body:List Stmt}{tc:TT}{tb:TS}(hp:PassesOwn (model X.prog X.w) X.A X.env X.xe) (hc:PT X c tc) (hb:PSs X body tb):PS X (.While c body [] pos) (Fy tc tb):=by
 intro pins s Z H D I h;obtain⟨W,⟨m0,w0⟩,turn⟩:=h;refine wpAny_While (codeAny_whileLoop (fun n s'=>∃Z' H',Inv X pins Z' H' s'/\W n Z' H') ?_ m0 ⟨Z,H,I,w0⟩);rintro n s1 ⟨Z1,H1,I1,w1⟩;refine Ru hp (thn (hc pins s1 Z1 H1 _ I1 (turn n Z1 H1 w1)) fun b s2 ⟨H2,I2,q2⟩=>?_);cases b with
 |true =>
  obtain⟨N,hN,q2⟩:=q2;rw[if_pos rfl];refine Ru hp (thn (hb pins s2 Z1 H2 _ I2 q2) fun f s3 q3=>?_);cases f with
  |next=>obtain⟨Z3,H3,I3,n3⟩:=q3;obtain⟨m',hm,w3⟩:=hN Z3 H3 n3;exact⟨m',hm,Z3,H3,I3,w3⟩
  |cont=>obtain⟨Z3,H3,I3,n3⟩:=q3;obtain⟨m',hm,w3⟩:=hN Z3 H3 n3;exact⟨m',hm,Z3,H3,I3,w3⟩
  |brk=>exact q3
  |ret v=>exact q3
 |false =>
 rw[if_neg p_];exact wpAny_execs_nil ⟨Z1,H2,I2,q2⟩
end
structure It where
 go:Nat->Hp->Prop
 yld:Nat->Hp->V->Hp->Prop
 stop:Nat->Hp->Prop
def kj (X:Cx) (pins:List (Addr × Obj)) (H:Hp) (b:Addr):Prop :=
 H b=none/\b≠X.env.locals/\b∉X.fs/\(b∈X.ex\/X.s₀.heap.objs.size<=b)/\(∀x c,X.env.cells.lookup x=some c->c≠b)/\∀p∈X.pn++pins,p.1≠b
theorem Inv.fpOk {X:Cx}{pins:List (Addr × Obj)}{Z:St}{H H':Hp}{s:Shared}{b:Addr}(I:Inv X pins Z H s) (hb:s.heap.objs.size<=b) (hn:H' b=none):kj X pins H' b:=by
 refine⟨hn,S7 (H_ I.lt hb),I.nofs hb,.inr (N_ I.sz hb),fun x c e z=>?_,fun p hp z=>?_⟩
 ·obtain⟨v,q⟩:=I.cell x c e;exact absurd (H_ q.lt (by rw[z];exact hb)) (QR _)
 exact absurd (H_ (D_ (I.pin p hp).1) (by rw[z];exact hb)) (QR _)
structure Turn (P:Program) (w:World) (K:Frag) (tg:Expr) (J:It) (fp:List Addr) (it:Addr) (tn:Nat->Heap->Prop):Prop where
 mem:it∈fp
 obj:∀i h,tn i h->∀b∈fp,∃o,h.get? b=some o/\∀v,o.data≠.cell v
 keep:∀i h h',tn i h->(∀b∈fp,∀o,h.get? b=some o->h'.get? b=some o)->tn i h'
 item:∀(X:Cx),X.prog=P->X.w=w->X.K=K->X.calm=true->∀(i:Nat) (pins:List (Addr × Obj)) (s:Shared) (Z:St) (H:Hp) (E:Value->Shared->Prop),Inv X pins Z H s->(∀b∈fp,kj X pins H b)->tn i s.heap->J.go i H ->
  wpAny (model P w) X.A (pyNext (.ref it)) (fun r s1=>∃u,r=some u /\
   wpAny (model P w) X.A (letOwnedTupleGo tg (.ref it) u) (fun _ s2=>∃x H',Inv X pins Z H' s2/\RelV x u/\J.yld i H x H'/\tn (i+1) s2.heap/\∀b∈fp,H' b=none) E s1) E s
 done:∀(X:Cx),X.prog=P->X.w=w->X.K=K->X.calm=true->∀(i:Nat) (pins:List (Addr × Obj)) (s:Shared) (Z:St) (H:Hp) (E:Value->Shared->Prop),Inv X pins Z H s->(∀b∈fp,kj X pins H b)->tn i s.heap->J.stop i H ->
  wpAny (model P w) X.A (pyNext (.ref it)) (fun r s1=>r=none/\Inv X pins Z H s1) E s
 self:∀(A:Around) (i:Nat) (s:Shared) (Q:Value->Shared->Prop) (E:Value->Shared->Prop),tn i s.heap->Q (.ref it) s->wpAny (model P w) A (pyIter (.ref it)) Q E s
abbrev TI:=St->Hp->(It->Hp->Prop)->Prop
def PIE (X:Cx) (pins:List (Addr × Obj)) (Z:St) (tg:Expr) (R:It->Hp->Prop) (itv:Value) (s2:Shared):Prop :=
 ∃(it:Addr) (fp:List Addr) (tn:Nat->Heap->Prop) (J:It) (H':Hp),itv=.ref it/\Inv X pins Z H' s2/\Turn X.prog X.w X.K tg J fp it tn/\tn 0 s2.heap/\(∀b∈fp,kj X pins H' b)/\R J H'
def PI (X:Cx) (tg iter:Expr) (wi:TI):Prop :=
 ∀(pins:List (Addr × Obj)) (s:Shared) (Z:St) (H:Hp) (R:It->Hp->Prop),Inv X pins Z H s->wi Z H R ->
  wpAny (model X.prog X.w) X.A (eval iter X.env) (fun v s1=>wpAny (model X.prog X.w) X.A (pyIter v) (PIE X pins Z tg R) X.xe s1) X.xe s
theorem vP {M:Model}{A:Around}{E:Value->Shared->Prop}{s:Shared}{tg:Expr}{it:Addr}{u:Value}{o:Obj}{n:String}{vs:Array Value}{Q:Unit->Shared->Prop}(ho:s.heap.get? it=some o) (hc:o.cls=.type n) (hd:o.data=.fields vs)
  (hn:["enumerate","zip","dict_itemiterator","dict_reverseitemiterator","odict_iterator","itertools.zip_longest","itertools.pairwise"].contains n=false) (hQ:Q () s):wpAny M A (letOwnedTupleGo tg (.ref it) u) Q E s:=by
 unfold letOwnedTupleGo;cases tg <;> first
  |exact z_ hQ
  | (cases u <;> first
    |exact z_ hQ
    | (refine e_ (wpAny_load ho ?_)
       rw[hc,hd]
       show wpAny M A (if (["enumerate","zip","dict_itemiterator","dict_reverseitemiterator","odict_iterator","itertools.zip_longest","itertools.pairwise"].contains n&&vs[0]?==some (rawInt _))=true then _ else _) Q E s
       rw[if_neg (by intro h;rw[hn,Bool.false_and] at h;cases h)]
       exact z_ hQ))
def Itl (K:Frag) (a:Addr):It :=
 ⟨fun i H=>∃xs x,SqL K H a xs/\xs[i]?=some x,fun i H x H'=>H'=H/\∀xs,SqL K H a xs->xs[i]?=some x,fun i H=>∃xs,SqL K H a xs/\xs.length<=i⟩
def Itt (K:Frag) (a:Addr):It :=
 ⟨fun i H=>∃xs x,SqT K H a xs/\xs[i]?=some x,fun i H x H'=>H'=H/\∀xs,SqT K H a xs->xs[i]?=some x,fun i H=>∃xs,SqT K H a xs/\xs.length<=i⟩
def Itr (lo:Int) (n:Nat):It:=⟨fun i _=>i<n,fun i H x H'=>H'=H/\x=.int (lo+i),fun i _=>n<=i⟩
theorem uI {P:Program}{w:World}{K:Frag}{tg:Expr}(a it:Addr):Turn P w K tg (Itl K a) [it] it (fun i h=>h.IsListIter it a i) where
 mem:=by simp
 obj:=fun i h st b hb=>by
  have e:b=it:=by simpa using hb
  subst e
  obtain⟨o,e,c,d⟩:=st
  exact⟨o,e,fun v z=>by rw[d] at z;cases z⟩
 keep:=fun i h h' st k=>st.at fun o e=>k it (by simp) o e
 item:=by
  intro X hP hw hK hc i pins s Z H E I hf st hg
  subst hP hw hK
  obtain⟨xs,x,hq,hx⟩:=hg
  obtain⟨its,rv,p,hz⟩:=I.list hq
  obtain⟨u,hu,ru⟩:=rv.get hx
  obtain⟨f0,f1,f2,f3,f4,f5⟩:=hf it (by simp)
  refine wpAny_pyNext_list_item st p.isList (x:=u) (by simpa using hu) fun h' st' sb=>?_
  have I1:Inv X pins Z H { s with heap:=h'}:=I.turned (t':=s.toks) (fun b o hb e=>(sb.2 b hb).trans e) f0 f1 f3 f4 f5
  obtain⟨o,e,c,d⟩:=id st'
  exact⟨u,rfl,vP (s:={ s with heap:=h'}) e c d (by decide) ⟨x,H,I1,ru,⟨rfl,fun ys hy=>by rw[I.list_inj hy hq];exact hx⟩,st',fun b hb=>(hf b hb).1⟩⟩
 done:=by
  intro X hP hw hK hc i pins s Z H E I hf st hg
  subst hP hw hK
  obtain⟨xs,hq,hx⟩:=hg
  obtain⟨its,rv,p,hz⟩:=I.list hq
  obtain⟨f0,f1,f2,f3,f4,f5⟩:=hf it (by simp)
  have hl:=rv.length
  exact wpAny_pyNext_list_end (I.ok.hd hc) st p.isList (by simp;omega) fun h' eb=>⟨rfl,I.turned (t':=s.toks) (fun b o hb e=>eb b o hb e) f0 f1 f3 f4 f5⟩
 self:=fun _ _ _ _ _ st h=>wpAny_pyIter_listiter st h
theorem qx {P:Program}{w:World}{K:Frag}{tg:Expr}(a it:Addr):Turn P w K tg (Itt K a) [it] it (fun i h=>h.IsTupleIter it a i) where
 mem:=by simp
 obj:=fun i h st b hb=>by
  have e:b=it:=by simpa using hb
  subst e
  obtain⟨o,e,c,d⟩:=st
  exact⟨o,e,fun v z=>by rw[d] at z;cases z⟩
 keep:=fun i h h' st k=>st.at fun o e=>k it (by simp) o e
 item:=by
  intro X hP hw hK hc i pins s Z H E I hf st hg
  subst hP hw hK
  obtain⟨xs,x,hq,hx⟩:=hg
  obtain⟨its,rv,p,hz⟩:=I.tuple hq
  obtain⟨u,hu,ru⟩:=rv.get hx
  obtain⟨f0,f1,f2,f3,f4,f5⟩:=hf it (by simp)
  refine wpAny_pyNext_tuple_item st (show s.heap.IsTuple a its.toArray from p) (x:=u) (by simpa using hu) fun h' st' sb=>?_
  have I1:Inv X pins Z H { s with heap:=h'}:=I.turned (t':=s.toks) (fun b o hb e=>(sb.2 b hb).trans e) f0 f1 f3 f4 f5
  obtain⟨o,e,c,d⟩:=id st'
  exact⟨u,rfl,vP (s:={ s with heap:=h'}) e c d (by decide) ⟨x,H,I1,ru,⟨rfl,fun ys hy=>by rw[I.tuple_inj hy hq];exact hx⟩,st',fun b hb=>(hf b hb).1⟩⟩
 done:=by
  intro X hP hw hK hc i pins s Z H E I hf st hg
  subst hP hw hK
  obtain⟨xs,hq,hx⟩:=hg
  obtain⟨its,rv,p,hz⟩:=I.tuple hq
  obtain⟨f0,f1,f2,f3,f4,f5⟩:=hf it (by simp)
  have hl:=rv.length
  exact wpAny_pyNext_tuple_end (I.ok.hd hc) st (show s.heap.IsTuple a its.toArray from p) (by simp;omega) fun h' eb=>⟨rfl,I.turned (t':=s.toks) (fun b o hb e=>eb b o hb e) f0 f1 f3 f4 f5⟩
 self:=fun _ _ _ _ _ st h=>wpAny_pyIter_tupleiter st h
theorem qy {P:Program}{w:World}{K:Frag}{tg:Expr}(it:Addr) (lo:Int) (n:Nat):Turn P w K tg (Itr lo n) [it] it (fun i h=>IsRangeIter h it (lo+(i:Nat)*1) ((n:Int) - (i:Nat)) 1) where
 mem:=by simp
 obj:=fun i h st b hb=>by
  have e:b=it:=by simpa using hb
  subst e
  exact⟨_,st,fun v z=>by
   have z':Data.fields _=Data.cell v:=z
   cases z'⟩
 keep:=fun i h h' st k=>k it (by simp) _ st
 item:=by
  intro X hP hw hK hc i pins s Z H E I hf st hg
  subst hP hw hK
  obtain⟨f0,f1,f2,f3,f4,f5⟩:=hf it (by simp)
  have W:=Walks.range (prog:=X.prog) (w:=X.w) (I.ok.hd hc) it lo 1 n
  refine W.item i s _ _ hg st fun v h' tk hv st' kk=>?_
  obtain⟨t,rfl⟩:=hv
  have I1:Inv X pins Z H { s with heap:=h',toks:=tk}:=I.turned (fun b o hb e=>kk b o (by simpa using hb) e) f0 f1 f3 f4 f5
  refine⟨_,rfl,vP (s:={ s with heap:=h',toks:=tk}) (n:="range_iterator") st' rfl rfl (by decide) ⟨.int (lo+i),H,I1,⟨t,?_⟩,⟨rfl,rfl⟩,st',fun b hb=>(hf b hb).1⟩⟩
  rw[Int.mul_one]
 done:=by
  intro X hP hw hK hc i pins s Z H E I hf st hg
  subst hP hw hK
  obtain⟨f0,f1,f2,f3,f4,f5⟩:=hf it (by simp)
  exact wpAny_pyNext_range_end (I.ok.hd hc) st (by have:n<=i:=hg;omega) fun h' eb=>⟨rfl,I.turned (t':=s.toks) (fun b o hb e=>eb b o hb e) f0 f1 f3 f4 f5⟩
 self:=fun _ _ _ _ _ st h=>wpAny_pyIter_rangeiter st h
section
variable {X:Cx}{tg:Expr}
def J3 (K:Frag) (tl:TE):TI:=fun Z H R=>tl Z H fun x H1=>∃a,x=.ref a/\(∃xs,SqL K H1 a xs)/\R (Itl K a) H1
def Pk (K:Frag) (tl:TE):TI:=fun Z H R=>tl Z H fun x H1=>∃a,x=.ref a/\(∃xs,SqT K H1 a xs)/\R (Itt K a) H1
theorem zJ {l:Expr}{tl:TE}(hl:PE X l tl):PI X tg l (J3 X.K tl):=by
 intro pins s Z H R I h;refine thn (hl pins s Z H _ I h) fun v s1 ⟨x,H1,I1,r1,q1⟩=>?_;obtain⟨a,e,⟨xs,hq⟩,q⟩:=q1;subst e;cases r1;obtain⟨its,rv,p,hz⟩:=I1.list hq;refine wpAny_pyIter_list p.isList ?_;refine⟨s1.heap.objs.size,[s1.heap.objs.size],_,_,H1,rfl,I1.kept (t':=s1.toks) fun b o e=>l_ _ e,uI a _,⟨_,K_ _ rfl,rfl,rfl⟩,fun b hb=>?_,q⟩;have e:b=s1.heap.objs.size:=by simpa using hb
 subst e;exact I1.fpOk (u_ _) (I1.hok.fresh (u_ _))
theorem Fz {l:Expr}{tl:TE}(hl:PE X l tl):PI X tg l (Pk X.K tl):=by
 intro pins s Z H R I h;refine thn (hl pins s Z H _ I h) fun v s1 ⟨x,H1,I1,r1,q1⟩=>?_;obtain⟨a,e,⟨xs,hq⟩,q⟩:=q1;subst e;cases r1;obtain⟨its,rv,p,hz⟩:=I1.tuple hq;refine SJ (show s1.heap.IsTuple a its.toArray from p) ?_;refine⟨s1.heap.objs.size,[s1.heap.objs.size],_,_,H1,rfl,I1.kept (t':=s1.toks) fun b o e=>l_ _ e,qx a _,⟨_,K_ _ rfl,rfl,rfl⟩,fun b hb=>?_,q⟩;have e:b=s1.heap.objs.size:=by simpa using hb
 subst e;exact I1.fpOk (u_ _) (I1.hok.fresh (u_ _))
theorem oO {pins:List (Addr × Obj)}{Z:St}{H:Hp}{s:Shared}{R:It->Hp->Prop}{E:Value->Shared->Prop}{lo hi:Int}{t u v:Tok}{tk:Nat}(I:Inv X pins Z H s) (h1 : -(2^62)<=lo) (h2:lo<2^62) (h3 : -(2^62)<=hi) (h4:hi<2^62)
  (q:R (Itr lo (hi - lo).toNat) H):wpAny (model X.prog X.w) X.A (pyIter (.ref s.heap.objs.size)) (PIE X pins Z tg R) E { s with heap:=s.heap.push { cls:=.type "range",data:=.fields #[.int lo t,.int hi u,.int 1 v]},toks:=tk}:=by
 refine wpAny_pyIter_range (IsRange.new ..) (small_one h1 h2 h3 h4) ?_;have I1:Inv X pins Z H { s with heap:=s.heap.push { cls:=.type "range",data:=.fields #[.int lo t,.int hi u,.int 1 v]},toks:=tk}:=I.kept fun b o e=>l_ _ e;refine⟨(s.heap.push { cls:=.type "range",data:=.fields #[.int lo t,.int hi u,.int 1 v]}).objs.size,[(s.heap.push { cls:=.type "range",data:=.fields #[.int lo t,.int hi u,.int 1 v]}).objs.size],_,_,H,rfl,
  I1.kept (t':=tk) fun b o e=>l_ _ e,qy _ lo (hi - lo).toNat,?_,fun b hb=>?_,q⟩
 ·have e1:lo+((0:Nat):Int)*1=lo:=by simp
  have e2:(((hi - lo).toNat:Nat):Int) - ((0:Nat):Int)=Builtin.Range.rangeSize lo hi 1:=by rw[rangeSize_one];split <;> omega
  show IsRangeIter _ _ (lo+((0:Nat):Int)*1) ((((hi - lo).toNat:Nat):Int) - ((0:Nat):Int)) 1;rw[e1,e2];exact K_ _ rfl
 have e:b=(s.heap.push { cls:=.type "range",data:=.fields #[.int lo t,.int hi u,.int 1 v]}).objs.size:=by simpa using hb
 subst e;exact I1.fpOk (u_ _) (I1.hok.fresh (u_ _))
def J4 (ta:TA):TI:=fun Z H R=>ta Z H fun vs H1=>∃j:Int,vs=[.int j] /\ -(2^62)<=j/\j<2^62/\R (Itr 0 j.toNat) H1
def J5 (ta:TA):TI:=fun Z H R=>ta Z H fun vs H1=>∃i j:Int,vs=[.int i,.int j]/\(-(2^62)<=i/\i<2^62 /\ -(2^62)<=j/\j<2^62)/\R (Itr i (j - i).toNat) H1
theorem uJ {a:Expr}{ta:TA}{p pos:Pos}(hg:Gl X "range") (hm:X.mg "range"=none) (ha:PA X [a] ta) (hs:starEach [a] X.env=[(false,eval a X.env)]:=by rfl):PI X tg (.Call (.Name "range" p) [a] [] pos) (J4 ta):=by
 intro pins s Z H R I h;refine Call_ (fU I hg hm boot_range (QM (thn (ha pos pins s Z H _ I h) fun us s1 ⟨vs,H1,I1,r1,q1⟩=>?_) hs rfl));obtain⟨j,e,q1,q2,q⟩:=q1;subst e;cases r1 with
 |cons r rr =>
 cases rr;obtain⟨t,rfl⟩:=r;exact call_range_1 (oO I1 (by omega) (by omega) q1 q2 (by simpa using q))
theorem uK {a b:Expr}{ta:TA}{p pos:Pos}(hg:Gl X "range") (hm:X.mg "range"=none) (ha:PA X [a,b] ta) (hs:starEach [a,b] X.env=[(false,eval a X.env),(false,eval b X.env)]:=by rfl) (hs2:starEach [b] X.env=[(false,eval b X.env)]:=by rfl) :
  PI X tg (.Call (.Name "range" p) [a,b] [] pos) (J5 ta):=by
 intro pins s Z H R I h;refine Call_ (fU I hg hm boot_range (QM (thn (ha pos pins s Z H _ I h) fun us s1 ⟨vs,H1,I1,r1,q1⟩=>?_) (by rw[hs,hs2]) (by rw[hs2];rfl)));obtain⟨i,j,e,⟨q1,q2,q3,q4⟩,q⟩:=q1;subst e;cases r1 with
 |cons r rr =>
 cases rr with
 |cons r' rr =>
 cases rr;obtain⟨t,rfl⟩:=r;obtain⟨t',rfl⟩:=r';exact call_range_2 (oO I1 q1 q2 q3 q4 q)
def Pn (wi:TI) (g:TG) (tb:TS):TS:=fun D Z H=>wi Z H fun J H1=>∃W:Nat->Nat->St->Hp->Prop,(∃m,W 0 m Z H1)/\∀i m Z H,W i m Z H ->
 (J.stop i H/\D.nx Z H)\/(J.go i H/\∃N:St->Hp->Prop,(∀Z' H',N Z' H'->∃m',m'<m/\W (i+1) m' Z' H')/\∀x H',J.yld i H x H'->g x Z H' fun Z2 H2=>tb { D with nx:=N,ct:=N,bk:=D.nx} Z2 H2)
def jH (fp : List Addr) (h : Heap) : List (Addr × Obj):=fp.filterMap fun b => (h.get? b).map fun o => (b,o)
theorem eG {fp : List Addr} {h : Heap} {b : Addr} {o : Obj} (hb : b ∈ fp) (e : h.get? b = some o) : (b,o) ∈ jH fp h:=List.mem_filterMap.mpr ⟨b,hb,by rw [e]; rfl⟩
theorem uL {fp:List Addr}{h:Heap}{p:Addr × Obj}(hp:p∈jH fp h):p.1∈fp/\h.get? p.1=some p.2:=by
 obtain ⟨b,hb,e⟩:=List.mem_filterMap.mp hp;cases q : h.get? b with
 |none=>rw[q] at e;cases e
 |some o =>
 rw[q] at e;have e':(b,o)=p:=Qu e;subst e';exact⟨hb,q⟩
theorem Inv.pinned {pins:List (Addr × Obj)}{Z:St}{H:Hp}{s:Shared}{fp:List Addr}(I:Inv X pins Z H s) (hf:∀b∈fp,kj X pins H b) (ho:∀b∈fp,∃o,s.heap.get? b=some o/\∀v,o.data≠.cell v):Inv X (pins++jH fp s.heap) Z H s :=
 I.pins_of fun p hp=>(v_.mp hp).elim (fun z=>I.pin p (P_ _ z)) fun z=>by
  obtain⟨hb,e⟩:=uL z;obtain⟨f0,f1,f2,_⟩:=hf p.1 hb;obtain⟨o,e',d⟩:=ho p.1 hb;rw[e] at e';cases e';exact⟨e,f0,f1,f2,d⟩
theorem Inv.unpinned {pins pl:List (Addr × Obj)}{Z:St}{H:Hp}{s:Shared}(I:Inv X (pins++pl) Z H s):Inv X pins Z H s:=I.pins_of fun p hp=>I.pin p (P_ _ (Rx _ hp))
theorem FJ {iter:Expr}{body:List Stmt}{wi:TI}{g:TG}{tb:TS}{pos:Pos}(hp:PassesOwn (model X.prog X.w) X.A X.env X.xe) (hc:X.calm=true) (hi:PI X tg iter wi) (hg:PG X tg g) (hb:PSs X body tb)
  (hs:∀x,foldedSetIterable iter X.env x=pure x:=by intro _;rfl):PS X (.For tg iter body [] pos) (Pn wi g tb):=by
 intro pins s Z H D I h;refine wpAny_For (thn (hi pins s Z H _ I h) fun v s1 h1=>thn h1 fun itv s2 h2=>?_) hs;obtain⟨it,fp,tn,J,H2,e,I2,T,st2,f2,W,⟨m0,w0⟩,turn⟩:=h2;subst e
 have stat:∀{H':Hp},(∀b∈fp,H' b=none)->∀b∈fp,kj X pins H' b:=fun hn b hb=>⟨hn b hb,(f2 b hb).2⟩;refine codeAny_forLoop_any (fun n s'=>∃i Z' H',Inv X pins Z' H' s'/\tn i s'.heap/\(∀b∈fp,H' b=none)/\W i n Z' H') ?_ m0 ⟨0,Z,H2,I2,st2,fun b hb=>(f2 b hb).1,w0⟩;rintro n s3 ⟨i,Z3,H3,I3,st3,fr3,w3⟩;rcases turn i n Z3 H3 w3 with ⟨stop,qn⟩ | ⟨go,N,hN,step⟩
 ·refine Ru hp (thn (T.done X rfl rfl rfl hc i pins s3 Z3 H3 X.xe I3 (stat fr3) st3 stop) fun r s4 ⟨hr,I4⟩=>?_);subst hr;exact wpAny_execs_nil ⟨Z3,H3,I4,qn⟩
 refine Ru hp (thn (T.item X rfl rfl rfl hc i pins s3 Z3 H3 X.xe I3 (stat fr3) st3 go) fun r s4 ⟨u,hr,h4⟩=>?_);subst hr;refine Ru hp (thn h4 fun _ s5 ⟨x,H5,I5,r5,y5,st5,fr5⟩=>?_);have I5':=I5.pinned (stat fr5) (T.obj _ _ st5);refine Ru hp (thn (hg _ s5 Z3 H5 x u _ I5' r5 (step x H5 y5)) fun _ s6 ⟨Z6,H6,I6,q6⟩=>?_);refine Ru hp (thn (hb _ s6 Z6 H6 _ I6 q6) fun f s7 q7=>?_);have again:∀{Z7:St} {H7:Hp},Inv X (pins++jH fp s5.heap) Z7 H7 s7->N Z7 H7->∃m,m<n/\∃i Z' H',Inv X pins Z' H' s7/\tn i s7.heap/\(∀b∈fp,H' b=none)/\W i m Z' H':=fun {Z7 H7} I7 n7=>by obtain⟨m',hm,w7⟩:=hN Z7 H7 n7;refine⟨m',hm,i+1,Z7,H7,I7.unpinned,T.keep _ _ _ st5 fun b hb o e=>(I7.pin (b,o) (P_ _ (P_ _ (eG hb e)))).1,fun b hb=>?_,w7⟩;obtain⟨o,e,d⟩:=T.obj _ _ st5 b hb;exact (I7.pin (b,o) (P_ _ (P_ _ (eG hb e)))).2.1
 cases f with
 |next=>obtain⟨Z7,H7,I7,n7⟩:=q7;exact again I7 n7
 |cont=>obtain⟨Z7,H7,I7,n7⟩:=q7;exact again I7 n7
 |brk=>obtain⟨Z7,H7,I7,q7⟩:=q7;exact⟨Z7,H7,I7.unpinned,q7⟩
 |ret v=>obtain⟨x7,Z7,H7,I7,r7,q7⟩:=q7;exact⟨x7,Z7,H7,I7.unpinned,r7,q7⟩
end
abbrev R2:=V->V->Hp->VK->Prop
def OpR (X:Cx) (f:Value->Value->Sem Value) (r:R2):Prop :=
 ∀(pins:List (Addr × Obj)) (s:Shared) (Z:St) (H:Hp) (x y:V) (v u:Value) (Q:VK),Inv X pins Z H s->RelV x v->RelV y u->r x y H Q ->
  wpAny (model X.prog X.w) X.A (f v u) (EP X pins Z Q) X.xe s
def UnR (X:Cx) (f:Value->Sem Value) (r:V->Hp->VK->Prop):Prop :=
 ∀(pins:List (Addr × Obj)) (s:Shared) (Z:St) (H:Hp) (x:V) (v:Value) (Q:VK),Inv X pins Z H s->RelV x v->r x H Q ->
  wpAny (model X.prog X.w) X.A (f v) (EP X pins Z Q) X.xe s
def CallR (X:Cx) (f:Value) (r:List V->Hp->VK->Prop):Prop :=
 ∀(pins:List (Addr × Obj)) (s:Shared) (Z:St) (H:Hp) (xs:List V) (us:List Value) (Q:VK),Inv X pins Z H s->Vals xs us->r xs H Q ->
  wpAny (model X.prog X.w) X.A (call f us) (EP X pins Z Q) X.xe s
def Pq (X:Cx) (r:V->Hp->(Bool->Hp->Prop)->Prop):Prop :=
 ∀(pins:List (Addr × Obj)) (s:Shared) (Z:St) (H:Hp) (x:V) (v:Value) (Q:Bool->Hp->Prop),Inv X pins Z H s->RelV x v->r x H Q ->
  wpAny (model X.prog X.w) X.A (truthy v) (TP X pins Z Q) X.xe s
def tOp (r:R2) (ta tb:TE):TE:=fun Z H Q=>ta Z H fun x H1=>tb Z H1 fun y H2=>r x y H2 Q
def tUn (r:V->Hp->VK->Prop) (ta:TE):TE:=fun Z H Q=>ta Z H fun x H1=>r x H1 Q
def rI (C:Int->Int->Prop) (g:Int->Int->V):R2:=fun x y H Q=>∃i j,x=.int i/\y=.int j/\C i j/\Q (g i j) H
def rI0 (g:Int->Int->V):R2:=fun x y H Q=>∃i j,x=.int i/\y=.int j/\Q (g i j) H
def rU (g:Int->V):V->Hp->VK->Prop:=fun x H Q=>∃i,x=.int i/\Q (g i) H
section
variable {X:Cx}{a b c:Expr}{ta tb tc:TE}{pos:Pos}
theorem FN (ha:PE X a ta) (hb:PE X b tb) {pins:List (Addr × Obj)}{s:Shared}{Z:St}{H:Hp}{R:V->V->Hp->Prop}(I:Inv X pins Z H s)
  (h:ta Z H fun x H1=>tb Z H1 fun y H2=>R x y H2) {Q:Value->Shared->Prop} {f:Value->Value->Sem Value}
  (hf:∀v u s2 x y H2,Inv X pins Z H2 s2->RelV x v->RelV y u->R x y H2->wpAny (model X.prog X.w) X.A (f v u) Q X.xe s2) :
  wpAny (model X.prog X.w) X.A (eval a X.env) (fun v s₁=>wpAny (model X.prog X.w) X.A (eval b X.env) (fun u s₂=>wpAny (model X.prog X.w) X.A (f v u) Q X.xe s₂) X.xe s₁) X.xe s:=by
 refine thn (ha pins s Z H _ I h) fun v s1 ⟨x,H1,I1,r1,q1⟩=>?_;refine thn (hb pins s1 Z H1 _ I1 q1) fun u s2 ⟨y,H2,I2,r2,q2⟩=>?_;exact hf v u s2 x y H2 I2 r1 r2 q2
theorem J6 {op:Operator}{r:R2}(ho:OpR X (binaryOp op) r) (ha:PE X a ta) (hb:PE X b tb):PE X (.BinOp a op b pos) (tOp r ta tb):=by
 intro pins s Z H Q I h;exact wpAny_BinOp (FN ha hb I h fun v u s2 x y H2 I2 rx ry q=>ho pins s2 Z H2 x y v u Q I2 rx ry q)
theorem J7 {op:UnaryOp}{r:V->Hp->VK->Prop}(ho:UnR X (unaryOp op) r) (ha:PE X a ta):PE X (.UnaryOp op a pos) (tUn r ta):=by
 intro pins s Z H Q I h;exact UnaryOp_ (thn (ha pins s Z H _ I h) fun v s1 ⟨x,H1,I1,r1,q1⟩=>ho pins s1 Z H1 x v Q I1 r1 q1)
theorem opI {f:Value->Value->Sem Value}{C:Int->Int->Prop}{g:Int->Int->Int}
  (rule:∀(i j:Int) (t u:Tok) (s:Shared) (Q:Value->Shared->Prop) (E:Value->Shared->Prop),C i j->Q (.int (g i j) s.toks) { s with toks:=s.toks+1}->wpAny (model X.prog X.w) X.A (f (.int i t) (.int j u)) Q E s) :
  OpR X f (rI C fun i j=>.int (g i j)):=by
 intro pins s Z H x y v u Q I rx ry h;obtain⟨i,j,rfl,rfl,hc,q⟩:=h;obtain⟨t,rfl⟩:=rx;obtain⟨t',rfl⟩:=ry;exact rule i j t t' s _ _ hc ⟨.int (g i j),H,I.tok _,⟨_,rfl⟩,q⟩
theorem FP {f:Value->Value->Sem Value}{g:Int->Int->Int}
  (rule:∀(i j:Int) (t u:Tok) (s:Shared) (Q:Value->Shared->Prop) (E:Value->Shared->Prop),Q (.int (g i j) s.toks) { s with toks:=s.toks+1}->wpAny (model X.prog X.w) X.A (f (.int i t) (.int j u)) Q E s) :
  OpR X f (rI0 fun i j=>.int (g i j)):=by
 intro pins s Z H x y v u Q I rx ry h;obtain⟨i,j,rfl,rfl,q⟩:=h;obtain⟨t,rfl⟩:=rx;obtain⟨t',rfl⟩:=ry;exact rule i j t t' s _ _ ⟨.int (g i j),H,I.tok _,⟨_,rfl⟩,q⟩
theorem J8 {f:Value->Value->Sem Value}{g:Int->Int->Bool}
  (rule:∀(i j:Int) (t u:Tok) (s:Shared) (Q:Value->Shared->Prop) (E:Value->Shared->Prop),Q (.bool (g i j)) s->wpAny (model X.prog X.w) X.A (f (.int i t) (.int j u)) Q E s) :
  OpR X f (rI0 fun i j=>.bl (g i j)):=by
 intro pins s Z H x y v u Q I rx ry h;obtain⟨i,j,rfl,rfl,q⟩:=h;obtain⟨t,rfl⟩:=rx;obtain⟨t',rfl⟩:=ry;exact rule i j t t' s _ _ ⟨.bl (g i j),H,I,rfl,q⟩
def zK (i j:Int):Prop:=0<=j/\j<=1000000/\i.natAbs<2^64
def CMul (i j:Int):Prop:=(-(2^64)<i/\i<2^64)\/(-(2^64)<j/\j<2^64)
theorem CMul.ok {i j:Int}(h:CMul i j):IntMulOk i j:=by
 rcases h with ⟨h1,h2⟩ | ⟨h1,h2⟩
 ·exact .of_left (intBits_le_64 h1 h2)
 exact .of_right (intBits_le_64 h1 h2)
theorem qz (k:Nat):(0:Int)<=2^k:=by
 rw[two_pow_cast];exact SM _
theorem op_add:OpR X (binaryOp .Add) (rI0 fun i j=>.int (i+j)):=FP fun _ _ _ _ _ _ _ q=>add_int q
theorem FQ:OpR X (binaryOp .Sub) (rI0 fun i j=>.int (i - j)):=FP fun _ _ _ _ _ _ _ q=>sub_int q
theorem FT:OpR X (binaryOp .Mult) (rI CMul fun i j=>.int (i*j)):=opI fun _ _ _ _ _ _ _ hc q=>mul_int q hc.ok
theorem FW:OpR X (binaryOp .Mod) (rI (fun _ j=>0<j) fun i j=>.int (i%j)):=opI fun i j _ _ _ _ _ hc q=>by
 have h1:(0:Int)<j:=hc;exact mod_int' (by omega) (by rw[Int.fmod_eq_emod_of_nonneg i (by omega)];exact q)
theorem FZ:OpR X (binaryOp .Pow) (rI zK fun i j=>.int (i^j.toNat)):=opI fun _ _ _ _ _ _ _ hc q=>pow_int_small hc.1 hc.2.1 hc.2.2 q
theorem Ga:OpR X (binaryOp .LShift) (rI zK fun i j=>.int (i*2^j.toNat)):=opI fun _ _ _ _ _ _ _ hc q=>lshift_int_small hc.1 hc.2.1 hc.2.2 q
theorem Gb:OpR X (binaryOp .RShift) (rI (fun _ j=>0<=j) fun i j=>.int (i / 2^j.toNat)):=opI fun i j _ _ _ _ _ hc q =>
 rshift_int hc (by rw[Int.fdiv_eq_ediv_of_nonneg i (qz _)];exact q)
theorem Gd:OpR X (binaryOp .BitAnd) (rI0 fun i j=>.int (Builtin.bitAnd i j)):=FP fun _ _ _ _ _ _ _ q=>and_int q
theorem unI {f:Value->Sem Value}{g:Int->Int}
  (rule:∀(i:Int) (t:Tok) (s:Shared) (Q:Value->Shared->Prop) (E:Value->Shared->Prop),Q (.int (g i) s.toks) { s with toks:=s.toks+1}->wpAny (model X.prog X.w) X.A (f (.int i t)) Q E s) :
  UnR X f (rU fun i=>.int (g i)):=by
 intro pins s Z H x v Q I rx h;obtain⟨i,rfl,q⟩:=h;obtain⟨t,rfl⟩:=rx;exact rule i t s _ _ ⟨.int (g i),H,I.tok _,⟨_,rfl⟩,q⟩
theorem Ge:UnR X (unaryOp .USub) (rU fun i=>.int (-i)):=unI fun _ _ _ _ _ q=>neg_int q
end
def ir:V->V->Bool
 |.non,.non=>true | .non,.int _=>true | .int _,.non=>true | .non,.bl _=>true | .bl _,.non=>true | .non,.str _=>true | .str _,.non=>true
 |.int _,.int _=>true | .bl _,.bl _=>true | .str _,.str _=>true | .byt _,.byt _=>true
 |.int _,.str _=>true | .str _,.int _=>true | .bl _,.str _=>true | .str _,.bl _=>true
 |_,_=>false
def rEq:R2:=fun x y H Q=>ir x y=true/\Q (.bl (decide (x=y))) H
def rNe:R2:=fun x y H Q=>ir x y=true/\Q (.bl (!decide (x=y))) H
theorem sr {i j:Int}:decide (V.int i=V.int j)=(i==j):=by
 rw[QV];simp
theorem vQ {i j:Bool}:decide (V.bl i=V.bl j)=(i==j):=by
 rw[QV];simp
theorem su {i j:Str}:decide (V.str i=V.str j)=(i==j):=by
 rw[QV];simp
theorem sy {i j:Array UInt8}:decide (V.byt i=V.byt j)=(i.toList==j.toList):=by
 rw[QV];cases i;cases j;simp
section
variable {X:Cx}{a b c:Expr}{ta tb tc:TE}{pos:Pos}
theorem aX {pins:List (Addr × Obj)}{Z:St}{H:Hp}{s:Shared}{Q:VK}{k k':Bool}(I:Inv X pins Z H s) (q:Q (.bl k) H) (e:k=k'):EP X pins Z Q (.bool k') s:=by
 subst e;exact⟨.bl k,H,I,rfl,q⟩
theorem J9:OpR X (compareOp .Eq) rEq:=by
 intro pins s Z H x y v u Q I rx ry h;obtain⟨hs,q⟩:=h;cases x with
 |non =>
  cases rx;cases y with
  |non=>cases ry;exact PySem.EqNone.eq_none_none (aX I q (by simp))
  |bl j=>cases ry;exact PySem.EqNone.eq_none_bool (aX I q (by simp))
  |int j=>obtain⟨t',rfl⟩:=ry;exact PySem.EqNone.eq_none_int (aX I q (by simp))
  |str j=>obtain⟨t',rfl⟩:=ry;exact PySem.EqNone.eq_none_str (aX I q (by simp))
  |_=>exact absurd (show false=true from hs) p_
 |bl i =>
  cases rx;cases y with
  |non=>cases ry;exact PySem.EqNone.eq_bool_none (aX I q (by simp))
  |bl j=>cases ry;exact eq_bool (aX I q vQ)
  |str j=>obtain⟨t',rfl⟩:=ry;exact PySem.EqMixed.eq_bool_str (aX I q (by simp))
  |_=>exact absurd (show false=true from hs) p_
 |int i =>
  obtain⟨t,rfl⟩:=rx;cases y with
  |non=>cases ry;exact PySem.EqNone.eq_int_none (aX I q (by simp))
  |int j=>obtain⟨t',rfl⟩:=ry;exact eq_int (aX I q sr)
  |str j=>obtain⟨t',rfl⟩:=ry;exact PySem.EqMixed.eq_int_str (aX I q (by simp))
  |_=>exact absurd (show false=true from hs) p_
 |str i =>
  obtain⟨t,rfl⟩:=rx;cases y with
  |non=>cases ry;exact PySem.EqNone.eq_str_none (aX I q (by simp))
  |bl j=>cases ry;exact PySem.EqMixed.eq_str_bool (aX I q (by simp))
  |int j=>obtain⟨t',rfl⟩:=ry;exact PySem.EqMixed.eq_str_int (aX I q (by simp))
  |str j=>obtain⟨t',rfl⟩:=ry;exact eq_str (aX I q su)
  |_=>exact absurd (show false=true from hs) p_
 |byt i =>
  obtain⟨t,rfl⟩:=rx;cases y with
  |byt j=>obtain⟨t',rfl⟩:=ry;exact PySem.W.eq_bytes (aX I q sy)
  |_=>exact absurd (show false=true from hs) p_
 |_=>cases y <;> exact absurd (show false=true from hs) p_
theorem Ka:OpR X (compareOp .NotEq) rNe:=by
 intro pins s Z H x y v u Q I rx ry h;obtain⟨hs,q⟩:=h;cases x with
 |non =>
  cases rx;cases y with
  |non=>cases ry;exact PySem.EqNone.ne_none_none (aX I q (by simp))
  |bl j=>cases ry;exact PySem.EqNone.ne_none_bool (aX I q (by simp))
  |int j=>obtain⟨t',rfl⟩:=ry;exact PySem.EqNone.ne_none_int (aX I q (by simp))
  |str j=>obtain⟨t',rfl⟩:=ry;exact PySem.EqNone.ne_none_str (aX I q (by simp))
  |_=>exact absurd (show false=true from hs) p_
 |bl i =>
  cases rx;cases y with
  |non=>cases ry;exact PySem.EqNone.ne_bool_none (aX I q (by simp))
  |bl j=>cases ry;exact ne_bool (aX I q (F_ not vQ))
  |str j=>obtain⟨t',rfl⟩:=ry;exact PySem.EqMixed.ne_bool_str (aX I q (by simp))
  |_=>exact absurd (show false=true from hs) p_
 |int i =>
  obtain⟨t,rfl⟩:=rx;cases y with
  |non=>cases ry;exact PySem.EqNone.ne_int_none (aX I q (by simp))
  |int j=>obtain⟨t',rfl⟩:=ry;exact ne_int (aX I q (F_ not sr))
  |str j=>obtain⟨t',rfl⟩:=ry;exact PySem.EqMixed.ne_int_str (aX I q (by simp))
  |_=>exact absurd (show false=true from hs) p_
 |str i =>
  obtain⟨t,rfl⟩:=rx;cases y with
  |non=>cases ry;exact PySem.EqNone.ne_str_none (aX I q (by simp))
  |bl j=>cases ry;exact PySem.EqMixed.ne_str_bool (aX I q (by simp))
  |int j=>obtain⟨t',rfl⟩:=ry;exact PySem.EqMixed.ne_str_int (aX I q (by simp))
  |str j=>obtain⟨t',rfl⟩:=ry;exact ne_str (aX I q (F_ not su))
  |_=>exact absurd (show false=true from hs) p_
 |byt i =>
  obtain⟨t,rfl⟩:=rx;cases y with
  |byt j=>obtain⟨t',rfl⟩:=ry;exact PySem.W.ne_bytes (aX I q (F_ not sy))
  |_=>exact absurd (show false=true from hs) p_
 |_=>cases y <;> exact absurd (show false=true from hs) p_
theorem Kc:OpR X (compareOp .Lt) (rI0 fun i j=>.bl (decide (i<j))):=J8 fun _ _ _ _ _ _ _ q=>lt_int q
theorem Kd:OpR X (compareOp .Gt) (rI0 fun i j=>.bl (decide (j<i))):=J8 fun _ _ _ _ _ _ _ q=>gt_int q
theorem uM:OpR X (compareOp .In) (fun x y H Q=>∃i j,x=.str i/\y=.str j/\Q (.bl (!(Builtin.Str.occurrences j i 0 j.length 1).isEmpty)) H):=by
 intro pins s Z H x y v u Q I rx ry h;obtain⟨i,j,rfl,rfl,q⟩:=h;obtain⟨t,rfl⟩:=rx;obtain⟨t',rfl⟩:=ry;exact in_str (aX I q rfl)
theorem Gf:OpR X (compareOp .Is) (fun x y H Q=>y=.non/\Q (.bl (decide (x=.non))) H):=by
 intro pins s Z H x y v u Q I rx ry h;obtain⟨rfl,q⟩:=h;cases ry;refine is_none_gen (aX I q ?_);cases x <;> first
  | (cases rx;rfl)
  | (obtain⟨t,rfl⟩:=rx;rfl)
theorem mq:OpR X (compareOp .NotIn) (fun x y H Q=>∃i j,x=.str i/\y=.str j/\Q (.bl (!(!(Builtin.Str.occurrences j i 0 j.length 1).isEmpty))) H):=by
 intro pins s Z H x y v u Q I rx ry h;obtain⟨i,j,rfl,rfl,q⟩:=h;obtain⟨t,rfl⟩:=rx;obtain⟨t',rfl⟩:=ry;exact notIn_str (aX I q rfl)
theorem OpR.or {f:Value->Value->Sem Value}{r r':R2}(h:OpR X f r) (h':OpR X f r'):OpR X f (fun x y H Q=>r x y H Q\/r' x y H Q):=by
 intro pins s Z H x y v u Q I rx ry q;rcases q with q | q
 ·exact h pins s Z H x y v u Q I rx ry q
 exact h' pins s Z H x y v u Q I rx ry q
theorem vR (b:Expr) {op:CmpOp}(h:op≠.In:=by decide) (h2:op≠.NotIn:=by decide):behindInMarks op b=false:=by
 have e1:(op==CmpOp.In)=false:=by cases op <;> first | rfl | exact absurd rfl h
 have e2:(op==CmpOp.NotIn)=false:=by cases op <;> first | rfl | exact absurd rfl h2
 cases b <;> simp [behindInMarks,e1,e2]
theorem zL {op:CmpOp}{r:R2}(ho:OpR X (compareOp op) r) (ha:PE X a ta) (hb:PE X b tb) (hm:behindInMarks op b=false):PE X (.Compare a [op] [b] pos) (tOp r ta tb):=by
 intro pins s Z H Q I h;exact wpAny_Compare1 (FN ha hb I h fun v u s2 x y H2 I2 rx ry q=>ho pins s2 Z H2 x y v u Q I2 rx ry q) hm
def Ke (t:TE):TT:=fun Z H Q=>t Z H fun x H'=>∃k,x=.bl k/\Q k H'
theorem zM {op:CmpOp}{r:R2}(ho:OpR X (compareOp op) r) (ha:PE X a ta) (hb:PE X b tb) (hm:behindInMarks op b=false):PT X (.Compare a [op] [b] pos) (Ke (tOp r ta tb)):=by
 intro pins s Z H Q I h;refine wpAny_isTrue_Compare1 (thn (ha pins s Z H _ I h) fun v s1 ⟨x,H1,I1,r1,q1⟩=>thn (hb pins s1 Z H1 _ I1 q1) fun u s2 ⟨y,H2,I2,r2,q2⟩ =>
  thn (ho pins s2 Z H2 x y v u _ I2 r1 r2 q2) fun c s3 ⟨z,H3,I3,r3,k,e,q3⟩=>?_) hm
 subst e;cases r3;exact Ri ⟨H3,I3,q3⟩
def Kf (K:Frag) (x:V) (H:Hp) (k:Bool):Prop :=
 match x with
 |.non=>k=false
 |.bl b=>k=b
 |.int i=>k=(i != 0)
 |.str y=>y.length<=sizeLine/\k=((y.length:Int) != 0)
 |.byt y=>y.size<=sizeLine/\k=((y.size:Int) != 0)
 |.ref p=>(∃xs,SqL K H p xs/\k=!xs.isEmpty)\/(∃xs,SqT K H p xs/\k=!xs.isEmpty)\/∃kvs,H p=some (.dK kvs)/\k=!kvs.isEmpty
 |_=>False
theorem qC {κ:Type}{kvs:List (κ × V)}{vs:List (κ × Value)}(r:KV kvs vs):(!vs.isEmpty)=!kvs.isEmpty:=by
 cases r <;> rfl
theorem jJ {xs:List V}{its:List Value}(r:Vals xs its):(!its.toArray.isEmpty)=!xs.isEmpty:=by
 cases r <;> simp
theorem fV:(sizeLine:Nat)<2^63:=by rw[sizeLine_eq];decide
theorem Gg:Pq X (fun x H Q=>∃k,Kf X.K x H k/\Q k H):=by
 intro pins s Z H x v Q I rx h;obtain⟨k,e,q⟩:=h;have hl:=fV;have hs:sizeLine=16777216:=sizeLine_eq;cases x with
 |non=>cases rx;have e':k=false:=e;subst e';exact truthy_none ⟨H,I,q⟩
 |bl b=>cases rx;have e':k=b:=e;subst e';exact Ri ⟨H,I,q⟩
 |int i=>obtain⟨t,rfl⟩:=rx;have e':k=(i != 0):=e;subst e';exact PySem.P.truthy_int ⟨H,I,q⟩
 |str y=>obtain⟨t,rfl⟩:=rx;obtain⟨hy,e'⟩:y.length<=sizeLine/\k=((y.length:Int) != 0):=e;subst e';exact PySem.P.truthy_str (by omega) ⟨H,I.tok _,q⟩
 |byt y=>obtain⟨t,rfl⟩:=rx;obtain⟨hy,e'⟩:y.size<=sizeLine/\k=((y.size:Int) != 0):=e;subst e';exact PySem.W.truthy_bytes (by omega) ⟨H,I.tok _,q⟩
 |ref p =>
  cases rx;have e':(∃xs,SqL X.K H p xs/\k=!xs.isEmpty)\/(∃xs,SqT X.K H p xs/\k=!xs.isEmpty)\/∃kvs,H p=some (.dK kvs)/\k=!kvs.isEmpty:=e;rcases e' with ⟨xs,hx,e'⟩ | ⟨xs,hx,e'⟩ | ⟨kvs,hx,e'⟩
  ·subst e';obtain⟨its,r,pl,hz⟩:=I.list hx;have hlen:=r.length;exact wpAny_truthy_list pl.isList (by simp only[h_];omega) ⟨H,I.tok _,by rw[jJ r];exact q⟩
  ·subst e';obtain⟨its,r,pl,hz⟩:=I.tuple hx;have hlen:=r.length;exact truthy_tuple pl (by simp only[h_];omega) ⟨H,I.tok _,by rw[jJ r];exact q⟩
  subst e';obtain⟨hz,hS,vs,r,m⟩:kvs.length<=sizeLine/\(p==sysModules)=false/\∃vs,KV kvs vs/\s.heap.DictOf (bQ X.prog X.w) p vs:=I.hok p _ hx;have hlen:kvs.length=vs.length:=Su r;exact wpAny_truthy_dict hS m (by omega) ⟨H,I.tok _,by rw[qC r];exact q⟩
 |_=>exact (show False from e).elim
theorem op_add_str:OpR X (binaryOp .Add) (fun x y H Q=>∃i j,x=.str i/\y=.str j/\i.length+j.length<=sizeLine/\Q (.str (i++j)) H):=by
 intro pins s Z H x y v u Q I rx ry h;obtain⟨i,j,rfl,rfl,hz,q⟩:=h;obtain⟨t,rfl⟩:=rx;obtain⟨t',rfl⟩:=ry;exact add_str (fun t' tk=>⟨.str (i++j),H,I.tok _,⟨_,rfl⟩,q⟩) hz
theorem vals1 {x:V}{us:List Value}(r:Vals [x] us):∃u,us=[u]/\RelV x u:=by
 cases r with
 |cons r1 r2=>cases r2;exact⟨_,rfl,r1⟩
theorem vals2 {x y:V}{us:List Value}(r:Vals [x,y] us):∃u w',us=[u,w']/\RelV x u/\RelV y w':=by
 cases r with
 |cons r1 r2 =>
 cases r2 with
 |cons r3 r4=>cases r4;exact⟨_,_,rfl,r1,r3⟩
theorem uN:CallR X (.type "int") (fun xs H Q=>(∃i,xs=[.int i]/\Q (.int i) H)\/∃k,xs=[.bl k]/\Q (.int (if k then 1 else 0)) H):=by
 intro pins s Z H xs us Q I r h;rcases h with ⟨i,rfl,q⟩ | ⟨k,rfl,q⟩
 ·obtain⟨u,rfl,t,rfl⟩:=vals1 r;exact call_int_int ⟨.int i,H,I,⟨_,rfl⟩,q⟩
 obtain⟨u,rfl,r1⟩:=vals1 r;cases r1;exact call_int_bool ⟨.int (if k then 1 else 0),H,I.tok _,⟨_,rfl⟩,q⟩
end
structure ObjM (h:Heap) (x dx C:Addr) (mA:Str->Option Value):Prop where
 obj:h.get? x=some (instObj C dx)
 ns:h.Ns1 dx mA
 ne:dx≠x
theorem uO {h:Heap}{dx:Addr}{mA:Str->Option Value}(n:h.Ns1 dx mA):∃od,h.get? dx=some od/\∀name,lookIn name od=some (mA name):=by
 obtain⟨o,es,ep,ho,hd,hk,_,hm⟩:=n;refine⟨o,ho,fun name=>?_⟩;have e:=hm name;unfold nsFind findBy at e;rw[<- Array.find?_toList] at e;unfold lookIn;rw[hd];dsimp only;split
 ·rename_i y q;rw[q] at e;exact F_ some e
 rename_i q;rw[q] at e;have a:es.toList.any (·.refKey)=false:=by rw[List.any_eq_false];intro y hy;obtain⟨z,t,hkey⟩:=hk y (Array.mem_toList_iff.mp hy);simp [DictEntry.refKey,hkey]
 have a':¬es.toList.any (·.refKey)=true:=by rw[a];exact p_
 rw[if_neg a'];exact F_ some e
theorem ObjM.look {h:Heap}{x dx C:Addr}{mA:Str->Option Value}(I:ObjM h x dx C mA):∃od,InstAt h x (instObj C dx) C (some od)/\∀name,lookIn name od=some (mA name) :=
 let ⟨od,ho,hl⟩:=uO I.ns
 ⟨od,⟨I.obj,rfl,rfl,ho⟩,hl⟩
section
variable {prog:Program}{w:World}{A:Around}{E:Value->Shared->Prop}{s:Shared}{K:Frag}{x dx C f:Addr}{mA:Str->Option Value}{name:Str}{v:Value}
end
theorem RelO.some_of {v:V}{o:Option Value}(r:RelO (some v) o):∃u,o=some u/\RelV v u:=by
 cases o with
 |none=>exact (show False from r).elim
 |some u=>exact⟨u,rfl,r⟩
section
variable {P:Program}{w:World}{H H':Hp}{h h':Heap}{a C dx:Addr}{fs fs':List (Str × V)}
theorem zN (hok:HOk P w H h) (e:H a=some (.ins C dx fs)):∃mA,ObjM h a dx C mA/\(∀f,RelO (fs.lookup f) (mA f))/\PySem.Within mA (fs.map (·.1))/\fs.length<=1000/\H dx=some (.own a):=by
 obtain⟨d,z,ne,ob,mA,n,r,q⟩:=(show ObjOk P w H h a (.ins C dx fs) from hok a _ e);exact⟨mA,⟨ob,n,ne⟩,r,q,z,d⟩
end
structure Cls (K:Frag) (C:Addr):Prop where
 pg:plainGet K C Str.empty=true
 hd:PySem.W.hasDictIn K C=true
 po:PySem.W.plainOver K C=true
 sa:findIn K (.ref C) "__setattr__"=some (some (.builtin "object.__setattr__"))
theorem Cls.get {K:Frag}{C:Addr}(c:Cls K C) (f:Str):plainGet K C f=true:=c.pg
section
variable {X:Cx}{pins:List (Addr × Obj)}{Z:St}{H:Hp}{s:Shared}{a C dx:Addr}{fs:List (Str × V)}{f:Str}{v:V}{A:Around}{E:Value->Shared->Prop}
theorem Inv.made (I:Inv X pins Z H s):Inv X pins Z (upd (upd H s.heap.objs.size (.own (s.heap.objs.size+1))) (s.heap.objs.size+1) (.ins C s.heap.objs.size []))
  { s with heap:=(s.heap.push emptyDict).push (instObj C s.heap.objs.size)}:=by
 have e1:(s.heap.push emptyDict).get? s.heap.objs.size=some emptyDict:=K_ s.heap rfl;have e2:((s.heap.push emptyDict).push (instObj C s.heap.objs.size)).get? (s.heap.objs.size+1)=some (instObj C s.heap.objs.size):=by
  have:=K_ (s.heap.push emptyDict) (o:=instObj C s.heap.objs.size) rfl
  rwa [Rq] at this
 have e3:(s.heap.push emptyDict).Ns s.heap.objs.size (fun _=>none):=⟨emptyDict,#[],_,e1,rfl,(fun e he=>absurd he (by simp)),fun _=>rfl⟩;have I1:=I.laid (a:=s.heap.objs.size) (o:=.own (s.heap.objs.size+1)) (h':=s.heap.push emptyDict) (t':=s.toks) (fun b u q=>l_ _ q) (u_ _) ⟨_,e1⟩;refine I1.laid (a:=s.heap.objs.size+1) (o:=.ins C s.heap.objs.size []) (t':=s.toks) (fun b u q=>l_ _ q) (Nat.le_of_eq (Rq _ _)) ?_;have ne:s.heap.objs.size≠s.heap.objs.size+1:=Qt (Nat.lt_succ_self _);refine⟨by rw[aW ne,cA],S6 _,ne,e2,fun _=>none,(Heap.Ns1.of_empty e3).at fun o q=>l_ _ q,fun _=>True.intro,fun y hy=>absurd rfl hy⟩
variable {o e value:Expr}{pos pos' tpos:Pos}{ta tv:TE}
variable {Q:Value->Shared->Prop}{c:Value}{b:Bool}
inductive TyOf (K:Frag) (H:Hp):V->Value->Prop where
 |non:TyOf K H .non (.type "NoneType")
 |bl (x:Bool):TyOf K H (.bl x) (.type "bool")
 |int (i:Int):TyOf K H (.int i) (.type "int")
 |str (x:Str):TyOf K H (.str x) (.type "str")
 |flt (x:UInt64):TyOf K H (.flt x) (.type "float")
 |lst {a:Addr} {xs:List V} (e:H a=some (.lst xs)):TyOf K H (.ref a) (.type "list")
 |frz {a:Addr} {o:Obj} {xs:List V} (e:H a=some (.frz o (.lst xs))):TyOf K H (.ref a) (.type "list")
 |tup {a:Addr} {xs:List V} (e:H a=some (.tup xs)):TyOf K H (.ref a) (.type "tuple")
 |dK {a:Addr} {kvs:List (Key × V)} (e:H a=some (.dK kvs)):TyOf K H (.ref a) (.type "dict")
 |dT {a:Addr} {kvs:List (List Key × V)} (e:H a=some (.dT kvs)):TyOf K H (.ref a) (.type "dict")
 |ins {a C dx:Addr} {fs:List (Str × V)} (e:H a=some (.ins C dx fs)) (cl:Cls K C) (ha:findIn K (.ref C) "__class__"=some (some (.builtin "object.__class__")))
   (hn:PySem.W.specialIn K (.builtin "object.__class__") "__get__"=some (some (.builtin "getset_descriptor.__get__"))) (htk:PySem.W.takesIn K (.builtin "object.__class__")=some true)
   (hm:mroIn K C (.type "object")=some true):TyOf K H (.ref a) (.ref C)
theorem dO {x:V}{u t:Value}(I:Inv X pins Z H s) (rx:RelV x u) (ty:TyOf X.K H x t) (e:kitOne X.K t c=some b) (h:∀tk,Q (.bool b) { s with toks:=tk}) :
  wpAny (model X.prog X.w) A (call (.builtin "isinstance") [u,c]) Q E s:=by
 cases ty with
 |non=>cases (show u=Value.none from rx);exact kia_one PySem.W.kitx_none I.kIn True.intro e (fun z=>nomatch z) h
 |bl y=>cases (show u=Value.bool y from rx);exact kia_one PySem.W.kitx_bool I.kIn True.intro e (fun z=>nomatch z) h
 |int i=>obtain⟨t,q⟩:=(show ∃t,u=Value.int i t from rx);cases q;exact kia_one PySem.W.kitx_int I.kIn True.intro e (fun z=>nomatch z) h
 |str y=>obtain⟨t,q⟩:=(show ∃t,u=Value.str y t from rx);cases q;exact kia_one PySem.W.kitx_str I.kIn True.intro e (fun z=>nomatch z) h
 |flt y=>obtain⟨t,q⟩:=(show ∃t,u=Value.float y t from rx);cases q;exact kia_one PySem.W.kitx_float I.kIn True.intro e (fun z=>nomatch z) h
 |@lst a xs ea=>cases (show u=Value.ref a from rx);obtain⟨_,_,n,_,h1⟩:=(show ObjOk X.prog X.w H s.heap a (.lst xs) from I.hok a _ ea);exact kia_one kitx_list I.kIn ⟨_,h1,rfl⟩ e (fun z=>nomatch z) h
 |@frz a ob xs ea=>cases (show u=Value.ref a from rx);obtain⟨_,_,_,n,_,h1⟩:=(show ObjOk X.prog X.w H s.heap a (.frz ob (.lst xs)) from I.hok a _ ea);exact kia_one kitx_list I.kIn ⟨_,h1,rfl⟩ e (fun z=>nomatch z) h
 |@tup a xs ea=>cases (show u=Value.ref a from rx);obtain⟨_,_,_,p⟩:=(show ObjOk X.prog X.w H s.heap a (.tup xs) from I.hok a _ ea);obtain⟨o,h1,h2,_⟩:=p;exact kia_one kitx_tuple I.kIn ⟨o,h1,h2⟩ e (fun z=>nomatch z) h
 |@dK a kvs ea=>cases (show u=Value.ref a from rx);obtain⟨_,_,vs,_,p⟩:=(show ObjOk X.prog X.w H s.heap a (.dK kvs) from I.hok a _ ea);obtain⟨o,es,ep,h1,h2,_⟩:=p;exact kia_one kitx_dict I.kIn ⟨o,h1,h2.1⟩ e (fun z=>nomatch z) h
 |@dT a kvs ea=>cases (show u=Value.ref a from rx);obtain⟨_,_,xs,_,o,es,ep,h1,h2,_⟩:=(show ObjOk X.prog X.w H s.heap a (.dT kvs) from I.hok a _ ea);exact kia_one kitx_dict I.kIn ⟨o,h1,h2.1⟩ e (fun z=>nomatch z) h
 |@ins a C dx fs ea cl ha hn htk hm =>
 cases (show u=Value.ref a from rx);obtain⟨mA,O,_⟩:=zN I.hok ea;obtain⟨od,J,_⟩:=O.look;exact kia_one (PySem.W.kitx_own (cl.get _) cl.hd ha hn htk hm) I.kIn J e (fun z=>nomatch z) h
end
structure Room (k:Nat) (A:Around):Prop where
 hd:A.handled=none
 dp:A.depth+3*k+5<recursionLimit
 un:A.units+16*k+200<cLine
 gd:A.guards=some []
theorem Room.mono {j k:Nat}{A:Around}(r:Room k A) (h:j<=k):Room j A:=⟨r.hd,by have:=r.dp;omega,by have:=r.un;omega,r.gd⟩
theorem Room.deeper {k:Nat}{A:Around}(r:Room (k+1) A) (env:Env):Room k (A.deeper env) :=
 ⟨r.hd,by have:=r.dp;show A.depth+1+3*k+5<_;omega,by have:=r.un;show A.units+3+16*k+200<_;omega,r.gd⟩
theorem Room.in1 {k:Nat}{A:Around}(r:Room (k+1) A):Room k A.in1 :=
 ⟨r.hd,by have:=r.dp;show A.depth+3*k+5<_;omega,by have:=r.un;show A.units+1+16*k+200<_;omega,r.gd⟩
theorem Room.depth {k:Nat}{A:Around}(r:Room k A):A.depth<recursionLimit:=by have:=r.dp;omega
theorem Room.units {k:Nat}{A:Around}(r:Room k A):A.units+64<cLine:=by have:=r.un;omega
def Pr:TA:=fun _ H Q=>Q [] H
def Kg (ta:TE) (tr:TA):TA:=fun Z H Q=>ta Z H fun x H1=>tr Z H1 fun xs H2=>Q (x::xs) H2
section
variable {X:Cx}{e:Expr}{es:List Expr}{te:TE}{t:TA}{pos:Pos}
theorem Gh:PA X [] Pr:=fun _ _ _ _ H Q I h=>S8 ⟨[],H,I,.nil,h⟩
theorem zO (ha:PE X e te) (hr:PA X es t) (hs:starEach (e::es) X.env=(false,eval e X.env)::starEach es X.env:=by rfl):PA X (e::es) (Kg te t):=by
 intro pos pins s Z H Q I h;rw[hs];show wpAny _ _ (spliced ((false,eval e X.env)::backTo pos (starEach es X.env))) _ _ s;refine SN (thn (ha pins s Z H _ I h) fun u s1 ⟨x,H1,I1,r1,q1⟩=>?_);exact thn (hr pos pins s1 Z H1 _ I1 q1) fun us s2 ⟨xs,H2,I2,r2,q2⟩=>⟨x::xs,H2,I2,.cons r1 r2,q2⟩
def Pu (t:TA):TE:=fun Z H Q=>t Z H fun xs H1=>xs.length<=sizeLine/\∀p,H1 p=none->Q (.ref p) (upd H1 p (.tup xs))
def Px (t:TA):TE:=fun Z H Q=>t Z H fun xs H1=>xs.length<=sizeLine/\∀p,H1 p=none->Q (.ref p) (upd H1 p (.lst xs))
theorem Gi {x1}(h:PA X es t):PE X (.Tuple es x1 pos) (Pu t):=by
 intro pins s Z H Q I hq;refine wpAny_Tuple_spliced (thn (h pos pins s Z H _ I hq) fun us s1 ⟨xs,H1,I1,r,z,q⟩=>⟨by rw[<- r.length];exact z,?_⟩);have hf:H1 s1.heap.objs.size=none:=I1.hok.fresh (u_ _);refine⟨.ref s1.heap.objs.size,upd H1 s1.heap.objs.size (.tup xs),I1.laid (t':=s1.toks) (fun b u e=>l_ _ e) (u_ _) ?_,rfl,q _ hf⟩;exact⟨z,us,r,⟨_,K_ _ rfl,rfl,_,rfl,rfl⟩⟩
theorem Gj (h:PA X es t):PE X (.List es pos) (Px t):=by
 intro pins s Z H Q I hq;refine wpAny_List_spliced (thn (h pos pins s Z H _ I hq) fun us s1 ⟨xs,H1,I1,r,z,q⟩=>⟨by rw[<- r.length];exact z,?_⟩);have hf:H1 s1.heap.objs.size=none:=I1.hok.fresh (u_ _);refine⟨.ref s1.heap.objs.size,upd H1 s1.heap.objs.size (.lst xs),I1.laid (t':=s1.toks) (fun b u e=>l_ _ e) (u_ _) ?_,rfl,q _ hf⟩;exact⟨z,us,0,r,K_ _ rfl⟩
end
abbrev Sp:=List V->Hp->VK->XK->Prop
abbrev CXT:=List Env->Hp->Shared->XK->Value->Shared->Prop
structure Env0 (P:Program) (w:World) (K:Frag) (mg:Str->Option Value) (base:Heap) (A:Around) (outer:List Env) (s:Shared) (H:Hp):Prop where
 frames:A.frames=some outer
 mod:Mod K mg base
 bs:∀b o,base.get? b=some o->s.heap.get? b=some o/\H b=none
 bsz:base.objs.size<=s.heap.objs.size
 funs:s.heap.FunFrames base outer
 frf:∀b∈frs outer,H b=none
 hok:HOk P w H s.heap
 bare:AllBare s.gens
def CE (outer:List Env) (P:Program) (w:World) (H:Hp) (s:Shared) (Q:VK) (u:Value) (s':Shared):Prop :=
 ∃v H',s'.os=s.os/\AllBare s'.gens/\Un (frs outer) [] H H' s.heap s'.heap/\HOk P w H' s'.heap/\RelV v u/\Q v H'
def CR (CX:CXT) (outer:List Env) (P:Program) (w:World) (H:Hp) (s:Shared) (Q:VK) (E:XK) (r:Result) (s':Shared):Prop :=
 match r with
 |.ok (.ret u)=>CE outer P w H s Q u s'
 |.ok _=>False
 |.error e=>CX outer H s E e s'
structure FnOk (P:Program) (w:World) (K:Frag) (mg:Str->Option Value) (base:Heap) (CX:CXT) (k:Nat) (f:Addr) (fd:FuncData) (ps:List Str) (sp:Sp):Prop where
 len:∀vs H Q E,sp vs H Q E->vs.length=ps.length
 run:∀(A:Around) (outer:List Env) (s:Shared) (H:Hp) (args:Args) (us:List Value) (vs:List V) (Q:VK) (E:XK),Room k A->Env0 P w K mg base A outer s H->BindsTo s fd args (ps.zip us)->Vals vs us->sp vs H Q E ->
  codeAny (model P w) A (.call (.ref f) args) (CR CX outer P w H s Q E) s
theorem FnOk.mono {P:Program}{w:World}{K:Frag}{mg:Str->Option Value}{base:Heap}{CX:CXT}{j k:Nat}{f:Addr}{fd:FuncData}{ps:List Str}{sp:Sp}(F:FnOk P w K mg base CX j f fd ps sp) (h:j<=k) :
  FnOk P w K mg base CX k f fd ps sp:=⟨F.len,fun A outer s H args us vs Q E hr=>F.run A outer s H args us vs Q E (hr.mono h)⟩
theorem FnOk.imp {P:Program}{w:World}{K:Frag}{mg:Str->Option Value}{base:Heap}{CX:CXT}{k:Nat}{f:Addr}{fd:FuncData}{ps:List Str}{sp sp':Sp}(F:FnOk P w K mg base CX k f fd ps sp)
  (h:∀vs H Q E,sp' vs H Q E->sp vs H Q E):FnOk P w K mg base CX k f fd ps sp' :=
 ⟨fun vs H Q E q=>F.len vs H Q E (h _ _ _ _ q),fun A outer s H args us vs Q E hr he hb hv hs=>F.run A outer s H args us vs Q E hr he hb hv (h _ _ _ _ hs)⟩
theorem Env0.in1 {P:Program}{w:World}{K:Frag}{mg:Str->Option Value}{base:Heap}{A:Around}{outer:List Env}{s:Shared}{H:Hp}(e:Env0 P w K mg base A outer s H) :
  Env0 P w K mg base A.in1 outer s H:=⟨e.frames,e.mod,e.bs,e.bsz,e.funs,e.frf,e.hok,e.bare⟩
section
variable {X:Cx}{pins:List (Addr × Obj)}{Z:St}{H:Hp}{s s':Shared}
theorem Inv.env0 (I:Inv X pins Z H s):Env0 X.prog X.w X.K X.mg X.base X.A X.stack s H :=
 ⟨I.ok.frames,I.ok.mod,I.bs,N_ I.ok.bsz I.sz,I.stack,I.stkFree,I.hok,I.bare⟩
theorem Inv.after {Q:VK}{u:Value}(I:Inv X pins Z H s) (h:CE X.stack X.prog X.w H s Q u s'):EP X pins Z Q u s':=by
 obtain⟨v,H',os,bare,un,hok,r,q⟩:=h;obtain⟨hh,g,d,t,os'⟩:=s';obtain rfl:os'=s.os:=os;exact⟨v,H',I.call (h':=hh) (g':=g) (d':=d) (t':=t) (ch:=[]) un hok bare (fun b z=>absurd z (by simp)),r,q⟩
end
def Kh (sp:Sp) (dvs:List V) (E:XK) (t:TA):TE:=fun Z H Q=>t Z H fun vs H1=>sp (vs++dvs) H1 Q E
def Binds (K:Frag) (fd:FuncData) (ps:List Str) (ds:List Value):Prop :=
 ∀(s:Shared) (us:List Value),K.In s.heap->(us++ds).length=ps.length->BindsTo s fd ⟨us,[]⟩ (ps.zip (us++ds))
theorem Binds.all {K:Frag}{fd:FuncData}{ps:List Str}(h:∀us:List Value,us.length=ps.length->bindArgs fd ⟨us,[]⟩=pure (ps.zip us)):Binds K fd ps []:=fun s us _ hl=>by
 rw[Qv] at hl ⊢;exact .of_eq (h us hl)
def qD (CX:CXT) (X:Cx) (E:XK):Prop:=∀(pins:List (Addr × Obj)) (Z:St) (H:Hp) (s:Shared) (e:Value) (s':Shared),Inv X pins Z H s->CX X.stack H s E e s'->X.xe e s'
section
variable {X:Cx}{CX:CXT}{k:Nat}{f C:Addr}{fd:FuncData}{ps:List Str}{sp:Sp}{dvs:List V}{ds:List Value}{E:XK}{x m:Str}{p pos apos:Pos}{e o:Expr}{es:List Expr}{ta:TE}{t:TA}
theorem Gk {pins:List (Addr × Obj)}{Z:St}{H:Hp}{s:Shared}{Q:VK}{us:List Value}{vs:List V}(F:FnOk X.prog X.w X.K X.mg X.base CX k f fd ps sp) (hr:Room k X.A) (hb:Binds X.K fd ps ds) (hd:Vals dvs ds) (hx:qD CX X E)
  (I:Inv X pins Z H s) (r:Vals vs us) (h:sp (vs++dvs) H Q E):wpAny (model X.prog X.w) X.A (call (.ref f) us) (EP X pins Z Q) X.xe s:=by
 have r2:Vals (vs++dvs) (us++ds):=r.append hd;have hl:(us++ds).length=ps.length:=by rw[<- r2.length];exact F.len _ _ _ _ h
 refine wpAny_call (codeAny_mono (F.run X.A X.stack s H ⟨us,[]⟩ (us++ds) (vs++dvs) Q E hr I.env0 (hb s us I.kIn hl) r2 h) fun r s' hq=>?_);cases r with
 |error e=>exact hx pins Z H s e s' I hq
 |ok fl =>
 cases fl with
 |ret u=>exact I.after hq
 |next=>exact False.elim hq
 |brk=>exact False.elim hq
 |cont=>exact False.elim hq
theorem zP (F:FnOk X.prog X.w X.K X.mg X.base CX k f fd ps sp) (hr:Room k X.A) (hg:Gl X x) (hm:X.mg x=some (.ref f)) (hk:keepIn X.K (.ref f)=true) (hb:Binds X.K fd ps ds) (hd:Vals dvs ds) (hx:qD CX X E)
  (ha:PA X (e::es) t) (hdb:(x==("__debug__":Str))=false:=by decide) (he:starEach (e::es) X.env=(false,eval e X.env)::starEach es X.env:=by rfl) (hpl:(backTo pos (starEach es X.env)).any (·.1)=false:=by rfl) :
  PE X (.Call (.Name x p) (e::es) [] pos) (Kh sp dvs E t):=by
 intro pins s Z H Q I h;refine Rr (rZ I hg hm ?_ hdb);refine PySem.W.callWith_K (h₀:=X.base) I.ok.mod.kin hk (thn (ha pos pins s Z H _ I h) fun us s1 ⟨vs,H1,I1,r,q⟩=>⟨I1.kIn,?_⟩) he hpl;exact Gk F hr hb hd hx I1 r q
variable {ks:List Str}{kpos:Pos}{kws:List Keyword}{te:TE}{tk:TA}{nm:Option Str}{g:List Value->List Value->List Value}{gV:List V->List V->List V}
end
structure FnScope (N P:List Str) (sc:Scope):Prop where
 kind:sc.kind=.function
 co:sc.isCoroutine=false
 gen:sc.isGenerator=false
 nd:N.Nodup
 pre:N.take P.length=P
 par:∀x∈P,sc.names.lookup x=some .local\/sc.names.lookup x=some .cell
 nofree:∀y∈sc.names,y.2≠.free
theorem lA {kindOf:Str->Option NameKind}{x:Str}:∀{binds:List (Str × Value)}{m:Str->Option Value},(∀v,(x,v)∉binds)->bindL kindOf binds m x=m x
 |[],_,_=>rfl
 | (n,v)::r,m,h=>by
  unfold bindL
  rw[lA fun w hw=>h w (q_ _ hw)]
  split
  ·
   have:x≠n:=by rintro rfl;exact h v i_
   simp [this]
  ·
   rfl
theorem lB {kindOf:Str->Option NameKind}{x:Str}:∀{binds:List (Str × Value)}{m:Str->Option Value},(∀v,(x,v)∉binds)->bindC kindOf binds m x=m x
 |[],_,_=>rfl
 | (n,v)::r,m,h=>by
  unfold bindC
  rw[lB fun w hw=>h w (q_ _ hw)]
  split
  ·
   rfl
  ·
   have:x≠n:=by rintro rfl;exact h v i_
   simp [this]
theorem lC {kindOf:Str->Option NameKind}{x:Str}{v:Value}:∀{P:List Str}{vs:List Value}{i:Nat}{m:Str->Option Value},P.Nodup->P[i]?=some x->vs[i]?=some v->kindOf x=some .local ->
  bindL kindOf (P.zip vs) m x=some v
 |[],_,_,_,_,h,_,_=>by simp at h
 |_::_,[],_,_,_,_,h,_=>by simp at h
 |p::P,w::vs,0,m,nd,h1,h2,hk=>by
  simp at h1 h2;subst h1;subst h2
  show bindL kindOf ((p,w)::P.zip vs) m p=_
  unfold bindL
  rw[lA fun v hv=>(QB.mp nd).1 (List.of_mem_zip hv).1,if_pos hk]
  simp
 |p::P,w::vs,i+1,m,nd,h1,h2,hk=>by
  show bindL kindOf ((p,w)::P.zip vs) m x=_
  unfold bindL
  exact lC (i:=i) (QB.mp nd).2 (by simpa using h1) (by simpa using h2) hk
theorem lD {kindOf:Str->Option NameKind}{x:Str}{v:Value}:∀{P:List Str}{vs:List Value}{i:Nat}{m:Str->Option Value},P.Nodup->P[i]?=some x->vs[i]?=some v->kindOf x≠some .local ->
  bindC kindOf (P.zip vs) m x=some v
 |[],_,_,_,_,h,_,_=>by simp at h
 |_::_,[],_,_,_,_,h,_=>by simp at h
 |p::P,w::vs,0,m,nd,h1,h2,hk=>by
  simp at h1 h2;subst h1;subst h2
  show bindC kindOf ((p,w)::P.zip vs) m p=_
  unfold bindC
  rw[lB fun v hv=>(QB.mp nd).1 (List.of_mem_zip hv).1,if_neg hk]
  simp
 |p::P,w::vs,i+1,m,nd,h1,h2,hk=>by
  show bindC kindOf ((p,w)::P.zip vs) m x=_
  unfold bindC
  exact lD (i:=i) (QB.mp nd).2 (by simpa using h1) (by simpa using h2) hk
def start (N:List Str) (vs:List V):St:=vs.map some++List.replicate (N.length - vs.length) none
def qF (CX:CXT) (P:Program) (w:World) (K:Frag) (mg:Str->Option Value) (base:Heap) (N:List Str) (qual:Str) (scope:Scope) (f:Addr) (cd:Value) (A:Around) (outer:List Env) (s:Shared) (H:Hp) (E:XK):Cx where
 prog:=P
 w:=w
 K:=K
 mg:=mg
 base:=base
 A:=A.deeper (envOfC qual scope s.heap.objs.size f cd)
 N:=N
 s₀:=s
 H₀:=H
 env:=envOfC qual scope s.heap.objs.size f cd
 outer:=outer
 stack:=envOfC qual scope s.heap.objs.size f cd::outer
 ex:=[]
 calm:=true
 fn:=fun _=>true
 pn:=[]
 xe:=fun e s'=>wpAny (model P w) (A.deeper (envOfC qual scope s.heap.objs.size f cd)) (leaving (envOfC qual scope s.heap.objs.size f cd) e) (fun _ s''=>CX outer H s E e s'') (fun e' s''=>CX outer H s E e' s'') s'
theorem iQ {sc:Scope}{n:Nat}{x:Str}(h:sc.names.lookup x=some .cell):∃c,(cellsFrom n sc.names []).lookup x=some c:=by
 have q:=cellsFrom_some sc.names n [] (.inl h);exact Option.isSome_iff_exists.mp q
theorem uP {CX:CXT}{P:Program}{w:World}{K:Frag}{mg:Str->Option Value}{base:Heap}{N ps:List Str}{qual:Str}{scope:Scope}{f:Addr}{cd:Value}{A:Around}{outer:List Env}{s s1:Shared}{H:Hp}{E:XK}{us:List Value}{vs:List V}
  (S:FnScope N ps scope) (hd:A.handled=none) (e0:Env0 P w K mg base A outer s H) (hl:vs.length=ps.length) (r:Vals vs us)
  (x:InCallC s s.heap.objs.size (bindL (envOfC qual scope s.heap.objs.size f cd).kindOf (ps.zip us) fun _=>none) (cellsFrom (s.heap.objs.size+1) scope.names []) (bindC (envOfC qual scope s.heap.objs.size f cd).kindOf (ps.zip us) fun _=>none) s1) :
  Inv (qF CX P w K mg base N qual scope f cd A outer s H E) [] (start N vs) H s1:=by
 have hpl:ps.length<=N.length:=by have:=F_ List.length S.pre;rw[Rc] at this;omega
 obtain⟨h1,tk,rfl,hk⟩:=x.done;have noA:∀b:Addr,b∉(qF CX P w K mg base N qual scope f cd A outer s H E).ex:=fun b z=>absurd (show b∈([]:List Addr) from z) (by simp);refine⟨⟨e0.mod,S.kind,rfl,rfl,u_ _,fun y z c h1 h2=>?_,fun y hy=>?_,fun y c _ h=>?_,fun _=>hd,Around.frames_deeper e0.frames,.inr ⟨rfl,rfl⟩,fun b z=>absurd z (noA b),e0.bs,e0.bsz,fun b _ _=>noA b,fun b z=>absurd z (noA b),e0.funs,e0.frf⟩,
  rfl,e0.bare,Un.kept hk,⟨_,x.toInCall.ns,fun i y v h1 h2 h3=>?_⟩,fun y c h=>⟨_,x.cell y c h⟩,e0.hok.fresh (u_ _),fun y c h=>?_,fun p hp=>absurd (show p∈([]:List (Addr × Obj)) from hp) (by simp),e0.hok.kept hk,?_⟩
 ·exact name_of_addr x.apart (mem_of_lookup h1) (mem_of_lookup h2)
 ·have hy:scope.names.lookup y=some .cell\/scope.names.lookup y=some .free:=hy;rcases hy with hy | hy
  ·exact iQ hy
  exact absurd rfl (S.nofree _ (mem_of_lookup hy))
 ·exact Rf (x.above y c (mem_of_lookup h))
 ·have hi:i<vs.length:=by
   unfold start at h2;by_cases hi:i<vs.length
   ·exact hi
   rw[Qp (by simpa using hi)] at h2;rw[RJ] at h2;split at h2 <;> cases h2
  have ha:vs[i]?=some v:=by
   unfold start at h2;rw[Qy (by simpa using hi),G_] at h2;cases e:vs[i]? with
   |none=>rw[e] at h2;cases h2
   |some a=>rw[e] at h2;cases h2;rfl
  obtain⟨u,hu,rv⟩:=r.get ha;have hp:ps[i]?=some y:=by rw[<- S.pre,List.getElem?_take_of_lt (by omega)];exact h1
  have ndP:ps.Nodup:=by rw[<- S.pre];exact S.nd.sublist (List.take_sublist _ _)
  refine⟨u,rv,?_⟩;rcases S.par y (Rh hp) with k | k
  ·exact .inl ⟨k,lC ndP hp hu k⟩
  obtain⟨c,e⟩:=iQ (n:=s.heap.objs.size+1) k;refine .inr ⟨.inl k,c,e,?_⟩;have q:=x.cell y c e;rw[lD ndP hp hu (by show scope.names.lookup y≠_;rw[k];decide)] at q;exact q
 ·exact e0.hok.fresh (Rf (x.above y c (mem_of_lookup h)))
 unfold start;show _=N.length;rw[a_,g_,RX];omega
theorem Kl {CX:CXT}{P:Program}{w:World}{K:Frag}{mg:Str->Option Value}{base:Heap}{k:Nat}{f:Addr}{name qual:Str}{params:Arguments}{body:List Stmt}{scope:Scope}{dV kV doc pm cdv ct oc:Value}{an od:Option Addr}
  {osl:Array (Option Value)} {N ps:List Str} {sp:Sp} (lk:K.lookup f=some ⟨oc,od,.func (fnOf name qual params body scope dV kV doc pm an cdv ct),osl⟩) (hcd:codeIn K cdv qual=true) (S:FnScope N ps scope)
  (len:∀vs H Q E,sp vs H Q E->vs.length=ps.length)
  (hbody:∀(A:Around) (outer:List Env) (s:Shared) (H:Hp) (vs:List V) (Q:VK) (E:XK),Room k (A.deeper (envOfC qual scope s.heap.objs.size f cdv))->sp vs H Q E ->
   ∃t,PSs (qF CX P w K mg base N qual scope f cdv A outer s H E) body t/\t { nx:=fun _ H'=>Q .non H',rt:=Q} (start N vs) H) :
  FnOk P w K mg base CX (k+1) f (fnOf name qual params body scope dV kV doc pm an cdv ct) ps sp:=by
 refine⟨len,fun A outer s H args us vs Q E hr e0 hb r hsp=>?_⟩;have hl:=len _ _ _ _ hsp;have KX:K.In s.heap:=e0.mod.kin.keeps fun b o e=>(e0.bs b o e).1;have lim:s.heap.NoLimit:=e0.mod.nolimit.keeps fun b o e=>(e0.bs b o e).1;have hkind:∀y∈ps.zip us,scope.names.lookup y.1=some .local\/(scope.names.lookup y.1=some .cell/\((cellsFrom (s.heap.objs.size+1) scope.names []).lookup y.1).isSome=true):=fun ⟨n,v⟩ hy=>by
  rcases S.par n (List.of_mem_zip hy).1 with q | q
  ·exact .inl q
  exact .inr ⟨q,cellsFrom_some _ _ _ (.inl q)⟩
 refine codeAny_call_function hr.depth (KX _ _ lk) rfl S.co S.gen rfl (PySem.W.codeRec_of KX hcd) (hb _ _ _ _ ?_);refine wpAny_newFunctionEnv_cells S.kind hkind fun env he s1 x=>?_;subst he;refine⟨lim.keeps x.toInCall.keep,codeAny_func ?_⟩;obtain⟨t,ht,hq⟩:=hbody A outer s H vs Q E (hr.deeper _) hsp;have I:Inv (qF CX P w K mg base N qual scope f cdv A outer s H E) [] (start N vs) H s1:=uP S hr.hd e0 hl r x;refine QZ (ht [] s1 (start N vs) H _ I hq) (fun fl s' hs=>?_) fun e s' hs=>hs;have fin:∀{Z':St} {H':Hp} {v:V} {u:Value},Inv (qF CX P w K mg base N qual scope f cdv A outer s H E) [] Z' H' s'->RelV v u->Q v H'->CE outer P w H s Q u s' :=
  fun {Z' H' v u} J rv q=>⟨v,H',J.os,J.bare,J.base,J.hok,rv,q⟩
 cases fl with
 |ret u=>obtain⟨v,Z',H',J,rv,q⟩:=hs;exact fin J rv q
 |next=>obtain⟨Z',H',J,q⟩:=hs;exact fin (v:=V.non) (u:=Value.none) J rfl q
 |brk=>obtain⟨_,_,_,q⟩:=hs;exact False.elim q
 |cont =>
 obtain⟨_,_,_,q⟩:=hs;exact False.elim q
section
variable {X:Cx}{x:Str}{p pos:Pos}{e:Expr}{es:List Expr}{t:TA}{id T:String}{r:List V->Hp->VK->Prop}
def tCB (r:List V->Hp->VK->Prop) (t:TA):TE:=fun Z H Q=>t Z H fun vs H1=>r vs H1 Q
theorem vU (hc:CallR X (.builtin id) r) (hg:Gl X x) (hm:X.mg x=none) (hv:bootBuiltins x=some (.builtin id)) (ha:PA X (e::es) t) (hn:x≠"__name__":=by decide) (hdb:(x==("__debug__":Str))=false:=by decide)
  (he:starEach (e::es) X.env=(false,eval e X.env)::starEach es X.env:=by rfl) (hpl:(backTo pos (starEach es X.env)).any (·.1)=false:=by rfl):PE X (.Call (.Name x p) (e::es) [] pos) (tCB r t):=by
 intro pins s Z H Q I h;refine Rr (fU I hg hm hv ?_ hn hdb);exact PyProof.Rows.callWith_builtin1 (thn (ha pos pins s Z H _ I h) fun us s1 ⟨vs,H1,I1,r1,q1⟩=>hc pins s1 Z H1 vs us Q I1 r1 q1) he hpl
theorem uQ (hc:CallR X (.type T) r) (hg:Gl X x) (hm:X.mg x=none) (hv:bootBuiltins x=some (.type T)) (ha:PA X (e::es) t) (hn:x≠"__name__":=by decide) (hdb:(x==("__debug__":Str))=false:=by decide)
  (he:starEach (e::es) X.env=(false,eval e X.env)::starEach es X.env:=by rfl) (hpl:(backTo pos (starEach es X.env)).any (·.1)=false:=by rfl):PE X (.Call (.Name x p) (e::es) [] pos) (tCB r t):=by
 intro pins s Z H Q I h;refine Rr (fU I hg hm hv ?_ hn hdb);exact QM (thn (ha pos pins s Z H _ I h) fun us s1 ⟨vs,H1,I1,r1,q1⟩=>hc pins s1 Z H1 vs us Q I1 r1 q1) he hpl
end
end L2
namespace HT
open PySem PyProof.Rows
section
open PySem.SeqAt
open PySem.AutoSeq1 (wpAny_loadPart')
open PySem.MeetsSeq PySem.MeetsSeq2 PySem.MeetsSeq3
variable {prog:Program}{w:World}{A:Around}{E:Value->Shared->Prop}{s:Shared}
theorem cat_tup {t b:Addr}{vs ws:List Value}{Q:Value->Shared->Prop}(ht:IsTup s.heap t vs.toArray) (hb:IsTup s.heap b ws.toArray) (hv:vs≠[])
  (h1:ws=[]->Q (.ref t) s) (h2:ws≠[]->Q (.ref s.heap.objs.size) { s with heap:=s.heap.push { cls:=.type "tuple",data:=.seq (vs++ws).toArray}})
  (hsz:vs.length+ws.length<=sizeLine):wpAny (model prog w) A (binaryOp .Add (.ref t) (.ref b)) Q E s:=by
 obtain⟨⟨cls,dd,data,sl⟩,ho,hc,n,hd⟩:=id ht;obtain⟨⟨cls2,dd2,data2,sl2⟩,ho2,hc2,n2,hd2⟩:=id hb;simp only at hc hd hc2 hd2;subst hc hd hc2 hd2;have e:vs.toArray++ws.toArray=(vs++ws).toArray:=by simp
 by_cases hw:ws=[]
 ·exact concat_meets ⟨_,ho,rfl⟩ ⟨_,ho2,rfl⟩ noFill_tuple_add seq_tuple_add PySem.F.slot_tuple_add PySem.F.entry_tuple_add (Sv _ _)
   (tuple_addW1 t b vs.toArray ws.toArray n n2 dd dd2 sl sl2 (by simpa using hv) (by simp [hw])) ⟨ho,ho2,h1 hw⟩
 refine concat_meets ⟨_,ho,rfl⟩ ⟨_,ho2,rfl⟩ noFill_tuple_add seq_tuple_add PySem.F.slot_tuple_add PySem.F.entry_tuple_add (Sv _ _)
  (tuple_addW2 t b vs.toArray ws.toArray n n2 dd dd2 sl sl2 (by simpa using hv) (by simpa using hw) (by rw[h_,h_];exact hsz)) ⟨ho,ho2,?_⟩
 rw[e];exact h2 hw
def sIx (n d:Nat):Option Int->Nat
 |none=>d
 |some v=>if v<0 then (v+(n:Int)).toNat else min v.toNat n
theorem sIx_none (n d:Nat):sIx n d none=d:=rfl
theorem sIx_nat (n d k:Nat):sIx n d (some (k:Int))=min k n:=by
 show (if (k:Int)<0 then ((k:Int)+(n:Int)).toNat else min (k:Int).toNat n)=min k n;rw[if_neg (by omega),Q0]
theorem Gm (n d:Nat) (hd:d<=n) (o:Option Int):sIx n d o<=n:=by
 cases o with
 |none=>exact hd
 |some v =>
  show (if v<0 then (v+(n:Int)).toNat else min v.toNat n)<=n
  by_cases hv:v<0
  ·
   rw[if_pos hv];omega
  ·
   rw[if_neg hv];exact Nat.min_le_right _ _
theorem sE (v:Int) (n d:Nat):(if v<0 then max (v+(n:Int)) 0 else min v (n:Int))=((sIx n d (some v):Nat):Int):=by
 show (if v<0 then max (v+(n:Int)) 0 else min v (n:Int))=(((if v<0 then (v+(n:Int)).toNat else min v.toNat n):Nat):Int);by_cases hv:v<0
 ·simp only[if_pos hv];omega
 simp only[if_neg hv];omega
theorem qG (lo hi:Option Int) (n:Nat):Builtin.Slice.sliceAdjust lo hi 1 (n:Int)=(((sIx n 0 lo:Nat):Int),((sIx n n hi:Nat):Int)):=by
 have h1:¬((1:Int)<0):=by omega
 unfold Builtin.Slice.sliceAdjust;simp only[h1,Q4];refine Prod.ext ?_ ?_
 ·cases lo with
  |none=>rfl
  |some v=>exact sE v n 0
 cases hi with
 |none=>rfl
 |some v=>exact sE v n n
theorem qH (i j:Nat):Builtin.Slice.slicePlaces (i:Int) (j:Int) 1=j - i:=by
 unfold Builtin.Slice.slicePlaces;have h1:(1:Int)>0:=by omega
 simp only[h1,if_true,Int.ediv_one];split <;> omega
theorem iu {v:Value}{o:Option Int}{Q:Option Int->Shared->Prop}(p:IsPart v o) (h:Q o s):wpAny (model prog w) A (Builtin.Slice.slicePartIndex v) Q E s:=by
 cases p with
 |none=>exact slicePart_none h
 |int i t=>exact slicePart_int h
theorem je {sl:Addr}{vl vu:Value}{lo hi:Option Int}{n:Nat}{Q:Int × Int × Nat->Shared->Prop}(hs:s.heap.IsSliceOf sl vl vu .none) (pl:IsPart vl lo) (pu:IsPart vu hi)
  (h:Q (((sIx n 0 lo:Nat):Int),1,sIx n n hi - sIx n 0 lo) s):wpAny (model prog w) A (Builtin.Slice.sliceApplied (.ref sl) (pure (n:Int))) Q E s:=by
 obtain⟨os,hos,hcs,hds⟩:=id hs;unfold Builtin.Slice.sliceApplied Builtin.Slice.sliceFields;refine e_ (e_ (Rz hos hds (x:=vl) rfl (e_ (Rz hos hds (x:=vu) rfl (e_ (Rz hos hds (x:=.none) rfl (z_ ?_)))))));refine e_ (slicePart_none ?_);show wpAny _ _ (if ((1:Int)==0)=true then _ else _) _ _ s;rw[if_neg (by decide)];refine e_ (iu pl (e_ (iu pu (e_ (z_ ?_)))));show wpAny _ _ (match Builtin.Slice.sliceAdjust lo hi 1 (n:Int) with | (lo,hi)=>pure (lo,(1:Int),Builtin.Slice.slicePlaces lo hi 1)) _ _ s;rw[qG lo hi n];show wpAny _ _ (pure (((sIx n 0 lo:Nat):Int),(1:Int),Builtin.Slice.slicePlaces ((sIx n 0 lo:Nat):Int) ((sIx n n hi:Nat):Int) 1)) _ _ s;rw[qH];exact z_ h
theorem vV (xs : Array Value) (i k : Nat) : ((List.range k).filterMap fun (m : Nat) => xs[((i : Int) + (m : Int) * 1).toNat]?).toArray = ((xs.toList.drop i).take k).toArray:=by
 have e:(fun (m:Nat)=>xs[((i:Int)+(m:Int)*1).toNat]?)=fun m=>xs[i+m]?:=by
  funext m;have:((i:Int)+(m:Int)*1).toNat=i+m:=by omega
  rw[this]
 rw [e];have:=pick_run xs i k;rw [List.filterMap_map] at this;have e2 : ((fun x => xs[x]?) ∘ fun x => i + x) = fun m => xs[i + m]?:=rfl;rw [e2] at this;rw [this]
theorem getItem_tuple_cut {t sl:Addr}{items:Array Value}{vl vu:Value}{lo hi:Option Int}{Q:Value->Shared->Prop}(ht:IsTup s.heap t items) (hs:s.heap.IsSliceOf sl vl vu .none) (pl:IsPart vl lo) (pu:IsPart vu hi)
  (hw:¬(sIx items.size 0 lo=0/\sIx items.size items.size hi=items.size))
  (h:Q (.ref s.heap.objs.size) { s with heap:=s.heap.push { cls:=.type "tuple",data:=.seq ((items.toList.drop (sIx items.size 0 lo)).take (sIx items.size items.size hi - sIx items.size 0 lo)).toArray}})
  (hsz:items.size<=sizeLine):wpAny (model prog w) A (getItem (.ref t) (.ref sl)) Q E s:=by
 have htake:sizeOk (.seq ((items.toList.drop (sIx items.size 0 lo)).take (sIx items.size items.size hi - sIx items.size 0 lo)).toArray):=by show ((items.toList.drop (sIx items.size 0 lo)).take (sIx items.size items.size hi - sIx items.size 0 lo)).toArray.size<=sizeLine;rw[h_,Rc,Ro,Rk];omega
 have hj:sIx items.size items.size hi<=items.size:=Gm _ _ (u_ _) hi;obtain⟨os,hos,hcs,hds⟩:=id hs;have hTs:s.TypeIs (.ref sl) "slice":=⟨os,hos,hcs⟩;unfold getItem;try with_reducible refine RW ?_
 first | refine e_ (z_ ?_) | skip
 refine e_ (wpAny_sequenceKey ht.typeIs (by decide) ?_);refine e_ (RK (name:=Str.ofString "__getitem__") ht.typeIs QD
  (RZ QD ht.typeIs entry_tuple_getitem ?_ (args_tuple_getitem _ _)))
 show wpAny _ _ (Builtin.Tuple.tupleItemsOf (.ref t) >>= _) _ _ s;refine e_ (tupleItemsOf_ ht ?_);refine e_ (wpAny_typeOf hTs ?_);rw[if_pos (by decide)];refine e_ (je hs pl pu ?_);have hno:¬((((sIx items.size 0 lo:Nat):Int)==0&&(1:Int)==1&&(sIx items.size items.size hi - sIx items.size 0 lo)==items.size)=true):=by intro q;rw[RL,RL] at q;have q1:((sIx items.size 0 lo:Nat):Int)=0:=eq_of_beq q.1.1;have q2:sIx items.size items.size hi - sIx items.size 0 lo=items.size:=eq_of_beq q.2;exact hw ⟨by omega,by omega⟩
 show wpAny _ _ (if (((sIx items.size 0 lo:Nat):Int)==0&&(1:Int)==1&&(sIx items.size items.size hi - sIx items.size 0 lo)==items.size)=true then _ else _) _ _ s;rw[if_neg hno,vV];first
  |exact e_ (m:=Builtin.Tuple.tupleExact _) (QG (z_ ⟨_,rfl,z_ h⟩) htake)
  |exact e_ (m:=Builtin.Tuple.tupleExact _) (QG (e_ (z_ (z_ ⟨_,rfl,z_ h⟩))) htake)
  |exact e_ (e_ (m:=Builtin.Tuple.tupleExact _) (QG (z_ (z_ ⟨_,rfl,z_ h⟩)) htake))
  |exact e_ (e_ (m:=Builtin.Tuple.tupleExact _) (QG (z_ ⟨_,rfl,z_ h⟩) htake))
end
end HT
namespace L2
abbrev TO:=St->Hp->(Option Int->Hp->Prop)->Prop
def PO (X:Cx) (e:Option Expr) (t:TO):Prop :=
 ∀(pins:List (Addr × Obj)) (s:Shared) (Z:St) (H:Hp) (Q:Option Int->Hp->Prop),Inv X pins Z H s->t Z H Q ->
  wpAny (model X.prog X.w) X.A (evalPart e X.env) (fun u s'=>∃o H',Inv X pins Z H' s'/\IsPart u o/\Q o H') X.xe s
def zQ:TO:=fun _ H Q=>Q none H
def Km (t:TE):TO:=fun Z H Q=>t Z H fun x H1=>∃i,x=.int i/\Q (some i) H1
section
variable {X:Cx}{e:Expr}{te:TE}{lo hi:Option Expr}{tl th:TO}{pos p2:Pos}
theorem zR:PO X none zQ:=by
 intro pins s Z H Q I h;rw[evalPart_none];exact z_ ⟨none,H,I,.none,h⟩
theorem zT (h:PE X e te):PO X (some e) (Km te):=by
 intro pins s Z H Q I hw;rw[evalPart_some];refine thn (h pins s Z H _ I hw) fun u s1 ⟨x,H1,I1,r1,q1⟩=>?_;obtain⟨i,rfl,q⟩:=q1;obtain⟨t,rfl⟩:=r1;exact⟨some i,H1,I1,.int i t,q⟩
def SlR (X:Cx) (r:V->Option Int->Option Int->Hp->VK->Prop):Prop :=
 ∀(pins:List (Addr × Obj)) (s:Shared) (Z:St) (H:Hp) (x:V) (v vl vu:Value) (lo hi:Option Int) (sl:Addr) (Q:VK),Inv X pins Z H s->RelV x v->s.heap.IsSliceOf sl vl vu .none->IsPart vl lo->IsPart vu hi->r x lo hi H Q ->
  ∃T id,typeLookup (.type T) "__getitem__"=pure (some (.builtin id))/\s.TypeIs v T/\wpAny (model X.prog X.w) X.A (getItem v (.ref sl)) (EP X pins Z Q) X.xe s
theorem SlR.or {r r':V->Option Int->Option Int->Hp->VK->Prop}(h:SlR X r) (h':SlR X r'):SlR X (fun x lo hi H Q=>r x lo hi H Q\/r' x lo hi H Q):=by
 intro pins s Z H x v vl vu lo hi sl Q I rx hs pl pu q;rcases q with q | q
 ·exact h pins s Z H x v vl vu lo hi sl Q I rx hs pl pu q
 exact h' pins s Z H x v vl vu lo hi sl Q I rx hs pl pu q
def tSl (r:V->Option Int->Option Int->Hp->VK->Prop) (te:TE) (tl th:TO):TE:=fun Z H Q=>te Z H fun x H1=>tl Z H1 fun l H2=>th Z H2 fun u H3=>r x l u H3 Q
theorem vW {r:V->Option Int->Option Int->Hp->VK->Prop}(hr:SlR X r) (he:PE X e te) (hl:PO X lo tl) (hu:PO X hi th):PE X (.Subscript e (.Slice lo hi none p2) pos) (tSl r te tl th):=by
 intro pins s Z H Q I h;refine Subscript_ (thn (he pins s Z H _ I h) fun v s1 ⟨x,H1,I1,r1,q1⟩=>?_);refine wpAny_Slice (thn (hl pins s1 Z H1 _ I1 q1) fun vl s2 ⟨l,H2,I2,pl,q2⟩=>thn (hu pins s2 Z H2 _ I2 q2) fun vu s3 ⟨u,H3,I3,pu,q3⟩=>?_);rw[evalPart_none];refine z_ ?_;have I4:Inv X pins Z H3 { s3 with heap:=s3.heap.push { cls:=.type "slice",data:=.fields #[vl,vu,.none]}}:=I3.kept (t':=s3.toks) fun b ob q=>l_ _ q;obtain⟨T,id,hT,ht,hg⟩:=hr pins { s3 with heap:=s3.heap.push { cls:=.type "slice",data:=.fields #[vl,vu,.none]}} Z H3 x v vl vu l u s3.heap.objs.size Q I4 r1 (Heap.IsSliceOf.new ..) pl pu q3;show wpAny (model X.prog X.w) X.A (subscriptTail e (.Slice lo hi none p2) v (.ref s3.heap.objs.size)) (EP X pins Z Q) X.xe { s3 with heap:=s3.heap.push { cls:=.type "slice",data:=.fields #[vl,vu,.none]}};exact tail_any (ops:=[.ref s3.heap.objs.size,v]) ht hT hg (by with_unfolding_all rfl)
def oR (xs:List V) (lo hi:Option Int):List V:=(xs.drop (HT.sIx xs.length 0 lo)).take (HT.sIx xs.length xs.length hi - HT.sIx xs.length 0 lo)
theorem jn (xs:List V) (lo hi:Option Int):(oR xs lo hi).length<=xs.length:=by
 unfold oR;rw[Rc,Ro];omega
def Py (K:Frag):V->Option Int->Option Int->Hp->VK->Prop:=fun x lo hi H Q=>∃a xs,x=.ref a/\SqT K H a xs /\
 ¬(HT.sIx xs.length 0 lo=0/\HT.sIx xs.length xs.length hi=xs.length)/\∀p,H p=none->Q (.ref p) (upd H p (.tup (oR xs lo hi)))
theorem sl_tup:SlR X (Py X.K):=by
 intro pins s Z H x v vl vu lo hi sl Q I rx hs pl pu h;obtain⟨a,xs,rfl,hx,hw,q⟩:=h;cases rx;obtain⟨its,r,ht,hz⟩:=I.tuple hx;have hlen:its.toArray.size=xs.length:=by rw[h_];exact r.length.symm
 refine⟨"tuple",_,QD.lookup,ht.typeIs,?_⟩;refine HT.getItem_tuple_cut ht hs pl pu (by rw[hlen];exact hw) ?_ (by rw[hlen];exact hz);rw[hlen];refine⟨.ref s.heap.objs.size,_,I.laid (t':=s.toks) (o:=.tup (oR xs lo hi)) (fun b ob q=>l_ _ q) (u_ _) ?_,rfl,q _ (I.hok.fresh (u_ _))⟩;exact⟨N_ (jn xs lo hi) hz,_,(r.drop (HT.sIx xs.length 0 lo)).take (HT.sIx xs.length xs.length hi - HT.sIx xs.length 0 lo),Tup0.new _ _⟩
def Ko (K:Frag):R2:=fun x y H Q=>∃a b xs ys,x=.ref a/\y=.ref b/\SqT K H a xs/\SqT K H b ys/\xs≠[]/\xs.length+ys.length<=sizeLine /\
 (ys=[]->Q (.ref a) H)/\(ys≠[]->∀p,H p=none->Q (.ref p) (upd H p (.tup (xs++ys))))
theorem Vals.nil_iff {xs:List V}{us:List Value}(r:Vals xs us):us=[]↔xs=[]:=by
 cases r with
 |nil=>simp
 |cons _ _=>simp
theorem op_catT:OpR X (binaryOp .Add) (Ko X.K):=by
 intro pins s Z H x y v u Q I rx ry h;obtain⟨a,b,xs,ys,rfl,rfl,ha,hb,hx,hz,q1,q2⟩:=h;cases rx;cases ry;obtain⟨its,r1,p1,_⟩:=I.tuple ha;obtain⟨its2,r2,p2,_⟩:=I.tuple hb;refine HT.cat_tup p1 p2 (fun z=>hx (r1.nil_iff.mp z)) (fun z=>⟨.ref a,H,I,rfl,q1 (r2.nil_iff.mp z)⟩) (fun z=>?_) (by rw[<- r1.length,<- r2.length];exact hz);refine⟨.ref s.heap.objs.size,_,I.laid (t':=s.toks) (o:=.tup (xs++ys)) (fun b ob q=>l_ _ q) (u_ _) ?_,rfl,q2 (fun w=>z (r2.nil_iff.mpr w)) _ (I.hok.fresh (u_ _))⟩;exact⟨by rw[a_];exact hz,_,r1.append r2,Tup0.new _ _⟩
end
def ixN (n:Nat) (i:Int):Option Nat:=if 0<=i then (if i<n then some i.toNat else none) else if -(n:Int)<=i then some (i+n).toNat else none
def atI {α:Type}(xs:List α) (i:Int):Option α:=(ixN xs.length i).bind fun j=>xs[j]?
theorem my {n:Nat}{i:Int}{j:Nat}(h:ixN n i=some j):seqIndex? i n=some j/\j<n /\ -(n:Int)<=i/\i<n:=by
 unfold ixN at h;by_cases h0:0<=i
 ·rw[if_pos h0] at h;by_cases h1:i<n
  ·rw[if_pos h1] at h;have e:i.toNat=j:=Qu h;exact⟨by rw[seqIndex_of h0 h1,e],by omega,by omega,h1⟩
  rw[if_neg h1] at h;cases h
 rw[if_neg h0] at h;by_cases h1 : -(n:Int)<=i
 ·rw[if_pos h1] at h;have e:(i+n).toNat=j:=Qu h;exact⟨by rw[seqIndex_neg (by omega) h1,e],by omega,h1,by omega⟩
 rw[if_neg h1] at h;cases h
theorem mC {α:Type}{xs:List α}{i:Int}{v:α}(h:atI xs i=some v):∃j,seqIndex? i xs.length=some j/\xs[j]?=some v/\j<xs.length /\ -(xs.length:Int)<=i/\i<xs.length:=by
 unfold atI at h;cases e:ixN xs.length i with
 |none=>rw[e] at h;cases h
 |some j =>
 rw[e] at h;obtain⟨h1,h2,h3,h4⟩:=my e;exact⟨j,h1,h,h2,h3,h4⟩
theorem bH {α:Type}{xs:List α}{j:Nat}{v:α}(h:xs[j]?=some v):atI xs (j:Int)=some v:=by
 have hj:j<xs.length:=(Ra.mp h).1;have e:ixN xs.length (j:Int)=some j:=by unfold ixN;rw[if_pos (by omega),if_pos (by omega)];simp
 unfold atI;rw[e];exact h
def sG (b:Expr):Prop:=∀o i,subscripted b false o i=operate [o,i] (getItem o i)
def IxR (X:Cx) (r:R2):Prop :=
 ∀(value slice:Expr) (pins:List (Addr × Obj)) (s:Shared) (Z:St) (H:Hp) (x y:V) (v u:Value) (Q:VK),Inv X pins Z H s->RelV x v->RelV y u->r x y H Q ->
  subscripted slice false v u=operate [v,u] (getItem v u)->wpAny (model X.prog X.w) X.A (subscriptTail value slice v u) (EP X pins Z Q) X.xe s
def MtR (X:Cx) (id:String) (r:V->List V->Hp->VK->Prop):Prop :=
 ∀(pins:List (Addr × Obj)) (s:Shared) (Z:St) (H:Hp) (x:V) (xs:List V) (v:Value) (us:List Value) (Q:VK),Inv X pins Z H s->RelV x v->Vals xs us->r x xs H Q ->
  wpAny (model X.prog X.w) X.A (call (.builtin id) (v::us)) (EP X pins Z Q) X.xe s
section
variable {X:Cx}{a b:Expr}{ta tb:TE}{pos:Pos}
theorem IxR.or {r r':R2}(h:IxR X r) (h':IxR X r'):IxR X (fun x y H Q=>r x y H Q\/r' x y H Q):=by
 intro value slice pins s Z H x y v u Q I rx ry q hs;rcases q with q | q
 ·exact h value slice pins s Z H x y v u Q I rx ry q hs
 exact h' value slice pins s Z H x y v u Q I rx ry q hs
theorem MtR.or {id:String}{r r':V->List V->Hp->VK->Prop}(h:MtR X id r) (h':MtR X id r'):MtR X id (fun x xs H Q=>r x xs H Q\/r' x xs H Q):=by
 intro pins s Z H x xs v us Q I rx rs q;rcases q with q | q
 ·exact h pins s Z H x xs v us Q I rx rs q
 exact h' pins s Z H x xs v us Q I rx rs q
theorem Kp {r:R2}(hr:IxR X r) (ha:PE X a ta) (hb:PE X b tb) (hs:sG b):PE X (.Subscript a b pos) (tOp r ta tb):=by
 intro pins s Z H Q I h;exact Subscript_ (FN ha hb I h fun v u s2 x y H2 I2 rx ry q=>hr a b pins s2 Z H2 x y v u Q I2 rx ry q (hs _ _))
def Kq (K:Frag):R2:=fun x y H Q=>∃p xs i v,x=.ref p/\y=.int i/\SqL K H p xs/\atI xs i=some v/\Q v H
def Kr (K:Frag):R2:=fun x y H Q=>∃p xs i v,x=.ref p/\y=.int i/\SqT K H p xs/\atI xs i=some v/\Q v H
def Ks:R2:=fun x y H Q=>∃z i c,x=.str z/\y=.int i/\z.length<=sizeLine/\atI z.cps.toList i=some c/\Q (.str ⟨#[c]⟩) H
theorem ix_list:IxR X (Kq X.K):=by
 intro value slice pins s Z H x y v u Q I rx ry h hs;obtain⟨p,xs,i,z,rfl,rfl,hq,he,q⟩:=h;cases rx;obtain⟨t,rfl⟩:=ry;obtain⟨its,r,pl,hz⟩:=I.list hq;obtain⟨j,h1,h2,h3,h4,h5⟩:=mC he;obtain⟨w,ew,rw'⟩:=r.get h2;have hl:=r.length;have hn:=fV;have fin:EP X pins Z Q w s:=⟨z,H,I,rw',q⟩;by_cases h0:0<=i
 ·have hj:i.toNat=j:=by rw[seqIndex_of h0 h5] at h1;exact Qu h1
  exact item_listR pl.isList h0 (by omega) (by rw[hj];simpa using ew) fin hs
 have hj:(i+(its.toArray.size:Int)).toNat=j:=by rw[seqIndex_neg (by omega) h4] at h1;rw[h_,<- hl];exact Qu h1
 exact subscriptTail_builtinR (x:=w) pl.isList.typeIs slot_list_getitem.lookup
  (wpAny_getItem_list_neg (Q:=fun r s'=>r=w/\EP X pins Z Q r s') pl.isList (by omega) (by rw[h_] <;> omega) (by omega) (by rw[hj];simpa using ew) ⟨rfl,fin⟩) hs
theorem ix_tup:IxR X (Kr X.K):=by
 intro value slice pins s Z H x y v u Q I rx ry h hs;obtain⟨p,xs,i,z,rfl,rfl,hq,he,q⟩:=h;cases rx;obtain⟨t,rfl⟩:=ry;obtain⟨its,r,pl,hz⟩:=I.tuple hq;obtain⟨j,h1,h2,h3,h4,h5⟩:=mC he;obtain⟨w,ew,rw'⟩:=r.get h2;have hl:=r.length;have hn:=fV;have fin:EP X pins Z Q w s:=⟨z,H,I,rw',q⟩;exact subscriptTail_builtinR (x:=w) pl.typeIs slot_tuple_getitem.lookup
  (getItem_tuple (j:=j) (Q:=fun r s'=>r=w/\EP X pins Z Q r s') pl (by omega) (by omega) (by rw[h_,<- hl];exact h1) (by simpa using ew) ⟨rfl,fin⟩) hs
theorem Gn:IxR X Ks:=by
 intro value slice pins s Z H x y v u Q I rx ry h hs;obtain⟨z,i,c,rfl,rfl,hz,he,q⟩:=h;obtain⟨t,rfl⟩:=rx;obtain⟨t',rfl⟩:=ry;obtain⟨j,h1,h2,h3,h4,h5⟩:=mC he;have hl:z.cps.toList.length=z.length:=by simp [Str.length]
 rw[hl] at h1 h4 h5;have hn:=fV;exact tail_any (typeIs_str s z t) slot_str_getitem.lookup (getItem_str (c:=c) (by
  have e1:decide (i < -(2^63:Int))=false:=o_ (by omega)
  have e2:decide (i ≥ 2^63)=false:=o_ (by omega)
  rw[e1,e2,Bool.or_false]) (by rw[h1];simpa using h2) ⟨.str ⟨#[c]⟩,H,I.tok _,⟨_,rfl⟩,q⟩) hs
def rIx (K:Frag):R2:=fun x y H Q=>Kq K x y H Q\/Kr K x y H Q\/Ks x y H Q
theorem Gp:IxR X (rIx X.K):=ix_list.or (ix_tup.or Gn)
theorem qI (its:List Value) (n j:Nat) (u:Value):Obj.mapSeq (·.setIfInBounds j u) { cls:=.type "list",data:=.seq its.toArray n}={ cls:=.type "list",data:=.seq (its.set j u).toArray n}:=by
 simp [Obj.mapSeq]
theorem Inv.lst {pins:List (Addr × Obj)}{Z:St}{H:Hp}{s:Shared}{p:Addr}{xs:List V}(I:Inv X pins Z H s) (h:H p=some (.lst xs)) :
  ∃(its:List Value) (n:Nat),Vals xs its/\s.heap.get? p=some { cls:=.type "list",data:=.seq its.toArray n}/\xs.length<=sizeLine:=by
 obtain⟨z,its,n,r,e⟩:=I.hok p _ h;exact⟨its,n,r,e,z⟩
theorem Inv.lstUpd {pins:List (Addr × Obj)}{Z:St}{H:Hp}{s:Shared}{p:Addr}{xs ys:List V}{its its':List Value}{n n':Nat}{f:Obj->Obj}(I:Inv X pins Z H s) (h:H p=some (.lst xs))
  (ho:s.heap.get? p=some { cls:=.type "list",data:=.seq its.toArray n}) (hf:f { cls:=.type "list",data:=.seq its.toArray n}={ cls:=.type "list",data:=.seq its'.toArray n'}) (r:Vals ys its') (hz:ys.length<=sizeLine) (t:Nat) :
  Inv X pins Z (upd H p (.lst ys)) { s with heap:=s.heap.update p f,toks:=t}:=by
 have e:(s.heap.update p f).get? p=some { cls:=.type "list",data:=.seq its'.toArray n'}:=by rw[Heap.get?_update_self f ho (by rw[hf] <;> rfl),hf]
 refine I.write (x:=p) (e:=p) (by rw[h];trivial) (.inl rfl) (fun b u hb q=>(Heap.get?_update_other _ _ (Ne.symm hb)).trans q) ⟨_,e⟩ ?_;exact⟨hz,its',n',r,e⟩
def Ku:V->V->V->Hp->(Hp->Prop)->Prop:=fun o i v H Q=>∃p xs k j,o=.ref p/\i=.int k/\H p=some (.lst xs)/\ixN xs.length k=some j/\Q (upd H p (.lst (xs.set j v)))
theorem set_list:PSet X Ku:=by
 intro pins s Z H o i v ov iv u Q I ro ri rv h;obtain⟨p,xs,k,j,rfl,rfl,hp,hj,q⟩:=h;cases ro;obtain⟨t,rfl⟩:=ri;obtain⟨its,n,r,ho,hz⟩:=I.lst hp;obtain⟨h1,h2,h3,h4⟩:=my hj;have hl:=r.length;have hn:=fV;have I':Inv X pins Z (upd H p (.lst (xs.set j v))) { s with heap:=s.heap.update p (Obj.mapSeq (·.setIfInBounds j u))} :=
  I.lstUpd hp ho (qI its n j u) (r.set rv j) (by rw[List.length_set];exact hz) s.toks
 by_cases h0:0<=k
 ·have hk:k.toNat=j:=by rw[seqIndex_of h0 h4] at h1;exact Qu h1
  exact PySem.W.ki_setAt ho h0 (by omega) (by rw[h_,<- hl];exact h4) (by rw[hk];exact⟨_,I',q⟩)
 have hk:(k+(its.toArray.size:Int)).toNat=j:=by rw[seqIndex_neg (by omega) h3] at h1;rw[h_,<- hl];exact Qu h1
 exact PySem.W.ki_setBack ho (by omega) (by rw[h_,<- hl];exact h3) (by omega) (by rw[hk];exact⟨_,I',q⟩)
theorem mD (lo hi:Option Int) (n:Nat):(sliceBounds lo hi none n).1=((HT.sIx n 0 lo:Nat):Int)/\(sliceBounds lo hi none n).2.1=((HT.sIx n n hi:Nat):Int)/\(sliceBounds lo hi none n).2.2=1:=by
 refine⟨?_,?_,rfl⟩
 ·cases lo with
  |none=>simp [sliceBounds,HT.sIx]
  |some i =>
  simp only[sliceBounds,HT.sIx,Option.getD_none,show (1:Int)>0 by decide,if_true];by_cases h:i<0
  ·simp only[h,if_true] <;> omega
  simp only[h,Q4] <;> omega
 cases hi with
 |none=>simp [sliceBounds,HT.sIx]
 |some i =>
 simp only[sliceBounds,HT.sIx,Option.getD_none,show (1:Int)>0 by decide,if_true];by_cases h:i<0
 ·simp only[h,if_true] <;> omega
 simp only[h,Q4] <;> omega
theorem km (its:List Value) (lo hi:Option Int):slicePick its.toArray lo hi none=((its.drop (HT.sIx its.length 0 lo)).take (HT.sIx its.length its.length hi - HT.sIx its.length 0 lo)).toArray:=by
 obtain⟨h1,h2,h3⟩:=mD lo hi its.toArray.size;unfold slicePick;rw[h1,h2,h3];simp only[sliceRange_one,pick_run,h_] <;> rfl
def Pz (K:Frag):V->Option Int->Option Int->Hp->VK->Prop:=fun x lo hi H Q=>∃a xs,x=.ref a/\SqL K H a xs/\∀p,H p=none->Q (.ref p) (upd H p (.lst (oR xs lo hi)))
theorem sl_list:SlR X (Pz X.K):=by
 intro pins s Z H x v vl vu lo hi sl Q I rx hs pl pu h;obtain⟨a,xs,rfl,hx,q⟩:=h;cases rx;obtain⟨its,r,ht,hz⟩:=I.list hx;have hlen:=r.length;refine⟨"list",_,slot_list_getitem.lookup,ht.isList.typeIs,?_⟩;refine wpAny_getItem_list_slice ht.isList hs pl pu .none (by simp) ?_ (by rw[h_] <;> omega);rw[km,<- hlen];refine⟨.ref s.heap.objs.size,_,I.laid (t':=s.toks) (o:=.lst (oR xs lo hi)) (fun b ob q=>l_ _ q) (u_ _) ?_,rfl,q _ (I.hok.fresh (u_ _))⟩;exact⟨N_ (jn xs lo hi) hz,_,0,(r.drop (HT.sIx xs.length 0 lo)).take (HT.sIx xs.length xs.length hi - HT.sIx xs.length 0 lo),K_ _ rfl⟩
theorem call_len_seq:CallR X (.builtin "len") (fun xs H Q=>∃p ys,xs=[.ref p]/\(SqL X.K H p ys\/SqT X.K H p ys)/\Q (.int ys.length) H):=by
 intro pins s Z H xs us Q I r h;obtain⟨p,ys,rfl,hq,q⟩:=h;obtain⟨u,rfl,rx⟩:=vals1 r;cases rx;have hn:=fV;rcases hq with hq | hq
 ·obtain⟨its,r',pl,hz⟩:=I.list hq;have hlen:=r'.length;exact Calls.call_len_list pl.isList (by simp only[h_] <;> omega) ⟨.int ys.length,H,I.tok _,⟨s.toks+1,by rw[h_,hlen]⟩,q⟩
 obtain⟨its,r',pl,hz⟩:=I.tuple hq;have hlen:=r'.length;exact len_tuple pl (by simp only[h_] <;> omega) ⟨.int ys.length,H,I.tok _,⟨s.toks+1,by rw[h_,hlen]⟩,q⟩
theorem mF:CallR X (.builtin "len") (fun xs H Q=>∃z,xs=[.str z]/\z.length<=sizeLine/\Q (.int z.length) H):=by
 intro pins s Z H xs us Q I r h;obtain⟨z,rfl,hz,q⟩:=h;obtain⟨u,rfl,t,rfl⟩:=vals1 r;have hn:=fV;exact len_str (by omega) ⟨.int z.length,H,I.tok _,⟨_,rfl⟩,q⟩
theorem CallR.or {f:Value}{r r':List V->Hp->VK->Prop}(h:CallR X f r) (h':CallR X f r'):CallR X f (fun xs H Q=>r xs H Q\/r' xs H Q):=by
 intro pins s Z H xs us Q I rs q;rcases q with q | q
 ·exact h pins s Z H xs us Q I rs q
 exact h' pins s Z H xs us Q I rs q
theorem mG:CallR X (.type "list") (fun xs H Q=>∃p ys,xs=[.ref p]/\(SqL X.K H p ys\/SqT X.K H p ys)/\∀l,H l=none->Q (.ref l) (upd H l (.lst ys))):=by
 intro pins s Z H xs us Q I r h;obtain⟨p,ys,rfl,hq,q⟩:=h;obtain⟨u,rfl,rx⟩:=vals1 r;cases rx;have fin:∀(its:List Value),Vals ys its->ys.length<=sizeLine->∀(h':Heap) (c':Nat),(∀b o',s.heap.get? b=some o'->h'.get? b=some o') ->
   h'.get? s.heap.objs.size=some { cls:=.type "list",dict:=none,data:=.seq its.toArray c',slots:=#[]}->EP X pins Z Q (.ref s.heap.objs.size) { s with heap:=h'}:=fun its r' hz h' c' kp e =>
  ⟨.ref s.heap.objs.size,_,I.laid (t':=s.toks) kp (u_ _) (show ObjOk X.prog X.w _ h' _ (.lst ys) from ⟨hz,its,c',r',e⟩),rfl,q _ (I.hok.fresh (u_ _))⟩
 rcases hq with hq | hq
 ·obtain⟨its,r',pl,hz⟩:=I.list hq;have hlen:=r'.length;obtain⟨o,ho,hc,n,hd⟩:=pl.isList;exact call_list_seq p (.inl rfl) ho hc hd (fun h' c' kp e=>fin its r' hz h' c' kp e) (by simp only[h_] <;> omega)
 obtain⟨its,r',pl,hz⟩:=I.tuple hq;have hlen:=r'.length;obtain⟨o,ho,hc,n,hd⟩:=pl;exact call_list_seq p (.inr rfl) ho hc hd (fun h' c' kp e=>fin its r' hz h' c' kp e) (by simp only[h_] <;> omega)
theorem kE:CallR X (.type "tuple") (fun xs H Q=>∃p ys,xs=[.ref p]/\((SqL X.K H p ys/\∀l,H l=none->Q (.ref l) (upd H l (.tup ys)))\/(SqT X.K H p ys/\Q (.ref p) H))):=by
 intro pins s Z H xs us Q I r h;obtain⟨p,ys,rfl,h⟩:=h;obtain⟨u,rfl,rx⟩:=vals1 r;cases rx;rcases h with ⟨hq,q⟩ | ⟨hq,q⟩
 ·obtain⟨its,r',pl,hz⟩:=I.list hq;have hlen:=r'.length;refine call_tuple_list pl.isList (fun h' kp=>?_) (by simp only[h_] <;> omega);have I1:Inv X pins Z H { s with heap:=h'}:=I.kept (t':=s.toks) kp;have I2:Inv X pins Z (upd H h'.objs.size (.tup ys)) { s with heap:=h'.push { cls:=.type "tuple",data:=.seq its.toArray}} :=
   I1.laid (t':=s.toks) (fun b o e=>l_ _ e) (u_ _) (show ObjOk X.prog X.w _ _ _ (.tup ys) from ⟨hz,its,r',Tup0.new _ _⟩)
  exact⟨.ref h'.objs.size,_,I2,rfl,q _ (I1.hok.fresh (u_ _))⟩
 obtain⟨its,r',pl,hz⟩:=I.tuple hq;exact call_tuple_same pl ⟨.ref p,H,I,rfl,q⟩
def tyV (K:Frag) (T:String) (x:V) (H:Hp):Prop:=match x with
 |.str _=>T="str"
 |.int _=>T="int"
 |.ref p=>(T="list"/\∃xs,SqL K H p xs)\/(T="tuple"/\∃xs,SqT K H p xs) \/
   (T="dict"/\((∃kvs,H p=some (.dK kvs))\/∃kvs,H p=some (.dT kvs)))\/(T="set"/\∃S n,H p=some (.set S n))
 |_=>False
theorem vX {pins:List (Addr × Obj)}{Z:St}{H:Hp}{s:Shared}{T:String}{x:V}{v:Value}(I:Inv X pins Z H s) (r:RelV x v) (ty:tyV X.K T x H) :
  s.TypeIs v T/\∀a,v=.ref a->∃ob,s.heap.get? a=some ob/\ob.dict=none:=by
 cases x with
 |str z=>obtain⟨t,rfl⟩:=r;cases (show T="str" from ty);exact⟨typeIs_str s z t,fun _ e=>nomatch e⟩
 |int i=>obtain⟨t,rfl⟩:=r;cases (show T="int" from ty);exact⟨typeIs_int s i t,fun _ e=>nomatch e⟩
 |ref p =>
  cases r;rcases ty with ⟨rfl,xs,hq⟩ | ⟨rfl,xs,hk⟩ | ⟨rfl,hk⟩ | ⟨rfl,S,n,hk⟩
  ·obtain⟨its,_,pl,_⟩:=I.list hq;refine⟨pl.isList.typeIs,fun a e=>?_⟩;cases e;obtain⟨o,n,e,c,hd,_⟩:=pl;exact⟨o,e,hd⟩
  ·rcases hk with hk | ⟨o,its,n,hk,hc,hd,_⟩
   ·obtain⟨_,its,r,o,ho,hc,n,hd,hn⟩:=hk.ok I.hok;refine⟨⟨o,ho,hc⟩,fun a e=>?_⟩;cases e;exact⟨o,ho,hn⟩
   refine⟨⟨o,I.kIn p o hk,hc⟩,fun a e=>?_⟩;cases e;exact⟨o,I.kIn _ o hk,hd⟩
  ·have z:∃o,s.heap.get? p=some o/\o.ExactDict:=by
    rcases hk with ⟨kvs,hk⟩ | ⟨kvs,hk⟩
    ·obtain⟨_,_,_,_,o,_,_,e,ex,_⟩:=I.hok p _ hk;exact⟨o,e,ex⟩
    obtain⟨_,_,_,_,o,_,_,e,ex,_⟩:=I.hok p _ hk;exact⟨o,e,ex⟩
   obtain⟨o,e,ex⟩:=z;refine⟨⟨o,e,ex.1⟩,fun a e2=>?_⟩;cases e2;exact⟨o,e,ex.2.1⟩
  obtain⟨o,_,_,_,e,ex,_⟩:=I.hok p _ hk;refine⟨⟨o,e,ex.1⟩,fun a e2=>?_⟩;cases e2;exact⟨o,e,ex.2.1⟩
 |_=>exact False.elim ty
def PB (K:Frag) (T:String) (r:V->List V->Hp->VK->Prop) (to:TE):TE:=fun Z H Q=>to Z H fun x H1=>tyV K T x H1/\r x [] H1 Q
def tBM (K:Frag) (T:String) (r:V->List V->Hp->VK->Prop) (to:TE) (t:TA):TE:=fun Z H Q=>to Z H fun x H1=>tyV K T x H1/\t Z H1 fun xs H2=>r x xs H2 Q
variable {o e:Expr}{es:List Expr}{to:TE}{t:TA}{name:Str}{apos cpos:Pos}{T id:String}{r:V->List V->Hp->VK->Prop}
theorem Gq (pa:PlainAttrs T) (slot:Slot T name id) (hty:typeOf (.builtin id)=pure (.type "method_descriptor")) (hm:MtR X id r) (ho:PE X o to)
  (hbase:attributeBase o name X.env (eval o X.env)=eval o X.env:=by rfl) (hline:(apos.endLine==cpos.line)=true:=by rfl):PE X (.Call (.Attribute o name apos) [] [] cpos) (PB X.K T r to):=by
 intro pins s Z H Q I h;refine wpAny_Call_method0_late hbase hline (thn (ho pins s Z H _ I h) fun v s1 ⟨x,H1,I1,r1,ty,q1⟩=>?_);obtain⟨h1,h2⟩:=vX I1 r1 ty;exact⟨T,id,pa,slot,hty,h1,h2,Calls.callWith_builtin rfl (PySem.evalArgs_none (hm pins s1 Z H1 x [] v [] Q I1 r1 .nil q1))⟩
theorem Kv (pa:PlainAttrs T) (slot:Slot T name id) (hty:typeOf (.builtin id)=pure (.type "method_descriptor")) (hm:MtR X id r) (ho:PE X o to) (ha:PA X (e::es) t)
  (hbase:attributeBase o name X.env (eval o X.env)=eval o X.env:=by rfl)
  (hfew:((backTo cpos (starEach (e::es) X.env)).all (fun x=>!x.1)&&(backToKw cpos (keywordEach [] X.env)).all (fun x=>x.1.isSome)
   && decide ((e::es).length+([]:List Keyword).length+(if ([]:List Keyword).isEmpty then 0 else 1)<30))=true:=by rfl)
  (hline:(apos.endLine==cpos.line)=true:=by rfl) (hs:starEach (e::es) X.env=(false,eval e X.env)::starEach es X.env:=by rfl) (hplain:(backTo cpos (starEach es X.env)).any (·.1)=false:=by rfl) :
  PE X (.Call (.Attribute o name apos) (e::es) [] cpos) (tBM X.K T r to t):=by
 intro pins s Z H Q I h;refine wpAny_Call_method_late hbase hfew hline rfl (thn (ho pins s Z H _ I h) fun v s1 ⟨x,H1,I1,r1,ty,q1⟩=>?_);obtain⟨h1,h2⟩:=vX I1 r1 ty;refine⟨T,id,pa,slot,hty,h1,h2,?_⟩;have hA:=ha cpos pins s1 Z H1 _ I1 q1;rw[hs] at hA ⊢;refine Calls.callWith_builtin (by show (false||(backTo cpos (starEach es X.env)).any (·.1))=false;rw[hplain] <;> rfl) (Calls.evalArgs_plain ?_);exact thn hA fun us s2 ⟨vs,H2,I2,r2,q2⟩=>hm pins s2 Z H2 x vs v us Q I2 r1 r2 q2
/- xs.append(e),list.index on a module's tuple .. are MtR facts of 06m -/
end
def MtM (X:Cx) (id:String) (r:V->List V->Hp->VK->Prop):Prop :=
 ∀(pins:List (Addr × Obj)) (s:Shared) (Z:St) (H:Hp) (x:V) (xs:List V) (v:Value) (us:List Value) (Q:VK),Inv X pins Z H s->RelV x v->Vals xs us->r x xs H Q ->
  wpAny (model X.prog X.w) X.A (call (.builtin id) (v::us)) (EP X pins Z Q) X.xe s
theorem Vals.one {x:V}{us:List Value}(r:Vals [x] us):∃u,us=[u]/\RelV x u:=vals1 r
theorem Vals.two {x y:V}{us:List Value}(r:Vals [x,y] us):∃u v,us=[u,v]/\RelV x u/\RelV y v:=vals2 r
theorem Vals.zero:∀{us:List Value},Vals [] us->us=[]
 |_,.nil=>rfl
theorem Vals.dropLast {xs:List V}{us:List Value}(h:Vals xs us):Vals xs.dropLast us.dropLast:=by
 induction h with
 |nil=>exact .nil
 |cons r t ih =>
 cases t with
 |nil=>exact .nil
 |cons q t'=>exact .cons r ih
theorem Vals.eraseIdx:∀{xs:List V}{us:List Value}(i:Nat),Vals xs us->Vals (xs.eraseIdx i) (us.eraseIdx i)
 |_,_,_,.nil=>.nil
 |_,_,0,.cons _ t=>t
 |_,_,i+1,.cons r t=>.cons r (Vals.eraseIdx i t)
theorem Vals.reverse {xs:List V}{us:List Value}(h:Vals xs us):Vals xs.reverse us.reverse:=by
 induction h with
 |nil=>exact .nil
 |cons r t ih=>rw[List.reverse_cons,List.reverse_cons];exact Vals.append ih (.cons r .nil)
theorem Vals.rep {xs:List V}{us:List Value}(h:Vals xs us):∀k:Nat,Vals (List.replicate k xs).flatten (List.replicate k us).flatten
 |0=>.nil
 |k+1=>by
  rw[Q_,Q_,QQ,QQ]
  exact Vals.append h (Vals.rep h k)
theorem qJ {α:Type}(l:List α):l.eraseIdx (l.length - 1)=l.dropLast:=by
 induction l with
 |nil=>rfl
 |cons a r ih =>
 cases r with
 |nil=>rfl
 |cons b r =>
  have e:(a::b::r).length - 1=((b::r).length - 1)+1:=by
   have h1:(a::b::r).length=r.length+2:=rfl
   have h2:(b::r).length=r.length+1:=rfl
   omega
  rw[e,List.eraseIdx_cons_succ,ih]
  all_goals rfl
theorem lE {α:Type}:∀(l:List α) (i:Nat),(l.eraseIdx i).length<=l.length
 |[],_=>u_ _
 |_::_,0=>Nat.le_succ _
 |_::r,i+1=>Nat.succ_le_succ (lE r i)
theorem foldl_rep (its:List Value):∀(k:Nat) (acc:List Value),
  List.foldl (fun x1 x2=>x1++x2) acc.toArray (List.replicate k its.toArray)=(acc++(List.replicate k its).flatten).toArray
 |0,acc=>by simp
 |k+1,acc=>by
  have e:acc.toArray++its.toArray=(acc++its).toArray:=by simp
  have e2:(acc++its)++(List.replicate k its).flatten=acc++(List.replicate (k+1) its).flatten:=by
   rw[Q_,QQ,QC]
  rw[<- e2,<- foldl_rep its k (acc++its),<- e,Q_,List.foldl_cons]
section
variable {X:Cx}{pins:List (Addr × Obj)}{Z:St}{H:Hp}{s:Shared}{l b:Addr}{xs ys zs:List V}
theorem Inv.lset {its its':List Value}{n:Nat}{f:Array Value->Array Value}{t':Nat}(I:Inv X pins Z H s) (hH:H l=some (.lst xs))
  (e:s.heap.get? l=some { cls:=.type "list",data:=.seq its.toArray n}) (hf:f its.toArray=its'.toArray) (hv:Vals ys its') (hz:ys.length<=sizeLine) :
  Inv X pins Z (upd H l (.lst ys)) { s with heap:=s.heap.update l (Obj.mapSeq f),toks:=t'}:=by
 have q:=PySem.IsL.update e f;rw[hf] at q;refine I.write (x:=l) (e:=l) (by rw[hH];exact trivial) (.inl rfl) (fun b' u hb hu=>(Heap.get?_update_other s.heap (Obj.mapSeq f) (Ne.symm hb)).trans hu) ⟨_,q⟩ ?_;exact⟨hz,its',_,hv,q⟩
theorem Inv.lnew {its:List Value}{t':Nat}(I:Inv X pins Z H s) (hv:Vals ys its) (hz:ys.length<=sizeLine) :
  Inv X pins Z (upd H s.heap.objs.size (.lst ys)) { s with heap:=s.heap.push { cls:=.type "list",data:=.seq its.toArray},toks:=t'} :=
 I.laid (fun _ _ q=>l_ _ q) (u_ _) ⟨hz,its,0,hv,K_ _ rfl⟩
theorem Inv.fresh (I:Inv X pins Z H s):H s.heap.objs.size=none:=I.hok.fresh (u_ _)
theorem Inv.lstM (I:Inv X pins Z H s) (hH:H l=some (.lst xs)):xs.length<=sizeLine/\∃(its:List Value) (n:Nat),Vals xs its/\xs.length=its.length/\s.heap.get? l=some { cls:=.type "list",data:=.seq its.toArray n}:=by
 obtain⟨z,its,n,r,e⟩:=I.hok l _ hH;exact⟨z,its,n,r,r.length,e⟩
theorem oU {n:Nat}(h:n<=sizeLine):Builtin.List.listTooLong n=false:=by
 unfold Builtin.List.listTooLong;exact o_ (by omega)
def zU:V->List V->Hp->VK->Prop:=fun x vs H Q=>∃l xs y,x=.ref l/\vs=[y]/\H l=some (.lst xs)/\xs.length<sizeLine/\Q .non (upd H l (.lst (xs++[y])))
theorem uR:MtM X "list.append" zU:=by
 intro pins s Z H x vs v us Q I rx rv h;obtain⟨l,xs,y,rfl,rfl,hH,hz,q⟩:=h;cases rx;obtain⟨u,rfl,ru⟩:=rv.one;obtain⟨z,its,n,r,hl,e⟩:=I.lstM hH;refine SQ F.slot_list_append ⟨_,e,rfl⟩ F.entry_list_append (F.args_list_append_2 _ _) (list_append l its.toArray n u (by rw[h_];omega)) ⟨e,?_⟩;refine⟨.non,_,I.lset (its':=its++[u]) hH e (by simp) (r.append (.cons ru .nil)) ?_,rfl,q⟩;rw[a_,x_];omega
def PJ:V->List V->Hp->VK->Prop:=fun x vs H Q=>∃l xs y,x=.ref l/\vs=[]/\H l=some (.lst xs)/\xs[xs.length - 1]?=some y/\Q y (upd H l (.lst xs.dropLast))
theorem Gr:MtM X "list.pop" PJ:=by
 intro pins s Z H x vs v us Q I rx rv h;obtain⟨l,xs,y,rfl,rfl,hH,hy,q⟩:=h;cases rx;have hus:=rv.zero;subst hus;obtain⟨z,its,n,r,hl,e⟩:=I.lstM hH;obtain⟨u,hu,ru⟩:=r.get hy;have hy':its.toArray[its.toArray.size - 1]?=some u:=by show its.toArray[its.length - 1]?=some u;rw[<- Array.getElem?_toList,<- hl];exact hu
 refine SQ F.slot_list_pop ⟨_,e,rfl⟩ F.entry_list_pop (F.args_list_pop_1 _) (MeetsSeq.list_pop_last l its.toArray n u hy' (by rw[h_];omega)) ⟨e,?_⟩;refine⟨y,_,I.lset (its':=its.dropLast) hH e ?_ r.dropLast ?_,ru,q⟩
 ·show its.toArray.eraseIdxIfInBounds (its.toArray.size - 1)=its.dropLast.toArray;rw[h_,List.eraseIdxIfInBounds_toArray,qJ]
 rw[List.length_dropLast];omega
def Gs:V->List V->Hp->VK->Prop:=fun x vs H Q=>∃l xs i k y,x=.ref l/\vs=[.int i]/\H l=some (.lst xs) /\ -(2^63)<=i/\i<2^63/\seqIndex? i xs.length=some k/\xs[k]?=some y/\Q y (upd H l (.lst (xs.eraseIdx k)))
theorem vY:MtM X "list.pop" Gs:=by
 intro pins s Z H x vs v us Q I rx rv h;obtain⟨l,xs,i,k,y,rfl,rfl,hH,h1,h2,hk,hy,q⟩:=h;cases rx;obtain⟨u,rfl,ru⟩:=rv.one;obtain⟨t,rfl⟩:=ru;obtain⟨z,its,n,r,hl,e⟩:=I.lstM hH;obtain⟨w,hw,rw'⟩:=r.get hy;refine SQ F.slot_list_pop ⟨_,e,rfl⟩ F.entry_list_pop (F.args_list_pop_2 _ _)
  (MeetsSeq.list_pop_at l its.toArray n i t k w (fitsIndex_both h1 h2) (by rw[h_,<- hl];exact hk) (by rw[<- Array.getElem?_toList];exact hw) (by rw[h_];omega)) ⟨e,?_⟩
 refine⟨y,_,I.lset (its':=its.eraseIdx k) hH e ?_ (r.eraseIdx k) ?_,rw',q⟩
 ·show its.toArray.eraseIdxIfInBounds k=(its.eraseIdx k).toArray;rw[List.eraseIdxIfInBounds_toArray]
 have:=lE xs k;omega
def PK:R2:=fun x y H Q=>∃l b xs zs,x=.ref l/\y=.ref b/\H l=some (.lst xs)/\H b=some (.lst zs)/\xs.length+zs.length<=sizeLine/\∀p,H p=none->Q (.ref p) (upd H p (.lst (xs++zs)))
theorem op_cat:OpR X (binaryOp .Add) PK:=by
 intro pins s Z H x y v u Q I rx ry h;obtain⟨l,b,xs,zs,rfl,rfl,hH,hB,hz,q⟩:=h;cases rx;cases ry;obtain⟨z,its,n,r,hl,e⟩:=I.lstM hH;obtain⟨z2,its2,n2,r2,hl2,e2⟩:=I.lstM hB;refine PySem.P.add_list e e2 ?_ (by rw[h_,h_];omega);have ea:its.toArray++its2.toArray=(its++its2).toArray:=by simp
 rw[ea];exact⟨.ref _,_,I.lnew (t':=s.toks) (r.append r2) (by rw[a_];omega),rfl,q _ I.fresh⟩
def PL:R2:=fun x y H Q=>∃l k xs,x=.ref l/\y=.int k/\H l=some (.lst xs) /\ -(2^63)<=k/\k<2^63/\xs.length*k.toNat<=sizeLine /\
 ∀p,H p=none->Q (.ref p) (upd H p (.lst (List.replicate k.toNat xs).flatten))
theorem len_rep {α:Type}(xs:List α) (k:Nat):(List.replicate k xs).flatten.length=k*xs.length:=by
 induction k with
 |zero=>simp
 |succ k ih=>rw[Q_,QQ,a_,ih,Nat.succ_mul,Nat.add_comm]
theorem Gu:OpR X (binaryOp .Mult) PL:=by
 intro pins s Z H x y v u Q I rx ry h;obtain⟨l,k,xs,rfl,rfl,hH,h1,h2,hz,q⟩:=h;cases rx;obtain⟨t,rfl⟩:=ry;obtain⟨z,its,n,r,hl,e⟩:=I.lstM hH;have hlen:its.toArray.size*k.toNat<=sizeLine:=by rw[h_,<- hl];exact hz
 have hcap:¬its.toArray.size*k.toNat>(2^63 - 1) / 8:=by
  have:(sizeLine:Nat)<=(2^63 - 1) / 8:=by decide
  omega
 have hfit:¬(!Builtin.List.listFitsIndex k)=true:=by rw[fitsIndex_both h1 h2];exact p_
 have hlong:¬Builtin.List.listTooLong (its.toArray.size*k.toNat)=true:=by rw[oU hlen];exact p_
 have hnew:List.foldl (fun x1 x2=>x1++x2) #[] (List.replicate (if its.toArray.isEmpty=true then 0 else k.toNat) its.toArray)=(List.replicate k.toNat its).flatten.toArray:=by
  have f0:∀m:Nat,List.foldl (fun x1 x2=>x1++x2) #[] (List.replicate m its.toArray)=(List.replicate m its).flatten.toArray:=fun m=>by have:=foldl_rep its m [];rw[List.nil_append] at this;exact this
  rw[f0];cases its with
  |nil=>simp
  |cons a r'=>rw[if_neg (by simp)]
 refine wpAny_binaryOp_repeat_ref (T:="list") (U:="int") (by decide) ⟨_,e,rfl⟩ (fun s'=>typeIs_int s' k t) noFill_list_mul F.fills_int_mul F.slot_int_rmul repeat_list F.slot_int_index.lookup
  (SQ F.slot_int_rmul (typeIs_int s k t) F.entry_int_rmul (F.args_int_rmul_2 _ _) (int___rmul___int_list k t l its.toArray n)
   ⟨e,rfl,⟨_,e,rfl⟩,SQ F.slot_list_mul ⟨_,e,rfl⟩ F.entry_list_mul (F.args_list_mul_2 _ _) (AutoListH.list___mul___list_int_3 l its.toArray n k t hfit hcap hlong) ⟨e,?_⟩⟩)
 rw[hnew];exact⟨.ref _,_,I.lnew (t':=s.toks) (r.rep k.toNat) (by rw[len_rep,Nat.mul_comm];exact hz),rfl,q _ I.fresh⟩
variable {prog:Program}{w:World}{A:Around}{E:Value->Shared->Prop}
set_option maxRecDepth 100000 in
end
section
variable {κ:Type} [DecidableEq κ]
def iw (kvs:List (κ × V)) (k:κ):Option V:=(kvs.find? fun kv=>decide (kv.1=k)).map (·.2)
def putK (kvs:List (κ × V)) (k:κ) (v:V):List (κ × V) :=
 if (kvs.any fun kv=>decide (kv.1=k))=true then kvs.map (fun kv=>if kv.1=k then (kv.1,v) else kv) else kvs++[(k,v)]
def Dc (kvs:List (κ × V)) (k:κ):List (κ × V):=kvs.filter fun kv=>decide (kv.1≠k)
theorem fW {p:κ × V}{r:List (κ × V)}{k:κ}(e:p.1=k):iw (p::r) k=some p.2:=by simp [iw,QT,e]
theorem fX {p:κ × V}{r:List (κ × V)}{k:κ}(e:¬p.1=k):iw (p::r) k=iw r k:=by simp [iw,QT,e]
theorem oV (k:κ):∀kvs:List (κ × V),(kvs.any fun kv=>decide (kv.1=k))=(iw kvs k).isSome
 |[]=>rfl
 |p::r=>by
  rw[List.any_cons]
  by_cases e:p.1=k
  ·
   simp only[fW e,y_ e,Bool.true_or,Option.isSome_some]
  ·
   rw[fX e,o_ e,Bool.false_or];exact oV k r
theorem jo (kvs:List (κ × V)) (k:κ) (v:V):(putK kvs k v).length<=kvs.length+1:=by
 unfold putK;split
 ·rw[g_];omega
 rw[a_,j_,Rv];omega
theorem RelO.isSome_eq {o:Option V}{u:Option Value}(r:RelO o u):o.isSome=u.isSome:=by
 cases o with
 |none=>cases u with
  |none=>rfl
  |some _=>exact (show False from r).elim
 |some _=>cases u with
  |none=>exact (show False from r).elim
  |some _=>rfl
theorem RelO.getD {o:Option V}{u:Option Value}{d:V}{d':Value}(r:RelO o u) (rd:RelV d d'):RelV (o.getD d) (u.getD d'):=by
 cases o with
 |none=>cases u with
  |none=>exact rd
  |some _=>exact (show False from r).elim
 |some _=>cases u with
  |none=>exact (show False from r).elim
  |some _=>exact r
theorem KV.val {kvs:List (κ × V)}{vs:List (κ × Value)}(r:KV kvs vs) (k:κ):RelO (iw kvs k) (valueAt vs k):=by
 unfold KV at r;induction r with
 |nil=>exact True.intro
 |@cons p q ps qs h t ih =>
 obtain⟨h1,h2⟩:=h;by_cases e:p.1=k
 ·have e':q.1=k:=h1.symm.trans e;have b:valueAt (q::qs) k=some q.2:=by simp [valueAt,QT,e']
  rw[fW e,b];exact h2
 have e':¬q.1=k:=fun z=>e (h1.trans z);have b:valueAt (q::qs) k=valueAt qs k:=by simp [valueAt,QT,e']
 rw[fX e,b];exact ih
theorem KV.any {kvs:List (κ × V)}{vs:List (κ × Value)}(r:KV kvs vs) (k:κ):(kvs.any fun kv=>decide (kv.1=k))=vs.any fun kv=>decide (kv.1=k):=by
 unfold KV at r;induction r with
 |nil=>rfl
 |cons h t ih=>rw[List.any_cons,List.any_cons,ih,h.1]
theorem KV.repl {kvs:List (κ × V)}{vs:List (κ × Value)}(r:KV kvs vs) (k:κ) {y:V}{u:Value}(ry:RelV y u) :
  KV (kvs.map fun kv=>if kv.1=k then (kv.1,y) else kv) (vs.map fun kv=>if kv.1=k then (kv.1,u) else kv):=by
 unfold KV at r ⊢;induction r with
 |nil=>exact .nil
 |@cons p q ps qs h t ih =>
 rw[m_,m_];refine .cons ?_ ih;obtain⟨h1,h2⟩:=h;by_cases e:p.1=k
 ·rw[if_pos e,if_pos (h1.symm.trans e)];exact⟨h1,ry⟩
 rw[if_neg e,if_neg (fun z=>e (h1.trans z))];exact⟨h1,h2⟩
theorem KV.put {kvs:List (κ × V)}{vs:List (κ × Value)}(r:KV kvs vs) (k:κ) {y:V}{u:Value}(ry:RelV y u):KV (putK kvs k y) (stored vs k u):=by
 unfold putK stored;rw[r.any k];by_cases e:(vs.any fun kv=>decide (kv.1=k))=true
 ·rw[if_pos e,if_pos e];exact r.repl k ry
 rw[if_neg e,if_neg e];exact Paired.snoc r ⟨rfl,ry⟩
theorem KV.drop {kvs:List (κ × V)}{vs:List (κ × Value)}(r:KV kvs vs) (k:κ):KV (Dc kvs k) (without vs k):=by
 unfold KV at r ⊢;unfold Dc without;induction r with
 |nil=>exact .nil
 |@cons p q ps qs h t ih =>
 obtain⟨h1,h2⟩:=h;rw[List.filter_cons,List.filter_cons];by_cases e:p.1=k
 ·have a:¬decide (p.1≠k)=true:=by simp [e]
  have b:¬decide (q.1≠k)=true:=by simp [h1.symm.trans e]
  rw[if_neg a,if_neg b];exact ih
 have e':¬q.1=k:=fun z=>e (h1.trans z);have a:decide (p.1≠k)=true:=by simp [e]
 have b:decide (q.1≠k)=true:=by simp [e']
 rw[if_pos a,if_pos b];exact .cons ⟨h1,h2⟩ ih
theorem KV.keys {kvs:List (κ × V)}{vs:List (κ × Value)}(r:KV kvs vs):kvs.map (·.1)=vs.map (·.1):=by
 unfold KV at r;induction r with
 |nil=>rfl
 |cons h t ih=>rw[m_,m_,ih,h.1]
theorem KV.length {kvs:List (κ × V)}{vs:List (κ × Value)}(r:KV kvs vs):kvs.length=vs.length:=Su r
end
theorem lF {P:Program}{w:World}{k:Key}{u:Value}(r:RelV (kV k) u):(bQ P w).is k u=true:=by
 cases k with
 |inl i=>obtain⟨t,e⟩:=(show ∃t,u=Value.int i t from r);subst e;exact oJ P w i t
 |inr x=>obtain⟨t,e⟩:=(show ∃t,u=Value.str x t from r);subst e;exact oK P w x t
theorem lG {P:Program}{w:World}:∀{ks:List Key}{us:List Value},Vals (ks.map kV) us->ItemsAre (bQ P w) ks us
 |[],_,r=>by rw[Rg] at r;cases r;exact .nil
 |k::ks,_,r=>by
  rw[m_] at r
  cases r with
  |cons h t=>exact .cons (lF h) (lG t)
abbrev KT (H:Hp):List (List Key × V)->List (List Key × Addr × Value)->Prop:=Paired fun p q=>p.1=q.1/\H q.2.1=some (.tup (p.1.map kV))/\RelV p.2 q.2.2
theorem KT.val {H:Hp}{kvs:List (List Key × V)}{xs:List (List Key × Addr × Value)}(r:KT H kvs xs) (k:List Key):RelO (iw kvs k) ((atKey xs k).map (·.2)):=by
 induction r with
 |nil=>exact True.intro
 |@cons p q ps qs h t ih =>
 obtain⟨h1,_,h2⟩:=h;by_cases e:p.1=k
 ·have e':q.1=k:=h1.symm.trans e;have b:atKey (q::qs) k=some q.2:=by simp [atKey,QT,e']
  rw[fW e,b];exact h2
 have e':¬q.1=k:=fun z=>e (h1.trans z);have b:atKey (q::qs) k=atKey qs k:=by simp [atKey,QT,e']
 rw[fX e,b];exact ih
theorem KT.repl {H:Hp}{kvs:List (List Key × V)}{xs:List (List Key × Addr × Value)}(r:KT H kvs xs) (k:List Key) {y:V}{u:Value}(ry:RelV y u) :
  KT H (kvs.map fun kv=>if kv.1=k then (kv.1,y) else kv) (xs.map (putAt k u)):=by
 induction r with
 |nil=>exact .nil
 |@cons p q ps qs h t ih =>
 rw[m_,m_];refine .cons ?_ ih;obtain⟨h1,h2,h3⟩:=h;unfold putAt;by_cases e:p.1=k
 ·rw[if_pos e,if_pos (h1.symm.trans e)];exact⟨h1,h2,ry⟩
 rw[if_neg e,if_neg (fun z=>e (h1.trans z))];exact⟨h1,h2,h3⟩
theorem KT.put {H:Hp}{kvs:List (List Key × V)}{xs:List (List Key × Addr × Value)}(r:KT H kvs xs) (k:List Key) {b:Addr}{y:V}{u:Value}(hb:H b=some (.tup (k.map kV))) (ry:RelV y u) :
  KT H (putK kvs k y) (storedH xs k b u):=by
 have e:(kvs.any fun kv=>decide (kv.1=k))=(atKey xs k).isSome:=by rw[oV,(r.val k).isSome_eq,Option.isSome_map]
 unfold putK storedH;rw[e];by_cases q:(atKey xs k).isSome=true
 ·rw[if_pos q,if_pos q];exact r.repl k ry
 rw[if_neg q,if_neg q];exact Paired.snoc r ⟨rfl,hb,ry⟩
theorem KT.keeps {H H':Hp}{kvs:List (List Key × V)}{xs:List (List Key × Addr × Value)}(r:KT H kvs xs) (ht:∀b ys,H b=some (.tup ys)->H' b=some (.tup ys)):KT H' kvs xs :=
 Paired.mapP r fun _ _ z=>⟨z.1,ht _ _ z.2.1,z.2.2⟩
section
variable {P:Program}{w:World}{H:Hp}{h:Heap}{a:Addr}
theorem Dd {u:HO}(ok:HOk P w H h) (e:Rd H a u):ObjOk P w H h a u:=e.ok ok
theorem oW {kvs:List (Key × V)}(ok:HOk P w H h) (e:Rd H a (.dK kvs)):kvs.length<=sizeLine/\(a==sysModules)=false/\∃vs,KV kvs vs/\h.DictOf (bQ P w) a vs :=
 show ObjOk P w H h a (.dK kvs) from Dd ok e
theorem Kw {kvs:List (Key × V)}(ok:HOk P w H h) (e:H a=some (.dK kvs)):kvs.length<=sizeLine/\(a==sysModules)=false/\∃vs,KV kvs vs/\h.DictOf (bQ P w) a vs:=oW ok (.inl e)
theorem jK {ks:List Key}(ok:HOk P w H h) (e:H a=some (.tup (ks.map kV))):(tupleKind (bQ P w)).is h ks a:=by
 obtain⟨_,its,r,o,h1,h2,n,h3,_⟩:=(show ObjOk P w H h a (.tup (ks.map kV)) from ok a _ e);exact⟨o,its.toArray,n,h1,h2,h3,by simpa using lG r⟩
theorem oX {kvs:List (List Key × V)}(ok:HOk P w H h) (e:Rd H a (.dT kvs)):kvs.length<=sizeLine/\(a==sysModules)=false /\
  ∃xs,KT H kvs xs/\h.DictOfH (tupleKind (bQ P w)) a xs:=by
 obtain⟨z,y,xs,r,o,es,ep,h1,h2,h3,h4,h5⟩:=(show ObjOk P w H h a (.dT kvs) from Dd ok e);refine⟨z,y,xs,r,o,es,ep,h1,h2,h3,h4,fun x hx=>?_,h5⟩;have all:∀{l:List (List Key × V)} {m:List (List Key × Addr × Value)},KT H l m->∀x∈m,(tupleKind (bQ P w)).is h x.1 x.2.1:=by
  intro l m q;induction q with
  |nil=>intro x hx;exact nomatch hx
  |@cons p q ps qs hq t ih =>
  intro x hx;rcases k_.mp hx with e | hx
  ·subst e;exact jK ok (by rw[<- hq.1];exact hq.2.1)
  exact ih x hx
 exact all r x hx
theorem Ky {kvs:List (List Key × V)}(ok:HOk P w H h) (e:H a=some (.dT kvs)):kvs.length<=sizeLine/\(a==sysModules)=false /\
  ∃xs,KT H kvs xs/\h.DictOfH (tupleKind (bQ P w)) a xs:=oX ok (.inl e)
end
def DGet (H:Hp) (a:Addr) (y:V) (r:Option V):Prop :=
 (∃kvs k,Rd H a (.dK kvs)/\y=kV k/\r=iw kvs k)\/∃kvs k b,Rd H a (.dT kvs)/\y=.ref b/\H b=some (.tup (k.map kV))/\r=iw kvs k
def DPut (H:Hp) (a:Addr) (y v:V) (H':Hp):Prop :=
 (∃kvs k,H a=some (.dK kvs)/\y=kV k/\kvs.length<sizeLine/\H'=upd H a (.dK (putK kvs k v))) \/
 ∃kvs k b,H a=some (.dT kvs)/\y=.ref b/\H b=some (.tup (k.map kV))/\kvs.length<sizeLine/\H'=upd H a (.dT (putK kvs k v))
theorem DGet.k {H:Hp}{a:Addr}{kvs:List (Key × V)}{k:Key}(e:H a=some (.dK kvs)):DGet H a (kV k) (iw kvs k):=.inl ⟨kvs,k,.inl e,rfl,rfl⟩
theorem DGet.t {H:Hp}{a b:Addr}{kvs:List (List Key × V)}{k:List Key}(e:H a=some (.dT kvs)) (eb:H b=some (.tup (k.map kV))):DGet H a (.ref b) (iw kvs k):=.inr ⟨kvs,k,b,.inl e,rfl,eb,rfl⟩
theorem DPut.k {H:Hp}{a:Addr}{kvs:List (Key × V)}{k:Key}{v:V}(e:H a=some (.dK kvs)) (hl:kvs.length<sizeLine):DPut H a (kV k) v (upd H a (.dK (putK kvs k v))):=.inl ⟨kvs,k,e,rfl,hl,rfl⟩
theorem DPut.t {H:Hp}{a b:Addr}{kvs:List (List Key × V)}{k:List Key}{v:V}(e:H a=some (.dT kvs)) (eb:H b=some (.tup (k.map kV))) (hl:kvs.length<sizeLine) :
  DPut H a (.ref b) v (upd H a (.dT (putK kvs k v))):=.inr ⟨kvs,k,b,e,rfl,eb,hl,rfl⟩
section
variable {X:Cx}{pins:List (Addr × Obj)}{Z:St}{H:Hp}{s:Shared}{a:Addr}{y v:V}{u r:Value}{o:Option V}{A:Around}{E:Value->Shared->Prop}
theorem Inv.big (I:Inv X pins Z H s):sysModules<s.heap.objs.size:=by
 have h:mainGlobals<s.heap.objs.size:=(I.mod.glob.keeps I.bk).lt;exact RT (by decide) h
theorem uT {Q:Value->Shared->Prop}(hu:A.units+1<cLine) (I:Inv X pins Z H s) (g:DGet H a y (some v)) (ry:RelV y u) (h:∀w' s',Inv X pins Z H s'->RelV v w'->Q w' s') :
  wpAny (model X.prog X.w) A (getItem (.ref a) u) Q E s:=by
 rcases g with ⟨kvs,k,e,ey,l⟩ | ⟨kvs,k,b,e,ey,eb,l⟩
 ·subst ey;obtain⟨z,hd,vs,rel,dd⟩:=oW I.hok e;obtain⟨w',hw,rw'⟩:=RelO.some_of (v:=v) (o:=valueAt vs k) (by rw[l];exact rel.val k);exact wpAny_getItem_of (lF ry) dd.mapOf hw (h w' _ (I.tok _) rw')
 subst ey;cases (show u=Value.ref b from ry);obtain⟨z,hd,xs,rel,dd⟩:=oX I.hok e;obtain⟨w',hw,rw'⟩:=RelO.some_of (v:=v) (o:=(atKey xs k).map (·.2)) (by rw[l];exact rel.val k);obtain⟨p,hp,hp2⟩:=Option.map_eq_some_iff.mp hw;refine wpAny_getItem_heap (SX hu) (jK I.hok eb) dd hp ?_;rw[hp2];exact h w' _ (I.tok _) rw'
theorem PN {Q:Value->Shared->Prop}(hu:A.units+1<cLine) (I:Inv X pins Z H s) (g:DGet H a y o) (ry:RelV y u) (h:∀s',Inv X pins Z H s'->Q (.bool o.isSome) s') :
  wpAny (model X.prog X.w) A (compareOp .In u (.ref a)) Q E s:=by
 rcases g with ⟨kvs,k,e,ey,l⟩ | ⟨kvs,k,b,e,ey,eb,l⟩
 ·subst ey;obtain⟨z,hd,vs,rel,dd⟩:=oW I.hok e;refine wpAny_in_of (lF ry) hd dd.mapOf ?_;rw[<- (rel.val k).isSome_eq,<- l];exact h _ (I.tok _)
 subst ey;cases (show u=Value.ref b from ry);obtain⟨z,hd,xs,rel,dd⟩:=oX I.hok e;refine wpAny_in_heap (SX hu) (jK I.hok eb) hd dd ?_;have q:=(rel.val k).isSome_eq;rw[Option.isSome_map] at q;rw[<- q,<- l];exact h _ (I.tok _)
theorem zV {Q:Value->Shared->Prop}(hu:A.units+1<cLine) (I:Inv X pins Z H s) (g:DGet H a y o) (ry:RelV y u) (h:∀s',Inv X pins Z H s'->Q (.bool (!o.isSome)) s') :
  wpAny (model X.prog X.w) A (compareOp .NotIn u (.ref a)) Q E s:=by
 rcases g with ⟨kvs,k,e,ey,l⟩ | ⟨kvs,k,b,e,ey,eb,l⟩
 ·subst ey;obtain⟨z,hd,vs,rel,dd⟩:=oW I.hok e;refine wpAny_notIn_of (lF ry) hd dd.mapOf ?_;rw[<- (rel.val k).isSome_eq,<- l];exact h _ (I.tok _)
 subst ey;cases (show u=Value.ref b from ry);obtain⟨z,hd,xs,rel,dd⟩:=oX I.hok e;refine wpAny_notIn_heap (SX hu) (jK I.hok eb) hd dd ?_;have q:=(rel.val k).isSome_eq;rw[Option.isSome_map] at q;rw[<- q,<- l];exact h _ (I.tok _)
theorem sH {h':Heap}{t':Nat}{ob:HO}(I:Inv X pins Z H s) (mu:Mut (H a)) (hs:Heap.SameBut a s.heap h') (he:∃q,h'.get? a=some q) (new:ObjOk X.prog X.w (upd H a ob) h' a ob) :
  Inv X pins Z (upd H a ob) { s with heap:=h',toks:=t'} :=
 I.write (x:=a) (e:=a) mu (.inl rfl) (fun b q hb z=>(hs.2 b hb).trans z) he new
theorem Gv {P:Program}{w:World}{H':Hp}{h':Heap}{kvs:List (Key × V)}{vs:List (Key × Value)}(z:kvs.length<=sizeLine) (hd:(a==sysModules)=false) (rel:KV kvs vs) (dd:h'.DictOf (bQ P w) a vs) :
  ObjOk P w H' h' a (.dK kvs):=⟨z,hd,vs,rel,dd⟩
theorem uU {H':Hp}{Q:Unit->Shared->Prop}(hu:A.units+1<cLine) (I:Inv X pins Z H s) (g:DPut H a y v H') (ry:RelV y u) (rv:RelV v r) (h:∀s',Inv X pins Z H' s'->Q () s') :
  wpAny (model X.prog X.w) A (setItem (.ref a) u r) Q E s:=by
 rcases g with ⟨kvs,k,e,ey,l,eH⟩ | ⟨kvs,k,b,e,ey,eb,l,eH⟩
 ·subst ey eH;obtain⟨z,hd,vs,rel,dd⟩:=Kw I.hok e;have hz:vs.length<=sizeLine:=by rw[<- rel.length];exact z
  have hl:(putK kvs k v).length<=sizeLine:=by have:=jo kvs k v;omega
  refine wpAny_setItem_pairs (hsz:=hz) (lF ry) dd fun h' dd' hs=>h _ ?_;have he:∃q,h'.get? a=some q:=let ⟨q,_,_,hq,_⟩:=dd';⟨q,hq⟩;exact sH I (by rw[e];exact True.intro) hs he (Gv hl hd (rel.put k rv) dd')
 subst ey eH;cases (show u=Value.ref b from ry);obtain⟨z,hd,xs,rel,dd⟩:=Ky I.hok e;have hz:xs.length<=sizeLine:=by rw[<- Su rel];exact z
 have hl:(putK kvs k v).length<=sizeLine:=by have:=jo kvs k v;omega
 refine wpAny_setItem_heap (hsz:=hz) (SX hu) (jK I.hok eb) dd fun h' dd' hs=>h _ ?_;obtain⟨q,es,ep,hq,h2,h3,h4,_,h5⟩:=dd';refine sH I (by rw[e];exact True.intro) hs ⟨q,hq⟩ ⟨hl,hd,_,(rel.put k eb rv).keeps fun c ys ec=>?_,q,es,ep,hq,h2,h3,h4,h5⟩;rw[aW (JP ec e (fun z=>nomatch z))];exact ec
variable {kvs:List (Key × V)}{k:Key}
end
def Gw (i:Expr):Prop:=∀ov iv,subscripted i false ov iv=operate [ov,iv] (getItem ov iv)
theorem zW {prog:Program}{w:World}{A:Around}{E:Value->Shared->Prop}{s:Shared}{env:Env}{value slice:Expr}{pos:Pos}{T id:String}{Q:Value->Shared->Prop}
  (hl:typeLookup (.type T) "__getitem__"=pure (some (.builtin id))) (hs:Gw slice)
  (h:wpAny (model prog w) A (eval value env) (fun o s₁=>wpAny (model prog w) A (eval slice env) (fun i s₂=>s₂.TypeIs o T/\wpAny (model prog w) A (getItem o i) Q E s₂) E s₁) E s) :
  wpAny (model prog w) A (eval (.Subscript value slice pos) env) Q E s:=by
 refine Subscript_ (QZ h (fun o s₁ h₁=>QZ h₁ (fun i s₂ h₂=>?_) fun _ _ x=>x) fun _ _ x=>x);obtain⟨hT,h₂⟩:=h₂;unfold subscriptTail;refine e_ ?_;rw[getitemInPython_of_ne hT.not_modules];refine e_ (wpAny_specialOf hT hl ?_);have fin:wpAny (model prog w) A (subscripted slice false o i) (fun r s₃=>wpAny (model prog w) A (letTemporaryGo value o r >>= fun _=>pure r) Q E s₃) E s₂:=by rw[hs o i];exact wpAny_operating (QZ h₂ (fun r s₃ h₃=>e_ (wpAny_letTemporaryGo (z_ h₃))) fun _ _ x=>x)
 first
  |exact z_ (e_ fin)
  |exact e_ (z_ (e_ fin))
  |exact e_ fin
theorem oY {X:Cx}{pins:List (Addr × Obj)}{Z:St}{H:Hp}{s:Shared}{a:Addr}{y:V}{o:Option V}(I:Inv X pins Z H s) (g:DGet H a y o):s.TypeIs (.ref a) "dict":=by
 rcases g with ⟨kvs,k,e,_,_⟩ | ⟨kvs,k,b,e,_,_,_⟩
 ·obtain⟨_,_,vs,_,dd⟩:=oW I.hok e;exact dd.typeIs
 obtain⟨_,_,xs,_,dd⟩:=oX I.hok e;exact dd.typeIs
def Kz (td ty:TE):TE:=fun Z H Q=>td Z H fun x H1=>ty Z H1 fun y H2=>∃a v,x=.ref a/\DGet H2 a y (some v)/\Q v H2
def PP (ty td:TE):TE:=fun Z H Q=>ty Z H fun y H1=>td Z H1 fun x H2=>∃a o,x=.ref a/\DGet H2 a y o/\Q (.bl o.isSome) H2
def zX (ty td:TE):TE:=fun Z H Q=>ty Z H fun y H1=>td Z H1 fun x H2=>∃a o,x=.ref a/\DGet H2 a y o/\Q (.bl (!o.isSome)) H2
def KC (td ty tv:TE):TS:=fun D Z H=>tv Z H fun v H1=>td Z H1 fun x H2=>ty Z H2 fun y H3=>∃a H4,x=.ref a/\DPut H3 a y v H4/\D.nx Z H4
section
variable {X:Cx}{o i e value:Expr}{pos pos' tpos:Pos}{td ty tv:TE}
theorem zY (hu:X.A.units+1<cLine) (ho:PE X o td) (hi:PE X i ty) (hs:Gw i):PE X (.Subscript o i pos) (Kz td ty):=by
 intro pins s Z H Q I h;refine zW PySem.F.slot_dict_getitem.lookup hs (thn (ho pins s Z H _ I h) fun u s1 ⟨x,H1,I1,rx,q1⟩=>thn (hi pins s1 Z H1 _ I1 q1) fun iv s2 ⟨y,H2,I2,ry,a,v,ex,g,q2⟩=>?_);subst ex;obtain rfl:u=Value.ref a:=rx;exact⟨oY I2 g,uT hu I2 g ry fun w' s3 I3 rw'=>⟨v,H2,I3,rw',q2⟩⟩
theorem Gx (hu:X.A.units+1<cLine) (hi:PE X i ty) (ho:PE X o td):PC X .In i o (PP ty td):=by
 intro pins s Z H Q I h;refine thn (hi pins s Z H _ I h) fun iv s1 ⟨y,H1,I1,ry,q1⟩=>thn (ho pins s1 Z H1 _ I1 q1) fun u s2 ⟨x,H2,I2,rx,a,ov,ex,g,q2⟩=>?_;subst ex;obtain rfl:u=Value.ref a:=rx;exact PN hu I2 g ry fun s3 I3=>⟨.bl ov.isSome,H2,I3,rfl,q2⟩
theorem uV (hu:X.A.units+1<cLine) (hi:PE X i ty) (ho:PE X o td):PC X .NotIn i o (zX ty td):=by
 intro pins s Z H Q I h;refine thn (hi pins s Z H _ I h) fun iv s1 ⟨y,H1,I1,ry,q1⟩=>thn (ho pins s1 Z H1 _ I1 q1) fun u s2 ⟨x,H2,I2,rx,a,ov,ex,g,q2⟩=>?_;subst ex;obtain rfl:u=Value.ref a:=rx;exact zV hu I2 g ry fun s3 I3=>⟨.bl (!ov.isSome),H2,I3,rfl,q2⟩
theorem zZ (hu:X.A.units+1<cLine) (ho:PE X o td) (hi:PE X i ty) (hv:PE X value tv) (hs:swapsWith value (some (.Subscript o i pos')) pos.line X.env=pure false) :
  PS X (.Assign [.Subscript o i pos'] value pos) (KC td ty tv):=by
 intro pins s Z H D I h;refine wpAny_Assign_Subscript (thn (hv pins s Z H _ I h) fun r s1 ⟨v,H1,I1,rv,q1⟩=>thn (ho pins s1 Z H1 _ I1 q1) fun u s2 ⟨x,H2,I2,rx,q2⟩=>thn (hi pins s2 Z H2 _ I2 q2) fun iv s3 ⟨y,H3,I3,ry,a,H4,ex,g,q3⟩=>?_) hs;subst ex;obtain rfl:u=Value.ref a:=rx;exact uU hu I3 g ry rv fun s4 I4=>⟨Z,H4,I4,q3⟩
end
theorem vZ {P:Program}{w:World}{H:Hp}(h:Heap) (hb:sysModules<h.objs.size):ObjOk P w H (h.push { cls:=.type "dict",data:=.dict #[]}) h.objs.size (.dK []) :=
 ⟨S6 _,Sg.mpr (Ne.symm (Qt hb)),[],.nil,Heap.DictOf.new h⟩
def Gy:TE:=fun _ H Q=>∀p,H p=none->Q (.ref p) (upd H p (.dK []))
section
variable {X:Cx}{pos:Pos}
theorem wg:PE X (.Dict [] [] pos) Gy:=fun pins s Z H Q I h =>
 wpAny_Dict_empty ⟨.ref s.heap.objs.size,_,I.laid (a:=s.heap.objs.size) (o:=.dK []) (t':=s.toks) (fun _ _ q=>l_ _ q) (u_ _) (vZ s.heap I.big),rfl,h _ (I.hok.fresh (u_ _))⟩
variable {pins:List (Addr × Obj)}{Z:St}{H:Hp}{s:Shared}{a:Addr}{y d:V}{u r:Value}{o:Option V}{A:Around}{E:Value->Shared->Prop}
end
section
variable {X:Cx}{o e f:Expr}{apos cpos:Pos}{td ty tx:TE}
variable {pins:List (Addr × Obj)}{Z:St}{H:Hp}{s:Shared}{a:Addr}{kvs:List (Key × V)}{A:Around}{E:Value->Shared->Prop}
variable {y:V}{u:Value}
end
end L2
namespace Att
open PySem PySem.W PySem.Calls PyProof.Rows
theorem jy {P:Params}{h:Heap}:∀(ns:List Int) (vs:List Value),WellAll P h vs (ns.map WData.int)->IntsAre vs ns:=by
 intro ns;induction ns with
 |nil=>intro vs w;rw[Rg] at w;cases w;exact .nil
 |cons n ns ih =>
 intro vs w;rw[m_] at w;cases w with
 |cons a b =>
 cases a;exact .cons _ _ (ih _ b)
theorem uW {l:OpenLaw}{n:Nat}(hn:l.most=some n) {P:Params}{h:Heap}{args:List WData}{vals:List Value}
  (hpre:l.row.toRowW.claim.pre args=true) (hwl:WellAll P h vals args) :
  ∃a vs ns,vals=[Value.ref a]/\args=[WData.list (ns.map WData.int)]/\h.get? a=some { cls:=.type "list",data:=.seq vs.toArray}/\IntsAre vs ns/\ns.length<=n:=by
 have hsh:WShape.hasAll [] args [.list .int]=true:=(pre_splitW hpre).1;have hc:l.pre.holds [] { args:=args}=true:=(pre_splitW hpre).2;obtain⟨d,r,rfl,h1,h2⟩:=hasAllW_cons hsh;obtain rfl:=hasAllW_nil h2;obtain⟨xs,rfl,h3⟩:=hasW_list h1;obtain⟨ns,rfl⟩:=items_int h3;have hlen:ns.length<=n:=by
  unfold OpenLaw.pre at hc;have h4:(WTm.not (.lt (.lit (.int (n:Int))) (.len (.arg 0)))).holds [] { args:=[.list (ns.map .int)]}=true:=by have h4:=(holds_andW hc).1;rw[hn] at h4;exact h4
  have h5:=condW_of h4 (w_not (w_lt w_lit (w_len_list (w_arg rfl))));rw[g_] at h5;refine Nat.le_of_not_lt fun q=>?_;have q':(n:Int)<((ns.length:Nat):Int):=by omega
  first
   | (rw[y_ q'] at h5;exact absurd h5 (by decide))
   | (simp at h5;omega)
 cases hwl with
 |cons w1 w2 =>
 cases w2;cases w1 with
 |list ho hall=>exact⟨_,_,ns,rfl,rfl,ho,jy ns _ hall,hlen⟩
theorem uX (l:OpenLaw) (args:List WData):l.row.toRowW.claim.post args (.bool true) args=true :=
 postW_of (r:=l.row.toRowW) (X:=(true==true))
  (show WShape.has [] (.bool true) .bool=true by first | rfl | decide | simp [WShape.has,WShape.arms,WShape.armsAll])
  (show (WTm.eq .res (.lit (.bool true))).value [] { args:=args,res:=some (.bool true),after:=args}=some (.bool (true==true)) from w_eq_bool (w_res rfl) w_lit) rfl
theorem attach_call {l:OpenLaw}{n:Nat}{q:Program}{loose:List Str}{XP:(Str->Option Value)->Heap->Prop}{YP:World->Heap->Prop}{d:DefRec}
  (hn:l.most=some n) (hdf:d.params.defaults=[])
  (call:∀(w:World) (s₀ s₁:Shared) (mg mb:Str->Option Value) (fa:Addr) (o:Obj) (pm cd doc:Value) (a:Addr) (vs:List Value) (ns:List Int),
   Ground q loose [] XP w s₀ mg mb s₁.heap->YP w s₁.heap ->
   s₁.heap.get? fa=some o->o.data=.func (docDef d.name d.params d.body d.scope pm cd doc)->s₁.heap.CodeRec cd d.name->mg d.name=some (.ref fa) ->
   s₁.heap.get? a=some { cls:=.type "list",data:=.seq vs.toArray}->IntsAre vs ns->ns.length<=n->s₁.gens=#[] ->
   codeAny (model l.prog w) callerA (.call (.ref fa) ⟨[.ref a],[]⟩) (fun r s'=>r=.ok (.ret (.bool true))/\OldK s₁.heap s'.heap/\s'.os=s₁.os/\AllBare s'.gens) s₁) :
  WalkO q loose XP YP l.row.toRowW d [] (fun f vs=>PySem.call f vs):=by
 intro w s₀ s₁ mg mb G Y fa o pm cd doc dV kV ho hd hcd hD hmg hg args vals as hpre hlay hrd hwl hlo;obtain rfl:dV=.none:=Dflts.none hD hdf;obtain rfl:kV=.none:=Dflts.noKw hD;obtain⟨a,vs,ns,rfl,rfl,hobj,hints,hlen⟩:=uW hn hpre hwl;refine enter_call (codeAny_mono (call w s₀ s₁ mg mb fa o pm cd doc a vs ns G Y ho (fd_plain hd) hcd hmg hobj hints hlen hg) fun r s' hq=>?_);obtain⟨rfl,h2,h3,h4⟩:=hq;exact⟨.inl ⟨.bool true,.bool true,[],rfl,fun _=>rfl,.bool true,uX l _,fun _=>⟨List.Pairwise.nil,fun _ hm=>(nomatch hm)⟩⟩,h2,h3,h4⟩
section
variable {prog:Program}{w:World}{A:Around}{E:Value->Shared->Prop}{s:Shared}{K:Frag}
def ledger (h : Heap) (L d : Addr) : List (Addr × Obj):=(List.range h.objs.size).filterMap fun a => if a = L \/ a = d then none else (h.get? a).map fun o => (a,o)
end
end Att
namespace L2
theorem lH:∀{vs:List Value}{ns:List Int},IntsAre vs ns->Vals (ns.map V.int) vs
 |_,_,.nil=>.nil
 |_,_,.cons n t h=>.cons ⟨t,rfl⟩ (lH h)
def Only (H:Hp):Prop:=∀b,H b=none\/∃o xs,H b=some (.frz o (.lst xs))
theorem wj {P:Program}{w:World}{K:Frag}{mg mb:Str->Option Value}{CX:CXT}{k:Nat}{fa a:Addr}{fd:FuncData}{x:Str}{sp:Sp}{s₁:Shared}{vs:List Value}{ns:List Int}
  (KX:K.In s₁.heap) (hns:s₁.heap.Ns mainGlobals mg) (hb:s₁.heap.Ns builtinsNs mb) (hbb:∀x:Str,x≠"__name__"->mb x=bootBuiltins x) (hlim:s₁.heap.NoLimit) (hg:s₁.gens=#[])
  (ha:s₁.heap.get? a=some { cls:=.type "list",data:=.seq vs.toArray}) (hi:IntsAre vs ns) (hl:ns.length<=sizeLine) (hr:Room k callerA)
  (F:∀base:Heap,K.In base->base.Ns mainGlobals mg->FnOk P w K mg base CX k fa fd [x] sp) (hbind:∀(s:Shared) (u:Value),BindsTo s fd ⟨[u],[]⟩ [(x,u)])
  (hsp:∀H:Hp,Only H->SqL K H a (ns.map V.int)->sp [.ref a] H (fun v _=>v=.bl true) fun _ _ _=>False)
  (hCX:∀H e s',CX [] H s₁ (fun _ _ _=>False) e s'->False) :
  codeAny (model P w) callerA (.call (.ref fa) ⟨[.ref a],[]⟩) (fun r s'=>r=.ok (.ret (.bool true))/\OldK s₁.heap s'.heap/\s'.os=s₁.os/\AllBare s'.gens) s₁:=by
 have rv:=lH hi;have lenV:=hi.length
 have core:∀H:Hp,Only H->SqL K H a (ns.map V.int)->HOk P w H s₁.heap->(∀b,H b≠none->b=a)->(H a≠none->K.lookup a=none) ->
   codeAny (model P w) callerA (.call (.ref fa) ⟨[.ref a],[]⟩) (fun r s'=>r=.ok (.ret (.bool true))/\OldK s₁.heap s'.heap/\s'.os=s₁.os/\AllBare s'.gens) s₁:=by
  intro H hO hS hok hA hK
  have base_of:∀{b:Addr} {o:Obj},s₁.heap.get? b=some o->H b=none->(mj s₁.heap H).get? b=some o:=fun e n=>vI e n
  have noA:∀{b:Addr} {o:Obj} {es:Array DictEntry} {ep:Nat},s₁.heap.get? b=some o->o.data=.dict es ep->H b=none:=fun {b o es ep} e d=>by
   cases q:H b with
   |none=>rfl
   |some u =>
    have e':b=a:=hA b (by rw[q];simp)
    subst e'
    rw[ha] at e;cases e
    have d':Data.seq vs.toArray _=Data.dict es ep:=d
    cases d'
  have nsK:∀{b:Addr} {m:Str->Option Value},s₁.heap.Ns b m->(mj s₁.heap H).Ns b m:=fun {b m} ⟨o,es,ep,e,d,r⟩=>⟨o,es,ep,base_of e (noA e d),d,r⟩
  have hKb:K.In (mj s₁.heap H):=fun b o e=>base_of (KX b o e) (by
   cases q:H b with
   |none=>rfl
   |some u =>
    have e':b=a:=hA b (by rw[q];simp)
    subst e'
    rw[hK (by rw[q];simp)] at e;cases e)
  have hM:Mod K mg (mj s₁.heap H):=⟨hKb,nsK hns,⟨mb,nsK hb,hbb⟩,let ⟨mc,h1,h2⟩:=hlim;⟨mc,nsK h1,h2⟩⟩
  have e0:Env0 P w K mg (mj s₁.heap H) callerA [] s₁ H:=⟨rfl,hM,fun b o e=>zu e,Nat.le_of_eq (uH _ _),trivial,fun b hb=>absurd (show b∈([]:List Addr) from hb) (by simp),hok,.of_eq hg⟩
  refine codeAny_mono ((F _ hKb (nsK hns)).run callerA [] s₁ H ⟨[.ref a],[]⟩ [.ref a] [.ref a] _ _ hr e0 (hbind s₁ (.ref a)) (.cons rfl .nil) (hsp H hO hS)) fun r s' h=>?_
  cases r with
  |error e=>exact (hCX H e s' h).elim
  |ok fl =>
   cases fl with
   |next=>exact False.elim h
   |brk=>exact False.elim h
   |cont=>exact False.elim h
   |ret u =>
    obtain⟨v,H',os,bare,un,hok',r',q⟩:=h
    have q':v=.bl true:=q
    subst q'
    obtain rfl:u=Value.bool true:=r'
    refine⟨rfl,OldK.of_keep fun b o e=>?_,os,bare⟩
    cases q:H b with
    |none=>exact un.keep b o e q (by intro z;exact absurd (show b∈([]:List Addr) from z) (by simp)) (by simp)
    |some u =>
     rcases hO b with z | ⟨ob,xs,z⟩
     ·
      rw[q] at z;cases z
     ·
      have z2:=un.frzs b ob _ z
      obtain⟨e1,_⟩:=hok b _ z
      obtain⟨e2,_⟩:=hok' b _ z2
      rw[e] at e1;cases e1
      exact e2
 cases hk:K.lookup a with
 |some o =>
  have e:=KX a o hk
  rw[ha] at e
  cases e
  refine core (fun _=>none) (fun _=>.inl rfl) (.inr ⟨_,vs.toArray,_,hk,rfl,rfl,rfl,by rw[h_,lenV];exact hl,by simpa using rv⟩) (fun b u z=>by have z':(none:Option HO)=some u:=z;cases z') (fun b z=>absurd rfl z) fun z=>absurd rfl z
 |none =>
 refine core (fun b=>if b=a then some (.frz { cls:=.type "list",data:=.seq vs.toArray} (.lst (ns.map V.int))) else none) (fun b=>?_) (.inl (.inr ⟨{ cls:=.type "list",data:=.seq vs.toArray},if_pos rfl⟩)) (fun b u z=>?_) (fun b z=>?_) fun _=>hk
 ·by_cases hb:b=a
  ·exact .inr ⟨_,_,if_pos hb⟩
  exact .inl (if_neg hb)
 ·by_cases hb:b=a
  ·have z':=(if_pos hb).symm.trans z;cases z';subst hb;exact⟨ha,by rw[g_];exact hl,vs,_,rv,ha⟩
  have z':=(if_neg hb).symm.trans z;cases z'
 by_cases hb:b=a
 ·exact hb
 exact absurd (if_neg hb) z
abbrev KOf {K:Frag}{h:Heap}(_:K.In h):Frag:=K
theorem walk_of {l:PySem.W.OpenLaw}{n k:Nat}{q:Program}{loose:List Str}{XP:(Str->Option Value)->Heap->Prop}{YP:World->Heap->Prop}{d:DefRec}{K:Params->Frag}{CX:World->CXT}{sp:World->Sp}{x:Str}
  (hn:l.most=some n) (hn2:n<=sizeLine) (hdf:d.params.defaults=[]) (hr:Room k callerA)
  (hY:∀(w:World) (h:Heap),YP w h->(K w.params).In h)
  (F:∀(w:World) (mg:Str->Option Value) (fa:Addr) (h:Heap),(K w.params).In h->h.Ns mainGlobals mg->mg d.name=some (.ref fa) ->
   ∃fd:FuncData,(∀(s:Shared) (u:Value),BindsTo s fd ⟨[u],[]⟩ [(x,u)]) /\
    ∀base:Heap,(K w.params).In base->base.Ns mainGlobals mg->FnOk l.prog w (K w.params) mg base (CX w) k fa fd [x] (sp w))
  (hsp:∀(w:World) (H:Hp) (a:Addr) (ns:List Int),ns.length<=n->Only H->SqL (K w.params) H a (ns.map V.int)->sp w [.ref a] H (fun v _=>v=.bl true) fun _ _ _=>False)
  (hCX:∀(w:World) (H:Hp) (s:Shared) (e:Value) (s':Shared),CX w [] H s (fun _ _ _=>False) e s'->False) :
  PySem.W.WalkO q loose XP YP l.row.toRowW d [] (fun f vs=>PySem.call f vs):=by
 refine Att.attach_call hn hdf fun w s₀ s₁ mg mb fa o pm cd doc a vs ns G Y ho hd hcd hmg hobj hints hlen hg=>?_;have KX:=hY w _ Y;obtain⟨fd,hb,hF⟩:=F w mg fa _ KX G.T.g hmg;exact wj KX G.T.g G.T.b G.T.builtins G.T.nolimit hg hobj hints (N_ hlen hn2) hr hF hb (fun H hO hS=>hsp w H a ns hlen hO hS) fun H e s'=>hCX w H s₁ e s'
end L2
/- THE LAST THEOREM (shape;LID,My.* are yours):
  My.Adr: a structure of the addresses that your layer names (classes,functions);My.Txt K t: a structure (Prop) of the equations over K;
  My.txt_mk:{K} {implicit addresses ..} (e1:nsIn K mainGlobals "law"=some (some (.ref f))) (e2:K.lookup f=some ⟨oc,od,.func (fnOf "law" "law" params body scope dV kV doc pm an cdv ct),sl⟩) (e3:codeIn K cdv "law"=true) .. : ∃t,My.Txt K t
set_option maxRecDepth 100000 in
set_option maxHeartbeats 0 in
theorem PySem.Challenge.cw_LID_holds : PySem.Challenge.rw_LID.Holds := by
 w_on;o_law;k_head;(case hw=>w_witness2)
 k_fill
 refine L2.walk_of (l:=PySem.Challenge.rw_LID) (n:=63) (k:=40) (x:="script") (CX:=fun w=>..) (sp:=fun _=>My.sp_law) rfl (by decide) rfl ⟨rfl,by decide,by decide⟩ (fun w h Y=>PySem.W.kIn_of Y) ?F ?S ?C
 case F =>
  intro w mg fa h KX G hmg
  have T:∃t,My.Txt (L2.KOf KX) t:=by
   dsimp only[L2.KOf]                          -- K must stand as «<heap const> w.params» for k_is
   refine' My.txt_mk ?e1 ?e2 ?e3 ..
   (case e1=>PySem.W.k_is)                    -- in the order: a name->its address->its object->its parts
   (case e2=>PySem.W.k_is)
   ..
  obtain⟨t,T⟩:=T
  have e0:=hmg.symm.trans (mg_of KX G T.law)
  cases e0                                       -- fa is the law's own address
  exact⟨_,fun s u=>.of_eq rfl,fun base kb nb=>My.law_fn T kb nb⟩     -- if «.of_eq rfl» comes too early: refine'⟨_,?b,fun base kb nb=>My.law_fn T kb nb⟩;exact fun s u=>.of_eq rfl
 case S=>exact fun w H a ns hl hO hS=>..
 case C=>exact ..
(the tactic k_is has no namespace: write k_is) -/
namespace L2
abbrev CX0:CXT:=fun _ _ _ _ _ _=>False
abbrev E0:XK:=fun _ _ _=>False
theorem KD {X:Cx}:qD CX0 X E0:=fun _ _ _ _ _ _ _ h=>h.elim
structure Fun (K:Frag) (x qual:Str) (st:Stmt) (f:Addr) (fd:FuncData):Prop where
 ex:∃(oc:Value) (od:Option Addr) (kV doc pm:Value) (an:Option Addr) (cdv ct:Value) (osl:Array (Option Value)),
  fd=fnOf x qual (cH st) (b7 st) (aB st) .none kV doc pm an cdv ct/\K.lookup f=some ⟨oc,od,.func fd,osl⟩/\codeIn K cdv qual=true
 kp:keepIn K (.ref f)=true
section
variable {P:Program}{w:World}{K:Frag}{mg:Str->Option Value}{base:Heap}
theorem Fun.ok {x qual:Str}{st:Stmt}{f:Addr}{fd:FuncData}{N ps:List Str}{k:Nat}{sp:Sp}(F:Fun K x qual st f fd) (S:FnScope N ps (aB st)) (len:∀vs H Q E,sp vs H Q E->vs.length=ps.length)
  (hbody:∀(cdv:Value) (A:Around) (outer:List Env) (s:Shared) (H:Hp) (vs:List V) (Q:VK) (E:XK),Room k (A.deeper (envOfC qual (aB st) s.heap.objs.size f cdv))->sp vs H Q E ->
   ∃t,PSs (qF CX0 P w K mg base N qual (aB st) f cdv A outer s H E).nox (b7 st) t/\t { nx:=fun _ H'=>Q .non H',rt:=Q} (start N vs) H):FnOk P w K mg base CX0 (k+1) f fd ps sp:=by
 obtain⟨oc,od,kV,doc,pm,an,cdv,ct,osl,rfl,lk,hcd⟩:=F.ex;refine Kl lk hcd S len fun A outer s H vs Q E hr hsp=>?_;obtain⟨t,h,q⟩:=hbody cdv A outer s H vs Q E hr hsp;exact⟨t,h.nox,q⟩
theorem Fun.binds {x qual:Str}{st:Stmt}{f:Addr}{fd:FuncData}{ps:List Str}(F:Fun K x qual st f fd)
  (h:∀(kV doc pm:Value) (an:Option Addr) (cdv ct:Value) (us:List Value),us.length=ps.length->bindArgs (fnOf x qual (cH st) (b7 st) (aB st) .none kV doc pm an cdv ct) ⟨us,[]⟩=pure (ps.zip us)):Binds K fd ps []:=by
 obtain⟨oc,od,kV,doc,pm,an,cdv,ct,osl,rfl,lk,hcd⟩:=F.ex;exact .all (h kV doc pm an cdv ct)
theorem Gz {x qual:Str}{st:Stmt}{f:Addr}{oc:Value}{od an:Option Addr}{osl:Array (Option Value)}{kV doc pm cdv ct:Value}(l:K.lookup f=some ⟨oc,od,.func (fnOf x qual (cH st) (b7 st) (aB st) .none kV doc pm an cdv ct),osl⟩)
  (c:codeIn K cdv qual=true) (k:keepIn K (.ref f)=true):Fun K x qual st f (fnOf x qual (cH st) (b7 st) (aB st) .none kV doc pm an cdv ct):=⟨⟨oc,od,kV,doc,pm,an,cdv,ct,osl,rfl,l,c⟩,k⟩
variable {X:Cx}
theorem pv (i:Nat) {x:Str}{pos:Pos}(hN:X.N[i]?=some x:=by rfl) (hv:Vis X.env.scope x:=by first | exact Or.inl rfl | exact Or.inr (Or.inl rfl) | exact Or.inr (Or.inr rfl)) (hd:(x==("__debug__":Str))=false:=by decide)
  (hcd:(x==("__classdict__":Str))=false:=by decide):PE X (.Name x pos) (JQ i):=EY hN hv hd hcd
end
theorem PQ {A B:Prop}(h:B):if false=true then A else B:=by
 rw[if_neg p_];exact h
theorem PX {A B:Prop}(h:A):if true=true then A else B:=by
 rw[if_pos rfl];exact h
section
variable {κ:Type} [DecidableEq κ]
theorem iR:∀{l:List κ}{k:κ},l.Nodup->¬k∈l->(l++[k]).Nodup
 |[],k,_,_=>by simp
 |a::r,k,h,hk=>by
  obtain⟨h1,h2⟩:=QB.mp h
  show (a::(r++[k])).Nodup
  refine QB.mpr ⟨fun m=>?_,iR h2 fun m=>hk (k_.mpr (Or.inr m))⟩
  rcases v_.mp m with q | q
  ·
   exact h1 q
  ·
   exact hk (k_.mpr (Or.inl (b_.mp q).symm))
end
theorem jq {F:Str × NameKind->Str × NameKind}(hF:∀p,(F p).1=p.1) {x:Str}{k:NameKind}:∀{names:List (Str × NameKind)},names.lookup x=some k->(names.map F).lookup x=some (F (x,k)).2
 |[],h=>by cases h
 | (m,q)::r,h=>by
  have hm:=hF (m,q)
  rw[m_,show F (m,q)=(m,(F (m,q)).2) from Prod.ext hm rfl]
  by_cases e:x=m
  ·
   subst e
   rw[List.lookup_cons_self] at h ⊢
   cases h
   rfl
  ·
   have eb:(x==m)=false:=Sg.mpr e
   simp only[List.lookup,eb] at h ⊢
   exact jq hF h
theorem gR {env:Env}{x:Str}{names:List (Str × NameKind)}(h:names.lookup x=some .free) :
  (names.map fun (n,k)=>if (k==NameKind.free&&env.scope.kind==.function&&env.kindOf n==some .cell) then (n,NameKind.cell) else (n,k)).lookup x=some .cell \/
  (names.map fun (n,k)=>if (k==NameKind.free&&env.scope.kind==.function&&env.kindOf n==some .cell) then (n,NameKind.cell) else (n,k)).lookup x=some .free:=by
 rw[jq (F:=fun (n,k)=>if (k==NameKind.free&&env.scope.kind==.function&&env.kindOf n==some .cell) then (n,NameKind.cell) else (n,k)) (fun p=>by dsimp only;split <;> rfl) h];dsimp only;split
 ·exact .inl rfl
 exact .inr rfl
theorem jL {scope:Scope}{env:Env}(h:∀y∈scope.names,y.2=.free->∃c,env.cells.lookup y.1=some c) :
  ∃cl,closureFor scope env=pure cl/\(∀x c,cl.lookup x=some c->env.cells.lookup x=some c)/\∀y∈scope.names,y.2=.free->∃c,cl.lookup y.1=some c:=by
 have key:∀(names:List (Str × NameKind)) (cs:List (Str × Addr)),(∀y∈names,y.2=.free->∃c,env.cells.lookup y.1=some c)->(∀x c,cs.lookup x=some c->env.cells.lookup x=some c) ->
   ∃cl:List (Str × Addr),(forIn names cs (fun (x:Str × NameKind) (r:List (Str × Addr))=>(do
    if x.2==.free then do
     let a <- cellOf env x.1
     pure (ForInStep.yield ((x.1,a)::r))
    else pure (ForInStep.yield r):Sem (ForInStep (List (Str × Addr))))):Sem (List (Str × Addr)))=pure cl/\(∀x c,cl.lookup x=some c->env.cells.lookup x=some c) /\
    (∀x c,cs.lookup x=some c->∃c',cl.lookup x=some c')/\∀y∈names,y.2=.free->∃c,cl.lookup y.1=some c:=by
  intro names
  induction names with
  |nil=>intro cs _ hc;exact⟨cs,rfl,hc,fun x c e=>⟨c,e⟩,fun y hy=>nomatch hy⟩
  |cons y r ih =>
   intro cs hn hc
   obtain⟨n,k⟩:=y
   by_cases hk:k=.free
   ·
    subst hk
    obtain⟨c,ec⟩:=hn (n,.free) i_ rfl
    have hcell:cellOf env n=pure c:=by unfold cellOf;rw[ec]
    obtain⟨cl,e,h1,h2,h3⟩:=ih ((n,c)::cs) (fun y hy=>hn y (q_ _ hy)) (fun x c' q=>by
     simp only[Rp] at q
     cases hx:x==n with
     |true=>rw[hx] at q;cases q;rw[eq_of_beq hx];exact ec
     |false=>rw[hx] at q;exact hc x c' q)
    refine⟨cl,?_,h1,fun x c' q=>?_,fun y hy hf=>?_⟩
    ·
     rw[List.forIn_cons]
     show ((if (NameKind.free==NameKind.free)=true then (cellOf env n >>= fun a=>pure (ForInStep.yield ((n,a)::cs))) else pure (ForInStep.yield cs)) >>= _)=_
     rw[hcell]
     exact e
    ·
     cases hx:x==n with
     |true=>exact h2 x c (by simp only[Rp,hx])
     |false=>exact h2 x c' (by simp only[Rp,hx];exact q)
    ·
     rcases k_.mp hy with rfl | hy
     ·
      exact h2 n c (by simp [Rp])
     ·
      exact h3 y hy hf
   ·
    obtain⟨cl,e,h1,h2,h3⟩:=ih cs (fun y hy=>hn y (q_ _ hy)) hc
    have hb:(k==NameKind.free)=false:=by simpa using hk
    refine⟨cl,?_,h1,h2,fun y hy hf=>?_⟩
    ·
     rw[List.forIn_cons]
     show ((if (k==NameKind.free)=true then (cellOf env n >>= fun a=>pure (ForInStep.yield ((n,a)::cs))) else pure (ForInStep.yield cs)) >>= _)=_
     rw[hb]
     exact e
    ·
     rcases k_.mp hy with rfl | hy
     ·
      exact absurd hf hk
     ·
      exact h3 y hy hf
 obtain⟨cl,e,h1,_,h3⟩:=key scope.names [] h (fun x c q=>by simp at q);refine⟨cl,?_,h1,h3⟩;unfold closureFor;exact F_ (fun m=>m >>= fun r=>pure r) e
def bF (X:Cx) (N':List Str) (scope:Scope) (cl:List (Str × Addr)) (pins:List (Addr × Obj)) (s:Shared) (H:Hp) (C:Addr) (fp:List Addr):Cx where
 prog:=X.prog
 w:=X.w
 K:=X.K
 mg:=X.mg
 base:=X.base
 A:=X.A
 N:=N'
 s₀:=s
 H₀:=H
 env:=compEnvC scope cl C X.env
 outer:=X.stack
 stack:=X.stack
 ex:=fp
 fn:=fun x=>scope.names.lookup x==some .cell
 calm:=X.calm
 pn:=X.pn++pins
 xe:=fun _ _=>False
def PIf (X:Cx) (ifs:List Expr) (t:TT):Prop :=
 ∀(pins:List (Addr × Obj)) (s:Shared) (Z:St) (H:Hp) (Q:Bool->Hp->Prop),Inv X pins Z H s->t Z H Q ->
  wpAny (model X.prog X.w) X.A (forIn ifs true fun c r=>if r=true then do let ok <- isTrue c X.env (eval c X.env);pure (ForInStep.yield ok) else pure (ForInStep.yield r)) (TP X pins Z Q) X.xe s
def P0:TT:=fun _ H Q=>Q true H
theorem z6 {X:Cx}:PIf X [] P0:=fun _ _ _ H _ I h=>wpAny_tests_nil ⟨H,I,h⟩
theorem z7 {X:Cx}{c:Expr}{t:TT}(h:PT X c t):PIf X [c] t:=fun pins s Z H Q I hq=>wpAny_tests_one (h pins s Z H Q I hq)
section
variable {prog:Program}{w:World}{A:Around}{R:Result->Shared->Prop}{s:Shared}
theorem mH {elt target iter:Expr}{ifs:List Expr}{scope:Scope}{pos:Pos}{it acc:Value}{env:Env}(I:Nat->Shared->Prop)
  (turn:∀n s,I n s->wpAny (model prog w) A (pyNext it) (fun r s₁=>match r with | .none=>R (.ok .next) s₁ | .some v=>wpAny (model prog w) A (letOwnedTupleGo target it v) (fun _ s₁'=>wpAny (model prog w) A (assign target env v) (fun _ s₂=>wpAny (model prog w) A (forIn ifs true fun c r=>if r=true then do let ok <- isTrue c env (eval c env);pure (ForInStep.yield ok) else pure (ForInStep.yield r)) (fun ok s₃=>if ok=true then wpAny (model prog w) A (eval elt env) (fun x s₄=>wpAny (model prog w) A (call (.builtin "list.append") [acc,x]) (fun _ s₅=>∃m,m<n/\I m s₅) (fun _ _=>False) s₄) (fun _ _=>False) s₃ else ∃m,m<n/\I m s₃) (fun _ _=>False) s₂) (fun _ _=>False) s₁') (fun _ _=>False) s₁) (fun _ _=>False) s)
  (n:Nat) (h:I n s):codeAny (model prog w) A (.compLoop (.ListComp elt [⟨target,iter,ifs,0⟩] scope pos) 0 it acc env) R s:=by
 refine codeAny_loop rfl I (fun j s₀ hI=>?_) n h;show wpAny _ A ((compTurn (.ListComp elt [⟨target,iter,ifs,0⟩] scope pos) 0 it acc env).onRaise (fun x=>do noteFrame x env;theTreesLotGoes x)) _ _ s₀;refine wpAny_noted ?_;rw[compTurn_list];refine e_ (wpAny_standAt (e_ (QZ (turn j s₀ hI) (fun r s₁ h₁=>?_) fun _ _ h'=>h'.elim)));cases r with
 |none=>exact z_ h₁
 |some v =>
 refine e_ (QZ h₁ (fun _ s₁' h₁'=>?_) fun _ _ h'=>h'.elim);refine e_ (QZ h₁' (fun _ s₂ h₂=>e_ (QZ h₂ (fun ok s₃ h₃=>?_) fun _ _ h'=>h'.elim)) fun _ _ h'=>h'.elim);cases ok with
 |false=>exact (z_ (And.intro rfl h₃))
 |true =>
 exact e_ (e_ (QZ h₃ (fun x s₄ h₄=>e_ (QZ h₄ (fun _ s₅ h₅=>z_ (z_ ⟨rfl,h₅⟩)) fun _ _ h'=>h'.elim)) fun _ _ h'=>h'.elim))
end
def sI (J:It) (g:TG) (tt:TT) (te:TE) (fin:List V->Hp->Prop) (Z₀:St) (H₁:Hp):Prop :=
 ∃W:Nat->Nat->List V->St->Hp->Prop,(∃m,W 0 m [] Z₀ H₁)/\∀i m ys Z H,W i m ys Z H ->
  (J.stop i H/\ys.length<=sizeLine/\fin ys H) \/
  (J.go i H/\∀x H',J.yld i H x H'->g x Z H' fun Z2 H2=>tt Z2 H2 fun b H3=>if b=true then te Z2 H3 fun y H4=>ys.length<sizeLine/\∃m',m'<m/\W (i+1) m' (ys++[y]) Z2 H4 else ∃m',m'<m/\W (i+1) m' ys Z2 H3)
def kI (nt:Nat) (cap:List Nat) (Z:St):St:=List.replicate nt none++cap.map fun j=>(Z[j]?).getD none
structure CompSc (X:Cx) (N':List Str) (nt:Nat) (cap:List Nat) (scope:Scope):Prop where
 kind:scope.kind=.function
 cells:∀y∈scope.names,y.2=.cell->scope.names.lookup y.1=some .cell
 names:∀x∈scope.names,x.2=.local->scope.names.lookup x.1=some .local
 free:∀y∈scope.names,y.2=.free->X.env.kindOf y.1=some .cell\/X.env.kindOf y.1=some .free
 len:N'.length=nt+cap.length
 caps:∀(j:Nat) (x:Str),N'[nt+j]?=some x->∃i,cap[j]?=some i/\X.N[i]?=some x/\scope.names.lookup x=some .free
theorem jz {l:Addr}{its:List Value}{n:Nat}{u:Value}{P:Program}{w:World}{A:Around}{E:Value->Shared->Prop}{s:Shared}{Q:Value->Shared->Prop}
  (e:s.heap.get? l=some { cls:=.type "list",data:=.seq its.toArray n}) (hz:its.length<sizeLine)
  (h:∀h' n',h'.get? l=some { cls:=.type "list",data:=.seq (its++[u]).toArray n'}->(∀b o,b≠l->s.heap.get? b=some o->h'.get? b=some o)->Q .none { s with heap:=h'}) :
  wpAny (model P w) A (call (.builtin "list.append") [.ref l,u]) Q E s:=by
 refine SQ F.slot_list_append ⟨_,e,rfl⟩ F.entry_list_append (F.args_list_append_2 _ _) (list_append l its.toArray n u (by rw[h_];omega)) ⟨e,?_⟩;have q:=PySem.IsL.update e (·.push u);rw[List.push_toArray] at q;exact h _ _ q (fun b o hb hu=>(Heap.get?_update_other s.heap _ (Ne.symm hb)).trans hu)
theorem bJ:∀(names:List (Str × NameKind)) (n:Nat) (acc:List (Str × Addr)),cellsFrom n names acc=cellsFrom n names []++acc
 |[],_,_=>rfl
 | (x,k)::r,n,acc=>by
  unfold cellsFrom
  split
  ·
   rw[bJ r (n+1) ((x,n)::acc),bJ r (n+1) [(x,n)],QC]
   rfl
  ·
   exact bJ r n acc
theorem cR {α:Type}(x:Str):∀(l m:List (Str × α)),(l++m).lookup x=(l.lookup x).or (m.lookup x)
 |[],_=>rfl
 | (y,v)::r,m=>by
  rw[R_,Rp,Rp,cR x r m]
  cases x==y <;> rfl
theorem eN {names:List (Str × NameKind)}{n:Nat}{cl:List (Str × Addr)}{x:Str}{c:Addr}(h:(cellsFrom n names cl).lookup x=some c):(cellsFrom n names []).lookup x=some c\/((cellsFrom n names []).lookup x=none/\cl.lookup x=some c):=by
 rw[bJ,cR] at h;cases e:(cellsFrom n names []).lookup x with
 |some d=>rw[e] at h;exact .inl h
 |none=>rw[e] at h;exact .inr ⟨rfl,h⟩
theorem iy {x:Str}{c:Addr}:∀{names:List (Str × NameKind)}{n:Nat}{acc:List (Str × Addr)},(x,c)∈cellsFrom n names acc->(x,NameKind.cell)∈names\/(x,c)∈acc
 |[],_,_,h=>.inr h
 | (y,k)::r,n,acc,h=>by
  unfold cellsFrom at h
  split at h
  ·
   rename_i hk
   rcases iy h with q | q
   ·
    exact .inl (q_ _ q)
   ·
    rcases k_.mp q with q | q
    ·
     cases q
     have:k=.cell:=by simpa using hk
     subst this
     exact .inl i_
    ·
     exact .inr q
  ·
   rcases iy h with q | q
   ·
    exact .inl (q_ _ q)
   ·
    exact .inr q
theorem z8 {M:Model}{A:Around}{E:Value->Shared->Prop}{s:Shared}{scope:Scope}{globals:Addr}{closure:List (Str × Addr)}{qual:Str}{env:Env}{Q:Env->Shared->Prop}
  (hQ:Q (newEnv scope s.heap.objs.size globals (cellsFrom (s.heap.objs.size+1) scope.names closure) qual none .none (some env) builtinsNs) { s with heap:=pushCells (s.heap.push { cls:=.type "dict",data:=.dict #[]}) scope.names}) :
  wpAny M A (newFunctionEnv scope globals closure [] qual none .none (some env)) Q E s:=by
 simp only[newFunctionEnv,Option.isSome_some,if_true];refine e_ (wpAny_alloc ?_);refine e_ (wpAny_layCells _ (fun name kind cells=>by cases hkc:kind==NameKind.cell <;> simp [hkc]) _ _ _ _ ?_);rw[show ({ s with heap:=s.heap.push { cls:=.type "dict",data:=.dict #[]}}:Shared).heap.objs.size=s.heap.objs.size+1 from Rq ..];refine e_ ?_;rw[List.forIn_nil];exact z_ (z_ hQ)
theorem wu {X:Cx}{pins:List (Addr × Obj)}{Z:St}{H:Hp}{s:Shared}{N':List Str}{nt:Nat}{cap:List Nat}{scope:Scope}{cl:List (Str × Addr)}{fp:List Addr}{h':Heap}{C:Addr}{tk:Nat}{pl:List (Addr × Obj)}
  (S:CompSc X N' nt cap scope) (I:Inv X pins Z H s) (hcl:∀x c,cl.lookup x=some c->X.env.cells.lookup x=some c) (hclh:∀y∈scope.names,y.2=.free->∃c,cl.lookup y.1=some c)
  (hf:∀b∈fp,kj X pins H b) (hfl:∀b∈fp,b<s.heap.objs.size) (hC:s.heap.objs.size<C) (hn:h'.Ns C fun _=>none) (hk:∀b o,s.heap.get? b=some o->h'.get? b=some o)
  (hp:∀p∈pl,h'.get? p.1=some p.2/\s.heap.objs.size=p.1/\∀v,p.2.data≠.cell v) (hcc:CellsOk h' (C+1) (cellsFrom (C+1) scope.names [])) :
  Inv (bF X N' scope (cellsFrom (C+1) scope.names cl) pins s H C fp) pl (kI nt cap Z) H { s with heap:=h',toks:=tk}:=by
 have two:∀x c,(cellsFrom (C+1) scope.names cl).lookup x=some c->(C+1<=c/\(cellsFrom (C+1) scope.names []).lookup x=some c)\/X.env.cells.lookup x=some c:=fun x c e=>by
  rcases eN e with q | q
  ·exact .inl ⟨(hcc.empty x c (mem_of_lookup q)).2,q⟩
  exact .inr (hcl x c q.2)
 have low:∀x c,X.env.cells.lookup x=some c->c<s.heap.objs.size:=fun x c e=>by obtain⟨v,q⟩:=I.cell x c e;exact q.lt
 have hok:(bF X N' scope (cellsFrom (C+1) scope.names cl) pins s H C fp).Ok:=by
  refine⟨I.ok.mod,S.kind,I.ok.glob,I.ok.blt,Rf hC,fun x y c e1 e2=>?_,fun x hx=>?_,fun x c z e=>?_,I.ok.hd,I.ok.frames,.inl rfl,fun b hb=>?_,I.bs,N_ I.ok.bsz I.sz,fun b o e hb=>?_,fun b hb z=>?_,I.stack,I.stkFree⟩
  ·rcases two x c e1 with ⟨q1,p1⟩ | q1
   ·rcases two y c e2 with ⟨q2,p2⟩ | q2
    ·exact name_of_addr hcc.apart (mem_of_lookup p1) (mem_of_lookup p2)
    exact absurd (H_ (RB (RT (low y c q2) hC)) q1) (QR _)
   rcases two y c e2 with ⟨q2,p2⟩ | q2
   ·exact absurd (H_ (RB (RT (low x c q1) hC)) q2) (QR _)
   exact I.ok.inj x y c q1 q2
  ·have hx':(relabel scope X.env).names.lookup x=some .cell\/(relabel scope X.env).names.lookup x=some .free:=hx;have hm:∃k,(x,k)∈(relabel scope X.env).names/\(k=.cell\/k=.free):=by
    rcases hx' with z | z
    ·exact⟨_,mem_of_lookup z,.inl rfl⟩
    exact⟨_,mem_of_lookup z,.inr rfl⟩
   obtain⟨k,hm,hk⟩:=hm;obtain⟨⟨n,k0⟩,hm0,e⟩:=C_.mp hm;have e':(if (k0==NameKind.free&&X.env.scope.kind==.function&&X.env.kindOf n==some .cell)=true then (n,NameKind.cell) else (n,k0))=(x,k):=e;by_cases hk0:k0=.free
   ·subst hk0;have en:n=x:=by split at e' <;> exact F_ Prod.fst e'
    subst en;obtain⟨c,ec⟩:=hclh (n,.free) hm0 rfl;show ∃c,(cellsFrom (C+1) scope.names cl).lookup n=some c;rw[bJ,cR,ec];cases (cellsFrom (C+1) scope.names []).lookup n with
    |none=>exact⟨c,rfl⟩
    |some d=>exact⟨d,rfl⟩
   have hb:(k0==NameKind.free)=false:=by simpa using hk0
   rw[hb] at e';simp only[Bool.false_and,QW,Q4] at e';cases e';rcases hk with rfl | rfl
   ·obtain⟨c,ec⟩:=iQ (n:=C+1) (S.cells _ hm0 rfl);refine⟨c,?_⟩;show (cellsFrom (C+1) scope.names cl).lookup _=some c;rw[bJ,cR,ec];rfl
   exact absurd rfl hk0
  ·have z':scope.names.lookup x=some .cell:=by simpa [bF] using z
   obtain⟨d,ed⟩:=iQ (n:=C+1) z';have e':(cellsFrom (C+1) scope.names cl).lookup x=some c:=e;rw[bJ,cR,ed] at e';cases e';have:=(hcc.empty x _ (mem_of_lookup ed)).2;show s.heap.objs.size<=_;omega
  ·obtain⟨f0,f1,f2,f3,f4,f5⟩:=hf b hb;refine⟨fun z=>absurd (hfl b hb) (S5.mpr (by rw[show b=C from z];exact Rf hC)),fun x c e=>?_⟩;rcases two x c e with ⟨q,_⟩ | q
   ·intro z;rw[z] at q;exact absurd (H_ (RB (RT (hfl b hb) hC)) q) (QR _)
   exact f4 x c q
  ·obtain⟨f0,f1,f2,f3,f4,f5⟩:=hf b hb;rcases f3 with q | q
   ·exact I.ok.noex b o e q
   exact absurd (D_ (I.ok.bs b o e).1) (S5.mpr q)
  obtain⟨f0,f1,f2,f3,f4,f5⟩:=hf b hb;rcases k_.mp (I.stkSub b z) with q | q
  ·exact f1 q
  exact f2 q
 obtain⟨m,hnm,hl⟩:=id I.loc;refine⟨hok,rfl,I.bare,Un.kept hk,⟨_,hn,fun i x v e1 e2 e3=>?_⟩,fun x c e=>?_,I.hok.fresh (Rf hC),fun x c e=>?_,fun p hp'=>?_,I.hok.kept hk,?_⟩
 ·-- a name of the block: one that it takes from around
  unfold kI at e2;by_cases hi:i<nt
  ·rw[Qy (by simpa using hi),RJ] at e2;split at e2 <;> cases e2
  obtain⟨j,rfl⟩:∃j,i=nt+j:=⟨i - nt,by omega⟩;obtain⟨k,ck,hN,hfree⟩:=S.caps j x e1;rw[Qp (by simp),RX,Nat.add_sub_cancel_left,G_,ck] at e2;have e2':(Z[k]?).getD none=some v:=Qu e2;have e2'':Z[k]?=some (some v):=by
   cases q:Z[k]? with
   |none=>rw[q] at e2';cases e2'
   |some z=>rw[q] at e2';exact F_ some e2'
  have hkd:=S.free (x,.free) (mem_of_lookup hfree) rfl;obtain⟨u,ru,lk⟩:=hl k x v hN e2'' (.inr hkd);refine⟨u,ru,.inr ⟨gR hfree,?_⟩⟩;rcases lk with ⟨kl,_⟩ | ⟨_,c,hc,hcell⟩
  ·rcases hkd with z | z <;> (rw[kl] at z;cases z)
  obtain⟨c',hc'⟩:=hclh (x,.free) (mem_of_lookup hfree) rfl;have e:=hcl x c' hc';rw[hc] at e;cases e;obtain⟨o,ho,hd⟩:=hcell;refine⟨c,?_,o,hk _ _ ho,hd⟩;show (cellsFrom (C+1) scope.names cl).lookup x=some c;rw[bJ,cR];cases q:(cellsFrom (C+1) scope.names []).lookup x with
  |none=>exact hc'
  |some d =>
  rcases iy (mem_of_lookup q) with z | z
  ·have:=S.cells _ z rfl;rw[hfree] at this;cases this
  cases z
 ·rcases two x c e with ⟨_,q⟩ | q
  ·exact⟨none,(hcc.empty x c (mem_of_lookup q)).1⟩
  obtain⟨v,o,ho,hd⟩:=I.cell x c q;exact⟨v,o,hk _ _ ho,hd⟩
 ·rcases two x c e with ⟨q,_⟩ | q
  ·exact I.hok.fresh (Rf (H_ (RB hC) q))
  exact I.freeC x c q
 ·rcases v_.mp hp' with z | z
  ·obtain⟨e,n,n1,n2,d⟩:=I.pin p z;refine⟨hk _ _ e,n,fun q=>?_,fun q=>?_,d⟩
   ·exact absurd (D_ e) (S5.mpr (by rw[show p.1=C from q];exact Rf hC))
   rcases k_.mp (I.stkSub p.1 q) with q | q
   ·exact n1 q
   exact n2 q
  obtain⟨e,n,d⟩:=hp p z;refine⟨e,I.hok.fresh (by omega),fun q=>?_,fun q=>?_,d⟩
  ·exact absurd (n.trans (show p.1=C from q)) (Qt hC)
  have:=I.stkSub p.1 q;rcases k_.mp this with q | q
  ·exact absurd I.lt (S5.mpr (by rw[<- q,n];exact u_ _))
  exact I.nofs (by omega) q
 unfold kI;show _=N'.length;rw[a_,RX,g_,S.len]
theorem HOk.track {P:Program}{w:World}{H:Hp}{h h':Heap}{a C:Addr}{o:HO}(x:HOk P w H h) (hn:H a=none) (hC:H C=none) (k:∀b u,b≠C->h.get? b=some u->h'.get? b=some u) (new:ObjOk P w (upd H a o) h' a o):HOk P w (upd H a o) h':=fun b u e=>by
 by_cases hb:b=a
 ·subst hb;rw[cA] at e;cases e;exact new
 rw[aW hb] at e;have nC:∀c z,H c=some z->c≠C:=fun c z q r=>by rw[r,hC] at q;cases q
 refine (x b u e).stay (fun c v hc q=>k c v ?_ q) (fun c q=>by rw[aW (bN q hn)];exact q) fun c xs q=>by rw[aW (bN q hn)];exact q
 rcases hc with rfl | hc
 ·exact nC c u e
 exact nC c _ hc
theorem oZ {X:Cx}{pins:List (Addr × Obj)}{Z:St}{H₂:Hp}{s₂:Shared}{N':List Str}{nt:Nat}{cap:List Nat}{scope:Scope}{cl:List (Str × Addr)}{elt tg iter:Expr}{ifs:List Expr}{pos:Pos}{g:TG}{tt:TT}{te:TE}
  {it:Addr} {fp:List Addr} {tn:Nat->Heap->Prop} {J:It} {fin:List V->Hp->Prop} {E:Value->Shared->Prop} {RR:Value->Addr->Result->Shared->Prop}
  (hc:X.calm=true) (S:CompSc X N' nt cap scope) (hcl:∀x c,cl.lookup x=some c->X.env.cells.lookup x=some c) (hclh:∀y∈scope.names,y.2=.free->∃c,cl.lookup y.1=some c)
  (hX:∀cl pins s H C fp,PG (bF X N' scope cl pins s H C fp) tg g/\PIf (bF X N' scope cl pins s H C fp) ifs tt/\PE (bF X N' scope cl pins s H C fp) elt te)
  (I:Inv X pins Z H₂ s₂) (T:Turn X.prog X.w X.K tg J fp it tn) (st:tn 0 s₂.heap) (hf:∀b∈fp,kj X pins H₂ b) (hw:sI J g tt te fin (kI nt cap Z) H₂)
  (hRR:∀(D C:Addr) (s₄:Shared) (m:Str->Option Value) (ys:List V) (H':Hp),s₄.heap.Ns C m->s₂.heap.objs.size<=D->s₂.heap.objs.size<=C->C≠D->H' D=none->H' C=none->ys.length<=sizeLine->fin ys H' ->
   (∀h',(∀b o,b≠C->s₄.heap.get? b=some o->h'.get? b=some o)->Inv X pins Z (upd H' D (.lst ys)) { s₄ with heap:=h'})->RR (.ref D) C (.ok .next) s₄) :
  wpAny (model X.prog X.w) X.A (newList []) (fun acc s₃=>wpAny (model X.prog X.w) X.A (newFunctionEnv scope X.env.globals cl [] X.env.qual none .none (some X.env)) (fun cenv s₄ =>
   codeAny (model X.prog X.w) X.A (.compStart (.ListComp elt [⟨tg,iter,ifs,0⟩] scope pos) 0 (.ref it) acc { cenv with scope:=relabel scope X.env}) (RR acc cenv.locals) s₄) E s₃) E s₂:=by
 refine QG (z8 ?_);dsimp only;generalize hH2:s₂.heap.push { cls:=.type "list",dict:=none,data:=.seq ([]:List Value).toArray}=B;generalize hD:s₂.heap.objs.size=D;have hB:B.objs.size=D+1:=by rw[<- hH2,Rq,hD]
 have hcc0:CellsOk (pushCells (B.push { cls:=.type "dict",data:=.dict #[]}) scope.names) (B.objs.size+1) (cellsFrom (B.objs.size+1) scope.names []):=by have:=cellsFrom_ok scope.names (B.push { cls:=.type "dict",data:=.dict #[]}) (B.objs.size+1) [] ⟨fun _ _ hm=>(nomatch hm),List.Pairwise.nil⟩ (by rw[Rq];exact u_ _);rw[Rq] at this;exact this
 have hns₁:(pushCells (B.push { cls:=.type "dict",data:=.dict #[]}) scope.names).Ns B.objs.size fun _=>none:=(Heap.Ns.new B (.type "dict")).keeps (pushCells_keeps _ _);have kp₁:∀b o,B.get? b=some o->(pushCells (B.push { cls:=.type "dict",data:=.dict #[]}) scope.names).get? b=some o:=fun b o e=>pushCells_keeps _ _ b o (l_ _ e);generalize hCe:B.objs.size=C at hns₁ hcc0 ⊢;generalize pushCells (B.push { cls:=.type "dict",data:=.dict #[]}) scope.names=h₁ at hns₁ hcc0 kp₁ ⊢;have hCD:C=D+1:=hCe.symm.trans hB;have hDC:D≠C:=by rw[hCD];exact Qt (Nat.lt_succ_self _)
 have hDlt:s₂.heap.objs.size<C:=by rw[hD,hCD];exact Nat.lt_succ_self _
 have below:∀b o,s₂.heap.get? b=some o->b≠C/\b≠D:=fun b o e=>by have:=D_ e;rw[hD] at this;exact⟨by rw[hCD];exact Qt (RB this),Qt this⟩
 have old:∀b o,s₂.heap.get? b=some o->h₁.get? b=some o:=fun b o e=>kp₁ b o (hH2▸l_ _ e);have hacc:h₁.get? D=some { cls:=.type "list",data:=.seq ([]:List Value).toArray 0}:=kp₁ _ _ (hH2▸hD▸K_ _ rfl);have hst₁:tn 0 h₁:=T.keep _ _ _ st fun b hb o e=>old b o e;have hfl:∀b∈fp,b<s₂.heap.objs.size:=fun b hb=>by obtain⟨o,e,_⟩:=T.obj _ _ st b hb;exact D_ e
 obtain⟨W,⟨m0,w0⟩,turn⟩:=hw;obtain⟨hg,hi,he⟩:=hX (cellsFrom (C+1) scope.names cl) pins s₂ H₂ C fp;have stat:∀{H':Hp} {k:Nat} {its:List Value},(∀b∈fp,H' b=none)->∀b∈fp,kj (bF X N' scope (cellsFrom (C+1) scope.names cl) pins s₂ H₂ C fp) [(D,{ cls:=.type "list",data:=.seq its.toArray k})] H' b:=fun {H' k its} hn b hb=>by
  obtain⟨f0,f1,f2,f3,f4,f5⟩:=hf b hb;have hlt:=hfl b hb;refine⟨hn b hb,fun z=>?_,fun z=>?_,.inl hb,fun x c e=>?_,fun p hp=>?_⟩
  ·rw[show b=C from z] at hlt;exact absurd hlt (S5.mpr (Rf hDlt))
  ·rcases k_.mp (I.stkSub b z) with q | q
   ·exact f1 q
   exact f2 q
  ·rcases eN e with q | q
   ·have:=(hcc0.empty x c (mem_of_lookup q)).2;intro z;rw[z] at this;exact absurd (H_ (RB (RT hlt hDlt)) this) (QR _)
   exact f4 x c (hcl x c q.2)
  rcases v_.mp hp with z | z
  ·exact f5 p z
  rw[b_.mp z];intro e;rw[<- (show D=b from e),hD] at hlt;exact QR _ hlt
 have loop:∀s₃:Shared,s₃={ s₂ with heap:=h₁}->codeAny (model X.prog X.w) X.A (.compLoop (.ListComp elt [⟨tg,iter,ifs,0⟩] scope pos) 0 (.ref it) (.ref D) (compEnvC scope (cellsFrom (C+1) scope.names cl) C X.env)) (RR (.ref D) C) s₃:=by
  rintro s₃ rfl;refine mH (fun n s'=>∃i ys its k Z' H',Inv (bF X N' scope (cellsFrom (C+1) scope.names cl) pins s₂ H₂ C fp) [(D,{ cls:=.type "list",data:=.seq its.toArray k})] Z' H' s'/\Vals ys its/\tn i s'.heap/\(∀b∈fp,H' b=none)/\W i n ys Z' H'/\ys.length<=sizeLine) ?_ m0
   ⟨0,[],[],0,kI nt cap Z,H₂,wu (tk:=s₂.toks) S I hcl hclh hf hfl hDlt hns₁ old (fun p hp=>?_) hcc0,.nil,hst₁,fun b hb=>(hf b hb).1,w0,S6 _⟩
  ·rintro n s3 ⟨i,ys,its,k,Z3,H3,I3,rv,st3,fr3,w3,hz⟩;have pD:=I3.pin (D,{ cls:=.type "list",data:=.seq its.toArray k}) (P_ _ (b_.mpr rfl));rcases turn i n ys Z3 H3 w3 with ⟨stop,hz',hfin⟩ | ⟨go,step⟩
   ·refine thn (T.done (bF X N' scope (cellsFrom (C+1) scope.names cl) pins s₂ H₂ C fp) rfl rfl rfl hc i _ s3 Z3 H3 (fun _ _=>False) I3 (stat fr3) st3 stop) fun r s4 ⟨hr,I4⟩=>?_;subst hr;obtain⟨m4,hn4,_⟩:=I4.loc;have pD4:=I4.pin (D,{ cls:=.type "list",data:=.seq its.toArray k}) (P_ _ (b_.mpr rfl));refine hRR D C s4 m4 ys H3 hn4 (by rw[hD];exact u_ _) (Rf hDlt) (Ne.symm hDC) pD4.2.1 I4.free hz' hfin fun h' k'=>?_;have nD:∀b u,H3 b=some u->b≠D:=fun b u e z=>by rw[z,pD4.2.1] at e;cases e
    have nDs:∀b o,s₂.heap.get? b=some o->b≠D/\b≠C:=fun b o e=>⟨(below b o e).2,(below b o e).1⟩;have B4:=I4.base;refine I.call' (s':={ s4 with heap:=h'}) (ch:=fp) I4.os ⟨fun b o e n hb hx=>k' b o (nDs b o e).2 (B4.keep b o e n hb hx),fun b o e n hb hx=>?_,fun b o e n hx=>?_,fun b o e hx=>?_,fun b xs e=>?_,fun b o u e=>?_,fun b ps e=>?_⟩ ?_ I4.bare fun b hb=>?_
    ·obtain⟨sl,q⟩:=B4.slot b o e n hb hx;exact⟨sl,k' b _ (nDs b o e).2 q⟩
    ·rw[aW (nDs b o e).1];exact B4.free b o e n hx
    ·obtain⟨o',q⟩:=B4.there b o e hx;exact⟨o',k' b _ (nDs b o e).2 q⟩
    ·have q:=B4.tups b xs e;rw[aW (nD _ _ q)];exact q
    ·have q:=B4.frzs b o u e;rw[aW (nD _ _ q)];exact q
    ·obtain⟨more,q⟩:=B4.tbls b ps e;exact⟨more,by rw[aW (nD _ _ q)];exact q⟩
    ·exact I4.hok.track pD4.2.1 I4.free k' ⟨hz',its,k,rv,k' D _ hDC pD4.1⟩
    obtain⟨f0,f1,f2,f3,f4,f5⟩:=hf b hb;exact⟨f3,f1,f4,f5⟩
   refine thn (T.item (bF X N' scope (cellsFrom (C+1) scope.names cl) pins s₂ H₂ C fp) rfl rfl rfl hc i _ s3 Z3 H3 (fun _ _=>False) I3 (stat fr3) st3 go) fun r s4 ⟨u,hr,h4⟩=>?_;subst hr;refine thn h4 fun _ s5 ⟨x,H5,I5,r5,y5,st5,fr5⟩=>?_;have I5':=I5.pinned (stat fr5) (T.obj _ _ st5);refine thn (hg _ s5 Z3 H5 x u _ I5' r5 (step x H5 y5)) fun _ s6 ⟨Z6,H6,I6,q6⟩=>?_;refine thn (hi _ s6 Z6 H6 _ I6 q6) fun ok s7 ⟨H7,I7,q7⟩=>?_;have back:∀{Z8:St} {H8:Hp} {s8:Shared},Inv (bF X N' scope (cellsFrom (C+1) scope.names cl) pins s₂ H₂ C fp) ([(D,{ cls:=.type "list",data:=.seq its.toArray k})]++jH fp s5.heap) Z8 H8 s8->tn (i+1) s8.heap/\∀b∈fp,H8 b=none:=fun {Z8 H8 s8} I8 =>
    ⟨T.keep _ _ _ st5 fun b hb o e=>(I8.pin (b,o) (P_ _ (P_ _ (eG hb e)))).1,fun b hb=>by
     obtain⟨o,e,d⟩:=T.obj _ _ st5 b hb
     exact (I8.pin (b,o) (P_ _ (P_ _ (eG hb e)))).2.1⟩
   cases ok with
   |false=>rw[if_neg p_] at q7 ⊢;obtain⟨m',hm,w7⟩:=q7;exact⟨m',hm,i+1,ys,its,k,Z6,H7,I7.unpinned,rv,(back I7).1,(back I7).2,w7,hz⟩
   |true =>
   rw[if_pos rfl] at q7 ⊢;refine thn (he _ s7 Z6 H7 _ I7 q7) fun uy s8 ⟨y,H8,I8,ry,hz8,m',hm,w8⟩=>?_;have pD8:=I8.pin (D,{ cls:=.type "list",data:=.seq its.toArray k}) (P_ _ (Rx _ (b_.mpr rfl)));have hl:=rv.length;refine jz pD8.1 (by omega) fun h' k' e' kk=>?_;have I9:Inv (bF X N' scope (cellsFrom (C+1) scope.names cl) pins s₂ H₂ C fp) [] Z6 H8 { s8 with heap:=h'}:=by
    refine Inv.turned (t':=s8.toks) (it:=D) (I8.pins_of (pins':=[]) (fun p hp=>nomatch hp)) (fun b o hb e=>kk b o hb e) pD8.2.1 pD8.2.2.1 (.inr (by show s₂.heap.objs.size<=D;rw[hD];exact u_ _)) (fun x c e z=>?_) (fun p hp z=>?_)
    ·rcases eN e with q | q
     ·have:=(hcc0.empty x c (mem_of_lookup q)).2;rw[z,hCD] at this;omega
     obtain⟨v,q⟩:=I.cell x c (hcl x c q.2);have:=q.lt;rw[z,hD] at this;exact QR _ this
    rw[Qv] at hp;have:=D_ (I.pin p hp).1;rw[z,hD] at this;exact QR _ this
   refine⟨m',hm,i+1,ys++[y],its++[uy],k',Z6,H8,I9.pins_of fun p hp=>?_,rv.append (.cons ry .nil),?_,(back I8).2,w8,?_⟩
   ·rw[b_.mp hp];exact⟨e',pD8.2.1,pD8.2.2.1,pD8.2.2.2.1,fun v z=>by cases z⟩
   ·refine T.keep _ _ _ (back I8).1 fun b hb o e=>kk b o (fun z=>?_) e;have:=hfl b hb;rw[z,hD] at this;exact QR _ this
   rw[a_,x_];omega
  rw[b_.mp hp];exact⟨hacc,hD,fun v z=>by cases z⟩
 exact codeAny_compStart_list (loop _ rfl) (T.self _ 0 _ _ _ hst₁ (loop _ rfl))
def KH (wi:TI) (g:TG) (tt:TT) (te:TE) (nt:Nat) (cap:List Nat):TE:=fun Z H Q=>wi Z H fun J H1=>sI J g tt te (fun ys H'=>∀p,H' p=none->Q (.ref p) (upd H' p (.lst ys))) (kI nt cap Z) H1
theorem z9 {X:Cx}{N':List Str}{nt:Nat}{cap:List Nat}{scope:Scope}{elt tg iter:Expr}{ifs:List Expr}{pos:Pos}{wi:TI}{g:TG}{tt:TT}{te:TE}(hc:X.calm=true) (S:CompSc X N' nt cap scope) (hi:PI X tg iter wi)
  (hX:∀cl pins s H C fp,PG (bF X N' scope cl pins s H C fp) tg g/\PIf (bF X N' scope cl pins s H C fp) ifs tt/\PE (bF X N' scope cl pins s H C fp) elt te)
  (hs:∀x,foldedSetIterable iter X.env x=pure x:=by intro _;rfl):PE X (.ListComp elt [⟨tg,iter,ifs,0⟩] scope pos) (KH wi g tt te nt cap):=by
 intro pins s Z H Q I h;rw[eval_ListComp];obtain⟨cl,hclos,hcl,hclh⟩:=jL (scope:=scope) (env:=X.env) fun y hy hf=>I.ok.has y.1 (S.free y hy hf);refine wpAny_comprehension_free (use:=none) rfl hs hclos S.kind S.names (thn (hi pins s Z H _ I h) fun v s1 h1=>thn h1 fun itv s2 h2=>?_);obtain⟨it,fp,tn,J,H2,rfl,I2,T,st2,f2,hw⟩:=h2;refine oZ (RR:=fun acc C=>compPost (model X.prog X.w) X.A X.xe none (EP X pins Z Q) acc C) hc S hcl hclh hX I2 T st2 f2 hw fun D C s4 m ys H' hn hD hC hDC nD nC hz hfin k=>?_;refine⟨m,hn,fun h' hs'=>?_⟩;exact⟨.ref D,_,k h' fun b o hb e=>hs'.extBut b o hb e,rfl,hfin D nD⟩
def ww (wi:TI) (g:TG) (tt:TT) (te:TE) (nt:Nat) (cap:List Nat) (i:Nat):TS:=fun D Z H=>wi Z H fun J H1=>sI J g tt te (fun ys H'=>∀p,H' p=none->D.nx (Z.set i (some (.ref p))) (upd H' p (.lst ys))) (kI nt cap Z) H1
theorem Aa {X:Cx}{N':List Str}{nt:Nat}{cap:List Nat}{scope:Scope}{elt tg iter:Expr}{ifs:List Expr}{pos pos' spos:Pos}{wi:TI}{g:TG}{tt:TT}{te:TE}{i:Nat}{x:Str}(hc:X.calm=true) (hN:X.N.Nodup) (hi':X.N[i]?=some x) (hx:Loc X.env.scope x) (S:CompSc X N' nt cap scope) (hi:PI X tg iter wi)
  (hX:∀cl pins s H C fp,PG (bF X N' scope cl pins s H C fp) tg g/\PIf (bF X N' scope cl pins s H C fp) ifs tt/\PE (bF X N' scope cl pins s H C fp) elt te)
  (hsw:swapsWith (.ListComp elt [⟨tg,iter,ifs,0⟩] scope pos) (some (.Name x pos')) spos.line X.env=pure true:=by rfl)
  (hs:∀x,foldedSetIterable iter X.env x=pure x:=by intro _;rfl) (hf:X.fn x=true\/X.env.scope.names.lookup x=some .local:=by first | exact .inl rfl | exact .inr rfl | assumption) :
  PS X (.Assign [.Name x pos'] (.ListComp elt [⟨tg,iter,ifs,0⟩] scope pos) spos) (ww wi g tt te nt cap i):=by
 intro pins s Z H Dn I h;rw[exec_Assign_Name_used _ _ _ _ hsw];obtain⟨cl,hclos,hcl,hclh⟩:=jL (scope:=scope) (env:=X.env) fun y hy hf=>I.ok.has y.1 (S.free y hy hf);refine e_ (wpAny_standAt (e_ ?_));show wpAny _ X.A (do let _ <- comprehension (.ListComp elt [⟨tg,iter,ifs,0⟩] scope pos) scope X.env _ (newList []) false (eval iter X.env) (some (assign (.Name x pos') X.env))) _ _ s;refine e_ (QZ (wpAny_comprehension_free (use:=some (assign (.Name x pos') X.env)) (Q:=fun _ s'=>SP X pins Dn .next s') rfl hs hclos S.kind S.names
  (thn (hi pins s Z H _ I h) fun v s1 h1=>thn h1 fun itv s2 h2=>?_)) (fun _ s' hq=>z_ (z_ hq)) fun _ _ e=>e)
 obtain⟨it,fp,tn,J,H2,rfl,I2,T,st2,f2,hw⟩:=h2;refine oZ (RR:=fun acc C=>compPost (model X.prog X.w) X.A X.xe (some (assign (.Name x pos') X.env)) (fun _ s'=>SP X pins Dn .next s') acc C) hc S hcl hclh hX I2 T st2 f2 hw fun D C s4 m ys H' hn hD hC hDC nD nC hz hfin k=>?_;show wpAny _ X.A (assign (.Name x pos') X.env (.ref D)) _ _ s4;have I4:=k s4.heap fun b o _ e=>e;have nCL:C≠X.env.locals:=fun z=>by have:=I2.lt;rw[<- z] at this;exact absurd this (S5.mpr hC)
 have nCc:∀y c,X.env.cells.lookup y=some c->c≠C:=fun y c e z=>by obtain⟨v,q⟩:=I2.cell y c e;have:=q.lt;rw[z] at this;exact absurd this (S5.mpr hC)
 refine wpAny_assign_Name (lz I4 hN hi' hx (show RelV (.ref D) (.ref D) from rfl) (fun s5 I5 ⟨a,sb,ha⟩=>?_) hf);have nCa:C≠a:=by
  rcases ha with rfl | ha
  ·exact nCL
  exact fun z=>nCc x a ha z.symm
 refine⟨m,hn.sameBut sb nCa,fun h' hs'=>⟨_,_,Inv.turned (t':=s5.toks) (it:=C) I5 (fun b o hb e=>hs'.extBut b o hb e) (by rw[aW hDC];exact nC) nCL (.inr (N_ I2.sz hC)) nCc (fun p hp z=>?_),hfin D nD⟩⟩;have:=D_ (I2.pin p hp).1;rw[z] at this;exact absurd this (S5.mpr hC)
def exP (e C:Addr) (d:Option Addr) (rd:Bool) (h:Heap):Prop:=∃vs sl,h.get? e=some ⟨.ref C,d,.fields vs,sl⟩/\(rd=true->vs[1]?=some .none)
def exO (e C:Addr) (d:Option Addr) (rd:Bool):HO:=.ext (exP e C d rd)
def dxP (dx:Addr) (fs:List (Str × V)) (h:Heap):Prop:=∃mA,h.Ns1 dx mA/\(∀f,RelO (fs.lookup f) (mA f))/\PySem.Within mA (fs.map (·.1))
def dxO (dx:Addr) (fs:List (Str × V)):HO:=.ext (dxP dx fs)
section
variable {P:Program}{w:World}{H:Hp}{h:Heap}{e C dx:Addr}{d:Option Addr}{rd:Bool}{fs:List (Str × V)}
theorem exP.at {h1 h2:Heap}(x:exP e C d rd h1) (k:∀o,h1.get? e=some o->h2.get? e=some o):exP e C d rd h2:=let ⟨vs,sl,a,b⟩:=x;⟨vs,sl,k _ a,b⟩
theorem dxP.at {h1 h2:Heap}(x:dxP dx fs h1) (k:∀o,h1.get? dx=some o->h2.get? dx=some o):dxP dx fs h2:=let ⟨mA,a,b⟩:=x;⟨mA,a.at k,b⟩
theorem exO.ok (x:exP e C d rd h):ObjOk P w H h e (exO e C d rd):=⟨x,let ⟨_,_,a,_⟩:=x;⟨_,a⟩,fun _ _ y k=>y.at k⟩
theorem dxO.ok (x:dxP dx fs h):ObjOk P w H h dx (dxO dx fs):=⟨x,let ⟨_,⟨_,_,_,a,_⟩,_⟩:=x;⟨_,a⟩,fun _ _ y k=>y.at k⟩
theorem exO.of (x:HOk P w H h) (q:H e=some (exO e C d rd)):exP e C d rd h:=(x e _ q).1
theorem dxO.of (x:HOk P w H h) (q:H dx=some (dxO dx fs)):dxP dx fs h:=(x dx _ q).1
end
end L2
set_option maxHeartbeats 1000000
namespace L3
open L2
inductive T where
 |non | bl (b:Bool) | int (i:Int) | str (x:Str) | tup (ts:List T) | ref (a:Addr) | ty (n:String)
mutual
def Rep (K:Frag) (H:Hp):T->V->Prop
 |.non,v=>v=.non
 |.bl b,v=>v=.bl b
 |.int i,v=>v=.int i
 |.str x,v=>v=.str x
 |.tup ts,v=>∃a xs,v=.ref a/\SqT K H a xs/\Reps K H ts xs
 |.ref a,v=>v=.ref a
 |.ty n,v=>v=.ty n
def Reps (K:Frag) (H:Hp):List T->List V->Prop
 |[],xs=>xs=[]
 |t::ts,xs=>∃x r,xs=x::r/\Rep K H t x/\Reps K H ts r
end
def TupLe (K:Frag) (H H':Hp):Prop:=∀a xs,SqT K H a xs->SqT K H' a xs
theorem TupLe.refl {K:Frag}{H:Hp}:TupLe K H H:=fun _ _ h=>h
theorem TupLe.trans {K:Frag}{H H1 H2:Hp}(a:TupLe K H H1) (b:TupLe K H1 H2):TupLe K H H2:=fun c xs h=>b c xs (a c xs h)
mutual
theorem Rep.mono {K:Frag}{H H':Hp}(le:TupLe K H H'):∀{t:T}{v:V},Rep K H t v->Rep K H' t v
 |.non,_,h=>by simp only[Rep] at h ⊢;exact h
 |.bl _,_,h=>by simp only[Rep] at h ⊢;exact h
 |.int _,_,h=>by simp only[Rep] at h ⊢;exact h
 |.str _,_,h=>by simp only[Rep] at h ⊢;exact h
 |.ref _,_,h=>by simp only[Rep] at h ⊢;exact h
 |.ty _,_,h=>by simp only[Rep] at h ⊢;exact h
 |.tup ts,_,h=>by
  simp only[Rep] at h ⊢
  obtain⟨a,xs,e,s,r⟩:=h
  exact⟨a,xs,e,le a xs s,Reps.mono le r⟩
theorem Reps.mono {K:Frag}{H H':Hp}(le:TupLe K H H'):∀{ts:List T}{xs:List V},Reps K H ts xs->Reps K H' ts xs
 |[],_,h=>by simp only[Reps] at h ⊢;exact h
 |t::ts,_,h=>by
  simp only[Reps] at h ⊢
  obtain⟨x,r,e,a,b⟩:=h
  exact⟨x,r,e,Rep.mono le a,Reps.mono le b⟩
end
section
variable {K:Frag}{H:Hp}
theorem Reps.nil:Reps K H [] []:=by simp only[Reps]
theorem Reps.cons {t:T}{v:V}{ts:List T}{vs:List V}(a:Rep K H t v) (b:Reps K H ts vs):Reps K H (t::ts) (v::vs):=by simp only[Reps];exact⟨v,vs,rfl,a,b⟩
theorem Reps.inv {t:T}{ts:List T}{vs:List V}(h:Reps K H (t::ts) vs):∃v r,vs=v::r/\Rep K H t v/\Reps K H ts r:=by simp only[Reps] at h;exact h
theorem Reps.inv0 {vs:List V}(h:Reps K H [] vs):vs=[]:=by simp only[Reps] at h;exact h
theorem Reps.length:∀{ts:List T}{vs:List V},Reps K H ts vs->ts.length=vs.length
 |[],_,h=>by rw[h.inv0];rfl
 |t::ts,_,h=>by obtain⟨v,r,rfl,_,b⟩:=h.inv;simp [Reps.length b]
theorem Reps.get:∀{ts:List T}{vs:List V}{i:Nat}{t:T},Reps K H ts vs->ts[i]?=some t->∃v,vs[i]?=some v/\Rep K H t v
 |[],_,_,_,_,e=>by simp at e
 |a::ts,_,0,t,h,e=>by obtain⟨v,r,rfl,q,_⟩:=h.inv;simp at e;subst e;exact⟨v,rfl,q⟩
 |a::ts,_,i+1,t,h,e=>by obtain⟨v,r,rfl,_,b⟩:=h.inv;simpa using Reps.get b (by simpa using e)
theorem Reps.get':∀{ts:List T}{vs:List V}{i:Nat}{v:V},Reps K H ts vs->vs[i]?=some v->∃t,ts[i]?=some t/\Rep K H t v
 |[],_,_,_,h,e=>by rw[h.inv0] at e;simp at e
 |a::ts,_,0,v,h,e=>by obtain⟨x,r,rfl,q,_⟩:=h.inv;simp at e;subst e;exact⟨a,rfl,q⟩
 |a::ts,_,i+1,v,h,e=>by obtain⟨x,r,rfl,_,b⟩:=h.inv;simpa using Reps.get' b (by simpa using e)
theorem Reps.append:∀{ts us:List T}{xs ys:List V},Reps K H ts xs->Reps K H us ys->Reps K H (ts++us) (xs++ys)
 |[],_,_,_,h,h'=>by rw[h.inv0];exact h'
 |t::ts,_,_,_,h,h'=>by obtain⟨v,r,rfl,a,b⟩:=h.inv;exact .cons a (Reps.append b h')
theorem Reps.take:∀{ts:List T}{xs:List V}(n:Nat),Reps K H ts xs->Reps K H (ts.take n) (xs.take n)
 |[],_,n,h=>by rw[h.inv0];simp only[List.take_nil];exact .nil
 |t::ts,_,0,h=>.nil
 |t::ts,_,n+1,h=>by obtain⟨v,r,rfl,a,b⟩:=h.inv;exact .cons a (Reps.take n b)
theorem Reps.drop:∀{ts:List T}{xs:List V}(n:Nat),Reps K H ts xs->Reps K H (ts.drop n) (xs.drop n)
 |[],_,n,h=>by rw[h.inv0];simp only[List.drop_nil];exact .nil
 |t::ts,_,0,h=>h
 |t::ts,_,n+1,h=>by obtain⟨v,r,rfl,a,b⟩:=h.inv;exact Reps.drop n b
theorem Reps.set:∀{ts:List T}{xs:List V}{t:T}{v:V}(n:Nat),Reps K H ts xs->Rep K H t v->Reps K H (ts.set n t) (xs.set n v)
 |[],_,_,_,n,h,r=>by rw[h.inv0];exact .nil
 |t::ts,_,_,_,0,h,q=>by obtain⟨v,r,rfl,a,b⟩:=h.inv;exact .cons q b
 |t::ts,_,_,_,n+1,h,q=>by obtain⟨v,r,rfl,a,b⟩:=h.inv;exact .cons a (Reps.set n b q)
theorem Reps.reverse {ts:List T}{xs:List V}(h:Reps K H ts xs):Reps K H ts.reverse xs.reverse:=by
 induction ts generalizing xs with
 |nil=>rw[h.inv0];exact .nil
 |cons t ts ih=>obtain⟨v,r,rfl,a,b⟩:=h.inv;simp only[List.reverse_cons];exact (ih b).append (.cons a .nil)
theorem Reps.eraseIdx:∀{ts:List T}{xs:List V}(n:Nat),Reps K H ts xs->Reps K H (ts.eraseIdx n) (xs.eraseIdx n)
 |[],_,n,h=>by rw[h.inv0];exact .nil
 |t::ts,_,0,h=>by obtain⟨v,r,rfl,a,b⟩:=h.inv;exact b
 |t::ts,_,n+1,h=>by obtain⟨v,r,rfl,a,b⟩:=h.inv;exact .cons a (Reps.eraseIdx n b)
theorem Rep.non {v:V}(h:Rep K H .non v):v=.non:=by simp only[Rep] at h;exact h
theorem Rep.bl {b:Bool}{v:V}(h:Rep K H (.bl b) v):v=.bl b:=by simp only[Rep] at h;exact h
theorem Rep.int {i:Int}{v:V}(h:Rep K H (.int i) v):v=.int i:=by simp only[Rep] at h;exact h
theorem Rep.str {x:Str}{v:V}(h:Rep K H (.str x) v):v=.str x:=by simp only[Rep] at h;exact h
theorem Rep.ref {a:Addr}{v:V}(h:Rep K H (.ref a) v):v=.ref a:=by simp only[Rep] at h;exact h
theorem Rep.ty {n:String}{v:V}(h:Rep K H (.ty n) v):v=.ty n:=by simp only[Rep] at h;exact h
theorem Rep.tup {ts:List T}{v:V}(h:Rep K H (.tup ts) v):∃a xs,v=.ref a/\SqT K H a xs/\Reps K H ts xs:=by simp only[Rep] at h;exact h
theorem Rep.ofNon:Rep K H .non .non:=by simp only[Rep]
theorem Rep.ofBl {b:Bool}:Rep K H (.bl b) (.bl b):=by simp only[Rep]
theorem Rep.ofInt {i:Int}:Rep K H (.int i) (.int i):=by simp only[Rep]
theorem Rep.ofStr {x:Str}:Rep K H (.str x) (.str x):=by simp only[Rep]
theorem Rep.ofRef {a:Addr}:Rep K H (.ref a) (.ref a):=by simp only[Rep]
theorem Rep.ofTy {n:String}:Rep K H (.ty n) (.ty n):=by simp only[Rep]
theorem Rep.ofTup {ts:List T}{a:Addr}{xs:List V}(h:SqT K H a xs) (r:Reps K H ts xs):Rep K H (.tup ts) (.ref a):=by simp only[Rep];exact⟨a,xs,rfl,h,r⟩
end
inductive O3 where
 |lst (ts:List T) | rol (ts:List T) | dct (kvs:List (Str × T)) | dcp (kvs:List (List Key × T))
 |exc (C dx:Addr) | xdt (fs:List (Str × T))
 |dci (kvs:List (Int × T)) | dif (o:Obj) (kvs:List (Int × T)) | ins (C:Addr) (fs:List (Str × T))
abbrev Hp3:=Addr->Option O3
def up3 (H:Hp3) (a:Addr) (o:O3):Hp3:=fun b=>if b=a then some o else H b
theorem aC {H:Hp3}{a:Addr}{o:O3}:up3 H a o a=some o:=by unfold up3;rw[if_pos rfl]
theorem aF {H:Hp3}{a b:Addr}{o:O3}(h:b≠a):up3 H a o b=H b:=by unfold up3;rw[if_neg h]
theorem Ab {H:Hp3}{a:Addr}{o u:O3}:up3 (up3 H a o) a u=up3 H a u:=by funext b;unfold up3;split <;> rfl
def RepD (K:Frag) (H:Hp):List (Str × T)->List (Key × V)->Prop:=Paired fun (p:Str × T) (q:Key × V)=>q.1=Sum.inr p.1/\Rep K H p.2 q.2
def RepP (K:Frag) (H:Hp):List (List Key × T)->List (List Key × V)->Prop:=Paired fun (p:List Key × T) (q:List Key × V)=>q.1=p.1/\Rep K H p.2 q.2
def RepF (K:Frag) (H:Hp):List (Str × T)->List (Str × V)->Prop:=Paired fun (p:Str × T) (q:Str × V)=>q.1=p.1/\Rep K H p.2 q.2
def RepI (K:Frag) (H:Hp):List (Int × T)->List (Key × V)->Prop:=Paired fun (p:Int × T) (q:Key × V)=>q.1=Sum.inl p.1/\Rep K H p.2 q.2
def RepO (K:Frag) (H:Hp) (a:Addr):O3->Prop
 |.lst ts=>∃xs,H a=some (.lst xs)/\Reps K H ts xs
 |.rol ts=>∃xs,Rd H a (.lst xs)/\Reps K H ts xs
 |.dct kvs=>∃vs,H a=some (.dK vs)/\RepD K H kvs vs
 |.dcp kvs=>∃vs,H a=some (.dT vs)/\RepP K H kvs vs
 |.exc C dx=>H a=some (exO a C (some dx) false)
 |.xdt fs=>∃vs,H a=some (dxO a vs)/\RepF K H fs vs
 |.dci kvs=>∃vs,H a=some (.dK vs)/\RepI K H kvs vs
 |.dif o kvs=>∃vs,H a=some (.frz o (.dK vs))/\RepI K H kvs vs
 |.ins C fs=>∃dx vs,H a=some (.ins C dx vs)/\RepF K H fs vs
def SimH (K:Frag) (H3:Hp3) (H:Hp):Prop:=∀a o,H3 a=some o->RepO K H a o
abbrev St3:=List (Option T)
structure SimS (K:Frag) (H:Hp) (Z3:St3) (Z:L2.St):Prop where
 len:Z3.length=Z.length
 at':∀(i:Nat) (t:T),Z3[i]?=some (some t)->∃v,Z[i]?=some (some v)/\Rep K H t v
section
variable {K:Frag}{H H':Hp}{H3:Hp3}{Z3:St3}{Z:L2.St}
theorem SimS.mono (s:SimS K H Z3 Z) (le:TupLe K H H'):SimS K H' Z3 Z:=⟨s.len,fun i t e=>let ⟨v,e',r⟩:=s.at' i t e;⟨v,e',r.mono le⟩⟩
theorem SimS.set (s:SimS K H Z3 Z) {i:Nat}{t:T}{v:V}(r:Rep K H t v):SimS K H (Z3.set i (some t)) (Z.set i (some v)):=by
 refine⟨by simp [s.len],fun j u e=>?_⟩;by_cases hj:i=j
 ·subst hj;by_cases hl:i<Z3.length
  ·rw[Rn hl] at e;have e':t=u:=Qu (Qu e);subst e';exact⟨v,by rw[Rn (by rw[<- s.len];exact hl)],r⟩
  rw[Qz (by simpa using hl)] at e;cases e
 rw[Ry hj] at e;rw[Ry hj];exact s.at' j u e
theorem RepD.mono {kvs:List (Str × T)}{vs:List (Key × V)}(h:RepD K H kvs vs) (le:TupLe K H H'):RepD K H' kvs vs:=Paired.mapP h fun _ _ ⟨a,b⟩=>⟨a,b.mono le⟩
theorem RepF.mono {kvs:List (Str × T)}{vs:List (Str × V)}(h:RepF K H kvs vs) (le:TupLe K H H'):RepF K H' kvs vs:=Paired.mapP h fun _ _ ⟨a,b⟩=>⟨a,b.mono le⟩
theorem RepI.mono {kvs:List (Int × T)}{vs:List (Key × V)}(h:RepI K H kvs vs) (le:TupLe K H H'):RepI K H' kvs vs:=Paired.mapP h fun _ _ ⟨a,b⟩=>⟨a,b.mono le⟩
theorem RepP.mono {kvs:List (List Key × T)}{vs:List (List Key × V)}(h:RepP K H kvs vs) (le:TupLe K H H'):RepP K H' kvs vs:=Paired.mapP h fun _ _ ⟨a,b⟩=>⟨a,b.mono le⟩
theorem aY {a b:Addr}{o:O3}(h:H3 a=some o) (h':H3 b=none):a≠b:=by
 intro e;subst e;rw[h] at h';cases h'
theorem aR {p:Addr}{o:HO}(hp:H p=none):TupLe K H (upd H p o):=fun a xs h=>by
 rcases h with (h | ⟨ob,h⟩) | h
 ·exact .inl (.inl (by rw[aW (bN h hp)];exact h))
 ·exact .inl (.inr ⟨ob,by rw[aW (bN h hp)];exact h⟩)
 exact .inr h
theorem cB {p:Addr}{o:HO}(hp:Mut (H p)):TupLe K H (upd H p o):=fun a xs h=>by
 have key:∀u,H a=some u->¬Mut (some u)->a≠p:=fun u e nm z=>by subst z;rw[e] at hp;exact nm hp
 rcases h with (h | ⟨ob,h⟩) | h
 ·exact .inl (.inl (by rw[aW (key _ h fun z=>z)];exact h))
 ·exact .inl (.inr ⟨ob,by rw[aW (key _ h fun z=>z)];exact h⟩)
 exact .inr h
theorem RepO.stay {a:Addr}{o:O3}(h:RepO K H a o) (le:TupLe K H H') (keep:∀u,H a=some u->H' a=some u):RepO K H' a o:=by
 cases o with
 |lst ts=>obtain⟨xs,e,r⟩:=h;exact⟨xs,keep _ e,r.mono le⟩
 |rol ts =>
  obtain⟨xs,e,r⟩:=h;refine⟨xs,?_,r.mono le⟩;rcases e with e | ⟨ob,e⟩
  ·exact .inl (keep _ e)
  exact .inr ⟨ob,keep _ e⟩
 |dct kvs=>obtain⟨vs,e,r⟩:=h;exact⟨vs,keep _ e,r.mono le⟩
 |dcp kvs=>obtain⟨vs,e,r⟩:=h;exact⟨vs,keep _ e,r.mono le⟩
 |exc C dx=>exact keep _ h
 |xdt fs=>obtain⟨vs,e,r⟩:=h;exact⟨vs,keep _ e,r.mono le⟩
 |dci kvs=>obtain⟨vs,e,r⟩:=h;exact⟨vs,keep _ e,r.mono le⟩
 |dif o kvs=>obtain⟨vs,e,r⟩:=h;exact⟨vs,keep _ e,r.mono le⟩
 |ins C fs=>obtain⟨dx,vs,e,r⟩:=h;exact⟨dx,vs,keep _ e,r.mono le⟩
theorem SimH.new {p:Addr}{o:HO}(s:SimH K H3 H) (hp:H p=none):SimH K H3 (upd H p o):=fun a u e =>
 (s a u e).stay (aR hp) fun w q=>by rw[aW (bN q hp)];exact q
theorem SimH.fresh {p:Addr}(s:SimH K H3 H) (hp:H p=none):H3 p=none:=by
 cases e:H3 p with
 |none=>rfl
 |some o =>
  have q:=s p o e
  cases o with
  |lst ts=>obtain⟨xs,z,_⟩:=q;rw[hp] at z;cases z
  |dct ts=>obtain⟨xs,z,_⟩:=q;rw[hp] at z;cases z
  |dcp ts=>obtain⟨xs,z,_⟩:=q;rw[hp] at z;cases z
  |exc C dx=>have z:H p=_:=q;rw[hp] at z;cases z
  |xdt ts=>obtain⟨xs,z,_⟩:=q;rw[hp] at z;cases z
  |dci ts=>obtain⟨xs,z,_⟩:=q;rw[hp] at z;cases z
  |dif o ts=>obtain⟨xs,z,_⟩:=q;rw[hp] at z;cases z
  |ins C ts=>obtain⟨dx,xs,z,_⟩:=q;rw[hp] at z;cases z
  |rol ts =>
   obtain⟨xs,z,_⟩:=q
   rcases z with z | ⟨ob,z⟩
   ·
    rw[hp] at z;cases z
   ·
    rw[hp] at z;cases z
end
abbrev VK3:=T->Hp3->Prop
abbrev TE3:=St3->Hp3->VK3->Prop
abbrev TT3:=St3->Hp3->(Bool->Hp3->Prop)->Prop
abbrev TA3:=St3->Hp3->(List T->Hp3->Prop)->Prop
structure Ends3 where
 nx:St3->Hp3->Prop
 rt:VK3
 bk:St3->Hp3->Prop:=fun _ _=>False
 ct:St3->Hp3->Prop:=fun _ _=>False
abbrev TS3:=Ends3->St3->Hp3->Prop
abbrev TG3:=T->St3->Hp3->(St3->Hp3->Prop)->Prop
abbrev kJ:=List T->St3->Hp3->(St3->Hp3->Prop)->Prop
abbrev R3:=T->T->Hp3->VK3->Prop
section
variable (K:Frag)
def KV3 (H:Hp) (Q3:VK3) (Q:VK):Prop:=∀v H' t H3',TupLe K H H'->SimH K H3' H'->Rep K H' t v->Q3 t H3'->Q v H'
def KS3 (H:Hp) (N3:St3->Hp3->Prop) (N:L2.St->Hp->Prop):Prop:=∀Z' H' Z3' H3',TupLe K H H'->SimS K H' Z3' Z'->SimH K H3' H'->N3 Z3' H3'->N Z' H'
def lft (t3:TE3):TE:=fun Z H Q=>∃Z3 H3 Q3,SimS K H Z3 Z/\SimH K H3 H/\t3 Z3 H3 Q3/\KV3 K H Q3 Q
def uY (t3:TT3):TT:=fun Z H Q=>∃Z3 H3 Q3,SimS K H Z3 Z/\SimH K H3 H/\t3 Z3 H3 Q3/\∀b H' H3',TupLe K H H'->SimH K H3' H'->Q3 b H3'->Q b H'
def Qa (t3:TA3):TA:=fun Z H Q=>∃Z3 H3 Q3,SimS K H Z3 Z/\SimH K H3 H/\t3 Z3 H3 Q3/\∀vs H' ts H3',TupLe K H H'->SimH K H3' H'->Reps K H' ts vs->Q3 ts H3'->Q vs H'
def KJ (t3:TS3):TS:=fun D Z H=>∃Z3 H3 D3,SimS K H Z3 Z/\SimH K H3 H/\t3 D3 Z3 H3/\KS3 K H D3.nx D.nx/\KV3 K H D3.rt D.rt/\KS3 K H D3.bk D.bk/\KS3 K H D3.ct D.ct
def Ac (t3:TG3):TG:=fun v Z H Q=>∃t Z3 H3 Q3,Rep K H t v/\SimS K H Z3 Z/\SimH K H3 H/\t3 t Z3 H3 Q3/\KS3 K H Q3 Q
def KN (t3:kJ):TGs:=fun vs Z H Q=>∃ts Z3 H3 Q3,Reps K H ts vs/\SimS K H Z3 Z/\SimH K H3 H/\t3 ts Z3 H3 Q3/\KS3 K H Q3 Q
def GC (r3:R3):R2:=fun x y H Q=>∃tx ty H3 Q3,Rep K H tx x/\Rep K H ty y/\SimH K H3 H/\r3 tx ty H3 Q3/\KV3 K H Q3 Q
def Qc (r3:List T->Hp3->VK3->Prop):List V->Hp->VK->Prop:=fun xs H Q=>∃ts H3 Q3,Reps K H ts xs/\SimH K H3 H/\r3 ts H3 Q3/\KV3 K H Q3 Q
def Qd (r3:T->List T->Hp3->VK3->Prop):V->List V->Hp->VK->Prop:=fun x xs H Q=>∃tx ts H3 Q3,Rep K H tx x/\Reps K H ts xs/\SimH K H3 H/\r3 tx ts H3 Q3/\KV3 K H Q3 Q
end
section
variable {K:Frag}{H H1:Hp}
theorem KV3.at {Q3:VK3}{Q:VK}(k:KV3 K H Q3 Q) (le:TupLe K H H1):KV3 K H1 Q3 Q:=fun v H' t H3' l=>k v H' t H3' (le.trans l)
theorem KS3.at {N3:St3->Hp3->Prop}{N:L2.St->Hp->Prop}(k:KS3 K H N3 N) (le:TupLe K H H1):KS3 K H1 N3 N:=fun a b c d l=>k a b c d (le.trans l)
end
def PE3 (X:Cx) (e:Expr) (t:TE3):Prop:=PE X e (lft X.K t)
def PT3 (X:Cx) (e:Expr) (t:TT3):Prop:=PT X e (uY X.K t)
def PW3 (X:Cx) (e:Expr) (t:TT3):Prop:=PW X e (uY X.K t)
def PA3 (X:Cx) (es:List Expr) (t:TA3):Prop:=PA X es (Qa X.K t)
def PS3 (X:Cx) (st:Stmt) (t:TS3):Prop:=PS X st (KJ X.K t)
def mJ (X:Cx) (st:List Stmt) (t:TS3):Prop:=PSs X st (KJ X.K t)
def PG3 (X:Cx) (e:Expr) (t:TG3):Prop:=PG X e (Ac X.K t)
def Ad (X:Cx) (es:List Expr) (t:kJ):Prop:=PGs X es (KN X.K t)
def dU (X:Cx) (f:Value->Value->Sem Value) (r:R3):Prop:=OpR X f (GC X.K r)
def dW (X:Cx) (f:Value) (r:List T->Hp3->VK3->Prop):Prop:=CallR X f (Qc X.K r)
def KQ (X:Cx) (r:R3):Prop:=IxR X (GC X.K r)
def o4 (X:Cx) (id:String) (r:T->List T->Hp3->VK3->Prop):Prop:=MtR X id (Qd X.K r)
theorem PE.imp {X:Cx}{e:Expr}{t t':TE}(h:PE X e t) (w:∀Z H Q,t' Z H Q->t Z H Q):PE X e t':=fun pins s Z H Q I q=>h pins s Z H Q I (w Z H Q q)
theorem PT.imp {X:Cx}{e:Expr}{t t':TT}(h:PT X e t) (w:∀Z H Q,t' Z H Q->t Z H Q):PT X e t':=fun pins s Z H Q I q=>h pins s Z H Q I (w Z H Q q)
theorem PW.imp {X:Cx}{e:Expr}{t t':TT}(h:PW X e t) (w:∀Z H Q,t' Z H Q->t Z H Q):PW X e t':=fun wh pins s Z H Q I q=>h wh pins s Z H Q I (w Z H Q q)
theorem PA.imp {X:Cx}{es:List Expr}{t t':TA}(h:PA X es t) (w:∀Z H Q,t' Z H Q->t Z H Q):PA X es t':=fun pos pins s Z H Q I q=>h pos pins s Z H Q I (w Z H Q q)
theorem PS.imp {X:Cx}{e:Stmt}{t t':TS}(h:PS X e t) (w:∀D Z H,t' D Z H->t D Z H):PS X e t':=fun pins s Z H D I q=>h pins s Z H D I (w D Z H q)
theorem PSs.imp {X:Cx}{e:List Stmt}{t t':TS}(h:PSs X e t) (w:∀D Z H,t' D Z H->t D Z H):PSs X e t':=fun pins s Z H D I q=>h pins s Z H D I (w D Z H q)
theorem PG.imp {X:Cx}{e:Expr}{t t':TG}(h:PG X e t) (w:∀v Z H Q,t' v Z H Q->t v Z H Q):PG X e t':=fun pins s Z H v u Q I r q=>h pins s Z H v u Q I r (w v Z H Q q)
theorem PGs.imp {X:Cx}{e:List Expr}{t t':TGs}(h:PGs X e t) (w:∀v Z H Q,t' v Z H Q->t v Z H Q):PGs X e t':=fun pins s Z H v u Q I r q=>h pins s Z H v u Q I r (w v Z H Q q)
theorem OpR.imp {X:Cx}{f:Value->Value->Sem Value}{t t':R2}(h:OpR X f t) (w:∀x y H Q,t' x y H Q->t x y H Q):OpR X f t':=fun pins s Z H x y v u Q I r1 r2 q=>h pins s Z H x y v u Q I r1 r2 (w x y H Q q)
theorem UnR.imp {X:Cx}{f:Value->Sem Value}{t t':V->Hp->VK->Prop}(h:UnR X f t) (w:∀x H Q,t' x H Q->t x H Q):UnR X f t':=fun pins s Z H x v Q I r1 q=>h pins s Z H x v Q I r1 (w x H Q q)
theorem CallR.imp {X:Cx}{f:Value}{t t':List V->Hp->VK->Prop}(h:CallR X f t) (w:∀x H Q,t' x H Q->t x H Q):CallR X f t':=fun pins s Z H x v Q I r1 q=>h pins s Z H x v Q I r1 (w x H Q q)
theorem IxR.imp {X:Cx}{t t':R2}(h:IxR X t) (w:∀x y H Q,t' x y H Q->t x y H Q):IxR X t':=fun a b pins s Z H x y v u Q I r1 r2 q=>h a b pins s Z H x y v u Q I r1 r2 (w x y H Q q)
theorem MtR.imp {X:Cx}{id:String}{t t':V->List V->Hp->VK->Prop}(h:MtR X id t) (w:∀x xs H Q,t' x xs H Q->t x xs H Q):MtR X id t':=fun pins s Z H x xs v us Q I r1 r2 q=>h pins s Z H x xs v us Q I r1 r2 (w x xs H Q q)
section
variable {X:Cx}{pos:Pos}
def wy (i:Nat):TE3:=fun Z H Q=>match Z[i]? with
 |some (some t)=>Q t H
 |_=>False
def tC3 (t:T):TE3:=fun _ H Q=>Q t H
theorem v3 (i:Nat) {x:Str}{pos:Pos}(hN:X.N[i]?=some x:=by rfl) (hv:Vis X.env.scope x:=by first | exact Or.inl rfl | exact Or.inr (Or.inl rfl) | exact Or.inr (Or.inr rfl)) (hd:(x==("__debug__":Str))=false:=by decide)
  (hcd:(x==("__classdict__":Str))=false:=by decide):PE3 X (.Name x pos) (wy i):=by
 refine PE.imp (pv i hN hv hd hcd) ?_;rintro Z H Q ⟨Z3,H3,Q3,ss,sh,h,k⟩;unfold wy at h;split at h
 ·rename_i t e;obtain⟨v,e',r⟩:=ss.at' i t e;exact⟨v,e',k v H t H3 .refl sh r h⟩
 exact h.elim
theorem au {i:Int}{j:Nat}:PE3 X (.Constant (.int i) j pos) (tC3 (.int i)):=by
 refine PE.imp Fb ?_;rintro Z H Q ⟨Z3,H3,Q3,ss,sh,h,k⟩;exact k _ _ _ H3 .refl sh .ofInt h
theorem gY {b:Bool}{j:Nat}:PE3 X (.Constant (.bool b) j pos) (tC3 (.bl b)):=by
 refine PE.imp JR ?_;rintro Z H Q ⟨Z3,H3,Q3,ss,sh,h,k⟩;exact k _ _ _ H3 .refl sh .ofBl h
theorem cL {j:Nat}:PE3 X (.Constant .none j pos) (tC3 .non):=by
 refine PE.imp Fd ?_;rintro Z H Q ⟨Z3,H3,Q3,ss,sh,h,k⟩;exact k _ _ _ H3 .refl sh .ofNon h
theorem bB {x:Str}{j:Nat}:PE3 X (.Constant (.str x) j pos) (tC3 (.str x)):=by
 refine PE.imp Fe ?_;rintro Z H Q ⟨Z3,H3,Q3,ss,sh,h,k⟩;exact k _ _ _ H3 .refl sh .ofStr h
theorem g3 {x:Str}{t:T}{v:V}{u:Value}(hg:Gl X x) (hm:X.mg x=some u) (r:RelV v u) (rt:∀H,Rep X.K H t v) (hd:(x==("__debug__":Str))=false:=by decide):PE3 X (.Name x pos) (tC3 t):=by
 refine PE.imp (zy hg hm r hd) ?_;rintro Z H Q ⟨Z3,H3,Q3,ss,sh,h,k⟩;exact k _ _ _ H3 .refl sh (rt H) h
variable {a b c:Expr}{ta tb tc:TE3}
def qK (r:R3) (ta tb:TE3):TE3:=fun Z H Q=>ta Z H fun x H1=>tb Z H1 fun y H2=>r x y H2 Q
theorem gH {r:R3}{Z:L2.St}{H:Hp}{Q:VK}(h:lft X.K (qK r ta tb) Z H Q):tOp (GC X.K r) (lft X.K ta) (lft X.K tb) Z H Q:=by
 obtain⟨Z3,H3,Q3,ss,sh,h,k⟩:=h;exact⟨Z3,H3,_,ss,sh,h,fun x H1 tx H31 le1 sh1 rx q1=>⟨Z3,H31,_,ss.mono le1,sh1,q1,fun y H2 ty H32 le2 sh2 ry q2=>⟨tx,ty,H32,Q3,rx.mono le2,ry,sh2,q2,k.at (le1.trans le2)⟩⟩⟩
theorem aO {op:Operator}{r:R3}(ho:dU X (binaryOp op) r) (ha:PE3 X a ta) (hb:PE3 X b tb):PE3 X (.BinOp a op b pos) (qK r ta tb):=PE.imp (J6 ho ha hb) fun _ _ _ h=>gH h
theorem dz {op:CmpOp}{r:R3}(ho:dU X (compareOp op) r) (ha:PE3 X a ta) (hb:PE3 X b tb) (hm:behindInMarks op b=false:=by first | exact vR _ | rfl):PE3 X (.Compare a [op] [b] pos) (qK r ta tb):=PE.imp (zL ho ha hb hm) fun _ _ _ h=>gH h
theorem aM {r:R3}(hr:KQ X r) (ha:PE3 X a ta) (hb:PE3 X b tb) (hs:sG b:=by exact fun _ _=>rfl):PE3 X (.Subscript a b pos) (qK r ta tb):=PE.imp (Kp hr ha hb hs) fun _ _ _ h=>gH h
def jM (t:TE3):TT3:=fun Z H Q=>t Z H fun x H'=>match x with
 |.bl k=>Q k H'
 |_=>False
theorem aP {op:CmpOp}{r:R3}(ho:dU X (compareOp op) r) (ha:PE3 X a ta) (hb:PE3 X b tb) (hm:behindInMarks op b=false:=by first | exact vR _ | rfl):PT3 X (.Compare a [op] [b] pos) (jM (qK r ta tb)):=by
 refine PT.imp (zM ho ha hb hm) ?_;rintro Z H Q ⟨Z3,H3,Q3,ss,sh,h,k⟩;refine gH (X:=X) ⟨Z3,H3,_,ss,sh,h,fun v H' t H3' le sh' r q=>?_⟩;cases t with
 |bl b=>exact⟨b,r.bl,k b H' H3' le sh' q⟩
 |_=>exact q.elim
def Ae (r r':R3) (ta tb tc:TE3):TE3:=fun Z H Q=>ta Z H fun x H1=>tb Z H1 fun y H2=>r x y H2 fun z H3=>match z with
 |.bl k=>if k=true then tc Z H3 fun w H4=>r' y w H4 Q else Q (.bl false) H3
 |_=>False
variable {tA tB':TT3}{rest:List Expr}
theorem cT (h:PE3 X a ta) (he:∀whole,isTrue a X.env whole=(do let v <- whole;standAt a.pos;holding [v] (truthy v)):=by intro _;rfl):PT3 X a (jM ta):=by
 refine PT.imp (Ff h he) ?_;rintro Z H Q ⟨Z3,H3,Q3,ss,sh,h,k⟩;refine⟨Z3,H3,_,ss,sh,h,fun v H' t H3' le sh' r q=>?_⟩;cases t with
 |bl b=>exact⟨b,r.bl,k b H' H3' le sh' q⟩
 |_=>exact q.elim
def De (t u:TT3):TT3:=fun Z H Q=>t Z H fun c H1=>if c=true then u Z H1 Q else Q false H1
def KR (t u:TT3):TT3:=fun Z H Q=>t Z H fun c H1=>if c=true then Q true H1 else u Z H1 Q
def Df (t:TT3):TT3:=fun Z H Q=>t Z H fun c H1=>Q (!c) H1
theorem PW3.pt (h:PW3 X a tA):PT3 X a tA:=PW.pt h
theorem cZ (ha:PT3 X a tA):PW3 X (.BoolOp .And [a] pos) tA:=zA ha
theorem mK (ha:PT3 X a tA):PW3 X (.BoolOp .Or [a] pos) tA:=Fg ha
theorem cU (ha:PT3 X a tA) (hb:PW3 X (.BoolOp .And (b::rest) pos) tB'):PW3 X (.BoolOp .And (a::b::rest) pos) (De tA tB'):=by
 refine PW.imp (Fi ha hb) ?_;rintro Z H Q ⟨Z3,H3,Q3,ss,sh,h,k⟩;refine⟨Z3,H3,_,ss,sh,h,fun b H' H3' le sh' q=>?_⟩;cases b with
 |true=>exact⟨Z3,H3',_,ss.mono le,sh',q,fun b H'' H3'' le' sh'' q'=>k b H'' H3'' (le.trans le') sh'' q'⟩
 |false=>exact k false H' H3' le sh' q
theorem sJ (ha:PT3 X a tA) (hb:PW3 X (.BoolOp .Or (b::rest) pos) tB'):PW3 X (.BoolOp .Or (a::b::rest) pos) (KR tA tB'):=by
 refine PW.imp (JS ha hb) ?_;rintro Z H Q ⟨Z3,H3,Q3,ss,sh,h,k⟩;refine⟨Z3,H3,_,ss,sh,h,fun b H' H3' le sh' q=>?_⟩;cases b with
 |true=>exact k true H' H3' le sh' q
 |false=>exact⟨Z3,H3',_,ss.mono le,sh',q,fun b H'' H3'' le' sh'' q'=>k b H'' H3'' (le.trans le') sh'' q'⟩
theorem fY (ha:PT3 X a tA):PT3 X (.UnaryOp .Not a pos) (Df tA):=by
 refine PT.imp (Fj ha) ?_;rintro Z H Q ⟨Z3,H3,Q3,ss,sh,h,k⟩;exact⟨Z3,H3,_,ss,sh,h,fun b H' H3' le sh' q=>k _ H' H3' le sh' q⟩
def wz (ta tb:TE3):TE3:=fun Z H Q=>ta Z H fun x H1=>match x with
 |.bl c=>if c=true then tb Z H1 Q else Q (.bl false) H1
 |_=>False
def Dg (ta tb:TE3):TE3:=fun Z H Q=>ta Z H fun x H1=>match x with
 |.bl c=>if c=true then Q (.bl true) H1 else tb Z H1 Q
 |_=>False
def wA (ta:TE3):TE3:=fun Z H Q=>ta Z H fun x H1=>match x with
 |.bl c=>Q (.bl (!c)) H1
 |_=>False
theorem iz {op:PySem.BoolOp}{t:TE3}(h:PE3 X a t):PE3 X (.BoolOp op [a] pos) t:=Fl h
theorem mL (ha:PE3 X a ta) (hb:PE3 X (.BoolOp .And (b::rest) pos) tb):PE3 X (.BoolOp .And (a::b::rest) pos) (wz ta tb):=by
 refine PE.imp (Fo ha hb) ?_;rintro Z H Q ⟨Z3,H3,Q3,ss,sh,h,k⟩;refine⟨Z3,H3,_,ss,sh,h,fun v H' t H3' le sh' r q=>?_⟩;cases t with
 |bl b =>
  refine⟨b,r.bl,?_⟩;cases b with
  |true=>exact⟨Z3,H3',_,ss.mono le,sh',q,k.at le⟩
  |false=>exact k _ H' _ H3' le sh' .ofBl q
 |_=>exact q.elim
theorem Dh (ha:PE3 X a ta) (hb:PE3 X (.BoolOp .Or (b::rest) pos) tb):PE3 X (.BoolOp .Or (a::b::rest) pos) (Dg ta tb):=by
 refine PE.imp (JW ha hb) ?_;rintro Z H Q ⟨Z3,H3,Q3,ss,sh,h,k⟩;refine⟨Z3,H3,_,ss,sh,h,fun v H' t H3' le sh' r q=>?_⟩;cases t with
 |bl b =>
  refine⟨b,r.bl,?_⟩;cases b with
  |true=>exact k _ H' _ H3' le sh' .ofBl q
  |false=>exact⟨Z3,H3',_,ss.mono le,sh',q,k.at le⟩
 |_=>exact q.elim
theorem GD (ha:PE3 X a ta):PE3 X (.UnaryOp .Not a pos) (wA ta):=by
 refine PE.imp (Fp ha) ?_;rintro Z H Q ⟨Z3,H3,Q3,ss,sh,h,k⟩;refine⟨Z3,H3,_,ss,sh,h,fun v H' t H3' le sh' r q=>?_⟩;cases t with
 |bl b=>exact⟨b,r.bl,k _ H' _ H3' le sh' .ofBl q⟩
 |_=>exact q.elim
def Qe (t:TT3) (ta tb:TE3):TE3:=fun Z H Q=>t Z H fun c H1=>if c=true then ta Z H1 Q else tb Z H1 Q
variable {e:Expr}{es:List Expr}{te:TE3}{t:TA3}
def Dj:TA3:=fun _ H Q=>Q [] H
def wB (ta:TE3) (tr:TA3):TA3:=fun Z H Q=>ta Z H fun x H1=>tr Z H1 fun xs H2=>Q (x::xs) H2
theorem aj:PA3 X [] Dj:=by
 refine PA.imp Gh ?_;rintro Z H Q ⟨Z3,H3,Q3,ss,sh,h,k⟩;exact k _ _ _ _ .refl sh .nil h
theorem aa (ha:PE3 X e te) (hr:PA3 X es t) (hs:starEach (e::es) X.env=(false,eval e X.env)::starEach es X.env:=by rfl):PA3 X (e::es) (wB te t):=by
 refine PA.imp (zO ha hr hs) ?_;rintro Z H Q ⟨Z3,H3,Q3,ss,sh,h,k⟩;exact⟨Z3,H3,_,ss,sh,h,fun v H' t H3' le sh' r q=>⟨Z3,H3',_,ss.mono le,sh',q,fun vs H'' ts H3'' le' sh'' rs q'=>k _ _ _ _ (le.trans le') sh'' (.cons (r.mono le') rs) q'⟩⟩
def Dk (t:TA3):TE3:=fun Z H Q=>t Z H fun xs H1=>xs.length<=sizeLine/\Q (.tup xs) H1
def Dl (t:TA3):TE3:=fun Z H Q=>t Z H fun xs H1=>xs.length<=sizeLine/\∀p,H1 p=none->Q (.ref p) (up3 H1 p (.lst xs))
theorem SimH.newTup {K:Frag}{H:Hp}{H3:Hp3}{ts:List T}{xs:List V}{p:Addr}(hp:H p=none) (r:Reps K H ts xs):Rep K (upd H p (.tup xs)) (.tup ts) (.ref p) :=
 .ofTup (.of cA) (r.mono (aR hp))
theorem SimH.newLst {K:Frag}{H:Hp}{H3:Hp3}{ts:List T}{xs:List V}{p:Addr}(s:SimH K H3 H) (hp:H p=none) (r:Reps K H ts xs):SimH K (up3 H3 p (.lst ts)) (upd H p (.lst xs)):=fun a o e=>by
 by_cases ha:a=p
 ·subst ha;rw[aC] at e;cases e;exact⟨xs,cA,r.mono (aR hp)⟩
 rw[aF ha] at e;exact s.new hp a o e
theorem aZ {x1}(h:PA3 X es t):PE3 X (.Tuple es x1 pos) (Dk t):=by
 refine PE.imp (Gi h) ?_;rintro Z H Q ⟨Z3,H3,Q3,ss,sh,h,k⟩;refine⟨Z3,H3,_,ss,sh,h,fun vs H' ts H3' le sh' r q=>⟨by rw[<- r.length];exact q.1,fun p hp=>?_⟩⟩;exact k _ _ _ H3' (le.trans (aR hp)) (sh'.new hp) (SimH.newTup (H3:=H3') hp r) q.2
theorem bO (h:PA3 X es t):PE3 X (.List es pos) (Dl t):=by
 refine PE.imp (Gj h) ?_;rintro Z H Q ⟨Z3,H3,Q3,ss,sh,h,k⟩;refine⟨Z3,H3,_,ss,sh,h,fun vs H' ts H3' le sh' r q=>⟨by rw[<- r.length];exact q.1,fun p hp=>?_⟩⟩;exact k _ _ _ _ (le.trans (aR hp)) (sh'.newLst hp r) .ofRef (q.2 p (sh'.fresh hp))
end
section
variable {X:Cx}{st:Stmt}{rest:List Stmt}{e c:Expr}{te:TE3}{tc:TT3}{t u:TS3}{pos:Pos}
def wC:TS3:=fun D Z H=>D.nx Z H
def sO (t u:TS3):TS3:=fun D Z H=>t { D with nx:=u D} Z H
theorem aQ:mJ X [] wC:=by
 refine PSs.imp zB ?_;rintro D Z H ⟨Z3,H3,D3,ss,sh,h,k1,_⟩;exact k1 _ _ _ _ .refl ss sh h
theorem ak (h1:PS3 X st t) (h2:mJ X rest u):mJ X (st::rest) (sO t u):=by
 refine PSs.imp (vL h1 h2) ?_;rintro D Z H ⟨Z3,H3,D3,ss,sh,h,k1,k2,k3,k4⟩;exact⟨Z3,H3,_,ss,sh,h,fun Z' H' Z3' H3' le ss' sh' q=>⟨Z3',H3',D3,ss',sh',q,k1.at le,k2.at le,k3.at le,k4.at le⟩,k2,k3,k4⟩
theorem ao (h1:PS3 X st t):mJ X [st] t:=zE h1
def wD (te:TE3):TS3:=fun D Z H=>te Z H fun _ H1=>D.nx Z H1
theorem b8 (he:PE3 X e te) (hs:swapsWith e none pos.line X.env=pure false:=by rfl):PS3 X (.Expr e pos) (wD te):=by
 refine PS.imp (zF he hs) ?_;rintro D Z H ⟨Z3,H3,D3,ss,sh,h,k1,_⟩;exact⟨Z3,H3,_,ss,sh,h,fun v H' t H3' le sh' r q=>k1 _ _ _ _ le (ss.mono le) sh' q⟩
def Dm (te:TE3):TS3:=fun D Z H=>te Z H D.rt
theorem aK (he:PE3 X e te):PS3 X (.Return (some e) pos) (Dm te):=by
 refine PS.imp (Fq he) ?_;rintro D Z H ⟨Z3,H3,D3,ss,sh,h,k1,k2,_⟩;exact⟨Z3,H3,_,ss,sh,h,k2⟩
def GF:TS3:=fun D _ H=>D.rt .non H
def Do (c:TT3) (t u:TS3):TS3:=fun D Z H=>c Z H fun b H1=>if b=true then t D Z H1 else u D Z H1
theorem bz {a b:List Stmt}(hc:PT3 X c tc) (ha:mJ X a t) (hb:mJ X b u):PS3 X (.If c a b pos) (Do tc t u):=by
 refine PS.imp (J0 hc ha hb) ?_;rintro D Z H ⟨Z3,H3,D3,ss,sh,h,k1,k2,k3,k4⟩;refine⟨Z3,H3,_,ss,sh,h,fun b H' H3' le sh' q=>?_⟩;cases b with
 |true=>exact⟨Z3,H3',D3,ss.mono le,sh',q,k1.at le,k2.at le,k3.at le,k4.at le⟩
 |false=>exact⟨Z3,H3',D3,ss.mono le,sh',q,k1.at le,k2.at le,k3.at le,k4.at le⟩
def eE (i:Nat):TG3:=fun v Z H Q=>Q (Z.set i (some v)) H
theorem aA {i:Nat}{x:Str}(hN:X.N.Nodup) (hi:X.N[i]?=some x:=by rfl) (hx:Loc X.env.scope x:=by first | exact Or.inl rfl | exact Or.inr rfl) (hf:X.fn x=true\/X.env.scope.names.lookup x=some .local:=by first | exact .inl rfl | exact .inr rfl | assumption):PG3 X (.Name x pos) (eE i):=by
 refine PG.imp (zG hN hi hx hf) ?_;rintro v Z H Q ⟨t,Z3,H3,Q3,r,ss,sh,h,k⟩;exact k _ _ _ _ .refl (ss.set r) sh h
def sS:kJ:=fun ts Z H Q=>match ts with
 |[]=>Q Z H
 |_=>False
def iB (t:TG3) (u:kJ):kJ:=fun ts Z H Q=>match ts with
 |x::r=>t x Z H fun Z' H'=>u r Z' H' Q
 |[]=>False
theorem bL:Ad X [] sS:=by
 refine PGs.imp zH ?_;rintro vs Z H Q ⟨ts,Z3,H3,Q3,r,ss,sh,h,k⟩;cases ts with
 |nil=>exact⟨r.inv0,k _ _ _ _ .refl ss sh h⟩
 |cons _ _=>exact h.elim
theorem aG {e:Expr}{es:List Expr}{t:TG3}{u:kJ}(h1:PG3 X e t) (h2:Ad X es u)
  (hs:(assignEach (e::es) X.env).map (·.2)=assign e X.env::(assignEach es X.env).map (·.2):=by rfl):Ad X (e::es) (iB t u):=by
 refine PGs.imp (vN h1 h2 hs) ?_;rintro vs Z H Q ⟨ts,Z3,H3,Q3,r,ss,sh,h,k⟩;cases ts with
 |nil=>exact h.elim
 |cons x ts =>
 obtain⟨v,vr,rfl,rv,rr⟩:=r.inv;exact⟨v,vr,rfl,x,Z3,H3,_,rv,ss,sh,h,fun Z' H' Z3' H3' le ss' sh' q=>⟨ts,Z3',H3',Q3,rr.mono le,ss',sh',q,k.at le⟩⟩
def sU (n:Nat) (g:kJ):TG3:=fun t Z H Q=>match t with
 |.tup ts=>ts.length=n/\g ts Z H Q
 |_=>False
theorem bZ {es:List Expr}{k:Nat}{t:kJ}{n:Nat}(hc:X.calm=true) (h:Ad X es t)
  (hn:(assignEach es X.env).length=n:=by rfl) (hst:(assignEach es X.env).findIdx? (·.1)=none:=by rfl):PG3 X (.Tuple es k pos) (sU n t):=by
 refine PG.imp (Ft hc h hn hst) ?_;rintro v Z H Q ⟨t,Z3,H3,Q3,r,ss,sh,h,k⟩;cases t with
 |tup ts=>obtain⟨a,xs,rfl,s,rs⟩:=r.tup;exact⟨a,xs,rfl,s,by rw[<- rs.length];exact h.1,ts,Z3,H3,Q3,rs,ss,sh,h.2,k⟩
 |_=>exact h.elim
def wF (te:TE3) (g:TG3):TS3:=fun D Z H=>te Z H fun x H1=>g x Z H1 D.nx
theorem wG {tg e:Expr}{te:TE3}{g:TG3}(he:PE3 X e te) (hg:PG3 X tg g) (hs:swapsWithSole [tg] e pos.line X.env=pure false:=by rfl) (hw:swappedStores [tg] e X.env=pure none:=by rfl)
  (h1:(assignEach [tg] X.env).map (·.2)=[assign tg X.env]:=by rfl):PS3 X (.Assign [tg] e pos) (wF te g):=by
 refine PS.imp (Fw he hg hs hw h1) ?_;rintro D Z H ⟨Z3,H3,D3,ss,sh,h,k1,_⟩;exact⟨Z3,H3,_,ss,sh,h,fun v H' t H3' le sh' r q=>⟨t,Z3,H3',_,r,ss.mono le,sh',q,k1.at le⟩⟩
theorem aD {i:Nat}{x:Str}{e:Expr}{te:TE3}{pos':Pos}(hN:X.N.Nodup) (he:PE3 X e te) (hi:X.N[i]?=some x:=by rfl) (hx:Loc X.env.scope x:=by first | exact Or.inl rfl | exact Or.inr rfl)
  (hs:swapsWith e (some (.Name x pos')) pos.line X.env=pure false:=by rfl) (hf:X.fn x=true\/X.env.scope.names.lookup x=some .local:=by first | exact .inl rfl | exact .inr rfl | assumption) :
  PS3 X (.Assign [.Name x pos'] e pos) (wF te (eE i)):=by
 refine PS.imp (Fx hN hi hx he hs hf) ?_;rintro D Z H ⟨Z3,H3,D3,ss,sh,h,k1,_⟩;exact⟨Z3,H3,_,ss,sh,h,fun v H' t H3' le sh' r q=>k1 _ _ _ _ le ((ss.mono le).set r) sh' q⟩
end
abbrev o5:=T->T->T->Hp3->(Hp3->Prop)->Prop
def GJ (K:Frag) (t3:o5):vM:=fun o i v H Q=>∃to ti tv H3 Q3,Rep K H to o/\Rep K H ti i/\Rep K H tv v/\SimH K H3 H/\t3 to ti tv H3 Q3/\∀H' H3',TupLe K H H'->SimH K H3' H'->Q3 H3'->Q H'
def Dp (X:Cx) (t:o5):Prop:=PSet X (GJ X.K t)
theorem PSet.imp {X:Cx}{t t':vM}(h:PSet X t) (w:∀o i v H Q,t' o i v H Q->t o i v H Q):PSet X t':=fun pins s Z H o i v ov iv u Q I r1 r2 r3 q=>h pins s Z H o i v ov iv u Q I r1 r2 r3 (w o i v H Q q)
section
variable {X:Cx}{pos:Pos}
def Dq (to ti:TE3) (t:o5):TG3:=fun v Z H Q=>to Z H fun o H1=>ti Z H1 fun i H2=>t o i v H2 fun H3=>Q Z H3
theorem GK {o i:Expr}{to ti:TE3}{t:o5}(ho:PE3 X o to) (hi:PE3 X i ti) (hs:Dp X t)
  (ha:∀v,assign (.Subscript o i pos) X.env v=(do
   let ov <- holding [v] (eval o X.env)
   let iv <- holding [v,ov] (eval i X.env)
   standAt pos
   holding [v,ov,iv] (setItem ov iv v)
   release [v,ov,iv] []):=by intro _;rfl):PG3 X (.Subscript o i pos) (Dq to ti t):=by
 refine PG.imp (Fv ho hi hs ha) ?_;rintro v Z H Q ⟨t,Z3,H3,Q3,r,ss,sh,h,k⟩;exact⟨Z3,H3,_,ss,sh,h,fun o H1 to H31 le1 sh1 ro q1=>⟨Z3,H31,_,ss.mono le1,sh1,q1,fun i H2 ti H32 le2 sh2 ri q2=>⟨to,ti,t,H32,_,ro.mono le2,ri,r.mono (le1.trans le2),sh2,q2,fun H' H3' le sh' q=>k _ _ _ _ (le1.trans (le2.trans le)) (ss.mono (le1.trans (le2.trans le))) sh' q⟩⟩⟩
end
abbrev TI3:=St3->Hp3->(List T->(Hp3->Prop)->Hp3->Prop)->Prop
def lJ (K:Frag) (J:It) (ts:List T) (still:Hp3->Prop) (H:Hp):Prop:=∀H' H3',TupLe K H H'->SimH K H3' H'->still H3' ->
 (∀i,ts.length<=i->J.stop i H')/\∀i t,ts[i]?=some t->J.go i H'/\∀x H'',J.yld i H' x H''->TupLe K H' H''/\SimH K H3' H''/\Rep K H'' t x
def Qf (K:Frag) (t3:TI3):TI:=fun Z H R=>∃Z3 H3 R3,SimS K H Z3 Z/\SimH K H3 H/\t3 Z3 H3 R3/\∀J ts still H' H3',TupLe K H H'->SimH K H3' H'->lJ K J ts still H'->R3 ts still H3'->R J H'
def PI3 (X:Cx) (tg iter:Expr) (t:TI3):Prop:=PI X tg iter (Qf X.K t)
theorem PI.imp {X:Cx}{tg e:Expr}{t t':TI}(h:PI X tg e t) (w:∀Z H R,t' Z H R->t Z H R):PI X tg e t':=fun pins s Z H R I q=>h pins s Z H R I (w Z H R q)
def cg:Hp3->Prop:=fun _=>True
def cM (a:Addr) (ts:List T):Hp3->Prop:=fun H=>H a=some (.lst ts)\/H a=some (.rol ts)
theorem SimH.sqL {K:Frag}{H:Hp}{H3:Hp3}{a:Addr}{ts:List T}(s:SimH K H3 H) (h:cM a ts H3):∃xs,SqL K H a xs/\Reps K H ts xs:=by
 rcases h with h | h
 ·obtain⟨xs,e,r⟩:=s a _ h;exact⟨xs,.of e,r⟩
 obtain⟨xs,e,r⟩:=s a _ h;exact⟨xs,.inl e,r⟩
section
variable {X:Cx}{tg l:Expr}{tl:TE3}{pos p:Pos}
def wH (tl:TE3):TI3:=fun Z H R=>tl Z H fun x H1=>match x with
 |.ref a=>match H1 a with
  |some (.lst ts)=>R ts (cM a ts) H1
  |some (.rol ts)=>R ts (cM a ts) H1
  |_=>False
 |_=>False
theorem lK {K:Frag}{H:Hp}{a:Addr}{ts:List T}:lJ K (Itl K a) ts (cM a ts) H:=fun H' H3' le sh st=>by
 obtain⟨xs,sq,rs⟩:=sh.sqL st;have hl:=rs.length;refine⟨fun i hi=>⟨xs,sq,by omega⟩,fun i t e=>?_⟩;obtain⟨v,ev,rv⟩:=rs.get e;refine⟨⟨xs,v,sq,ev⟩,fun x H'' y=>?_⟩;obtain⟨e1,y⟩:=y;subst e1;have:=y xs sq;rw[ev] at this;cases this;exact⟨.refl,sh,rv⟩
theorem cz (hl:PE3 X l tl):PI3 X tg l (wH tl):=by
 refine PI.imp (zJ hl) ?_;rintro Z H R ⟨Z3,H3,R3,ss,sh,h,k⟩;refine⟨Z3,H3,_,ss,sh,h,fun v H' t H3' le sh' r q=>?_⟩;cases t with
 |ref a =>
  have q':(match H3' a with
   |some (.lst ts)=>R3 ts (cM a ts) H3'
   |some (.rol ts)=>R3 ts (cM a ts) H3'
   |_=>False):=q
  split at q'
  ·
   rename_i ts e
   obtain⟨xs,sq,rs⟩:=sh'.sqL (.inl e)
   exact⟨a,r.ref,⟨xs,sq⟩,k _ ts (cM a ts) H' H3' le sh' lK q'⟩
  ·
   rename_i ts e
   obtain⟨xs,sq,rs⟩:=sh'.sqL (.inr e)
   exact⟨a,r.ref,⟨xs,sq⟩,k _ ts (cM a ts) H' H3' le sh' lK q'⟩
  ·
   exact q'.elim
 |_=>exact q.elim
def Dr (tl:TE3):TI3:=fun Z H R=>tl Z H fun x H1=>match x with
 |.tup ts=>R ts cg H1
 |_=>False
theorem wI {K:Frag}{H:Hp}{a:Addr}{ts:List T}{xs:List V}(sq:SqT K H a xs) (rs:Reps K H ts xs):lJ K (Itt K a) ts cg H:=fun H' H3' le sh st=>by
 have hl:=rs.length;refine⟨fun i hi=>⟨xs,le _ _ sq,by omega⟩,fun i t e=>?_⟩;obtain⟨v,ev,rv⟩:=rs.get e;refine⟨⟨xs,v,le _ _ sq,ev⟩,fun x H'' y=>?_⟩;obtain⟨e1,y⟩:=y;subst e1;have:=y xs (le _ _ sq);rw[ev] at this;cases this;exact⟨.refl,sh,rv.mono le⟩
theorem bG (hl:PE3 X l tl):PI3 X tg l (Dr tl):=by
 refine PI.imp (Fz hl) ?_;rintro Z H R ⟨Z3,H3,R3,ss,sh,h,k⟩;refine⟨Z3,H3,_,ss,sh,h,fun v H' t H3' le sh' r q=>?_⟩;cases t with
 |tup ts=>obtain⟨a,xs,e,sq,rs⟩:=r.tup;exact⟨a,e,⟨xs,sq⟩,k _ ts cg H' H3' le sh' (wI sq rs) q⟩
 |_=>exact q.elim
def cN (lo:Int) (n:Nat):List T:=(List.range n).map fun (i:Nat)=>T.int (lo+i)
theorem o6 {K:Frag}{H:Hp}{lo:Int}{n:Nat}:lJ K (Itr lo n) (cN lo n) cg H:=fun H' H3' le sh st=>by
 refine⟨fun i hi=>by unfold cN at hi;simp at hi;exact hi,fun i t e=>?_⟩;unfold cN at e;rw[G_] at e;by_cases hi:i<n
 ·rw[Sh hi] at e;cases e;refine⟨hi,fun x H'' y=>?_⟩;obtain⟨e1,e2⟩:=y;subst e1;subst e2;exact⟨.refl,sh,.ofInt⟩
 rw[Qz (by simpa using hi)] at e;cases e
def wJ (ta:TA3):TI3:=fun Z H R=>ta Z H fun vs H1=>match vs with
 |[.int j]=>-(2^62)<=j/\j<2^62/\R (cN 0 j.toNat) cg H1
 |[.int i,.int j]=>(-(2^62)<=i/\i<2^62 /\ -(2^62)<=j/\j<2^62)/\R (cN i (j - i).toNat) cg H1
 |_=>False
theorem aN {a:Expr}{ta:TA3}(hg:Gl X "range") (hm:X.mg "range"=none) (ha:PA3 X [a] ta) (hs:starEach [a] X.env=[(false,eval a X.env)]:=by rfl):PI3 X tg (.Call (.Name "range" p) [a] [] pos) (wJ (fun Z H Q=>ta Z H fun vs H1=>vs.length=1/\Q vs H1)):=by
 refine PI.imp (uJ hg hm ha hs) ?_;rintro Z H R ⟨Z3,H3,R3,ss,sh,h,k⟩;refine⟨Z3,H3,_,ss,sh,h,fun vs H' ts H3' le sh' r q=>?_⟩;obtain⟨hl,q⟩:=q;cases ts with
 |nil=>cases hl
 |cons t ts =>
 cases ts with
 |cons _ _=>simp at hl
 |nil =>
 cases t with
 |int j=>obtain⟨v,_,rfl,rv,r0⟩:=r.inv;rw[r0.inv0,rv.int];exact⟨j,rfl,q.1,q.2.1,k _ _ _ H' H3' le sh' o6 q.2.2⟩
 |_=>exact q.elim
theorem uZ {a b:Expr}{ta:TA3}(hg:Gl X "range") (hm:X.mg "range"=none) (ha:PA3 X [a,b] ta) (hs:starEach [a,b] X.env=[(false,eval a X.env),(false,eval b X.env)]:=by rfl) (hs2:starEach [b] X.env=[(false,eval b X.env)]:=by rfl) :
  PI3 X tg (.Call (.Name "range" p) [a,b] [] pos) (wJ (fun Z H Q=>ta Z H fun vs H1=>vs.length=2/\Q vs H1)):=by
 refine PI.imp (uK hg hm ha hs hs2) ?_;rintro Z H R ⟨Z3,H3,R3,ss,sh,h,k⟩;refine⟨Z3,H3,_,ss,sh,h,fun vs H' ts H3' le sh' r q=>?_⟩;obtain⟨hl,q⟩:=q
 match ts,hl,r with
 |[t1,t2],_,r =>
 obtain⟨v,_,rfl,rv,r1⟩:=r.inv;obtain⟨v2,_,rfl,rv2,r2⟩:=r1.inv;cases t1 with
 |int i =>
  cases t2 with
  |int j=>rw[r2.inv0,rv.int,rv2.int];exact⟨i,j,rfl,q.1,k _ _ _ H' H3' le sh' o6 q.2⟩
  |_=>exact q.elim
 |_=>cases t2 <;> exact q.elim
end
def iter3 (g:TG3) (tb:TS3) (D:Ends3) (still:Hp3->Prop):List T->St3->Hp3->Prop
 |[],Z,H=>still H/\D.nx Z H
 |t::r,Z,H=>still H/\g t Z H fun Z2 H2=>tb { D with nx:=iter3 g tb D still r,ct:=iter3 g tb D still r,bk:=D.nx} Z2 H2
theorem iter3.st {g:TG3}{tb:TS3}{D:Ends3}{still:Hp3->Prop}{ts:List T}{Z:St3}{H:Hp3}(h:iter3 g tb D still ts Z H):still H:=by
 cases ts with
 |nil=>exact h.1
 |cons t r=>exact h.1
def Ds (wi:TI3) (g:TG3) (tb:TS3):TS3:=fun D Z H=>wi Z H fun ts still H1=>iter3 g tb D still ts Z H1
section
variable {X:Cx}{tg iter:Expr}{pos:Pos}
theorem aU {body:List Stmt}{wi:TI3}{g:TG3}{tb:TS3}(hp:PassesOwn (model X.prog X.w) X.A X.env X.xe) (hc:X.calm=true) (hi:PI3 X tg iter wi) (hg:PG3 X tg g) (hb:mJ X body tb)
  (hs:∀x,foldedSetIterable iter X.env x=pure x:=by intro _;rfl):PS3 X (.For tg iter body [] pos) (Ds wi g tb):=by
 refine PS.imp (FJ hp hc hi hg hb hs) ?_;rintro D Z H ⟨Z3,H3,D3,ss,sh,h,k1,k2,k3,k4⟩;refine⟨Z3,H3,_,ss,sh,h,fun J ts still H1 H31 le sh1 wk q=>?_⟩;refine⟨fun i m Z H=>∃Z3 H3,TupLe X.K H1 H/\SimS X.K H Z3 Z/\SimH X.K H3 H/\m=ts.length - i/\i<=ts.length/\iter3 g tb D3 still (ts.drop i) Z3 H3,⟨ts.length,Z3,H31,.refl,ss.mono le,sh1,rfl,S6 _,by simpa using q⟩,?_⟩;rintro i m Z H ⟨Z4,H4,le4,ss4,sh4,rfl,hi,it⟩;have w:=wk H H4 le4 sh4 it.st;by_cases hlt:i<ts.length
 ·have e:=d_ hlt;have ed:ts.drop i=ts[i]::ts.drop (i+1):=Sd hlt;rw[ed] at it;obtain⟨st,it⟩:=it;obtain⟨go,yl⟩:=w.2 i _ e;refine .inr ⟨go,fun Z' H'=>∃Z3 H3,TupLe X.K H1 H'/\SimS X.K H' Z3 Z'/\SimH X.K H3 H'/\iter3 g tb D3 still (ts.drop (i+1)) Z3 H3,fun Z' H' ⟨s5,h5,a,b,c,d⟩=>⟨ts.length - (i+1),by omega,s5,h5,a,b,c,rfl,hlt,d⟩,fun x H' y=>?_⟩;obtain⟨le',sh',rx⟩:=yl x H' y;refine⟨ts[i],Z4,H4,_,rx,ss4.mono le',sh',it,fun Z2 H2 Z32 H32 le2 ss2 sh2 q2=>?_⟩;have all:TupLe X.K H1 H2:=le4.trans (le'.trans le2);have nx:∀(B:TupLe X.K H1 H2),KS3 X.K H2 (iter3 g tb D3 still (ts.drop (i+1))) (fun Z' H'=>∃Z3 H3,TupLe X.K H1 H'/\SimS X.K H' Z3 Z'/\SimH X.K H3 H'/\iter3 g tb D3 still (ts.drop (i+1)) Z3 H3) :=
   fun B Z' H' Z3' H3' l s h q=>⟨Z3',H3',B.trans l,s,h,q⟩
  exact⟨Z32,H32,_,ss2,sh2,q2,nx all,k2.at (le.trans all),k1.at (le.trans all),nx all⟩
 have e:i=ts.length:=by omega
 subst e;rw[List.drop_length] at it;exact .inl ⟨w.1 _ (u_ _),k1 _ _ _ _ (le.trans le4) ss4 sh4 it.2⟩
def jE (c:TT3) (tb:TS3):TS3:=fun D Z H=>∃W:Nat->St3->Hp3->Prop,(∃m,W m Z H)/\∀m Z H,W m Z H ->
 c Z H fun b H1=>if b=true then tb { D with nx:=fun Z' H'=>∃m',m'<m/\W m' Z' H',ct:=fun Z' H'=>∃m',m'<m/\W m' Z' H',bk:=D.nx} Z H1 else D.nx Z H1
theorem o7 {c:Expr}{body:List Stmt}{tc:TT3}{tb:TS3}(hp:PassesOwn (model X.prog X.w) X.A X.env X.xe) (hc:PT3 X c tc) (hb:mJ X body tb):PS3 X (.While c body [] pos) (jE tc tb):=by
 refine PS.imp (vO hp hc hb) ?_;rintro D Z H ⟨Z3,H3,D3,ss,sh,⟨W,⟨m0,w0⟩,turn⟩,k1,k2,k3,k4⟩;refine⟨fun m Z' H'=>∃Z3 H3,TupLe X.K H H'/\SimS X.K H' Z3 Z'/\SimH X.K H3 H'/\W m Z3 H3,⟨m0,Z3,H3,.refl,ss,sh,w0⟩,?_⟩;rintro m Z1 H1 ⟨Z4,H4,le4,ss4,sh4,w4⟩;refine⟨Z4,H4,_,ss4,sh4,turn m Z4 H4 w4,fun b H2 H5 le5 sh5 q=>?_⟩;cases b with
 |true =>
  rw[if_pos rfl] at q ⊢;have nx:KS3 X.K H2 (fun Z' H'=>∃m',m'<m/\W m' Z' H') (fun Z' H'=>∃m',m'<m/\∃Z3 H3,TupLe X.K H H'/\SimS X.K H' Z3 Z'/\SimH X.K H3 H'/\W m' Z3 H3) :=
   fun Z' H' Z3' H3' l s h ⟨m',hm,w⟩=>⟨m',hm,Z3',H3',le4.trans (le5.trans l),s,h,w⟩
  exact⟨_,fun Z' H' h=>h,Z4,H5,_,ss4.mono le5,sh5,q,nx,k2.at (le4.trans le5),k1.at (le4.trans le5),nx⟩
 |false =>
 rw[if_neg p_] at q ⊢;exact k1 _ _ _ _ (le4.trans le5) (ss4.mono le5) sh5 q
end
def Af (X:Cx) (ifs:List Expr) (t:TT3):Prop:=PIf X ifs (uY X.K t)
def sV:TT3:=fun _ H Q=>Q true H
theorem bC {X:Cx}:Af X [] sV:=fun pins s Z H Q I ⟨Z3,H3,Q3,ss,sh,h,k⟩=>z6 pins s Z H Q I (k _ _ _ .refl sh h)
theorem gJ {X:Cx}{c:Expr}{t:TT3}(h:PT3 X c t):Af X [c] t:=z7 h
def mO (nt:Nat) (cap:List Nat) (Z:St3):St3:=List.replicate nt none++cap.map fun j=>(Z[j]?).getD none
theorem sW {K:Frag}{H:Hp}{Z3:St3}{Z:L2.St}{nt:Nat}{cap:List Nat}(s:SimS K H Z3 Z):SimS K H (mO nt cap Z3) (kI nt cap Z):=by
 refine⟨by simp [mO,kI],fun i t e=>?_⟩;unfold mO at e;unfold kI;by_cases hi:i<nt
 ·rw[Qy (by simpa using hi),RJ] at e;split at e <;> cases e
 rw[Qp (by simpa using hi),G_] at e;rw[Qp (by simpa using hi),G_];simp only[RX] at e ⊢;cases q:cap[i - nt]? with
 |none=>rw[q] at e;cases e
 |some j =>
 rw[q] at e;have e':(Z3[j]?).getD none=some t:=Qu e;have e2:Z3[j]?=some (some t):=by
  cases z:Z3[j]? with
  |none=>rw[z] at e';cases e'
  |some y=>rw[z] at e';exact F_ some e'
 obtain⟨v,ev,r⟩:=s.at' j t e2;exact⟨v,by simp [ev],r⟩
def cIter3 (g:TG3) (tt:TT3) (te:TE3) (still:Hp3->Prop) (fin:List T->Hp3->Prop):List T->List T->St3->Hp3->Prop
 |[],ys,Z,H=>still H/\ys.length<=sizeLine/\fin ys H
 |t::r,ys,Z,H=>still H/\g t Z H fun Z2 H2=>tt Z2 H2 fun b H3=>if b=true then te Z2 H3 fun y H4=>ys.length<sizeLine/\cIter3 g tt te still fin r (ys++[y]) Z2 H4 else cIter3 g tt te still fin r ys Z2 H3
theorem cIter3.st {g:TG3}{tt:TT3}{te:TE3}{still:Hp3->Prop}{fin:List T->Hp3->Prop}{ts ys:List T}{Z:St3}{H:Hp3}(h:cIter3 g tt te still fin ts ys Z H):still H:=by
 cases ts with
 |nil=>exact h.1
 |cons t r=>exact h.1
theorem wK {K:Frag}{J:It}{g:TG3}{tt:TT3}{te:TE3}{still:Hp3->Prop}{fin3:List T->Hp3->Prop}{fin:List V->Hp->Prop}{ts:List T}{Z3:St3}{Z:L2.St}{H1:Hp}{H31:Hp3}
  (wk:lJ K J ts still H1) (ss:SimS K H1 Z3 Z) (sh:SimH K H31 H1) (h:cIter3 g tt te still fin3 ts [] Z3 H31)
  (hf:∀ys us H' H3',TupLe K H1 H'->SimH K H3' H'->Reps K H' ys us->fin3 ys H3'->fin us H'):sI J (Ac K g) (uY K tt) (lft K te) fin Z H1:=by
 refine⟨fun i m us Z H=>∃Z3 H3 ys,TupLe K H1 H/\SimS K H Z3 Z/\SimH K H3 H/\Reps K H ys us/\m=ts.length - i/\i<=ts.length/\cIter3 g tt te still fin3 (ts.drop i) ys Z3 H3,⟨ts.length,Z3,H31,[],.refl,ss,sh,.nil,rfl,S6 _,by simpa using h⟩,?_⟩;rintro i m us Z H ⟨Z4,H4,ys,le4,ss4,sh4,ry,rfl,hi,it⟩;have w:=wk H H4 le4 sh4 it.st;by_cases hlt:i<ts.length
 ·have e:=d_ hlt;have ed:ts.drop i=ts[i]::ts.drop (i+1):=Sd hlt;rw[ed] at it;obtain⟨st,it⟩:=it;obtain⟨go,yl⟩:=w.2 i _ e;refine .inr ⟨go,fun x H' y=>?_⟩;obtain⟨le',sh',rx⟩:=yl x H' y;refine⟨ts[i],Z4,H4,_,rx,ss4.mono le',sh',it,fun Z2 H2 Z32 H32 le2 ss2 sh2 q2=>?_⟩;refine⟨Z32,H32,_,ss2,sh2,q2,fun b H3 H33 le3 sh3 q3=>?_⟩;have all:TupLe K H H3:=le'.trans (le2.trans le3);cases b with
  |true=>rw[if_pos rfl] at q3;refine PX ?_;refine⟨Z32,H33,_,ss2.mono le3,sh3,q3,fun v H5 t H35 le5 sh5 rt q5=>⟨by rw[<- ry.length];exact q5.1,ts.length - (i+1),by omega,Z32,H35,ys++[t],le4.trans (all.trans le5),ss2.mono (le3.trans le5),sh5,(ry.mono (all.trans le5)).append (.cons rt .nil),rfl,hlt,q5.2⟩⟩
  |false =>
  rw[if_neg p_] at q3;refine PQ ?_;exact⟨ts.length - (i+1),by omega,Z32,H33,ys,le4.trans all,ss2.mono le3,sh3,ry.mono all,rfl,hlt,q3⟩
 have e:i=ts.length:=by omega
 subst e;rw[List.drop_length] at it;exact .inl ⟨w.1 _ (u_ _),by rw[<- ry.length];exact it.2.1,hf _ _ _ _ le4 sh4 ry it.2.2⟩
def wL (wi:TI3) (g:TG3) (tt:TT3) (te:TE3) (nt:Nat) (cap:List Nat):TE3:=fun Z H Q=>wi Z H fun ts still H1=>cIter3 g tt te still (fun ys H'=>∀p,H' p=none->Q (.ref p) (up3 H' p (.lst ys))) ts [] (mO nt cap Z) H1
def lL (wi:TI3) (g:TG3) (tt:TT3) (te:TE3) (nt:Nat) (cap:List Nat) (i:Nat):TS3:=fun D Z H=>wi Z H fun ts still H1=>cIter3 g tt te still (fun ys H'=>∀p,H' p=none->D.nx (Z.set i (some (.ref p))) (up3 H' p (.lst ys))) ts [] (mO nt cap Z) H1
section
variable {X:Cx}{N':List Str}{nt:Nat}{cap:List Nat}{scope:Scope}{elt tg iter:Expr}{ifs:List Expr}{pos pos' spos:Pos}{wi:TI3}{g:TG3}{tt:TT3}{te:TE3}
theorem bh (hc:X.calm=true) (S:CompSc X N' nt cap scope) (hi:PI3 X tg iter wi)
  (hX:∀cl pins s H C fp,PG3 (bF X N' scope cl pins s H C fp) tg g/\Af (bF X N' scope cl pins s H C fp) ifs tt/\PE3 (bF X N' scope cl pins s H C fp) elt te)
  (hs:∀x,foldedSetIterable iter X.env x=pure x:=by intro _;rfl):PE3 X (.ListComp elt [⟨tg,iter,ifs,0⟩] scope pos) (wL wi g tt te nt cap):=by
 refine PE.imp (z9 (g:=Ac X.K g) (tt:=uY X.K tt) (te:=lft X.K te) hc S hi hX hs) ?_;rintro Z H Q ⟨Z3,H3,Q3,ss,sh,h,k⟩;refine⟨Z3,H3,_,ss,sh,h,fun J ts still H1 H31 le sh1 wk q=>?_⟩;exact wK wk (sW (ss.mono le)) sh1 q fun ys us H' H3' le' sh' ry q' p hp=>k _ _ _ _ (le.trans (le'.trans (aR hp))) (sh'.newLst hp ry) .ofRef (q' p (sh'.fresh hp))
theorem sX {i:Nat}{x:Str}(hc:X.calm=true) (hN:X.N.Nodup) (S:CompSc X N' nt cap scope) (hi:PI3 X tg iter wi)
  (hX:∀cl pins s H C fp,PG3 (bF X N' scope cl pins s H C fp) tg g/\Af (bF X N' scope cl pins s H C fp) ifs tt/\PE3 (bF X N' scope cl pins s H C fp) elt te)
  (hi':X.N[i]?=some x:=by rfl) (hx:Loc X.env.scope x:=by first | exact Or.inl rfl | exact Or.inr rfl)
  (hsw:swapsWith (.ListComp elt [⟨tg,iter,ifs,0⟩] scope pos) (some (.Name x pos')) spos.line X.env=pure true:=by rfl)
  (hs:∀x,foldedSetIterable iter X.env x=pure x:=by intro _;rfl) (hf:X.fn x=true\/X.env.scope.names.lookup x=some .local:=by first | exact .inl rfl | exact .inr rfl | assumption) :
  PS3 X (.Assign [.Name x pos'] (.ListComp elt [⟨tg,iter,ifs,0⟩] scope pos) spos) (lL wi g tt te nt cap i):=by
 refine PS.imp (Aa (g:=Ac X.K g) (tt:=uY X.K tt) (te:=lft X.K te) hc hN hi' hx S hi hX hsw hs hf) ?_;rintro D Z H ⟨Z3,H3,D3,ss,sh,h,k1,_⟩;refine⟨Z3,H3,_,ss,sh,h,fun J ts still H1 H31 le sh1 wk q=>?_⟩;exact wK wk (sW (ss.mono le)) sh1 q fun ys us H' H3' le' sh' ry q' p hp =>
  k1 _ _ _ _ (le.trans (le'.trans (aR hp))) ((ss.mono (le.trans (le'.trans (aR hp)))).set .ofRef) (sh'.newLst hp ry) (q' p (sh'.fresh hp))
end
abbrev Sp3:=List T->Hp3->VK3->Prop
def wM (K:Frag) (sp:Sp3):Sp:=fun vs H Q _=>∃ts H3 Q3,Reps K H ts vs/\SimH K H3 H/\sp ts H3 Q3/\KV3 K H Q3 Q
def Sub3 (H H':Hp3):Prop:=∀a o,H a=some o->H' a=some o
theorem Sub3.refl {H:Hp3}:Sub3 H H:=fun _ _ h=>h
theorem Sub3.trans {H H1 H2:Hp3}(a:Sub3 H H1) (b:Sub3 H1 H2):Sub3 H H2:=fun c o h=>b c o (a c o h)
theorem Sub3.new {H:Hp3}{p:Addr}{o:O3}(h:H p=none):Sub3 H (up3 H p o):=fun a u e=>by rw[aF (aY e h)];exact e
theorem SimH.sub {K:Frag}{H3 H3':Hp3}{H:Hp}(s:SimH K H3' H) (h:Sub3 H3 H3'):SimH K H3 H:=fun a o e=>s a o (h a o e)
def Fin3 (Q:VK3):VK3:=fun v H=>∃H',Sub3 H' H/\Q v H'
theorem Fin3.of {Q:VK3}{v:T}{H H':Hp3}(h:Sub3 H' H) (q:Q v H'):Fin3 Q v H:=⟨H',h,q⟩
def aV (N:List Str) (ts:List T):St3:=ts.map some++List.replicate (N.length - ts.length) none
theorem u5 {K:Frag}{H:Hp}{N:List Str}{ts:List T}{vs:List V}(r:Reps K H ts vs):SimS K H (aV N ts) (L2.start N vs):=by
 refine⟨by simp [aV,L2.start,r.length],fun i t e=>?_⟩;unfold aV at e;unfold L2.start;have hl:=r.length;by_cases hi:i<ts.length
 ·rw[Qy (by simpa using hi),G_] at e;rw[Qy (by rw[g_];omega),G_];cases q:ts[i]? with
  |none=>rw[q] at e;cases e
  |some u =>
  rw[q] at e;cases e;obtain⟨v,ev,rv⟩:=r.get q;exact⟨v,by rw[ev];rfl,rv⟩
 rw[Qp (by simpa using hi),RJ] at e;split at e <;> cases e
section
variable {X:Cx}{k:Nat}{f:Addr}{fd:FuncData}{ps:List Str}{sp:Sp3}{x:Str}{p pos:Pos}{e:Expr}{es:List Expr}{t:TA3}
def FnOk3 (P:Program) (w:World) (K:Frag) (mg:Str->Option Value) (base:Heap) (k:Nat) (f:Addr) (fd:FuncData) (ps:List Str) (sp:Sp3):Prop:=FnOk P w K mg base CX0 k f fd ps (wM K sp)
theorem FnOk3.mono {P:Program}{w:World}{K:Frag}{mg:Str->Option Value}{base:Heap}{j k:Nat}(F:FnOk3 P w K mg base j f fd ps sp) (h:j<=k):FnOk3 P w K mg base k f fd ps sp:=FnOk.mono F h
def mQ (sp:Sp3) (t:TA3):TE3:=fun Z H Q=>t Z H fun vs H1=>sp vs H1 Q
theorem Ag (F:FnOk3 X.prog X.w X.K X.mg X.base k f fd ps sp) (hr:Room k X.A) (hg:Gl X x) (hm:X.mg x=some (.ref f)) (hk:keepIn X.K (.ref f)=true) (hb:Binds X.K fd ps [])
  (ha:PA3 X (e::es) t) (hdb:(x==("__debug__":Str))=false:=by decide) (he:starEach (e::es) X.env=(false,eval e X.env)::starEach es X.env:=by rfl) (hpl:(backTo pos (starEach es X.env)).any (·.1)=false:=by rfl) :
  PE3 X (.Call (.Name x p) (e::es) [] pos) (mQ sp t):=by
 refine PE.imp (zP (dvs:=[]) (E:=E0) F hr hg hm hk hb .nil KD ha hdb he hpl) ?_;rintro Z H Q ⟨Z3,H3,Q3,ss,sh,h,k⟩;refine⟨Z3,H3,_,ss,sh,h,fun vs H' ts H3' le sh' r q=>?_⟩;show wM X.K sp (vs++[]) H' Q E0;rw[Qv];exact⟨ts,H3',Q3,r,sh',q,k.at le⟩
theorem fn3 {P:Program}{w:World}{K:Frag}{mg:Str->Option Value}{base:Heap}{qual:Str}{st:Stmt}{N:List Str}(F:Fun K x qual st f fd) (S:FnScope N ps (aB st)) (len:∀ts H Q,sp ts H Q->ts.length=ps.length)
  (hbody:∀(cdv:Value) (A:Around) (outer:List Env) (s:Shared) (H:Hp) (E:XK) (ts:List T) (H3:Hp3) (Q:VK3),Room k (A.deeper (envOfC qual (aB st) s.heap.objs.size f cdv))->sp ts H3 Q ->
   ∃t,mJ (qF CX0 P w K mg base N qual (aB st) f cdv A outer s H E).nox (b7 st) t/\t { nx:=fun _ H'=>Fin3 Q .non H',rt:=Fin3 Q} (aV N ts) H3):FnOk3 P w K mg base (k+1) f fd ps sp:=by
 refine F.ok S (fun vs H Q E ⟨ts,H3,Q3,r,sh,q,k⟩=>by rw[<- r.length];exact len _ _ _ q) fun cdv A outer s H vs Q E hr ⟨ts,H3,Q3,r,sh,q,k⟩=>?_;obtain⟨t,ht,hq⟩:=hbody cdv A outer s H E ts H3 Q3 hr q;exact⟨_,ht,aV N ts,H3,_,u5 r,sh,hq,fun Z' H' Z3' H3' le ss' sh' ⟨H4,sb,q⟩=>k _ _ _ _ le (sh'.sub sb) .ofNon q,fun v H' t H3' le sh' rv ⟨H4,sb,q⟩=>k _ _ _ _ le (sh'.sub sb) rv q,fun _ _ _ _ _ _ _ z=>z,fun _ _ _ _ _ _ _ z=>z⟩
end
noncomputable instance:DecidableEq T:=fun a b=>Classical.propDecidable (a=b)
def pl:Nat->T->Bool
 |_,.non=>true
 |_,.int _=>true
 |_,.str _=>true
 |d+1,.tup ts=>ts.all (pl d)
 |_,_=>false
section
variable {X:Cx}{pins:List (Addr × Obj)}{Z:L2.St}{H:Hp}{s:Shared}
theorem sY (I:Inv X pins Z H s):∀(d:Nat) (x y:T) (v:V),pl d x=true->pl d y=true->Rep X.K H x v->Rep X.K H y v->x=y:=by
 intro d;induction d with
 |zero =>
  intro x y v px py rx ry;cases x <;> cases y <;> first
   |rfl
   | (simp only[Rep] at rx ry;subst rx;cases ry <;> rfl)
   | (simp [pl] at px;done)
   | (simp [pl] at py;done)
 |succ d ih =>
 intro x y v px py rx ry;cases x with
 |tup ts =>
  cases y with
  |tup us =>
   obtain⟨a,xs,rfl,sq,r⟩:=rx.tup;obtain⟨b,ys,e,sq',r'⟩:=ry.tup;cases e;have:=I.tuple_inj sq sq';subst this;simp only[pl,J_] at px py;congr 1;have key:∀(ts us:List T) (xs:List V),(∀t∈ts,pl d t=true)->(∀t∈us,pl d t=true)->Reps X.K H ts xs->Reps X.K H us xs->ts=us:=by
    intro ts;induction ts with
    |nil =>
     intro us xs _ _ h h';rw[h.inv0] at h';cases us with
     |nil=>rfl
     |cons u us=>obtain⟨_,_,e,_⟩:=h'.inv;cases e
    |cons t ts ih2 =>
    intro us xs p1 p2 h h';obtain⟨v,r,rfl,a,b⟩:=h.inv;cases us with
    |nil=>exact absurd h'.inv0 (by simp)
    |cons u us =>
    obtain⟨v',r',e,a',b'⟩:=h'.inv;cases e;rw[ih t u v (p1 t i_) (p2 u i_) a a',ih2 us r (fun t ht=>p1 t (q_ _ ht)) (fun t ht=>p2 t (q_ _ ht)) b b']
   exact key ts us xs px py r r'
  |_=>first | (simp only[Rep] at rx ry;obtain⟨a,xs,e,_⟩:=rx;subst e;cases ry;done) | (simp [pl] at py;done)
 |_=>cases y <;> first
  |rfl
  | (simp only[Rep] at rx ry;subst rx;cases ry <;> rfl)
  | (simp [pl] at px;done)
  | (simp [pl] at py;done)
  | (simp only[Rep] at rx ry;obtain⟨a,xs,e,_⟩:=ry;subst e;cases rx;done)
theorem units_in1 (A:Around):A.in1.units=A.units+1:=by rfl
theorem jN {α:Type} [DecidableEq (Option α)] (ts us:List α):((List.range (min ts.length us.length)).all (fun j=>decide (ts[j]?=us[j]?))&&ts.length==us.length)=true↔ts=us:=by
 rw[RL,J_,beq_iff_eq];constructor
 ·rintro⟨h,hl⟩;refine List.ext_getElem? fun i=>?_;by_cases hi:i<ts.length
  ·exact Q5 (h i (L_.mpr (by omega)))
  rw[Qz (by omega),Qz (by omega)]
 rintro rfl;exact⟨fun i _=>by simp,rfl⟩
theorem Ah {us:List Value}{i:Nat}(h:i<us.toArray.size) {v:Value}(e:us[i]?=some v):us.toArray[i]=v:=by
 have:us.toArray[i]?=some v:=by simpa using e
 rw[Array.getElem?_eq_getElem h] at this;exact Qu this
theorem sZ (I:Inv X pins Z H s):∀(d:Nat) (A:Around) (x y:T) (vx vy:V) (u v:Value),pl d x=true->pl d y=true->Rep X.K H x vx->Rep X.K H y vy->RelV vx u->RelV vy v->A.units+d<cLine->SeqAt.EqAt A s u v (decide (x=y)):=by
 have ir:∀(A:Around) (x y:T) (vx vy:V) (u v:Value),pl 0 x=true->pl 0 y=true->Rep X.K H x vx->Rep X.K H y vy->RelV vx u->RelV vy v->SeqAt.EqAt A s u v (decide (x=y)):=by
  intro A x y vx vy u v px py rx ry ru rv;cases x with
  |non =>
   cases rx.non;cases ru;cases y with
   |non=>cases ry.non;cases rv;simp only[decide_true];exact SeqAt.EqAt.same _
   |int j=>cases ry.int;obtain⟨t',rfl⟩:=rv;rw[o_ (by simp)];exact SeqAt.EqAt.none_int _ _
   |str j=>cases ry.str;obtain⟨t',rfl⟩:=rv;rw[o_ (by simp)];exact SeqAt.EqAt.none_str _ _
   |_=>simp [pl] at py
  |int i =>
   cases rx.int;obtain⟨t,rfl⟩:=ru;cases y with
   |non=>cases ry.non;cases rv;rw[o_ (by simp)];exact SeqAt.EqAt.int_none _ _
   |int j=>cases ry.int;obtain⟨t',rfl⟩:=rv;rw[show decide (T.int i=T.int j)=(i==j) by by_cases h:i=j <;> simp [h]];exact SeqAt.EqAt.int_int _ _ _ _
   |str j=>cases ry.str;obtain⟨t',rfl⟩:=rv;rw[o_ (by simp)];exact SeqAt.EqAt.int_str _ _ _ _
   |_=>simp [pl] at py
  |str i =>
   cases rx.str;obtain⟨t,rfl⟩:=ru;cases y with
   |non=>cases ry.non;cases rv;rw[o_ (by simp)];exact SeqAt.EqAt.str_none _ _
   |int j=>cases ry.int;obtain⟨t',rfl⟩:=rv;rw[o_ (by simp)];exact SeqAt.EqAt.str_int _ _ _ _
   |str j=>cases ry.str;obtain⟨t',rfl⟩:=rv;rw[show decide (T.str i=T.str j)=(i==j) by by_cases h:i=j <;> simp [h]];exact SeqAt.EqAt.str_str _ _ _ _
   |_=>simp [pl] at py
  |_=>simp [pl] at px
 intro d;induction d with
 |zero=>intro A x y vx vy u v px py rx ry ru rv _;exact ir A x y vx vy u v px py rx ry ru rv
 |succ d ih =>
 intro A x y vx vy u v px py rx ry ru rv hu;have hu0:A.units<cLine:=by omega
 cases x with
 |tup ts =>
  obtain⟨a,xs,rfl,sq,r⟩:=rx.tup;cases ru;obtain⟨its,rv1,ht,_⟩:=I.tuple sq;cases y with
  |tup us =>
   obtain⟨b,ys,rfl,sq',r'⟩:=ry.tup;cases rv;obtain⟨its',rv2,ht',_⟩:=I.tuple sq';by_cases hab:a=b
   ·subst hab;have e:T.tup ts=T.tup us:=sY I (d+1) _ _ (.ref a) px py (.ofTup sq r) (.ofTup sq' r');rw[e,y_ rfl];exact SeqAt.EqAt.same _
   have l1:=r.length;have l2:=r'.length;have l3:=rv1.length;have l4:=rv2.length;have key:=SeqAt.RcAt.tuples (A:=A) (s:=s) (e:=fun j=>decide (ts[j]?=us[j]?)) (show s.heap.IsTuple a its.toArray from ht) (show s.heap.IsTuple b its'.toArray from ht') hu0 (fun j h1 h2=>by
    rw[h_] at h1 h2
    have g1:j<ts.length:=by omega
    have g2:j<us.length:=by omega
    obtain⟨p1,e1,q1⟩:=r.get (d_ g1)
    obtain⟨p2,e2,q2⟩:=r'.get (d_ g2)
    obtain⟨z1,f1,w1⟩:=rv1.get e1
    obtain⟨z2,f2,w2⟩:=rv2.get e2
    rw[Ah _ f1,Ah _ f2,d_ g1,d_ g2]
    simp only[pl,J_] at px py
    have:=ih A.in1 ts[j] us[j] p1 p2 z1 z2 (px _ (Qx g1)) (py _ (Qx g2)) q1 q2 w1 w2 (by rw[units_in1];omega)
    rw[show decide (some ts[j]=some us[j])=decide (ts[j]=us[j]) by by_cases h:ts[j]=us[j] <;> simp [h]]
    exact this)
   have eb:((List.range (min its.toArray.size its'.toArray.size)).all (fun j=>decide (ts[j]?=us[j]?))&&its.toArray.size==its'.toArray.size)=decide (T.tup ts=T.tup us):=by
    rw[h_,h_,<- l3,<- l1,<- l4,<- l2,QV,jN,Qw];constructor
    ·rintro rfl;rfl
    intro h;injection h
   rw[eb] at key;exact .of_refs hab key
  |non=>cases ry.non;cases rv;rw[o_ (by simp)];exact SeqAt.EqAt.tuple_none ht hu0
  |int j=>cases ry.int;obtain⟨t',rfl⟩:=rv;rw[o_ (by simp)];exact SeqAt.EqAt.tuple_int _ _ ht hu0
  |str j=>cases ry.str;obtain⟨t',rfl⟩:=rv;rw[o_ (by simp)];exact SeqAt.EqAt.tuple_str _ _ ht hu0
  |_=>simp [pl] at py
 |non =>
  cases y with
  |tup us=>obtain⟨b,ys,rfl,sq',r'⟩:=ry.tup;cases rv;obtain⟨its',rv2,ht',_⟩:=I.tuple sq';cases rx.non;cases ru;rw[o_ (by simp)];exact SeqAt.EqAt.none_tuple ht' hu0
  |non=>exact ir A _ _ vx vy u v rfl rfl rx ry ru rv
  |int j=>exact ir A _ _ vx vy u v rfl rfl rx ry ru rv
  |str j=>exact ir A _ _ vx vy u v rfl rfl rx ry ru rv
  |_=>simp [pl] at py
 |int i =>
  cases y with
  |tup us=>obtain⟨b,ys,rfl,sq',r'⟩:=ry.tup;cases rv;obtain⟨its',rv2,ht',_⟩:=I.tuple sq';cases rx.int;obtain⟨t,rfl⟩:=ru;rw[o_ (by simp)];exact SeqAt.EqAt.int_tuple _ _ ht' hu0
  |non=>exact ir A _ _ vx vy u v rfl rfl rx ry ru rv
  |int j=>exact ir A _ _ vx vy u v rfl rfl rx ry ru rv
  |str j=>exact ir A _ _ vx vy u v rfl rfl rx ry ru rv
  |_=>simp [pl] at py
 |str i =>
  cases y with
  |tup us=>obtain⟨b,ys,rfl,sq',r'⟩:=ry.tup;cases rv;obtain⟨its',rv2,ht',_⟩:=I.tuple sq';cases rx.str;obtain⟨t,rfl⟩:=ru;rw[o_ (by simp)];exact SeqAt.EqAt.str_tuple _ _ ht' hu0
  |non=>exact ir A _ _ vx vy u v rfl rfl rx ry ru rv
  |int j=>exact ir A _ _ vx vy u v rfl rfl rx ry ru rv
  |str j=>exact ir A _ _ vx vy u v rfl rfl rx ry ru rv
  |_=>simp [pl] at py
 |_=>simp [pl] at px
end
def rI3 (C:Int->Int->Prop) (g:Int->Int->T):R3:=fun x y H Q=>match x,y with
 |.int i,.int j=>C i j/\Q (g i j) H
 |_,_=>False
def u6 (g:Int->Int->T):R3:=fun x y H Q=>match x,y with
 |.int i,.int j=>Q (g i j) H
 |_,_=>False
section
variable {X:Cx}
theorem u9 {f:Value->Value->Sem Value}{C:Int->Int->Prop}{g:Int->Int->T}{g':Int->Int->V}(h:OpR X f (rI C g')) (hg:∀i j H,Rep X.K H (g i j) (g' i j)):dU X f (rI3 C g):=by
 refine OpR.imp h ?_;rintro x y H Q ⟨tx,ty,H3,Q3,rx,ry,sh,h,k⟩;cases tx with
 |int i =>
  cases ty with
  |int j=>exact⟨i,j,rx.int,ry.int,h.1,k _ _ _ _ .refl sh (hg i j H) h.2⟩
  |_=>exact h.elim
 |_=>exact h.elim
theorem tu {f:Value->Value->Sem Value}{g:Int->Int->T}{g':Int->Int->V}(h:OpR X f (rI0 g')) (hg:∀i j H,Rep X.K H (g i j) (g' i j)):dU X f (u6 g):=by
 refine OpR.imp h ?_;rintro x y H Q ⟨tx,ty,H3,Q3,rx,ry,sh,h,k⟩;cases tx with
 |int i =>
  cases ty with
  |int j=>exact⟨i,j,rx.int,ry.int,k _ _ _ _ .refl sh (hg i j H) h⟩
  |_=>exact h.elim
 |_=>exact h.elim
def Dt (_ j:Int):Prop:=0<j/\j.natAbs.log2<9000
theorem wN:OpR X (binaryOp .FloorDiv) (rI Dt fun i j=>.int (i / j)):=opI fun i j _ _ _ _ _ hc q=>by
 have e:i / j=i.fdiv j:=(Int.fdiv_eq_ediv_of_nonneg i (Int.le_of_lt hc.1)).symm;rw[e] at q;exact floordiv_int (Int.ne_of_gt hc.1) q (.inl (PyProof.noPylong_of_log2 hc.2))
theorem mR:dU X (binaryOp .Sub) (u6 fun i j=>.int (i - j)):=tu FQ fun _ _ _=>.ofInt
theorem gK:dU X (binaryOp .FloorDiv) (rI3 Dt fun i j=>.int (i / j)):=u9 wN fun _ _ _=>.ofInt
theorem dX:dU X (binaryOp .Mod) (rI3 (fun _ j=>0<j) fun i j=>.int (i%j)):=u9 FW fun _ _ _=>.ofInt
theorem eO:dU X (binaryOp .Pow) (rI3 zK fun i j=>.int (i^j.toNat)):=u9 FZ fun _ _ _=>.ofInt
theorem wO:dU X (compareOp .Lt) (u6 fun i j=>.bl (decide (i<j))):=tu Kc fun _ _ _=>.ofBl
theorem gZ:dU X (compareOp .Gt) (u6 fun i j=>.bl (decide (j<i))):=tu Kd fun _ _ _=>.ofBl
theorem jf:dU X (binaryOp .Mult) (rI3 CMul fun i j=>.int (i*j)):=u9 FT fun _ _ _=>.ofInt
def o8:R3:=fun x y H Q=>match x,y with
 |.int i,.int j=>Q (.int (i+j)) H
 |.str i,.str j=>i.length+j.length<=sizeLine/\Q (.str (i++j)) H
 |.ref a,.ref b=>match H a,H b with
  |some (.lst xs),some (.lst ys)=>xs.length+ys.length<=sizeLine/\∀p,H p=none->Q (.ref p) (up3 H p (.lst (xs++ys)))
  |_,_=>False
 |.tup xs,.tup ys=>xs.length+ys.length<=sizeLine/\Q (.tup (xs++ys)) H
 |_,_=>False
theorem wQ:OpR X (binaryOp .Add) (fun x y H Q=>∃a b ys,x=.ref a/\y=.ref b/\SqT X.K H a []/\SqT X.K H b ys/\Q (.ref b) H):=by
 intro pins s Z H x y v u Q I rx ry h;obtain⟨a,b,ys,rfl,rfl,ha,hb,q⟩:=h;cases rx;cases ry;obtain⟨its,r1,p1,_⟩:=I.tuple ha;obtain⟨its2,r2,p2,_⟩:=I.tuple hb;cases r1;obtain⟨⟨cls,dd,data,sl⟩,ho,hc,n,hd⟩:=id p1;obtain⟨⟨cls2,dd2,data2,sl2⟩,ho2,hc2,n2,hd2⟩:=id p2;simp only at hc hd hc2 hd2;subst hc hd hc2 hd2;exact concat_meets ⟨_,ho,rfl⟩ ⟨_,ho2,rfl⟩ noFill_tuple_add seq_tuple_add PySem.F.slot_tuple_add PySem.F.entry_tuple_add (Sv _ _)
   (tuple_addW0 a b _ its2.toArray n n2 dd dd2 sl sl2 (by simp)) ⟨ho,ho2,⟨.ref b,H,I,rfl,q⟩⟩
theorem bx:dU X (binaryOp .Add) o8:=by
 refine OpR.imp (op_add.or (op_add_str.or (op_cat.or (op_catT.or wQ)))) ?_;rintro x y H Q ⟨tx,ty,H3,Q3,rx,ry,sh,h,k⟩;cases tx with
 |int i =>
  cases ty with
  |int j=>exact .inl ⟨i,j,rx.int,ry.int,k _ _ _ _ .refl sh .ofInt h⟩
  |_=>exact h.elim
 |str i =>
  cases ty with
  |str j=>exact .inr (.inl ⟨i,j,rx.str,ry.str,h.1,k _ _ _ _ .refl sh .ofStr h.2⟩)
  |_=>exact h.elim
 |ref a =>
  cases ty with
  |ref b =>
   have h':(match H3 a,H3 b with
    |some (.lst xs),some (.lst ys)=>xs.length+ys.length<=sizeLine/\∀p,H3 p=none->Q3 (.ref p) (up3 H3 p (.lst (xs++ys)))
    |_,_=>False):=h
   split at h'
   ·
    rename_i xs ys e1 e2
    obtain⟨vs,g1,r1⟩:=sh a _ e1
    obtain⟨ws,g2,r2⟩:=sh b _ e2
    refine .inr (.inr (.inl ⟨a,b,vs,ws,rx.ref,ry.ref,g1,g2,by rw[<- r1.length,<- r2.length];exact h'.1,fun p hp=>?_⟩))
    exact k _ _ _ _ (aR hp) (sh.newLst hp (r1.append r2)) .ofRef (h'.2 p (sh.fresh hp))
   ·
    exact h'.elim
  |_=>exact h.elim
 |tup xs =>
  cases ty with
  |tup ys =>
   obtain⟨a,vs,rfl,s1,r1⟩:=rx.tup;obtain⟨b,ws,rfl,s2,r2⟩:=ry.tup;by_cases hv:vs=[]
   ·subst hv;have e0:xs=[]:=RQ r1.length;subst e0;exact .inr (.inr (.inr (.inr ⟨a,b,ws,rfl,rfl,s1,s2,k _ _ _ _ .refl sh (.ofTup s2 r2) h.2⟩)))
   refine .inr (.inr (.inr (.inl ⟨a,b,vs,ws,rfl,rfl,s1,s2,hv,by rw[<- r1.length,<- r2.length];exact h.1,fun hw=>?_,fun hw p hp=>?_⟩)))
   ·have e:ys=[]:=by have:=r2.length;rw[hw] at this;exact RQ this
    have q:=h.2;rw[e,Qv] at q;exact k _ _ _ _ .refl sh (.ofTup s1 r1) q
   exact k _ _ _ _ (aR hp) (sh.new hp) (SimH.newTup (H3:=H3) hp (r1.append r2)) h.2
  |_=>exact h.elim
 |_=>exact h.elim
variable {pins:List (Addr × Obj)}{Z:L2.St}{H:Hp}{s:Shared}
def mU (neg:Bool):R3:=fun x y H Q=>match x,y with
 |.int i,.int j=>Q (.bl (if neg then !decide (i=j) else decide (i=j))) H
 |.str i,.str j=>Q (.bl (if neg then !decide (i=j) else decide (i=j))) H
 |.bl i,.bl j=>Q (.bl (if neg then !decide (i=j) else decide (i=j))) H
 |.non,.non=>Q (.bl (if neg then false else true)) H
 |.tup xs,.tup ys=>xs.all (pl 20)=true/\ys.all (pl 20)=true/\Q (.bl (if neg then !decide (xs=ys) else decide (xs=ys))) H
 |.ref a,.ref b=>match H a,H b with
  |some (.lst xs),some (.lst ys)=>a≠b/\xs.all (pl 20)=true/\ys.all (pl 20)=true/\Q (.bl (if neg then !decide (xs=ys) else decide (xs=ys))) H
  |_,_=>False
 |_,_=>False
theorem fZ (I:Inv X pins Z H s) {ts us:List T}{xs ys:List V}{its its':List Value}{A:Around}(hu:A.units+30<cLine) (px:ts.all (pl 20)=true) (py:us.all (pl 20)=true) (r:Reps X.K H ts xs) (r':Reps X.K H us ys) (rv1:Vals xs its) (rv2:Vals ys its') :
  ∀j (h1:j<its.toArray.size) (h2:j<its'.toArray.size),SeqAt.EqAt A.in1 s its.toArray[j] its'.toArray[j] (decide (ts[j]?=us[j]?)):=fun j h1 h2=>by
 have l1:=r.length;have l2:=r'.length;have l3:=rv1.length;have l4:=rv2.length;rw[h_] at h1 h2;have g1:j<ts.length:=by omega
 have g2:j<us.length:=by omega
 obtain⟨p1,e1,q1⟩:=r.get (d_ g1);obtain⟨p2,e2,q2⟩:=r'.get (d_ g2);obtain⟨z1,f1,w1⟩:=rv1.get e1;obtain⟨z2,f2,w2⟩:=rv2.get e2;rw[Ah _ f1,Ah _ f2,d_ g1,d_ g2];rw[J_] at px py;have:=sZ I 20 A.in1 ts[j] us[j] p1 p2 z1 z2 (px _ (Qx g1)) (py _ (Qx g2)) q1 q2 w1 w2 (by rw[units_in1];omega);rw[show decide (some ts[j]=some us[j])=decide (ts[j]=us[j]) by by_cases h:ts[j]=us[j] <;> simp [h]];exact this
theorem f9 {ts us:List T}:((List.range (min ts.length us.length)).all (fun j=>decide (ts[j]?=us[j]?))&&ts.length==us.length)=decide (ts=us):=by
 rw[QV,jN,Qw]
theorem bY (hu:X.A.units+30<cLine):dU X (compareOp .Eq) (mU false):=by
 intro pins s Z H x y v u Q I rv ru h;obtain⟨tx,ty,H3,Q3,rx,ry,sh,h,k⟩:=h;have sc:∀{x y:V},ir x y=true->RelV x v->RelV y u->(k:Q (.bl (decide (x=y))) H)->wpAny (model X.prog X.w) X.A (compareOp .Eq v u) (EP X pins Z Q) X.xe s:=fun {x y} a r1 r2 q=>J9 pins s Z H x y v u Q I r1 r2 ⟨a,q⟩;cases tx with
 |int i =>
  cases ty with
  |int j=>rw[rx.int] at rv;rw[ry.int] at ru;exact sc rfl rv ru (k _ _ _ _ .refl sh (by rw[show decide (V.int i=V.int j)=decide (i=j) by by_cases e:i=j <;> simp [e]];exact .ofBl) h)
  |_=>exact h.elim
 |str i =>
  cases ty with
  |str j=>rw[rx.str] at rv;rw[ry.str] at ru;exact sc rfl rv ru (k _ _ _ _ .refl sh (by rw[show decide (V.str i=V.str j)=decide (i=j) by by_cases e:i=j <;> simp [e]];exact .ofBl) h)
  |_=>exact h.elim
 |bl i =>
  cases ty with
  |bl j=>rw[rx.bl] at rv;rw[ry.bl] at ru;exact sc rfl rv ru (k _ _ _ _ .refl sh (by rw[show decide (V.bl i=V.bl j)=decide (i=j) by by_cases e:i=j <;> simp [e]];exact .ofBl) h)
  |_=>exact h.elim
 |non =>
  cases ty with
  |non=>rw[rx.non] at rv;rw[ry.non] at ru;exact sc rfl rv ru (k _ _ _ _ .refl sh (by rw[show decide (V.non=V.non)=true by simp];exact .ofBl) h)
  |_=>exact h.elim
 |tup ts =>
  cases ty with
  |tup us=>obtain⟨a,xs,rfl,sq,r⟩:=rx.tup;obtain⟨b,ys,rfl,sq',r'⟩:=ry.tup;cases rv;cases ru;obtain⟨its,rv1,ht,_⟩:=I.tuple sq;obtain⟨its',rv2,ht',_⟩:=I.tuple sq';refine SeqAt.eq_tupleAt (e:=fun j=>decide (ts[j]?=us[j]?)) ht ht' (by omega) (fZ I hu h.1 h.2.1 r r' rv1 rv2) ⟨.bl _,H,I,rfl,?_⟩;rw[h_,h_,<- rv1.length,<- rv2.length,<- r.length,<- r'.length,f9];exact k _ _ _ _ .refl sh .ofBl h.2.2
  |_=>exact h.elim
 |ref a =>
  cases ty with
  |ref b =>
   have h':(match H3 a,H3 b with
    |some (.lst xs),some (.lst ys)=>a≠b/\xs.all (pl 20)=true/\ys.all (pl 20)=true/\Q3 (.bl (decide (xs=ys))) H3
    |_,_=>False):=h
   split at h'
   ·
    rename_i ts us e1 e2
    obtain⟨xs,g1,r⟩:=sh a _ e1
    obtain⟨ys,g2,r'⟩:=sh b _ e2
    cases rx.ref;cases ry.ref;cases rv;cases ru
    obtain⟨its,rv1,ht,_⟩:=I.list (X:=X) (.of g1)
    obtain⟨its',rv2,ht',_⟩:=I.list (X:=X) (.of g2)
    have hl:its.length=ts.length:=by rw[<- rv1.length,<- r.length]
    have hl':its'.length=us.length:=by rw[<- rv2.length,<- r'.length]
    by_cases hsz:ts.length=us.length
    ·
     refine SeqAt.eq_listAt (e:=fun j=>decide (ts[j]?=us[j]?)) ht.isList ht'.isList (by simp;omega) (by omega) (fZ I hu h'.2.1 h'.2.2.1 r r' rv1 rv2) ⟨.bl _,H,I,rfl,?_⟩
     have e:=f9 (ts:=ts) (us:=us)
     rw[<- hsz,Nat.min_self,beq_self_eq_true,Bool.and_true] at e
     rw[h_,hl,e]
     exact k _ _ _ _ .refl sh .ofBl h'.2.2.2
    ·
     refine SeqAt.eq_list_lengthsAt ht.isList ht'.isList (by simp;omega) (by omega) ⟨.bl false,H,I,rfl,?_⟩
     have e:decide (ts=us)=false:=o_ fun z=>hsz (by rw[z])
     have q:=h'.2.2.2
     rw[e] at q
     exact k _ _ _ _ .refl sh .ofBl q
   ·
    exact h'.elim
  |_=>exact h.elim
 |_=>exact h.elim
theorem jr (hu:X.A.units+30<cLine):dU X (compareOp .NotEq) (mU true):=by
 intro pins s Z H x y v u Q I rv ru h;obtain⟨tx,ty,H3,Q3,rx,ry,sh,h,k⟩:=h;have sc:∀{x y:V},ir x y=true->RelV x v->RelV y u->(k:Q (.bl (!decide (x=y))) H)->wpAny (model X.prog X.w) X.A (compareOp .NotEq v u) (EP X pins Z Q) X.xe s:=fun {x y} a r1 r2 q=>Ka pins s Z H x y v u Q I r1 r2 ⟨a,q⟩;cases tx with
 |int i =>
  cases ty with
  |int j=>rw[rx.int] at rv;rw[ry.int] at ru;exact sc rfl rv ru (k _ _ _ _ .refl sh (by rw[show decide (V.int i=V.int j)=decide (i=j) by by_cases e:i=j <;> simp [e]];exact .ofBl) h)
  |_=>exact h.elim
 |str i =>
  cases ty with
  |str j=>rw[rx.str] at rv;rw[ry.str] at ru;exact sc rfl rv ru (k _ _ _ _ .refl sh (by rw[show decide (V.str i=V.str j)=decide (i=j) by by_cases e:i=j <;> simp [e]];exact .ofBl) h)
  |_=>exact h.elim
 |bl i =>
  cases ty with
  |bl j=>rw[rx.bl] at rv;rw[ry.bl] at ru;exact sc rfl rv ru (k _ _ _ _ .refl sh (by rw[show decide (V.bl i=V.bl j)=decide (i=j) by by_cases e:i=j <;> simp [e]];exact .ofBl) h)
  |_=>exact h.elim
 |non =>
  cases ty with
  |non=>rw[rx.non] at rv;rw[ry.non] at ru;exact sc rfl rv ru (k _ _ _ _ .refl sh (by rw[show decide (V.non=V.non)=true by simp];exact .ofBl) h)
  |_=>exact h.elim
 |tup ts =>
  cases ty with
  |tup us=>obtain⟨a,xs,rfl,sq,r⟩:=rx.tup;obtain⟨b,ys,rfl,sq',r'⟩:=ry.tup;cases rv;cases ru;obtain⟨its,rv1,ht,_⟩:=I.tuple sq;obtain⟨its',rv2,ht',_⟩:=I.tuple sq';refine SeqAt.RcNeAt.tuples (e:=fun j=>decide (ts[j]?=us[j]?)) ht ht' (by omega) (fZ I hu h.1 h.2.1 r r' rv1 rv2) _ _ _ _ ⟨.bl _,H,I,rfl,?_⟩;rw[h_,h_,<- rv1.length,<- rv2.length,<- r.length,<- r'.length,f9];exact k _ _ _ _ .refl sh .ofBl h.2.2
  |_=>exact h.elim
 |ref a =>
  cases ty with
  |ref b =>
   have h':(match H3 a,H3 b with
    |some (.lst xs),some (.lst ys)=>a≠b/\xs.all (pl 20)=true/\ys.all (pl 20)=true/\Q3 (.bl (!decide (xs=ys))) H3
    |_,_=>False):=h
   split at h'
   ·
    rename_i ts us e1 e2
    obtain⟨xs,g1,r⟩:=sh a _ e1
    obtain⟨ys,g2,r'⟩:=sh b _ e2
    cases rx.ref;cases ry.ref;cases rv;cases ru
    obtain⟨its,rv1,ht,_⟩:=I.list (X:=X) (.of g1)
    obtain⟨its',rv2,ht',_⟩:=I.list (X:=X) (.of g2)
    have hl:its.length=ts.length:=by rw[<- rv1.length,<- r.length]
    have hl':its'.length=us.length:=by rw[<- rv2.length,<- r'.length]
    by_cases hsz:ts.length=us.length
    ·
     refine SeqAt.RcNeAt.lists (e:=fun j=>decide (ts[j]?=us[j]?)) ht.isList ht'.isList (by simp;omega) (by omega) (fZ I hu h'.2.1 h'.2.2.1 r r' rv1 rv2) _ _ _ _ ⟨.bl _,H,I,rfl,?_⟩
     have e:=f9 (ts:=ts) (us:=us)
     rw[<- hsz,Nat.min_self,beq_self_eq_true,Bool.and_true] at e
     rw[h_,hl,e]
     exact k _ _ _ _ .refl sh .ofBl h'.2.2.2
    ·
     refine SeqAt.RcNeAt.lists_lengths ht.isList ht'.isList (by simp;omega) (by omega) _ _ _ _ ⟨.bl true,H,I,rfl,?_⟩
     have e:decide (ts=us)=false:=o_ fun z=>hsz (by rw[z])
     have q:=h'.2.2.2
     rw[e] at q
     exact k _ _ _ _ .refl sh .ofBl q
   ·
    exact h'.elim
  |_=>exact h.elim
 |_=>exact h.elim
def cC (neg:Bool) (x:T) (ts:List T):Bool:=if neg then !decide (x∈ts) else decide (x∈ts)
def occ (neg:Bool) (i j:Str):Bool:=if neg then !(!(Builtin.Str.occurrences j i 0 j.length 1).isEmpty) else !(Builtin.Str.occurrences j i 0 j.length 1).isEmpty
def wR (neg:Bool):R3:=fun x y H Q=>match y with
 |.tup ts=>pl 20 x=true/\ts.all (pl 20)=true/\Q (.bl (cC neg x ts)) H
 |.ref a=>match H a with
  |some (.lst ts)=>pl 20 x=true/\ts.all (pl 20)=true/\Q (.bl (cC neg x ts)) H
  |some (.rol ts)=>pl 20 x=true/\ts.all (pl 20)=true/\Q (.bl (cC neg x ts)) H
  |_=>False
 |.str j=>match x with
  |.str i=>Q (.bl (occ neg i j)) H
  |_=>False
 |_=>False
theorem mV (I:Inv X pins Z H s) {x:T}{ts:List T}{xs:List V}{its:List Value}(px:pl 20 x=true) (pts:ts.all (pl 20)=true) (r:Reps X.K H ts xs) (rv:Vals xs its) (A:Around) (hu:A.units+30<cLine) {vx:V}{u:Value}(rx:Rep X.K H x vx) (ru:RelV vx u) :
  ∃e:Value->Bool,(∀y,y∈its->SeqAt.EqAt A s y u (e y))/\its.any e=decide (x∈ts):=by
 rw[J_] at pts;have own:∀y,y∈its->∃t v,t∈ts/\Rep X.K H t v/\RelV v y:=fun y hy=>by
  obtain⟨i,hi,e⟩:=List.mem_iff_getElem.mp hy;have hl:=rv.length;have e':its[i]?=some y:=by rw[d_ hi,e]
  have hx:xs[i]?=some xs[i]:=d_ (by omega);obtain⟨z,ez,rz⟩:=rv.get hx;rw[e'] at ez;cases ez;obtain⟨t,et,rt⟩:=r.get' hx;exact⟨t,_,Rh et,rt,rz⟩
 have dec:∀t v y,t∈ts->Rep X.K H t v->RelV v y->(@decide (∃v,RelV v y/\Rep X.K H x v) (Classical.propDecidable _)=true↔t=x):=fun t v y ht rt ry=>by
  rw[@Qw _ (Classical.propDecidable _)];constructor
  ·rintro⟨v',r1,r2⟩;cases r1.inj ry;exact sY I 20 t x _ (pts t ht) px rt r2
  rintro rfl;exact⟨v,ry,rt⟩
 refine⟨fun y=>@decide (∃v,RelV v y/\Rep X.K H x v) (Classical.propDecidable _),fun y hy=>?_,?_⟩
 ·obtain⟨t,v,ht,rt,ry⟩:=own y hy;have q:=sZ I 20 A t x v vx y u (pts t ht) px rt rx ry ru (by omega);have e:@decide (∃v,RelV v y/\Rep X.K H x v) (Classical.propDecidable _)=decide (t=x):=by rw[QV,dec t v y ht rt ry,Qw]
  show SeqAt.EqAt A s y u (@decide (∃v,RelV v y/\Rep X.K H x v) (Classical.propDecidable _));rw[e];exact q
 rw[QV,RM,Qw];constructor
 ·rintro⟨y,hy,e⟩;obtain⟨t,v,ht,rt,ry⟩:=own y hy;rw[<- (dec t v y ht rt ry).mp e];exact ht
 intro hx;obtain⟨i,hi,e⟩:=List.mem_iff_getElem.mp hx;obtain⟨v,ev,rvv⟩:=r.get (show ts[i]?=some x by rw[d_ hi,e]);obtain⟨y,ey,ry⟩:=rv.get ev;exact⟨y,Rh ey,(dec x v y hx rvv ry).mpr rfl⟩
theorem tD (hu:X.A.units+31<cLine):dU X (compareOp .In) (wR false):=by
 intro pins s Z H x y v u Q I rv ru h;obtain⟨tx,ty,H3,Q3,rx,ry,sh,h,k⟩:=h;have hu':X.A.in1.units+30<cLine:=by rw[units_in1];omega
 have lst:∀{a:Addr} {ts:List T} {xs:List V},SqL X.K H a xs->Reps X.K H ts xs->u=.ref a->pl 20 tx=true->ts.all (pl 20)=true->Q3 (.bl (cC false tx ts)) H3->wpAny (model X.prog X.w) X.A (compareOp .In v u) (EP X pins Z Q) X.xe s:=by intro a ts xs sq r e p1 p2 q;subst e;obtain⟨its,rvs,ht,_⟩:=I.list sq;obtain⟨e,he,ea⟩:=mV I p1 p2 r rvs X.A.in1 hu' rx rv;refine SeqAt.in_listAt e ht.isList (fun y hy=>he y (by simpa using hy)) ⟨.bl _,H,I,rfl,?_⟩;rw[show its.toArray.any e=its.any e by simp,ea];exact k _ _ _ _ .refl sh .ofBl q
 cases ty with
 |tup ts=>obtain⟨a,xs,rfl,sq,r⟩:=ry.tup;cases ru;obtain⟨its,rvs,ht,_⟩:=I.tuple sq;obtain⟨e,he,ea⟩:=mV I h.1 h.2.1 r rvs X.A.in1 hu' rx rv;refine SeqAt.in_tupleAt e ht (fun y hy=>he y (by simpa using hy)) ⟨.bl _,H,I,rfl,?_⟩;rw[show its.toArray.any e=its.any e by simp,ea];exact k _ _ _ _ .refl sh .ofBl h.2.2
 |ref a =>
  have h':(match H3 a with
   |some (.lst ts)=>pl 20 tx=true/\ts.all (pl 20)=true/\Q3 (.bl (cC false tx ts)) H3
   |some (.rol ts)=>pl 20 tx=true/\ts.all (pl 20)=true/\Q3 (.bl (cC false tx ts)) H3
   |_=>False):=h
  rw[ry.ref] at ru
  split at h'
  ·
   rename_i ts e
   obtain⟨xs,sq,r⟩:=sh.sqL (.inl e)
   exact lst sq r ru h'.1 h'.2.1 h'.2.2
  ·
   rename_i ts e
   obtain⟨xs,sq,r⟩:=sh.sqL (.inr e)
   exact lst sq r ru h'.1 h'.2.1 h'.2.2
  ·
   exact h'.elim
 |str j =>
  cases tx with
  |str i=>exact uM pins s Z H x y v u Q I rv ru ⟨i,j,rx.str,ry.str,k _ _ _ _ .refl sh .ofBl h⟩
  |_=>exact h.elim
 |_=>exact h.elim
theorem gh (hu:X.A.units+31<cLine):dU X (compareOp .NotIn) (wR true):=by
 intro pins s Z H x y v u Q I rv ru h;obtain⟨tx,ty,H3,Q3,rx,ry,sh,h,k⟩:=h;have hu':X.A.in1.units+30<cLine:=by rw[units_in1];omega
 have lst:∀{a:Addr} {ts:List T} {xs:List V},SqL X.K H a xs->Reps X.K H ts xs->u=.ref a->pl 20 tx=true->ts.all (pl 20)=true->Q3 (.bl (cC true tx ts)) H3->wpAny (model X.prog X.w) X.A (compareOp .NotIn v u) (EP X pins Z Q) X.xe s:=by intro a ts xs sq r e p1 p2 q;subst e;obtain⟨its,rvs,ht,_⟩:=I.list sq;obtain⟨e,he,ea⟩:=mV I p1 p2 r rvs X.A.in1 hu' rx rv;refine SeqAt.notIn_listAt e ht.isList (fun y hy=>he y (by simpa using hy)) ⟨.bl _,H,I,rfl,?_⟩;rw[show its.toArray.any e=its.any e by simp,ea];exact k _ _ _ _ .refl sh .ofBl q
 cases ty with
 |tup ts=>obtain⟨a,xs,rfl,sq,r⟩:=ry.tup;cases ru;obtain⟨its,rvs,ht,_⟩:=I.tuple sq;obtain⟨e,he,ea⟩:=mV I h.1 h.2.1 r rvs X.A.in1 hu' rx rv;refine SeqAt.notIn_tupleAt e ht (fun y hy=>he y (by simpa using hy)) ⟨.bl _,H,I,rfl,?_⟩;rw[show its.toArray.any e=its.any e by simp,ea];exact k _ _ _ _ .refl sh .ofBl h.2.2
 |ref a =>
  have h':(match H3 a with
   |some (.lst ts)=>pl 20 tx=true/\ts.all (pl 20)=true/\Q3 (.bl (cC true tx ts)) H3
   |some (.rol ts)=>pl 20 tx=true/\ts.all (pl 20)=true/\Q3 (.bl (cC true tx ts)) H3
   |_=>False):=h
  rw[ry.ref] at ru
  split at h'
  ·
   rename_i ts e
   obtain⟨xs,sq,r⟩:=sh.sqL (.inl e)
   exact lst sq r ru h'.1 h'.2.1 h'.2.2
  ·
   rename_i ts e
   obtain⟨xs,sq,r⟩:=sh.sqL (.inr e)
   exact lst sq r ru h'.1 h'.2.1 h'.2.2
  ·
   exact h'.elim
 |str j =>
  cases tx with
  |str i=>exact mq pins s Z H x y v u Q I rv ru ⟨i,j,rx.str,ry.str,k _ _ _ _ .refl sh .ofBl h⟩
  |_=>exact h.elim
 |_=>exact h.elim
def oq {α:Type}(o:Option α) (Q:α->Prop):Prop:=match o with
 |some v=>Q v
 |none=>False
def o9:R3:=fun x y H Q=>match x,y with
 |.ref a,.int i=>match H a with
  |some (.lst ts)=>oq (atI ts i) fun t=>Q t H
  |some (.rol ts)=>oq (atI ts i) fun t=>Q t H
  |_=>False
 |.tup ts,.int i=>oq (atI ts i) fun t=>Q t H
 |.str z,.int i=>z.length<=sizeLine/\oq (atI z.cps.toList i) fun c=>Q (.str ⟨#[c]⟩) H
 |_,_=>False
theorem tE {K:Frag}{H:Hp}{ts:List T}{xs:List V}{i:Int}{t:T}(r:Reps K H ts xs) (h:atI ts i=some t):∃v,atI xs i=some v/\Rep K H t v:=by
 unfold atI at h ⊢;rw[<- r.length];cases e:ixN ts.length i with
 |none=>rw[e] at h;cases h
 |some j =>
 rw[e] at h;exact r.get h
theorem ix3:KQ X o9:=by
 refine IxR.imp Gp ?_;rintro x y H Q ⟨tx,ty,H3,Q3,rx,ry,sh,h,k⟩;have lst:∀{a:Addr} {ts:List T} {xs:List V} {i:Int},SqL X.K H a xs->Reps X.K H ts xs->x=.ref a->y=.int i->oq (atI ts i) (fun t=>Q3 t H3)->rIx X.K x y H Q:=by
  intro a ts xs i sq r e1 e2 q;cases e:atI ts i with
  |none=>rw[e] at q;exact q.elim
  |some t =>
  rw[e] at q;obtain⟨v,ev,rv⟩:=tE r e;exact .inl ⟨a,xs,i,v,e1,e2,sq,ev,k _ _ _ _ .refl sh rv q⟩
 cases tx with
 |ref a =>
  cases ty with
  |int i =>
   have h':(match H3 a with
    |some (.lst ts)=>oq (atI ts i) fun t=>Q3 t H3
    |some (.rol ts)=>oq (atI ts i) fun t=>Q3 t H3
    |_=>False):=h
   split at h'
   ·
    rename_i ts e
    obtain⟨xs,sq,r⟩:=sh.sqL (.inl e)
    exact lst sq r rx.ref ry.int h'
   ·
    rename_i ts e
    obtain⟨xs,sq,r⟩:=sh.sqL (.inr e)
    exact lst sq r rx.ref ry.int h'
   ·
    exact h'.elim
  |_=>exact h.elim
 |tup ts =>
  cases ty with
  |int i =>
   have h':oq (atI ts i) fun t=>Q3 t H3:=h
   cases e:atI ts i with
   |none=>rw[e] at h';exact h'.elim
   |some t =>
    rw[e] at h'
    obtain⟨a,xs,e1,sq,r⟩:=rx.tup
    obtain⟨v,ev,rv⟩:=tE r e
    exact .inr (.inl ⟨a,xs,i,v,e1,ry.int,sq,ev,k _ _ _ _ .refl sh rv h'⟩)
  |_=>exact h.elim
 |str z =>
  cases ty with
  |int i =>
   have h':z.length<=sizeLine/\oq (atI z.cps.toList i) fun c=>Q3 (.str ⟨#[c]⟩) H3:=h
   cases e:atI z.cps.toList i with
   |none=>rw[e] at h';exact h'.2.elim
   |some c =>
    rw[e] at h'
    exact .inr (.inr ⟨z,i,c,rx.str,ry.int,h'.1,e,k _ _ _ _ .refl sh .ofStr h'.2⟩)
  |_=>exact h.elim
 |_=>exact h.elim
def wU:o5:=fun o i v H Q=>match o,i with
 |.ref a,.int k=>match H a with
  |some (.lst ts)=>oq (ixN ts.length k) fun j=>Q (up3 H a (.lst (ts.set j v)))
  |_=>False
 |_,_=>False
theorem SimH.wrL {K:Frag}{H:Hp}{H3:Hp3}{a:Addr}{xs:List V}{ts:List T}{xs':List V}(s:SimH K H3 H) (hH:H a=some (.lst xs)) (r:Reps K H ts xs'):SimH K (up3 H3 a (.lst ts)) (upd H a (.lst xs')):=fun b o e=>by
 have le:TupLe K H (upd H a (.lst xs')):=cB (by rw[hH];exact trivial);by_cases hb:b=a
 ·subst hb;rw[aC] at e;cases e;exact⟨xs',cA,r.mono le⟩
 rw[aF hb] at e;exact (s b o e).stay le fun u q=>by rw[aW hb];exact q
theorem vd:Dp X wU:=by
 refine PSet.imp set_list ?_;rintro o i v H Q ⟨to,ti,tv,H3,Q3,ro,ri,rv,sh,h,k⟩;cases to with
 |ref a =>
  cases ti with
  |int n =>
   have h':(match H3 a with
    |some (.lst ts)=>oq (ixN ts.length n) fun j=>Q3 (up3 H3 a (.lst (ts.set j tv)))
    |_=>False):=h
   split at h'
   ·
    rename_i ts e
    obtain⟨xs,hH,r⟩:=sh a _ e
    cases ej:ixN ts.length n with
    |none=>rw[ej] at h';exact h'.elim
    |some j =>
     rw[ej] at h'
     exact⟨a,xs,n,j,ro.ref,ri.int,hH,by rw[<- r.length];exact ej,k _ _ (cB (by rw[hH];exact trivial)) (sh.wrL hH (r.set j rv)) h'⟩
   ·
    exact h'.elim
  |_=>exact h.elim
 |_=>exact h.elim
abbrev TO3:=St3->Hp3->(Option Int->Hp3->Prop)->Prop
def Qg (K:Frag) (t3:TO3):TO:=fun Z H Q=>∃Z3 H3 Q3,SimS K H Z3 Z/\SimH K H3 H/\t3 Z3 H3 Q3/\∀o H' H3',TupLe K H H'->SimH K H3' H'->Q3 o H3'->Q o H'
def PO3 (X:Cx) (e:Option Expr) (t:TO3):Prop:=PO X e (Qg X.K t)
theorem PO.imp {e:Option Expr}{t t':TO}(h:PO X e t) (w:∀Z H Q,t' Z H Q->t Z H Q):PO X e t':=fun pins s Z H Q I q=>h pins s Z H Q I (w Z H Q q)
def ph:TO3:=fun _ H Q=>Q none H
def wV (t:TE3):TO3:=fun Z H Q=>t Z H fun x H1=>match x with
 |.int i=>Q (some i) H1
 |_=>False
theorem gm:PO3 X none ph:=by
 refine PO.imp zR ?_;rintro Z H Q ⟨Z3,H3,Q3,ss,sh,h,k⟩;exact k _ _ _ .refl sh h
theorem dm {e:Expr}{te:TE3}(h:PE3 X e te):PO3 X (some e) (wV te):=by
 refine PO.imp (zT h) ?_;rintro Z H Q ⟨Z3,H3,Q3,ss,sh,h,k⟩;refine⟨Z3,H3,_,ss,sh,h,fun v H' t H3' le sh' r q=>?_⟩;cases t with
 |int i=>exact⟨i,r.int,k _ _ _ le sh' q⟩
 |_=>exact q.elim
theorem GP:SlR X (fun x lo hi H Q=>∃z,x=.str z/\z.length<=sizeLine/\Q (.str (Txt.slice z lo hi)) H):=by
 intro pins s Z H x v vl vu lo hi sl Q I rx hs pl pu h;obtain⟨z,rfl,hz,q⟩:=h;obtain⟨t,rfl⟩:=rx;refine⟨"str",_,F.slot_str_getitem.lookup,typeIs_str _ _ _,?_⟩;obtain⟨o,e,c,d⟩:=hs;have fin:∀(t':Tok) (k:Nat),EP X pins Z Q (.str (Txt.slice z lo hi) t') { s with toks:=k}:=fun t' k=>⟨.str _,H,I.tok k,⟨t',rfl⟩,q⟩;cases pl with
 |none =>
  cases pu with
  |none=>exact RN (l:=none) (u:=none) (st:=none) ⟨o,e,c,d⟩ rfl (post_val_or_str ⟨N_ (Txt.slice_le z _ _) hz,fin⟩)
  |int j uj=>exact RN (l:=none) (u:=some (j,uj)) (st:=none) ⟨o,e,c,d⟩ rfl (post_val_or_str ⟨N_ (Txt.slice_le z _ _) hz,fin⟩)
 |int i ui =>
 cases pu with
 |none=>exact RN (l:=some (i,ui)) (u:=none) (st:=none) ⟨o,e,c,d⟩ rfl (post_val_or_str ⟨N_ (Txt.slice_le z _ _) hz,fin⟩)
 |int j uj=>exact RN (l:=some (i,ui)) (u:=some (j,uj)) (st:=none) ⟨o,e,c,d⟩ rfl (post_val_or_str ⟨N_ (Txt.slice_le z _ _) hz,fin⟩)
def cQ (ts:List T) (lo hi:Option Int):List T:=(ts.drop (HT.sIx ts.length 0 lo)).take (HT.sIx ts.length ts.length hi - HT.sIx ts.length 0 lo)
def Ai:T->Option Int->Option Int->Hp3->VK3->Prop:=fun x lo hi H Q=>match x with
 |.ref a=>match H a with
  |some (.lst ts)=>∀p,H p=none->Q (.ref p) (up3 H p (.lst (cQ ts lo hi)))
  |some (.rol ts)=>∀p,H p=none->Q (.ref p) (up3 H p (.lst (cQ ts lo hi)))
  |_=>False
 |.tup ts=>¬(HT.sIx ts.length 0 lo=0/\HT.sIx ts.length ts.length hi=ts.length)/\Q (.tup (cQ ts lo hi)) H
 |.str z=>z.length<=sizeLine/\Q (.str (Txt.slice z lo hi)) H
 |_=>False
def KY (te:TE3) (tl th:TO3):TE3:=fun Z H Q=>te Z H fun x H1=>tl Z H1 fun l H2=>th Z H2 fun u H3=>Ai x l u H3 Q
theorem mW {K:Frag}{H:Hp}{ts:List T}{xs:List V}(r:Reps K H ts xs) (lo hi:Option Int):Reps K H (cQ ts lo hi) (oR xs lo hi):=by
 unfold cQ oR;rw[<- r.length];exact (r.drop _).take _
theorem gw {e:Expr}{lo hi:Option Expr}{te:TE3}{tl th:TO3}{p2 pos:Pos}(he:PE3 X e te) (hl:PO3 X lo tl) (hu:PO3 X hi th):PE3 X (.Subscript e (.Slice lo hi none p2) pos) (KY te tl th):=by
 refine PE.imp (vW (sl_list.or (sl_tup.or GP)) he hl hu) ?_;rintro Z H Q ⟨Z3,H3,Q3,ss,sh,h,k⟩;refine⟨Z3,H3,_,ss,sh,h,fun x H1 tx H31 le1 sh1 rx q1=>⟨Z3,H31,_,ss.mono le1,sh1,q1,fun l H2 H32 le2 sh2 q2=>⟨Z3,H32,_,ss.mono (le1.trans le2),sh2,q2,fun u H4 H34 le4 sh4 q4=>?_⟩⟩⟩;have k':=k.at (le1.trans (le2.trans le4));have rx':=rx.mono (le2.trans le4);cases tx with
 |ref a =>
  have h':(match H34 a with
   |some (.lst ts)=>∀p,H34 p=none->Q3 (.ref p) (up3 H34 p (.lst (cQ ts l u)))
   |some (.rol ts)=>∀p,H34 p=none->Q3 (.ref p) (up3 H34 p (.lst (cQ ts l u)))
   |_=>False):=q4
  split at h'
  ·
   rename_i ts e
   obtain⟨xs,sq,r⟩:=sh4.sqL (.inl e)
   exact .inl ⟨a,xs,rx'.ref,sq,fun p hp=>k' _ _ _ _ (aR hp) (sh4.newLst hp (mW r l u)) .ofRef (h' p (sh4.fresh hp))⟩
  ·
   rename_i ts e
   obtain⟨xs,sq,r⟩:=sh4.sqL (.inr e)
   exact .inl ⟨a,xs,rx'.ref,sq,fun p hp=>k' _ _ _ _ (aR hp) (sh4.newLst hp (mW r l u)) .ofRef (h' p (sh4.fresh hp))⟩
  ·
   exact h'.elim
 |tup ts=>obtain⟨a,xs,rfl,sq,r⟩:=rx'.tup;refine .inr (.inl ⟨a,xs,rfl,sq,by rw[<- r.length];exact q4.1,fun p hp=>k' _ _ _ _ (aR hp) (sh4.new hp) (SimH.newTup (H3:=H34) hp (mW r l u)) q4.2⟩)
 |str z=>exact .inr (.inr ⟨z,rx'.str,q4.1,k' _ _ _ _ .refl sh4 .ofStr q4.2⟩)
 |_=>exact q4.elim
def bU (k:Str):List (Str × T)->Option T
 |[]=>none
 | (k',v)::r=>if k'=k then some v else bU k r
def put3 (k:Str) (v:T) (kvs:List (Str × T)):List (Str × T) :=
 if (kvs.any fun kv=>decide (kv.1=k))=true then kvs.map (fun kv=>if kv.1=k then (kv.1,v) else kv) else kvs++[(k,v)]
def r3D:R3:=fun x y H Q=>match x,y with
 |.ref a,.str k=>match H a with
  |some (.dct kvs)=>oq (bU k kvs) fun t=>Q t H
  |_=>False
 |_,_=>False
theorem pB {K:Frag}{H:Hp}{k:Str}:∀{kvs:List (Str × T)}{vs:List (Key × V)}{t:T},RepD K H kvs vs->bU k kvs=some t->∃v,iw vs (Sum.inr k:Key)=some v/\Rep K H t v
 |[],_,_,_,e=>by cases e
 | (k',t')::r,_,t,.cons (b:=(kk,v')) ⟨e1,rv⟩ rr,e=>by
  simp only at e1 rv
  subst e1
  unfold bU at e
  by_cases hk:k'=k
  ·
   rw[if_pos hk] at e
   cases e
   exact⟨v',by rw[fW (by rw[hk])],rv⟩
  ·
   rw[if_neg hk] at e
   obtain⟨v,ev,q⟩:=pB rr e
   exact⟨v,by rw[fX (by intro z;exact hk (Sum.inr.inj z))];exact ev,q⟩
theorem bu {o i:Expr}{to ti:TE3}{pos:Pos}(hu:X.A.units+1<cLine) (ho:PE3 X o to) (hi:PE3 X i ti) (hs:Gw i:=by exact fun _ _=>rfl):PE3 X (.Subscript o i pos) (qK r3D to ti):=by
 refine PE.imp (zY hu ho hi hs) ?_;rintro Z H Q ⟨Z3,H3,Q3,ss,sh,h,k⟩;refine⟨Z3,H3,_,ss,sh,h,fun x H1 tx H31 le1 sh1 rx q1=>⟨Z3,H31,_,ss.mono le1,sh1,q1,fun y H2 ty H32 le2 sh2 ry q2=>?_⟩⟩;cases tx with
 |ref a =>
  cases ty with
  |str key =>
   have h':(match H32 a with
    |some (.dct kvs)=>oq (bU key kvs) fun t=>Q3 t H32
    |_=>False):=q2
   split at h'
   ·
    rename_i kvs e
    obtain⟨vs,hH,r⟩:=sh2 a _ e
    cases el:bU key kvs with
    |none=>rw[el] at h';exact h'.elim
    |some t =>
     rw[el] at h'
     obtain⟨v,ev,rv⟩:=pB r el
     refine⟨a,v,rx.ref,?_,k.at (le1.trans le2) _ _ _ _ .refl sh2 rv h'⟩
     rw[ry.str,<- ev]
     exact DGet.k (k:=Sum.inr key) hH
   ·
    exact h'.elim
  |_=>exact q2.elim
 |_=>exact q2.elim
def wW (td ty tv:TE3):TS3:=fun D Z H=>tv Z H fun v H1=>td Z H1 fun x H2=>ty Z H2 fun y H3=>match x,y with
 |.ref a,.str k=>match H3 a with
  |some (.dct kvs)=>kvs.length<sizeLine/\D.nx Z (up3 H3 a (.dct (put3 k v kvs)))
  |_=>False
 |_,_=>False
theorem Aj {K:Frag}{H:Hp}{k:Str}{t:T}{v:V}(rv:Rep K H t v) {kvs:List (Str × T)}{vs:List (Key × V)}(r:RepD K H kvs vs):RepD K H (put3 k t kvs) (putK vs (Sum.inr k:Key) v):=by
 have e:∀{kvs:List (Str × T)} {vs:List (Key × V)},RepD K H kvs vs->(kvs.any fun kv=>decide (kv.1=k))=(vs.any fun kv=>decide (kv.1=(Sum.inr k:Key)))/\RepD K H (kvs.map (fun kv=>if kv.1=k then (kv.1,t) else kv)) (vs.map (fun kv=>if kv.1=(Sum.inr k:Key) then (kv.1,v) else kv)):=by
  intro kvs;induction kvs with
  |nil=>intro vs r;cases r;exact⟨rfl,.nil⟩
  |cons p l ih =>
  intro vs r;cases r with
  |cons q rr =>
  rename_i b l2;obtain⟨e1,e2⟩:=ih rr;obtain⟨q1,q2⟩:=q;obtain⟨bk,bv⟩:=b;simp only at q1 q2;subst q1;by_cases hk:p.1=k
  ·refine⟨by simp [hk],?_⟩;simp only[m_,hk,if_true];exact .cons ⟨rfl,rv⟩ e2
  have hk':¬(Sum.inr p.1:Key)=Sum.inr k:=fun z=>hk (Sum.inr.inj z);refine⟨by simp only[List.any_cons,hk,hk',decide_false,Bool.false_or];exact e1,?_⟩;simp only[m_,hk,hk',Q4];exact .cons ⟨rfl,q2⟩ e2
 obtain⟨e1,e2⟩:=e r;unfold put3 putK;rw[e1];split
 ·exact e2
 have app:∀{a:List (Str × T)} {b:List (Key × V)},RepD K H a b->RepD K H (a++[(k,t)]) (b++[((Sum.inr k:Key),v)]):=fun h=>Paired.snoc h ⟨rfl,rv⟩;exact app r
theorem SimH.wrD {K:Frag}{H:Hp}{H3:Hp3}{a:Addr}{kv:List (Key × V)}{kvs:List (Str × T)}{kv':List (Key × V)}(s:SimH K H3 H) (hH:H a=some (.dK kv)) (r:RepD K H kvs kv'):SimH K (up3 H3 a (.dct kvs)) (upd H a (.dK kv')):=fun b o e=>by
 have le:TupLe K H (upd H a (.dK kv')):=cB (by rw[hH];exact trivial);by_cases hb:b=a
 ·subst hb;rw[aC] at e;cases e;exact⟨kv',cA,r.mono le⟩
 rw[aF hb] at e;exact (s b o e).stay le fun u q=>by rw[aW hb];exact q
theorem c7 {o i value:Expr}{td ty tv:TE3}{pos pos':Pos}(hu:X.A.units+1<cLine) (ho:PE3 X o td) (hi:PE3 X i ty) (hv:PE3 X value tv) (hs:swapsWith value (some (.Subscript o i pos')) pos.line X.env=pure false:=by rfl) :
  PS3 X (.Assign [.Subscript o i pos'] value pos) (wW td ty tv):=by
 refine PS.imp (zZ hu ho hi hv hs) ?_;rintro D Z H ⟨Z3,H3,D3,ss,sh,h,k1,_⟩;refine⟨Z3,H3,_,ss,sh,h,fun v H1 tv H31 le1 sh1 rv q1=>⟨Z3,H31,_,ss.mono le1,sh1,q1,fun x H2 tx H32 le2 sh2 rx q2=>⟨Z3,H32,_,ss.mono (le1.trans le2),sh2,q2,fun y H4 ty H34 le4 sh4 ry q4=>?_⟩⟩⟩;cases tx with
 |ref a =>
  cases ty with
  |str key =>
   have h':(match H34 a with
    |some (.dct kvs)=>kvs.length<sizeLine/\D3.nx Z3 (up3 H34 a (.dct (put3 key tv kvs)))
    |_=>False):=q4
   split at h'
   ·
    rename_i kvs e
    obtain⟨vs,hH,r⟩:=sh4 a _ e
    have rvv:=rv.mono (le2.trans le4)
    have le5:TupLe X.K H4 (upd H4 a (.dK (putK vs (Sum.inr key:Key) v))):=cB (by rw[hH];exact trivial)
    refine⟨a,_,(rx.mono le4).ref,?_,k1 _ _ _ _ (le1.trans (le2.trans (le4.trans le5))) (ss.mono (le1.trans (le2.trans (le4.trans le5)))) (sh4.wrD hH (Aj rvv r)) h'.2⟩
    rw[ry.str]
    exact DPut.k (k:=Sum.inr key) hH (by rw[<- Su r];exact h'.1)
   ·
    exact h'.elim
  |_=>exact q4.elim
 |_=>exact q4.elim
def wX:List (Str × TE3)->St3->Hp3->(List (Str × T)->Hp3->Prop)->Prop
 |[],_,H,Q=>Q [] H
 | (k,tv)::r,Z,H,Q=>tv Z H fun y H2=>wX r Z H2 fun ps H3=>Q ((k,y)::ps) H3
def Qh (kvs more:List (Str × T)):List (Str × T):=more.foldl (fun acc kv=>put3 kv.1 kv.2 acc) kvs
def GQ (trs:List (Str × TE3)):TE3:=fun Z H Q=>∀p,H p=none->wX trs Z (up3 H p (.dct [])) fun ps H2=>H2 p=some (.dct [])/\ps.length<=15/\Q (.ref p) (up3 H2 p (.dct (Qh [] ps)))
variable {x:Str}{p pos:Pos}{e:Expr}{es:List Expr}{t:TA3}{id Ty:String}{r:List T->Hp3->VK3->Prop}
def GR (r:List T->Hp3->VK3->Prop) (t:TA3):TE3:=fun Z H Q=>t Z H fun vs H1=>r vs H1 Q
theorem aH (hc:dW X (.builtin id) r) (hg:Gl X x) (hm:X.mg x=none) (hv:bootBuiltins x=some (.builtin id)) (ha:PA3 X (e::es) t) (hn:x≠"__name__":=by decide) (hdb:(x==("__debug__":Str))=false:=by decide)
  (he:starEach (e::es) X.env=(false,eval e X.env)::starEach es X.env:=by rfl) (hpl:(backTo pos (starEach es X.env)).any (·.1)=false:=by rfl):PE3 X (.Call (.Name x p) (e::es) [] pos) (GR r t):=by
 refine PE.imp (vU hc hg hm hv ha hn hdb he hpl) ?_;rintro Z H Q ⟨Z3,H3,Q3,ss,sh,h,k⟩;exact⟨Z3,H3,_,ss,sh,h,fun vs H' ts H3' le sh' r q=>⟨ts,H3',Q3,r,sh',q,k.at le⟩⟩
theorem bD (hc:dW X (.type Ty) r) (hg:Gl X x) (hm:X.mg x=none) (hv:bootBuiltins x=some (.type Ty)) (ha:PA3 X (e::es) t) (hn:x≠"__name__":=by decide) (hdb:(x==("__debug__":Str))=false:=by decide)
  (he:starEach (e::es) X.env=(false,eval e X.env)::starEach es X.env:=by rfl) (hpl:(backTo pos (starEach es X.env)).any (·.1)=false:=by rfl):PE3 X (.Call (.Name x p) (e::es) [] pos) (GR r t):=by
 refine PE.imp (uQ hc hg hm hv ha hn hdb he hpl) ?_;rintro Z H Q ⟨Z3,H3,Q3,ss,sh,h,k⟩;exact⟨Z3,H3,_,ss,sh,h,fun vs H' ts H3' le sh' r q=>⟨ts,H3',Q3,r,sh',q,k.at le⟩⟩
theorem pC {n:String}(hg:Gl X x) (hm:X.mg x=none) (hv:bootBuiltins x=some (.type n)) (hn:x≠"__name__":=by decide) (hdb:(x==("__debug__":Str))=false:=by decide):PE3 X (.Name x pos) (tC3 (.ty n)):=by
 refine PE.imp (zz (v:=.ty n) hg hm hv rfl hn hdb) ?_;rintro Z H Q ⟨Z3,H3,Q3,ss,sh,h,k⟩;exact k _ _ _ H3 .refl sh .ofTy h
theorem Reps.one' {K:Frag}{H:Hp}{t:T}{vs:List V}(r:Reps K H [t] vs):∃v,vs=[v]/\Rep K H t v:=by
 obtain⟨v,_,rfl,a,b⟩:=r.inv;rw[b.inv0];exact⟨v,rfl,a⟩
theorem Reps.two' {K:Frag}{H:Hp}{t u:T}{vs:List V}(r:Reps K H [t,u] vs):∃v w,vs=[v,w]/\Rep K H t v/\Rep K H u w:=by
 obtain⟨v,_,rfl,a,b⟩:=r.inv;obtain⟨w,rfl,c⟩:=b.one';exact⟨v,w,rfl,a,c⟩
def tG:List T->Hp3->VK3->Prop:=fun ts H Q=>match ts with
 |[.ref a]=>match H a with
  |some (.lst xs)=>Q (.int xs.length) H
  |some (.rol xs)=>Q (.int xs.length) H
  |_=>False
 |[.tup xs]=>Q (.int xs.length) H
 |[.str z]=>z.length<=sizeLine/\Q (.int z.length) H
 |_=>False
theorem bc:dW X (.builtin "len") tG:=by
 refine CallR.imp (call_len_seq.or mF) ?_;rintro xs H Q ⟨ts,H3,Q3,r,sh,h,k⟩
 match ts,h,r with
 |[.ref a],h,r =>
  obtain⟨v,rfl,rv⟩:=r.one';have h':(match H3 a with
   |some (.lst xs)=>Q3 (.int xs.length) H3
   |some (.rol xs)=>Q3 (.int xs.length) H3
   |_=>False):=h
  split at h'
  ·rename_i us e;obtain⟨ys,sq,rs⟩:=sh.sqL (.inl e);exact .inl ⟨a,ys,by rw[rv.ref],.inl sq,by rw[<- rs.length];exact k _ _ _ _ .refl sh .ofInt h'⟩
  ·rename_i us e;obtain⟨ys,sq,rs⟩:=sh.sqL (.inr e);exact .inl ⟨a,ys,by rw[rv.ref],.inl sq,by rw[<- rs.length];exact k _ _ _ _ .refl sh .ofInt h'⟩
  exact h'.elim
 |[.tup us],h,r=>obtain⟨v,rfl,rv⟩:=r.one';obtain⟨a,ys,rfl,sq,rs⟩:=rv.tup;exact .inl ⟨a,ys,rfl,.inr sq,by rw[<- rs.length];exact k _ _ _ _ .refl sh .ofInt h⟩
 |[.str z],h,r =>
 obtain⟨v,rfl,rv⟩:=r.one';exact .inr ⟨z,by rw[rv.str],h.1,k _ _ _ _ .refl sh .ofInt h.2⟩
def qL:List T->Hp3->VK3->Prop:=fun ts H Q=>match ts with
 |[.ref a]=>match H a with
  |some (.lst xs)=>∀p,H p=none->Q (.ref p) (up3 H p (.lst xs))
  |some (.rol xs)=>∀p,H p=none->Q (.ref p) (up3 H p (.lst xs))
  |_=>False
 |[.tup xs]=>∀p,H p=none->Q (.ref p) (up3 H p (.lst xs))
 |_=>False
theorem mX:dW X (.type "list") qL:=by
 refine CallR.imp mG ?_;rintro xs H Q ⟨ts,H3,Q3,r,sh,h,k⟩
 match ts,h,r with
 |[.ref a],h,r =>
  obtain⟨v,rfl,rv⟩:=r.one';have h':(match H3 a with
   |some (.lst xs)=>∀p,H3 p=none->Q3 (.ref p) (up3 H3 p (.lst xs))
   |some (.rol xs)=>∀p,H3 p=none->Q3 (.ref p) (up3 H3 p (.lst xs))
   |_=>False):=h
  split at h'
  ·rename_i us e;obtain⟨ys,sq,rs⟩:=sh.sqL (.inl e);exact⟨a,ys,by rw[rv.ref],.inl sq,fun l hl=>k _ _ _ _ (aR hl) (sh.newLst hl rs) .ofRef (h' l (sh.fresh hl))⟩
  ·rename_i us e;obtain⟨ys,sq,rs⟩:=sh.sqL (.inr e);exact⟨a,ys,by rw[rv.ref],.inl sq,fun l hl=>k _ _ _ _ (aR hl) (sh.newLst hl rs) .ofRef (h' l (sh.fresh hl))⟩
  exact h'.elim
 |[.tup us],h,r =>
 obtain⟨v,rfl,rv⟩:=r.one';obtain⟨a,ys,rfl,sq,rs⟩:=rv.tup;exact⟨a,ys,rfl,.inr sq,fun l hl=>k _ _ _ _ (aR hl) (sh.newLst hl rs) .ofRef (h l (sh.fresh hl))⟩
def mY:List T->Hp3->VK3->Prop:=fun ts H Q=>match ts with
 |[.ref a]=>match H a with
  |some (.lst xs)=>Q (.tup xs) H
  |some (.rol xs)=>Q (.tup xs) H
  |_=>False
 |[.tup xs]=>Q (.tup xs) H
 |_=>False
theorem cP:dW X (.type "tuple") mY:=by
 refine CallR.imp kE ?_;rintro xs H Q ⟨ts,H3,Q3,r,sh,h,k⟩
 match ts,h,r with
 |[.ref a],h,r =>
  obtain⟨v,rfl,rv⟩:=r.one';have h':(match H3 a with
   |some (.lst xs)=>Q3 (.tup xs) H3
   |some (.rol xs)=>Q3 (.tup xs) H3
   |_=>False):=h
  split at h'
  ·rename_i us e;obtain⟨ys,sq,rs⟩:=sh.sqL (.inl e);exact⟨a,ys,by rw[rv.ref],.inl ⟨sq,fun l hl=>k _ _ _ _ (aR hl) (sh.new hl) (SimH.newTup (H3:=H3) hl rs) h'⟩⟩
  ·rename_i us e;obtain⟨ys,sq,rs⟩:=sh.sqL (.inr e);exact⟨a,ys,by rw[rv.ref],.inl ⟨sq,fun l hl=>k _ _ _ _ (aR hl) (sh.new hl) (SimH.newTup (H3:=H3) hl rs) h'⟩⟩
  exact h'.elim
 |[.tup us],h,r =>
 obtain⟨v,rfl,rv⟩:=r.one';obtain⟨a,ys,rfl,sq,rs⟩:=rv.tup;exact⟨a,ys,rfl,.inr ⟨sq,k _ _ _ _ .refl sh (.ofTup sq rs) h⟩⟩
def wY:List T->Hp3->VK3->Prop:=fun ts H Q=>match ts with
 |[.int i]=>Q (.int i) H
 |[.bl b]=>Q (.int (if b then 1 else 0)) H
 |_=>False
theorem Ak:dW X (.type "int") wY:=by
 refine CallR.imp uN ?_;rintro xs H Q ⟨ts,H3,Q3,r,sh,h,k⟩
 match ts,h,r with
 |[.int i],h,r=>obtain⟨v,rfl,rv⟩:=r.one';exact .inl ⟨i,by rw[rv.int],k _ _ _ _ .refl sh .ofInt h⟩
 |[.bl b],h,r =>
 obtain⟨v,rfl,rv⟩:=r.one';exact .inr ⟨b,by rw[rv.bl],k _ _ _ _ .refl sh .ofInt h⟩
def KZ:List T->Hp3->VK3->Prop:=fun ts H Q=>match ts with
 |[.int i]=>i.natAbs.log2<1920/\Q (.str (toString i)) H
 |_=>False
def ints3:List T->Option (List Int)
 |[]=>some []
 |.int i::r=>(ints3 r).map (i::·)
 |_=>none
theorem cV:∀(ns:List Int),ints3 (ns.map T.int)=some ns
 |[]=>rfl
 |n::r=>by simp [ints3,cV r]
theorem iC {K:Frag}{H:Hp}:∀{ts:List T}{xs:List V}{us:List Value}{ns:List Int},ints3 ts=some ns->Reps K H ts xs->Vals xs us->IntsAre us ns
 |[],xs,us,ns,e,r,v=>by
  cases e
  rw[r.inv0] at v
  cases v
  exact .nil
 |.int i::l,xs,us,ns,e,r,v=>by
  obtain⟨x,xr,rfl,rx,rr⟩:=r.inv
  cases v with
  |cons a b =>
   rw[rx.int] at a
   obtain⟨t,rfl⟩:=a
   cases hl:ints3 l with
   |none=>simp [ints3,hl] at e
   |some ms =>
    simp [ints3,hl] at e
    subst e
    exact .cons _ _ (iC hl rr b)
 |.non::_,_,_,_,e,_,_=>by simp [ints3] at e
 |.bl _::_,_,_,_,e,_,_=>by simp [ints3] at e
 |.str _::_,_,_,_,e,_,_=>by simp [ints3] at e
 |.tup _::_,_,_,_,e,_,_=>by simp [ints3] at e
 |.ref _::_,_,_,_,e,_,_=>by simp [ints3] at e
 |.ty _::_,_,_,_,e,_,_=>by simp [ints3] at e
def Du:List T->Hp3->VK3->Prop:=fun ts H Q=>match ts with
 |[.ref a]=>match H a with
  |some (.lst xs)=>oq (ints3 xs) fun ns=>Q (.int ns.sum) H
  |some (.rol xs)=>oq (ints3 xs) fun ns=>Q (.int ns.sum) H
  |_=>False
 |_=>False
theorem jO (hc:X.calm=true):dW X (.builtin "sum") Du:=by
 intro pins s Z H xs us Q I rv h;obtain⟨ts,H3,Q3,r,sh,h,k⟩:=h
 match ts,h,r with
 |[.ref a],h,r =>
 obtain⟨v,rfl,rv'⟩:=r.one';obtain⟨u,rfl,ru⟩:=vals1 rv;rw[rv'.ref] at ru;cases ru;have main:∀{ls:List T} {ys:List V},SqL X.K H a ys->Reps X.K H ls ys->oq (ints3 ls) (fun ns=>Q3 (.int ns.sum) H3)->wpAny (model X.prog X.w) X.A (call (.builtin "sum") [.ref a]) (EP X pins Z Q) X.xe s:=by
  intro ls ys sq rs q;cases e:ints3 ls with
  |none=>rw[e] at q;exact q.elim
  |some ns =>
  rw[e] at q;obtain⟨its,rvs,hl,_⟩:=I.list sq;have hi:=iC e rs rvs;have hall:AllInts its.toArray:=hi.allInts;obtain⟨zs,ez⟩:=hall.items;have hls:s.heap.IsList a (intItems zs):=by rw[<- ez];exact hl.isList
  refine sum_intListG (I.ok.hd hc) hls fun h' tk t' hk=>?_;have es:preSum (numAt zs) zs.size=ns.sum:=by have e1:=nums_intItems zs;rw[<- ez,show its.toArray.toList=its from rfl,hi.numsOf] at e1;rw[preSum_eq,Q6 (by simp),<- e1]
  rw[es];exact⟨.int ns.sum,H,I.kept hk,⟨t',rfl⟩,k _ _ _ _ .refl sh .ofInt q⟩
 have h':(match H3 a with
  |some (.lst xs)=>oq (ints3 xs) fun ns=>Q3 (.int ns.sum) H3
  |some (.rol xs)=>oq (ints3 xs) fun ns=>Q3 (.int ns.sum) H3
  |_=>False):=h
 split at h'
 ·rename_i ls e;obtain⟨ys,sq,rs⟩:=sh.sqL (.inl e);exact main sq rs h'
 ·rename_i ls e;obtain⟨ys,sq,rs⟩:=sh.sqL (.inr e);exact main sq rs h'
 exact h'.elim
def isT (n:String):T->Hp3->Option Bool:=fun x H=>match x with
 |.non=>some (n=="NoneType")
 |.bl _=>some (n=="bool"||n=="int")
 |.int _=>some (n=="int")
 |.str _=>some (n=="str")
 |.tup _=>some (n=="tuple")
 |.ref a=>match H a with
  |some (.lst _)=>some (n=="list")
  |some (.dct _)=>some (n=="dict")
  |_=>none
 |.ty _=>none
def jP:List T->Hp3->VK3->Prop:=fun ts H Q=>match ts with
 |[x,.ty n]=>(n="str"\/n="int"\/n="bool"\/n="tuple"\/n="list")/\oq (isT n x H) fun b=>Q (.bl b) H
 |_=>False
theorem iD (K:Frag) (a b:String) (ha:a="NoneType"\/a="bool"\/a="int"\/a="str"\/a="tuple"\/a="list"\/a="dict") (hb:b="str"\/b="int"\/b="bool"\/b="tuple"\/b="list") :
  kitOne K (.type a) (.type b)=some (a==b||(a=="bool"&&b=="int")):=by
 rcases ha with rfl | rfl | rfl | rfl | rfl | rfl | rfl <;> rcases hb with rfl | rfl | rfl | rfl | rfl <;> rfl
theorem jQ:dW X (.builtin "isinstance") jP:=by
 intro pins s Z H xs us Q I rv h;obtain⟨ts,H3,Q3,r,sh,h,k⟩:=h
 match ts,h,r with
 |[x,.ty n],h,r =>
 obtain⟨v,w,rfl,r1,r2⟩:=r.two';obtain⟨u1,u2,rfl,q1,q2⟩:=vals2 rv;rw[r2.ty] at q2;cases q2;obtain⟨hn,h⟩:=h;have fin:∀{b:Bool},Q3 (.bl b) H3->∀tk,EP X pins Z Q (.bool b) { s with toks:=tk}:=fun q tk=>⟨.bl _,H,I.tok tk,rfl,k _ _ _ _ .refl sh .ofBl q⟩;cases x with
 |non=>exact dO I q1 (by rw[r1.non];exact .non) (iD X.K "NoneType" n (by simp) hn) (fin (by rcases hn with rfl | rfl | rfl | rfl | rfl <;> exact h))
 |bl b=>exact dO I q1 (by rw[r1.bl];exact .bl b) (iD X.K "bool" n (by simp) hn) (fin (by rcases hn with rfl | rfl | rfl | rfl | rfl <;> exact h))
 |int i=>exact dO I q1 (by rw[r1.int];exact .int i) (iD X.K "int" n (by simp) hn) (fin (by rcases hn with rfl | rfl | rfl | rfl | rfl <;> exact h))
 |str z=>exact dO I q1 (by rw[r1.str];exact .str z) (iD X.K "str" n (by simp) hn) (fin (by rcases hn with rfl | rfl | rfl | rfl | rfl <;> exact h))
 |tup us=>obtain⟨a,ys,rfl,sq,rs⟩:=r1.tup;cases q1;obtain⟨its,_,⟨o,h1,h2,_⟩,_⟩:=I.tuple sq;exact kia_one kitx_tuple I.kIn ⟨o,h1,h2⟩ (iD X.K "tuple" n (by simp) hn) (fun z=>nomatch z) (fin (by rcases hn with rfl | rfl | rfl | rfl | rfl <;> exact h))
 |ref a =>
  have h':oq (match H3 a with
   |some (.lst _)=>some (n=="list")
   |some (.dct _)=>some (n=="dict")
   |_=>none) fun b=>Q3 (.bl b) H3:=h
  rw[r1.ref] at q1
  cases e:H3 a with
  |none=>rw[e] at h';exact h'.elim
  |some o =>
   rw[e] at h'
   cases o with
   |lst ls =>
    obtain⟨zs,hH,_⟩:=sh a _ e
    exact dO I q1 (.lst hH) (iD X.K "list" n (by simp) hn) (fin (by rcases hn with rfl | rfl | rfl | rfl | rfl <;> exact h'))
   |dct ls =>
    obtain⟨zs,hH,_⟩:=sh a _ e
    exact dO I q1 (.dK hH) (iD X.K "dict" n (by simp) hn) (fin (by rcases hn with rfl | rfl | rfl | rfl | rfl <;> exact h'))
   |rol ls=>exact h'.elim
   |dcp ls=>exact h'.elim
   |exc _ _=>exact h'.elim
   |xdt _=>exact h'.elim
   |dci _=>exact h'.elim
   |dif _ _=>exact h'.elim
   |ins _ _=>exact h'.elim
 |ty m=>exact h.elim
variable {o:Expr}{to:TE3}{name:Str}{apos cpos:Pos}{m:T->List T->Hp3->VK3->Prop}
def ty3 (Ty:String):T->Hp3->Prop:=fun x H=>match x with
 |.str _=>Ty="str"
 |.tup _=>Ty="tuple"
 |.ref a=>Ty="list"/\match H a with
  |some (.lst _)=>True
  |some (.rol _)=>True
  |_=>False
 |_=>False
theorem Dv {K:Frag}{H:Hp}{H3:Hp3}{t:T}{v:V}(sh:SimH K H3 H) (r:Rep K H t v) (h:ty3 Ty t H3):tyV K Ty v H:=by
 cases t with
 |str z=>rw[r.str];exact h
 |tup ts=>obtain⟨a,xs,rfl,sq,_⟩:=r.tup;exact .inr (.inl ⟨h,xs,sq⟩)
 |ref a =>
  rw[r.ref];refine .inl ⟨h.1,?_⟩;have h2:=h.2;cases e:H3 a with
  |none=>rw[e] at h2;exact h2.elim
  |some o =>
  rw[e] at h2;cases o with
  |lst ts=>obtain⟨xs,sq,_⟩:=sh.sqL (.inl e);exact⟨xs,sq⟩
  |rol ts=>obtain⟨xs,sq,_⟩:=sh.sqL (.inr e);exact⟨xs,sq⟩
  |dct _=>exact h2.elim
  |dcp _=>exact h2.elim
  |exc _ _=>exact h2.elim
  |xdt _=>exact h2.elim
  |dci _=>exact h2.elim
  |dif _ _=>exact h2.elim
  |ins _ _=>exact h2.elim
 |_=>exact h.elim
def K1 (Ty:String) (m:T->List T->Hp3->VK3->Prop) (to:TE3) (t:TA3):TE3:=fun Z H Q=>to Z H fun x H1=>ty3 Ty x H1/\t Z H1 fun xs H2=>m x xs H2 Q
theorem dY (pa:PlainAttrs Ty) (slot:Slot Ty name id) (hty:typeOf (.builtin id)=pure (.type "method_descriptor")) (hm:o4 X id m) (ho:PE3 X o to) (ha:PA3 X (e::es) t)
  (hbase:attributeBase o name X.env (eval o X.env)=eval o X.env:=by rfl)
  (hfew:((backTo cpos (starEach (e::es) X.env)).all (fun x=>!x.1)&&(backToKw cpos (keywordEach [] X.env)).all (fun x=>x.1.isSome)
   && decide ((e::es).length+([]:List Keyword).length+(if ([]:List Keyword).isEmpty then 0 else 1)<30))=true:=by rfl)
  (hline:(apos.endLine==cpos.line)=true:=by rfl) (hs:starEach (e::es) X.env=(false,eval e X.env)::starEach es X.env:=by rfl) (hplain:(backTo cpos (starEach es X.env)).any (·.1)=false:=by rfl) :
  PE3 X (.Call (.Attribute o name apos) (e::es) [] cpos) (K1 Ty m to t):=by
 refine PE.imp (Kv pa slot hty hm ho ha hbase hfew hline hs hplain) ?_;rintro Z H Q ⟨Z3,H3,Q3,ss,sh,h,k⟩;exact⟨Z3,H3,_,ss,sh,h,fun x H1 tx H31 le1 sh1 rx q1=>⟨Dv sh1 rx q1.1,Z3,H31,_,ss.mono le1,sh1,q1.2,fun vs H2 ts H32 le2 sh2 rs q2=>⟨tx,ts,H32,Q3,rx.mono le2,rs,sh2,q2,k.at (le1.trans le2)⟩⟩⟩
def Dw:T->List T->Hp3->VK3->Prop:=fun x ts H Q=>match x,ts with
 |.ref a,[t]=>match H a with
  |some (.lst xs)=>xs.length<sizeLine/\Q .non (up3 H a (.lst (xs++[t])))
  |_=>False
 |_,_=>False
theorem bT:o4 X "list.append" Dw:=by
 refine MtR.imp uR ?_;rintro x xs H Q ⟨tx,ts,H3,Q3,rx,rs,sh,h,k⟩
 match tx,ts,h,rx,rs with
 |.ref a,[t],h,rx,rs =>
 obtain⟨v,rfl,rv⟩:=rs.one';have h':(match H3 a with
  |some (.lst xs)=>xs.length<sizeLine/\Q3 .non (up3 H3 a (.lst (xs++[t])))
  |_=>False):=h
 split at h'
 ·rename_i ls e;obtain⟨ys,hH,r⟩:=sh a _ e;exact⟨a,ys,v,rx.ref,rfl,hH,by rw[<- r.length];exact h'.1,k _ _ _ _ (cB (by rw[hH];exact trivial)) (sh.wrL hH (r.append (.cons rv .nil))) .ofNon h'.2⟩
 exact h'.elim
def K3:T->List T->Hp3->VK3->Prop:=fun x ts H Q=>match x,ts with
 |.ref a,[.ref b]=>match H a,H b with
  |some (.lst xs),some (.lst ys)=>xs.length+ys.length<=sizeLine/\Q .non (up3 H a (.lst (xs++ys)))
  |_,_=>False
 |_,_=>False
def tH:T->List T->Hp3->VK3->Prop:=fun x ts H Q=>match x,ts with
 |.ref a,[.int i]=>match H a with
  |some (.lst xs)=>oq (ixN xs.length i) fun j=>oq (xs[j]?) fun t=>Q t (up3 H a (.lst (xs.eraseIdx j)))
  |_=>False
 |_,_=>False
theorem wZ:o4 X "list.pop" tH:=by
 intro pins s Z H x xs v us Q I rx0 rs0 hh;obtain⟨tx,ts,H3,Q3,rx,rs,sh,h,k⟩:=hh;refine vY pins s Z H x xs v us Q I rx0 rs0 ?_
 match tx,ts,h,rx,rs with
 |.ref a,[.int i],h,rx,rs =>
 obtain⟨w,rfl,rv⟩:=rs.one';have h':(match H3 a with
  |some (.lst xs)=>oq (ixN xs.length i) fun j=>oq (xs[j]?) fun t=>Q3 t (up3 H3 a (.lst (xs.eraseIdx j)))
  |_=>False):=h
 split at h'
 ·rename_i ls e;obtain⟨ys,hH,r⟩:=sh a _ e;have hz:=(I.lstM hH).1;cases ej:ixN ls.length i with
  |none=>rw[ej] at h';exact h'.elim
  |some j =>
  rw[ej] at h';cases et:ls[j]? with
  |none=>simp only[oq,et] at h'
  |some t =>
   have h2:Q3 t (up3 H3 a (.lst (ls.eraseIdx j))):=by simpa only[oq,et] using h'
   obtain⟨g1,g2,g3,g4⟩:=my ej
   obtain⟨y,ey,ry⟩:=r.get et
   have hl:=r.length
   have hb:=fV
   have le:TupLe X.K H (upd H a (.lst (ys.eraseIdx j))):=cB (by rw[hH];exact trivial)
   exact⟨a,ys,i,j,y,rx.ref,by rw[rv.int],hH,by omega,by omega,by rw[<- hl];exact g1,ey,k _ _ _ _ le (sh.wrL hH (r.eraseIdx j)) (ry.mono le) h2⟩
 exact h'.elim
def jt:List T->Option (List Str)
 |[]=>some []
 |.str x::r=>(jt r).map (x::·)
 |_=>none
def jOk (z:Str) (ys:List Str):Prop:=(ys.map (·.length)).sum+ys.length*z.length<=16777216
def xf:T->List T->Hp3->VK3->Prop:=fun x ts H Q=>match x,ts with
 |.str z,[.ref a]=>match H a with
  |some (.lst xs)=>oq (jt xs) fun ys=>jOk z ys/\Q (.str (Txt.join z ys)) H
  |some (.rol xs)=>oq (jt xs) fun ys=>jOk z ys/\Q (.str (Txt.join z ys)) H
  |_=>False
 |.str z,[.tup xs]=>oq (jt xs) fun ys=>jOk z ys/\Q (.str (Txt.join z ys)) H
 |_,_=>False
def tK:T->List T->Hp3->VK3->Prop:=fun x ts H Q=>match x,ts with
 |.str z,[.str y]=>match Builtin.Str.occurrences z y 0 z.length 1 with
  |i::_=>Q (.int i) H
  |[]=>False
 |_,_=>False
theorem xg:o4 X "str.index" tK:=by
 intro pins s Z H x xs v us Q I rx0 rs0 hh;obtain⟨tx,ts,H3,Q3,rx,rs,sh,h,k⟩:=hh
 match tx,ts,h,rx,rs with
 |.str z,[.str y],h,rx,rs =>
 obtain⟨w,rfl,rv⟩:=rs.one';obtain⟨u,rfl,ru⟩:=vals1 rs0;rw[rv.str] at ru;obtain⟨t',rfl⟩:=ru;rw[rx.str] at rx0;obtain⟨t,rfl⟩:=rx0;have h':(match Builtin.Str.occurrences z y 0 z.length 1 with
  |i::_=>Q3 (.int i) H3
  |[]=>False):=h
 split at h'
 ·rename_i i rest e;exact SC.index e ⟨.int i,H,I.tok _,⟨_,rfl⟩,k _ _ _ _ .refl sh .ofInt h'⟩
 exact h'.elim
end
def compLook (n0:List (Str × NameKind)) (N:List Str) (kind:Bool) (names:List (Str × NameKind)) (N':List Str) (nt:Nat) (cap:List Nat):Bool :=
 kind&&names.all (fun y=>y.2 != .cell||names.lookup y.1==some .cell)&&names.all (fun x=>x.2 != .local||names.lookup x.1==some .local)&&names.all (fun y=>y.2 != .free||n0.lookup y.1==some .cell||n0.lookup y.1==some .free)
  && N'.length==nt+cap.length&&(List.range cap.length).all fun j=>match N'[nt+j]?,cap[j]? with
   |some x,some i=>N[i]?==some x&&names.lookup x==some .free
   |_,_=>false
theorem bI {X:Cx}{N':List Str}{nt:Nat}{cap:List Nat}{scope:Scope}{n0:List (Str × NameKind)}{N:List Str}(h0:X.env.scope.names=n0) (hN:X.N=N)
  (h:compLook n0 N (scope.kind==.function) scope.names N' nt cap=true):CompSc X N' nt cap scope:=by
 unfold compLook at h;simp only[RL,J_,beq_iff_eq,bne_iff_ne,Bool.or_eq_true,L_] at h;obtain⟨⟨⟨⟨⟨h1,h2⟩,h3⟩,h4⟩,h5⟩,h6⟩:=h;refine⟨h1,fun y hy e=>(h2 y hy).resolve_left fun z=>z e,fun x hx e=>(h3 x hx).resolve_left fun z=>z e,fun y hy e=>?_,h5,fun j x e=>?_⟩
 ·show X.env.scope.names.lookup y.1=_\/X.env.scope.names.lookup y.1=_;rw[h0];rcases h4 y hy with (z | z) | z
  ·exact absurd e z
  ·exact .inl z
  exact .inr z
 have hj:j<cap.length:=by have:=(Ra.mp e).1;omega
 have q:=h6 j hj;rw[e] at q;cases ec:cap[j]? with
 |none=>rw[ec] at q;cases q
 |some i =>
 rw[ec] at q;simp only[RL,beq_iff_eq] at q;exact⟨i,rfl,by rw[hN];exact q.1,q.2⟩
def GX (n00 names:List (Str × NameKind)):List (Str × NameKind):=names.map fun (n,k)=>if (k==NameKind.free&&n00.lookup n==some .cell)=true then (n,NameKind.cell) else (n,k)
theorem mZ {X:Cx}{N0 N':List Str}{nt:Nat}{cap:List Nat}{scope0 scope:Scope}{n00:List (Str × NameKind)}{N:List Str}{cl:List (Str × Addr)}{pins:List (Addr × Obj)}{s:Shared}{H:Hp}{C:Addr}{fp:List Addr}
  (h0:X.env.scope.names=n00) (hk:X.env.scope.kind=.function) (hN:N0=N) (h:compLook (GX n00 scope0.names) N (scope.kind==.function) scope.names N' nt cap=true):CompSc (bF X N0 scope0 cl pins s H C fp) N' nt cap scope:=by
 refine bI (n0:=GX n00 scope0.names) (N:=N) ?_ hN h;show (relabel scope0 X.env).names=_;unfold relabel GX;dsimp only;refine QL fun y hy=>?_;obtain⟨n,k⟩:=y;have e:X.env.kindOf n=n00.lookup n:=by unfold Env.kindOf;rw[h0]
 simp only[e,hk,beq_self_eq_true,Bool.and_true]
structure G3 (K:Frag) (mg:Str->Option Value) (x:Str) (st:Stmt) (ps:List Str) (f:Addr) (fd:FuncData):Prop where
 fn:Fun K x x st f fd
 b:Binds K fd ps []
 m:mg x=some (.ref f)
structure Bl (mg:Str->Option Value):Prop where
 len_:mg "len"=none
 sum_:mg "sum"=none
 isinstance_:mg "isinstance"=none
 all_:mg "all"=none
 any_:mg "any"=none
 list_:mg "list"=none
 tuple_:mg "tuple"=none
 int_:mg "int"=none
 str_:mg "str"=none
 bool_:mg "bool"=none
 range_:mg "range"=none
 zip_:mg "zip"=none
 reversed_:mg "reversed"=none
 enumerate_:mg "enumerate"=none
 set_:mg "set"=none
 sorted_:mg "sorted"=none
 min_:mg "min"=none
 max_:mg "max"=none
 dict_:mg "dict"=none
 repr_:mg "repr"=none
theorem bf:bootBuiltins "len"=some (.builtin "len"):=by decide +kernel
theorem jR:bootBuiltins "sum"=some (.builtin "sum"):=by decide +kernel
theorem cD:bootBuiltins "isinstance"=some (.builtin "isinstance"):=by decide +kernel
theorem jF:bootBuiltins "list"=some (.type "list"):=by decide +kernel
theorem cj:bootBuiltins "tuple"=some (.type "tuple"):=by decide +kernel
theorem GZ:bootBuiltins "int"=some (.type "int"):=by decide +kernel
theorem xj:bootBuiltins "str"=some (.type "str"):=by decide +kernel
theorem Al:bootBuiltins "bool"=some (.type "bool"):=by decide +kernel
theorem Room.u30 {k:Nat}{A:Around}(r:Room k A):A.units+30<cLine:=by have:=r.un;omega
theorem Room.u31 {k:Nat}{A:Around}(r:Room k A):A.units+31<cLine:=by have:=r.un;omega
theorem Room.u1 {k:Nat}{A:Around}(r:Room k A):A.units+1<cLine:=by have:=r.un;omega
section
variable {H:Hp3}{Q:VK3}{Z:St3}
def vq (o:Option (Option T)) (Q:T->Prop):Prop:=match o with
 |some (some t)=>Q t
 |_=>False
theorem Qi (t:T) (Q:T->Prop):vq (some (some t)) Q=Q t:=rfl
theorem K4 (i:Nat):wy i Z H Q=vq (Z[i]?) fun t=>Q t H:=rfl
def bq (x:T) (Q:Bool->Prop):Prop:=match x with
 |.bl k=>Q k
 |_=>False
theorem xm (b:Bool) (Q:Bool->Prop):bq (.bl b) Q=Q b:=rfl
theorem G4 (t:TE3) (Q:Bool->Hp3->Prop):jM t Z H Q=t Z H fun x H'=>bq x fun k=>Q k H':=rfl
theorem Am (r r':R3) (ta tb tc:TE3):Ae r r' ta tb tc Z H Q=ta Z H fun x H1=>tb Z H1 fun y H2=>r x y H2 fun z H3=>bq z fun k=>if k=true then tc Z H3 fun w H4=>r' y w H4 Q else Q (.bl false) H3:=rfl
theorem G5 (ta tb:TE3):wz ta tb Z H Q=ta Z H fun x H1=>bq x fun c=>if c=true then tb Z H1 Q else Q (.bl false) H1:=rfl
theorem K5 (ta tb:TE3):Dg ta tb Z H Q=ta Z H fun x H1=>bq x fun c=>if c=true then Q (.bl true) H1 else tb Z H1 Q:=rfl
theorem G6 (ta:TE3):wA ta Z H Q=ta Z H fun x H1=>bq x fun c=>Q (.bl (!c)) H1:=rfl
theorem gU {α:Type}(v:α) (Q:α->Prop):oq (some v) Q=Q v:=rfl
theorem q_I (C:Int->Int->Prop) (g:Int->Int->T) (i j:Int):rI3 C g (.int i) (.int j) H Q=(C i j/\Q (g i j) H):=rfl
theorem Qj (g:Int->Int->T) (i j:Int):u6 g (.int i) (.int j) H Q=Q (g i j) H:=rfl
theorem G7 (i j:Int):o8 (.int i) (.int j) H Q=Q (.int (i+j)) H:=rfl
theorem G8 (i j:Str):o8 (.str i) (.str j) H Q=(i.length+j.length<=sizeLine/\Q (.str (i++j)) H):=rfl
theorem G9 (xs ys:List T):o8 (.tup xs) (.tup ys) H Q=(xs.length+ys.length<=sizeLine/\Q (.tup (xs++ys)) H):=rfl
def K6 (o u:Option O3) (H:Hp3) (Q:VK3):Prop:=match o,u with
 |some (.lst xs),some (.lst ys)=>xs.length+ys.length<=sizeLine/\∀p,H p=none->Q (.ref p) (up3 H p (.lst (xs++ys)))
 |_,_=>False
theorem xn (a b:Addr):o8 (.ref a) (.ref b) H Q=K6 (H a) (H b) H Q:=rfl
theorem m5 (xs ys:List T):K6 (some (.lst xs)) (some (.lst ys)) H Q=(xs.length+ys.length<=sizeLine/\∀p,H p=none->Q (.ref p) (up3 H p (.lst (xs++ys)))):=rfl
theorem K7 (n:Bool) (i j:Int):mU n (.int i) (.int j) H Q=Q (.bl (if n then !decide (i=j) else decide (i=j))) H:=rfl
theorem K8 (n:Bool) (i j:Str):mU n (.str i) (.str j) H Q=Q (.bl (if n then !decide (i=j) else decide (i=j))) H:=rfl
theorem K9 (n:Bool) (i j:Bool):mU n (.bl i) (.bl j) H Q=Q (.bl (if n then !decide (i=j) else decide (i=j))) H:=rfl
theorem Dy (n:Bool) (xs ys:List T):mU n (.tup xs) (.tup ys) H Q=(xs.all (pl 20)=true/\ys.all (pl 20)=true/\Q (.bl (if n then !decide (xs=ys) else decide (xs=ys))) H):=rfl
def eqH (n:Bool) (a b:Addr) (o u:Option O3) (H:Hp3) (Q:VK3):Prop:=match o,u with
 |some (.lst xs),some (.lst ys)=>a≠b/\xs.all (pl 20)=true/\ys.all (pl 20)=true/\Q (.bl (if n then !@decide (xs=ys) (instDecidableEqList xs ys) else @decide (xs=ys) (instDecidableEqList xs ys))) H
 |_,_=>False
theorem La (n:Bool) (a b:Addr):mU n (.ref a) (.ref b) H Q=eqH n a b (H a) (H b) H Q:=rfl
theorem Lb (n:Bool) (a b:Addr) (xs ys:List T):eqH n a b (some (.lst xs)) (some (.lst ys)) H Q=(a≠b/\xs.all (pl 20)=true/\ys.all (pl 20)=true/\Q (.bl (if n then !decide (xs=ys) else decide (xs=ys))) H):=rfl
theorem Ld (n:Bool) (x:T) (ts:List T):wR n x (.tup ts) H Q=(pl 20 x=true/\ts.all (pl 20)=true/\Q (.bl (cC n x ts)) H):=rfl
theorem Le (n:Bool) (i j:Str):wR n (.str i) (.str j) H Q=Q (.bl (occ n i j)) H:=rfl
def inH (n:Bool) (x:T) (o:Option O3) (H:Hp3) (Q:VK3):Prop:=match o with
 |some (.lst ts)=>pl 20 x=true/\ts.all (pl 20)=true/\Q (.bl (cC n x ts)) H
 |some (.rol ts)=>pl 20 x=true/\ts.all (pl 20)=true/\Q (.bl (cC n x ts)) H
 |_=>False
theorem Lf (n:Bool) (x:T) (a:Addr):wR n x (.ref a) H Q=inH n x (H a) H Q:=rfl
theorem Lg (n:Bool) (x:T) (ts:List T):inH n x (some (.lst ts)) H Q=(pl 20 x=true/\ts.all (pl 20)=true/\Q (.bl (cC n x ts)) H):=rfl
def ixH (o:Option O3) (i:Int) (H:Hp3) (Q:VK3):Prop:=match o with
 |some (.lst ts)=>oq (atI ts i) fun t=>Q t H
 |some (.rol ts)=>oq (atI ts i) fun t=>Q t H
 |_=>False
theorem Lh (a:Addr) (i:Int):o9 (.ref a) (.int i) H Q=ixH (H a) i H Q:=rfl
theorem Li (ts:List T) (i:Int):ixH (some (.lst ts)) i H Q=oq (atI ts i) fun t=>Q t H:=rfl
theorem Lj (ts:List T) (i:Int):o9 (.tup ts) (.int i) H Q=oq (atI ts i) fun t=>Q t H:=rfl
theorem Lk (z:Str) (i:Int):o9 (.str z) (.int i) H Q=(z.length<=sizeLine/\oq (atI z.cps.toList i) fun c=>Q (.str ⟨#[c]⟩) H):=rfl
def stH (o:Option O3) (a:Addr) (k:Int) (v:T) (H:Hp3) (Q:Hp3->Prop):Prop:=match o with
 |some (.lst ts)=>oq (ixN ts.length k) fun j=>Q (up3 H a (.lst (ts.set j v)))
 |_=>False
theorem Ha (a:Addr) (k:Int) (v:T) (Q:Hp3->Prop):wU (.ref a) (.int k) v H Q=stH (H a) a k v H Q:=rfl
theorem Ln (ts:List T) (a:Addr) (k:Int) (v:T) (Q:Hp3->Prop):stH (some (.lst ts)) a k v H Q=oq (ixN ts.length k) fun j=>Q (up3 H a (.lst (ts.set j v))):=rfl
def pq (x:T) (Q:Option Int->Prop):Prop:=match x with
 |.int i=>Q (some i)
 |_=>False
theorem Qk (i:Int) (Q:Option Int->Prop):pq (.int i) Q=Q (some i):=rfl
theorem Hb (t:TE3) (Q:Option Int->Hp3->Prop):wV t Z H Q=t Z H fun x H1=>pq x fun o=>Q o H1:=rfl
def slH (o:Option O3) (lo hi:Option Int) (H:Hp3) (Q:VK3):Prop:=match o with
 |some (.lst ts)=>∀p,H p=none->Q (.ref p) (up3 H p (.lst (cQ ts lo hi)))
 |some (.rol ts)=>∀p,H p=none->Q (.ref p) (up3 H p (.lst (cQ ts lo hi)))
 |_=>False
theorem Lp (a:Addr) (lo hi:Option Int):Ai (.ref a) lo hi H Q=slH (H a) lo hi H Q:=rfl
theorem Dz (ts:List T) (lo hi:Option Int):slH (some (.lst ts)) lo hi H Q=∀p,H p=none->Q (.ref p) (up3 H p (.lst (cQ ts lo hi))):=rfl
theorem Hc (ts:List T) (lo hi:Option Int):slH (some (.rol ts)) lo hi H Q=∀p,H p=none->Q (.ref p) (up3 H p (.lst (cQ ts lo hi))):=rfl
theorem Lq (ts:List T) (lo hi:Option Int):Ai (.tup ts) lo hi H Q=(¬(HT.sIx ts.length 0 lo=0/\HT.sIx ts.length ts.length hi=ts.length)/\Q (.tup (cQ ts lo hi)) H):=rfl
theorem Lr (z:Str) (lo hi:Option Int):Ai (.str z) lo hi H Q=(z.length<=sizeLine/\Q (.str (Txt.slice z lo hi)) H):=rfl
def dgH (o:Option O3) (k:Str) (H:Hp3) (Q:VK3):Prop:=match o with
 |some (.dct kvs)=>oq (bU k kvs) fun t=>Q t H
 |_=>False
theorem q_D (a:Addr) (k:Str):r3D (.ref a) (.str k) H Q=dgH (H a) k H Q:=rfl
theorem Ls (kvs:List (Str × T)) (k:Str):dgH (some (.dct kvs)) k H Q=oq (bU k kvs) fun t=>Q t H:=rfl
def dpH (x y v:T) (H:Hp3) (Q:Hp3->Prop):Prop:=match x,y with
 |.ref a,.str k=>match H a with
  |some (.dct kvs)=>kvs.length<sizeLine/\Q (up3 H a (.dct (put3 k v kvs)))
  |_=>False
 |_,_=>False
def dpO (o:Option O3) (a:Addr) (k:Str) (v:T) (H:Hp3) (Q:Hp3->Prop):Prop:=match o with
 |some (.dct kvs)=>kvs.length<sizeLine/\Q (up3 H a (.dct (put3 k v kvs)))
 |_=>False
theorem Hd (td ty tv:TE3) (D:Ends3):wW td ty tv D Z H=tv Z H fun v H1=>td Z H1 fun x H2=>ty Z H2 fun y H3=>dpH x y v H3 fun H4=>D.nx Z H4:=rfl
theorem Lw (a:Addr) (k:Str) (v:T) (Q:Hp3->Prop):dpH (.ref a) (.str k) v H Q=dpO (H a) a k v H Q:=rfl
theorem Lx (kvs:List (Str × T)) (a:Addr) (k:Str) (v:T) (Q:Hp3->Prop):dpO (some (.dct kvs)) a k v H Q=(kvs.length<sizeLine/\Q (up3 H a (.dct (put3 k v kvs)))):=rfl
def lnH (o:Option O3) (H:Hp3) (Q:VK3):Prop:=match o with
 |some (.lst xs)=>Q (.int xs.length) H
 |some (.rol xs)=>Q (.int xs.length) H
 |_=>False
theorem Hf (a:Addr):tG [.ref a] H Q=lnH (H a) H Q:=rfl
theorem Ly (xs:List T):lnH (some (.lst xs)) H Q=Q (.int xs.length) H:=rfl
theorem Hg (xs:List T):tG [.tup xs] H Q=Q (.int xs.length) H:=rfl
theorem Hh (z:Str):tG [.str z] H Q=(z.length<=sizeLine/\Q (.int z.length) H):=rfl
def liH (o:Option O3) (H:Hp3) (Q:VK3):Prop:=match o with
 |some (.lst xs)=>∀p,H p=none->Q (.ref p) (up3 H p (.lst xs))
 |some (.rol xs)=>∀p,H p=none->Q (.ref p) (up3 H p (.lst xs))
 |_=>False
theorem An (a:Addr):qL [.ref a] H Q=liH (H a) H Q:=rfl
theorem Lz (xs:List T):liH (some (.lst xs)) H Q=∀p,H p=none->Q (.ref p) (up3 H p (.lst xs)):=rfl
theorem Ao (xs:List T):qL [.tup xs] H Q=∀p,H p=none->Q (.ref p) (up3 H p (.lst xs)):=rfl
def tpH (o:Option O3) (H:Hp3) (Q:VK3):Prop:=match o with
 |some (.lst xs)=>Q (.tup xs) H
 |some (.rol xs)=>Q (.tup xs) H
 |_=>False
theorem Hi (a:Addr):mY [.ref a] H Q=tpH (H a) H Q:=rfl
theorem LC (xs:List T):tpH (some (.lst xs)) H Q=Q (.tup xs) H:=rfl
theorem Hj (xs:List T):mY [.tup xs] H Q=Q (.tup xs) H:=rfl
theorem Hk (i:Int):wY [.int i] H Q=Q (.int i) H:=rfl
theorem Hl (b:Bool):wY [.bl b] H Q=Q (.int (if b then 1 else 0)) H:=rfl
theorem Hm (i:Int):KZ [.int i] H Q=(i.natAbs.log2<1920/\Q (.str (toString i)) H):=rfl
def smH (o:Option O3) (H:Hp3) (Q:VK3):Prop:=match o with
 |some (.lst xs)=>oq (ints3 xs) fun ns=>Q (.int ns.sum) H
 |some (.rol xs)=>oq (ints3 xs) fun ns=>Q (.int ns.sum) H
 |_=>False
theorem Hn (a:Addr):Du [.ref a] H Q=smH (H a) H Q:=rfl
theorem LK (xs:List T):smH (some (.lst xs)) H Q=oq (ints3 xs) fun ns=>Q (.int ns.sum) H:=rfl
theorem pF (x:T) (n:String):jP [x,.ty n] H Q=((n="str"\/n="int"\/n="bool"\/n="tuple"\/n="list")/\oq (isT n x H) fun b=>Q (.bl b) H):=rfl
theorem LQ (Ty:String) (z:Str):ty3 Ty (.str z) H=(Ty="str"):=rfl
def tyH (o:Option O3):Prop:=match o with
 |some (.lst _)=>True
 |some (.rol _)=>True
 |_=>False
theorem LR (Ty:String) (a:Addr):ty3 Ty (.ref a) H=(Ty="list"/\tyH (H a)):=rfl
theorem Ma (xs:List T):tyH (some (.lst xs))=True:=rfl
def apH (o:Option O3) (a:Addr) (t:T) (H:Hp3) (Q:VK3):Prop:=match o with
 |some (.lst xs)=>xs.length<sizeLine/\Q .non (up3 H a (.lst (xs++[t])))
 |_=>False
theorem Mf (a:Addr) (t:T):Dw (.ref a) [t] H Q=apH (H a) a t H Q:=rfl
theorem Mg (xs:List T) (a:Addr) (t:T):apH (some (.lst xs)) a t H Q=(xs.length<sizeLine/\Q .non (up3 H a (.lst (xs++[t])))):=rfl
def exH (o u:Option O3) (a:Addr) (H:Hp3) (Q:VK3):Prop:=match o,u with
 |some (.lst xs),some (.lst ys)=>xs.length+ys.length<=sizeLine/\Q .non (up3 H a (.lst (xs++ys)))
 |_,_=>False
theorem Mh (a b:Addr):K3 (.ref a) [.ref b] H Q=exH (H a) (H b) a H Q:=rfl
theorem Mi (xs ys:List T) (a:Addr):exH (some (.lst xs)) (some (.lst ys)) a H Q=(xs.length+ys.length<=sizeLine/\Q .non (up3 H a (.lst (xs++ys)))):=rfl
def poH (o:Option O3) (a:Addr) (i:Int) (H:Hp3) (Q:VK3):Prop:=match o with
 |some (.lst xs)=>oq (ixN xs.length i) fun j=>oq (xs[j]?) fun t=>Q t (up3 H a (.lst (xs.eraseIdx j)))
 |_=>False
theorem Mj (a:Addr) (i:Int):tH (.ref a) [.int i] H Q=poH (H a) a i H Q:=rfl
theorem Ml (xs:List T) (a:Addr) (i:Int):poH (some (.lst xs)) a i H Q=oq (ixN xs.length i) fun j=>oq (xs[j]?) fun t=>Q t (up3 H a (.lst (xs.eraseIdx j))):=rfl
def joH (o:Option O3) (z:Str) (H:Hp3) (Q:VK3):Prop:=match o with
 |some (.lst xs)=>oq (jt xs) fun ys=>jOk z ys/\Q (.str (Txt.join z ys)) H
 |some (.rol xs)=>oq (jt xs) fun ys=>jOk z ys/\Q (.str (Txt.join z ys)) H
 |_=>False
theorem Aq (z:Str) (a:Addr):xf (.str z) [.ref a] H Q=joH (H a) z H Q:=rfl
theorem Mm (xs:List T) (z:Str):joH (some (.lst xs)) z H Q=oq (jt xs) fun ys=>jOk z ys/\Q (.str (Txt.join z ys)) H:=rfl
theorem Ar (z:Str) (xs:List T):xf (.str z) [.tup xs] H Q=oq (jt xs) fun ys=>jOk z ys/\Q (.str (Txt.join z ys)) H:=rfl
def idH (o:List Nat) (H:Hp3) (Q:VK3):Prop:=match o with
 |i::_=>Q (.int i) H
 |[]=>False
theorem Av (z y:Str):tK (.str z) [.str y] H Q=idH (Builtin.Str.occurrences z y 0 z.length 1) H Q:=rfl
theorem Mp (i:Nat) (r:List Nat):idH (i::r) H Q=Q (.int i) H:=rfl
def rgq (vs:List T) (H:Hp3) (R:List T->(Hp3->Prop)->Hp3->Prop):Prop:=match vs with
 |[.int j]=>-(2^62)<=j/\j<2^62/\R (cN 0 j.toNat) cg H
 |[.int i,.int j]=>(-(2^62)<=i/\i<2^62 /\ -(2^62)<=j/\j<2^62)/\R (cN i (j - i).toNat) cg H
 |_=>False
theorem Mq (ta:TA3) (R:List T->(Hp3->Prop)->Hp3->Prop):wJ ta Z H R=ta Z H fun vs H1=>rgq vs H1 R:=rfl
theorem Mr (j:Int) (R:List T->(Hp3->Prop)->Hp3->Prop):rgq [.int j] H R=(-(2^62)<=j/\j<2^62/\R (cN 0 j.toNat) cg H):=rfl
theorem Ms (i j:Int) (R:List T->(Hp3->Prop)->Hp3->Prop):rgq [.int i,.int j] H R=((-(2^62)<=i/\i<2^62 /\ -(2^62)<=j/\j<2^62)/\R (cN i (j - i).toNat) cg H):=rfl
def tuq (x:T) (H:Hp3) (R:List T->(Hp3->Prop)->Hp3->Prop):Prop:=match x with
 |.tup ts=>R ts cg H
 |_=>False
theorem Ho (tl:TE3) (R:List T->(Hp3->Prop)->Hp3->Prop):Dr tl Z H R=tl Z H fun x H1=>tuq x H1 R:=rfl
theorem Mt (ts:List T) (R:List T->(Hp3->Prop)->Hp3->Prop):tuq (.tup ts) H R=R ts cg H:=rfl
def liq (x:T) (H:Hp3) (R:List T->(Hp3->Prop)->Hp3->Prop):Prop:=match x with
 |.ref a=>match H a with
  |some (.lst ts)=>R ts (cM a ts) H
  |some (.rol ts)=>R ts (cM a ts) H
  |_=>False
 |_=>False
def liO (o:Option O3) (a:Addr) (H:Hp3) (R:List T->(Hp3->Prop)->Hp3->Prop):Prop:=match o with
 |some (.lst ts)=>R ts (cM a ts) H
 |some (.rol ts)=>R ts (cM a ts) H
 |_=>False
theorem Aw (tl:TE3) (R:List T->(Hp3->Prop)->Hp3->Prop):wH tl Z H R=tl Z H fun x H1=>liq x H1 R:=rfl
theorem Mu (a:Addr) (R:List T->(Hp3->Prop)->Hp3->Prop):liq (.ref a) H R=liO (H a) a H R:=rfl
theorem Mv (ts:List T) (a:Addr) (R:List T->(Hp3->Prop)->Hp3->Prop):liO (some (.lst ts)) a H R=R ts (cM a ts) H:=rfl
theorem Hq (Q:St3->Hp3->Prop):sS [] Z H Q=Q Z H:=rfl
theorem Ax (t:TG3) (u:kJ) (x:T) (r:List T) (Q:St3->Hp3->Prop):iB t u (x::r) Z H Q=t x Z H fun Z' H'=>u r Z' H' Q:=rfl
theorem Hr (n:Nat) (g:kJ) (ts:List T) (Q:St3->Hp3->Prop):sU n g (.tup ts) Z H Q=(ts.length=n/\g ts Z H Q):=rfl
end
theorem jG {n j:Nat}(h:j<n):ixN n (j:Int)=some j:=by
 unfold ixN;rw[if_pos (SM j),if_pos (by omega),Q0]
theorem Ql (n:Nat):ixN (n+1) 0=some 0:=jG (j:=0) (Nat.succ_pos n)
theorem at0 {α:Type}(a:α) (r:List α):atI (a::r) 0=some a:=bH (j:=0) rfl
theorem at1 {α:Type}(a b:α) (r:List α):atI (a::b::r) 1=some b:=bH (j:=1) rfl
theorem at2 {α:Type}(a b c:α) (r:List α):atI (a::b::c::r) 2=some c:=bH (j:=2) rfl
theorem at3 {α:Type}(a b c d:α) (r:List α):atI (a::b::c::d::r) 3=some d:=bH (j:=3) rfl
theorem pG {α:Type}(xs:List α) (i:Int) (h0:0<=i) (h1:i<xs.length):∃z,z∈xs/\atI xs i=some z:=by
 obtain⟨j,rfl⟩:=Int.eq_ofNat_of_zero_le h0;have hj:j<xs.length:=by omega
 exact⟨xs[j],Qx hj,bH (d_ hj)⟩
theorem jT {α β:Type}(f:α->β) (xs:List α) (i:Int):atI (xs.map f) i=(atI xs i).map f:=by
 unfold atI;rw[g_];cases ixN xs.length i with
 |none=>rfl
 |some j=>simp
theorem Ay {g:TG3}{tb:TS3}{D:Ends3}{still:Hp3->Prop}{ts:List T}{Z:St3}{H:Hp3}(I:List T->St3->Hp3->Prop) (h0:I ts Z H) (hn:∀Z H,I [] Z H->still H/\D.nx Z H)
  (hs:∀t r Z H (N:St3->Hp3->Prop),I (t::r) Z H->(∀Z' H',I r Z' H'->N Z' H')->still H/\g t Z H fun Z2 H2=>tb { D with nx:=N,ct:=N,bk:=D.nx} Z2 H2):iter3 g tb D still ts Z H:=by
 induction ts generalizing Z H with
 |nil=>exact hn Z H h0
 |cons t r ih=>exact hs t r Z H (iter3 g tb D still r) h0 fun Z' H' h=>ih h
theorem iT {g:TG3}{tt:TT3}{te:TE3}{still:Hp3->Prop}{fin:List T->Hp3->Prop}{ts ys:List T}{Z:St3}{H:Hp3}(I:List T->List T->St3->Hp3->Prop) (h0:I ts ys Z H) (hn:∀ys Z H,I [] ys Z H->still H/\ys.length<=sizeLine/\fin ys H)
  (hs:∀t r ys Z H (N:List T->St3->Hp3->Prop),I (t::r) ys Z H->(∀ys' Z' H',I r ys' Z' H'->N ys' Z' H') ->
   still H/\g t Z H fun Z2 H2=>tt Z2 H2 fun b H3=>if b=true then te Z2 H3 fun y H4=>ys.length<sizeLine/\N (ys++[y]) Z2 H4 else N ys Z2 H3):cIter3 g tt te still fin ts ys Z H:=by
 induction ts generalizing Z H ys with
 |nil=>exact hn ys Z H h0
 |cons t r ih=>exact hs t r ys Z H (cIter3 g tt te still fin r) h0 fun ys' Z' H' h=>ih h
theorem Ht (Z:St3) (H:Hp3) (Q:List (Str × T)->Hp3->Prop):wX [] Z H Q=Q [] H:=rfl
theorem Hu (k:Str) (tv:TE3) (r:List (Str × TE3)) (Z:St3) (H:Hp3) (Q:List (Str × T)->Hp3->Prop):wX ((k,tv)::r) Z H Q=tv Z H fun y H2=>wX r Z H2 fun ps H3=>Q ((k,y)::ps) H3:=rfl
theorem sx0 (n:Nat):HT.sIx n 0 none=0:=rfl
theorem xq {ts:List T}{k:Nat}:cQ ts none (some (k:Int))=ts.take k:=by
 unfold cQ;rw[sx0,HT.sIx_nat,List.drop_zero,Nat.sub_zero];by_cases h:k<=ts.length
 ·rw[Nat.min_eq_left h]
 rw[Nat.min_eq_right (by omega),List.take_length,Q6 (by omega)]
theorem iU {ts:List T}{k:Nat}:cQ ts (some (k:Int)) none=ts.drop k:=by
 unfold cQ;rw[HT.sIx_none,HT.sIx_nat];by_cases h:k<=ts.length
 ·rw[Nat.min_eq_left h,Q6 (by simp)]
 rw[Nat.min_eq_right (by omega),List.drop_of_length_le (u_ _),List.drop_of_length_le (by omega),List.take_nil]
theorem dq {H:Hp3}{a b:Addr}{o:O3}(h:up3 H a o b=none):b≠a/\H b=none:=by
 by_cases e:b=a
 ·subst e;rw[aC] at h;cases h
 rw[aF e] at h;exact⟨e,h⟩
theorem bV {α:Type}(enc f:α->T) (as:List α) (rest:St3) {te:TE3}{still:Hp3->Prop}{fin:List T->Hp3->Prop}{v:Option T}{H:Hp3}(hst:still H) (hl:as.length<=sizeLine)
  (ht:∀a∈as,∀Q:VK3,Q (f a) H->te (some (enc a)::rest) H Q) (hfin:fin (as.map f) H):cIter3 (eE 0) sV te still fin (as.map enc) [] (v::rest) H:=by
 refine iT (fun r ys Z H'=>∃(rs ds:List α) (v:Option T),Z=v::rest/\r=rs.map enc/\ys=ds.map f/\ds++rs=as/\H'=H) ⟨as,[],v,rfl,rfl,rfl,rfl,rfl⟩ ?_ ?_
 ·rintro ys Z H' ⟨rs,ds,v,rfl,hrs,rfl,hsp,rfl⟩;have hrs':rs=[]:=RG.mp hrs.symm;subst hrs';rw[Qv] at hsp;subst hsp;exact⟨hst,by rw[g_];exact hl,hfin⟩
 rintro x r ys Z H' N ⟨rs,ds,v,rfl,hrs,rfl,hsp,rfl⟩ hN;cases rs with
 |nil=>cases hrs
 |cons t rs =>
 injection hrs with e1 e2;subst e1 e2;refine⟨hst,?_⟩;show te (some (enc t)::rest) H' _;refine ht t (by rw[<- hsp];simp) _ ⟨?_,hN _ _ _ ⟨rs,ds++[t],_,rfl,rfl,by simp,by rw[<- hsp];simp,rfl⟩⟩;have:=F_ List.length hsp;simp only[a_,j_] at this;rw[g_];omega
section
variable {X:Cx}
def iG:List T->Option (List Bool)
 |[]=>some []
 |.bl x::r=>(iG r).map (x::·)
 |_=>none
def alH (o:Option O3) (H:Hp3) (Q:VK3):Prop:=match o with
 |some (.lst xs)=>oq (iG xs) fun bs=>Q (.bl (bs.all id)) H
 |some (.rol xs)=>oq (iG xs) fun bs=>Q (.bl (bs.all id)) H
 |_=>False
def Mw:List T->Hp3->VK3->Prop:=fun ts H Q=>match ts with
 |[.ref a]=>alH (H a) H Q
 |_=>False
theorem Mx (a:Addr) {H:Hp3}{Q:VK3}:Mw [.ref a] H Q=alH (H a) H Q:=rfl
theorem Mz (xs:List T) {H:Hp3}{Q:VK3}:alH (some (.lst xs)) H Q=oq (iG xs) fun bs=>Q (.bl (bs.all id)) H:=rfl
variable {prog:Program}{w:World}{A:Around}{E:Value->Shared->Prop}{s:Shared}
variable {e:Expr}{te:TE}{p1 p2 pos pos':Pos}
theorem Az {it t:Addr}{i:Nat}{items:Array Value}{x:Value}{Q:Value->Shared->Prop}(hit:s.heap.IsTupleIter it t i) (ht:s.heap.IsTuple t items) (hx:items[i]?=some x)
  (hQ:∀h',h'.IsTupleIter it t (i+1)->Heap.SameBut it s.heap h'->Q x { s with heap:=h'}):wpAny (model prog w) A (Builtin.SmallTypes.nextOf (.ref it)) Q E s:=by
 obtain⟨o,ho,hc,hd⟩:=id hit;obtain⟨ol,hol,_,nl,hdl⟩:=ht;unfold Builtin.SmallTypes.nextOf;refine e_ (RK (name:=Str.ofString "__next__") hit.typeIs Rt
  (RZ Rt hit.typeIs F.entry_tuple_iterator_next ?_ (F.args_tuple_iterator_next_1 _)))
 show wpAny _ _ (field (.ref it) 0 >>= _) _ _ s;refine e_ (Rz ho hd (x:=.ref t) rfl ?_);show wpAny _ _ (if (Value.ref t==Value.none)=true then _ else _) _ _ s;rw[if_neg (show ¬((Value.ref t==Value.none)=true) from p_)];show wpAny _ _ (field (.ref it) 1 >>= _) _ _ s;refine e_ (Rz ho hd (x:=.int i 0) rfl ?_);show wpAny _ _ (seqItems? (.ref t) >>= _) _ _ s;refine e_ (wpAny_seqItems hol hdl ?_);simp only[Q0,hx];refine e_ (wpAny_setField ho hd (by simp) (z_ ⟨x,rfl,z_ (hQ _ ?_ (Heap.SameBut.update ..))⟩));refine⟨_,Heap.get?_update_self _ ho (Obj.isFreed_of_fields (Obj.data_mapFields hd _)),(Obj.cls_mapFields ..).trans hc,?_⟩;rw[Obj.data_mapFields hd];simp [rawInt]
theorem xu {it t:Addr}{i:Nat}{items:Array Value}{Q:Value->Shared->Prop}(hh:A.handled=none) (hit:s.heap.IsTupleIter it t i) (ht:s.heap.IsTuple t items) (hx:items[i]?=none)
  (hE:∀h' e,Heap.ExtBut it s.heap h'->(∃o,h'.get? e=some o/\o.cls=.type "StopIteration")->E (.ref e) { s with heap:=h'}):wpAny (model prog w) A (Builtin.SmallTypes.nextOf (.ref it)) Q E s:=by
 obtain⟨o,ho,hc,hd⟩:=id hit;obtain⟨ol,hol,_,nl,hdl⟩:=ht;unfold Builtin.SmallTypes.nextOf;refine e_ (RK (name:=Str.ofString "__next__") hit.typeIs Rt
  (RZ Rt hit.typeIs F.entry_tuple_iterator_next ?_ (F.args_tuple_iterator_next_1 _)))
 show wpAny _ _ (field (.ref it) 0 >>= _) _ _ s;refine e_ (Rz ho hd (x:=.ref t) rfl ?_);show wpAny _ _ (if (Value.ref t==Value.none)=true then _ else _) _ _ s;rw[if_neg (show ¬((Value.ref t==Value.none)=true) from p_)];show wpAny _ _ (field (.ref it) 1 >>= _) _ _ s;refine e_ (Rz ho hd (x:=.int i 0) rfl ?_);show wpAny _ _ (seqItems? (.ref t) >>= _) _ _ s;refine e_ (wpAny_seqItems hol hdl ?_);simp only[Q0,hx];refine e_ (wpAny_rule (e_ (wpAny_setField ho hd (by simp) ?_)));show wpAny _ _ (newExc (.type "StopIteration") [] >>= _) _ _ _;refine e_ ?_;simp only[newExc,newTuple];refine e_ (QG ?_ (by size_fits));refine e_ (m:=firstArgMember _ _) (wpAny_of_eq (a:=Value.none) (by first | rfl | (simp only[firstArgMember];rfl)) ?_);refine QG ?_ (by size_fits);simp only[raiseNew];refine e_ (wpAny_handled ?_);first | rw[show A.in1.handled=none from hh] | rw[hh]
 refine e_ (z_ (wpAny_throw ?_));exact hE _ _ (((Heap.SameBut.update ..).extBut.push _).push _) ⟨_,K_ _ rfl,rfl⟩
end
theorem Hv {prog:Program}{w:World}{A:Around}(hh:A.handled=none) (it t:Addr) (hne:t≠it) (items:Array Value) :
  Draws prog w A it [it,t] items.size (fun i v=>items[i]?=some v) (fun i h=>h.IsTupleIter it t i/\h.IsTuple t items) where
 live:=fun _ _ st=>let ⟨o,ho,_⟩:=st.1;⟨o,ho⟩
 frame:=fun _ _ _ st hk=>⟨st.1.at fun o e=>hk it (by simp) o e,st.2.at fun o e=>hk t (by simp) o e⟩
 item:=fun i s Q E hi st hQ=>by
  refine Az st.1 st.2 (x:=items[i]) (by simp [hi]) fun h' hit' hs'=>?_
  exact hQ _ h' s.toks (by simp [hi]) ⟨hit',st.2.extBut hs'.extBut hne⟩ hs'
 done:=fun s Q E st hE=>xu hh st.1 st.2 (by simp) hE
section
variable {z ti to i1 i2:Addr}{f1 f2:List Addr}
variable {prog:Program}{w:World}{A:Around}{E:Value->Shared->Prop}{s:Shared}{n1 n2 k:Nat}{P1 P2:Nat->Value->Prop}{S1 S2:Nat->Heap->Prop}
end
theorem Hw {prog:Program}{w:World}{A:Around}(hh:A.handled=none) (it t:Addr) (hne:t≠it) (items:Array Value) (k:Nat) (hk:items[k]?=none) :
  Draws prog w A it [it,t] k (fun _ _=>True) (fun i h=>i=k/\h.IsTupleIter it t i/\h.IsTuple t items) where
 live:=fun _ _ st=>let ⟨o,ho,_⟩:=st.2.1;⟨o,ho⟩
 frame:=fun _ _ _ st hk=>⟨st.1,st.2.1.at fun o e=>hk it (by simp) o e,st.2.2.at fun o e=>hk t (by simp) o e⟩
 item:=fun i s Q E hi st hQ=>absurd st.1 (Qt hi)
 done:=fun s Q E st hE=>xu hh st.2.1 st.2.2 hk hE
section
variable {X:Cx}{pins:List (Addr × Obj)}{Z:L2.St}{H:Hp}{s:Shared}{h':Heap}
theorem tL {ch:List Addr}{t':Nat}(I:Inv X pins Z H s) (k:∀b o,b∉ch->s.heap.get? b=some o->h'.get? b=some o) (hf:∀b∈ch,kj X pins H b):Inv X pins Z H { s with heap:=h',toks:=t'}:=by
 have nit:∀b u,H b=some u->b∉ch:=fun b u e z=>by rw[(hf b z).1] at e;cases e
 refine I.step (g':=s.gens) (d':=s.drawn) (ch:=ch) (fun b hb=>?_) (fun b o _ _ hc e _=>k b o hc e) (fun b o _ _ hc e _=>⟨o.slots,k b o hc e⟩) (fun _ _ _ _ n=>n)
  (fun b o hc e=>⟨o,k b o hc e⟩) (fun _ _ e=>e) (fun _ _ _ e=>e) (fun b ps e=>⟨#[],by rw[e];simp⟩) (fun m hm=>?_) (fun b u e=>?_) I.bare
 ·obtain⟨_,f1,_,f3,f4,f5⟩:=hf b hb;exact⟨f3,f1,f4,f5⟩
 ·obtain⟨o,es,ep,ho,r⟩:=hm;exact⟨o,es,ep,k _ o (fun z=>(hf _ z).2.1 rfl) ho,r⟩
 refine (I.hok b u e).stay (fun c v hc q=>k c v ?_ q) (fun _ q=>q) fun _ _ q=>q;rcases hc with z | z
 ·rw[z];exact nit b u e
 exact nit c _ z
variable {elts:List Expr}{x1:Nat}{tpos pos p:Pos}{ea eb:Expr}
def Hx:List T->List T->List T
 |x::xs,y::ys=>.tup [x,y]::Hx xs ys
 |_,_=>[]
end
theorem pH {α:Type}(e1 e2 f:α->T) (as:List α) (rest:St3) {te:TE3}{still:Hp3->Prop}{fin:List T->Hp3->Prop}{v u:Option T}{H:Hp3}(hst:still H) (hl:as.length<=sizeLine)
  (ht:∀a∈as,∀Q:VK3,Q (f a) H->te (some (e1 a)::some (e2 a)::rest) H Q) (hfin:fin (as.map f) H) :
  cIter3 (sU 2 (iB (eE 0) (iB (eE 1) sS))) sV te still fin (as.map fun a=>.tup [e1 a,e2 a]) [] (v::u::rest) H:=by
 refine iT (fun r ys Z H'=>∃(rs ds:List α) (v u:Option T),Z=v::u::rest/\r=rs.map (fun a=>.tup [e1 a,e2 a])/\ys=ds.map f/\ds++rs=as/\H'=H) ⟨as,[],v,u,rfl,rfl,rfl,rfl,rfl⟩ ?_ ?_
 ·rintro ys Z H' ⟨rs,ds,v,u,rfl,hrs,rfl,hsp,rfl⟩;have hrs':rs=[]:=RG.mp hrs.symm;subst hrs';rw[Qv] at hsp;subst hsp;exact⟨hst,by rw[g_];exact hl,hfin⟩
 rintro x r ys Z H' N ⟨rs,ds,v,u,rfl,hrs,rfl,hsp,rfl⟩ hN;cases rs with
 |nil=>cases hrs
 |cons t rs =>
 injection hrs with a1 a2;subst a1 a2;refine⟨hst,rfl,?_⟩;show te (some (e1 t)::some (e2 t)::rest) H' _;refine ht t (by rw[<- hsp];simp) _ ⟨?_,hN _ _ _ ⟨rs,ds++[t],_,_,rfl,rfl,by simp,by rw[<- hsp];simp,rfl⟩⟩;have:=F_ List.length hsp;simp only[a_,j_] at this;rw[g_];omega
theorem lM:∀(ts:List T),Hx ts ts=ts.map fun t=>.tup [t,t]
 |[]=>rfl
 |t::r=>by rw[Hx,lM r];rfl
def shp:Nat->T->Bool
 |_,.str _=>true
 |_,.int _=>true
 |d+1,.tup ts=>decide (ts.length<=sizeLine)&&ts.all (shp d)
 |_,_=>false
def m6 (d:Nat):Sp3:=fun ts H Q=>∃t,d≠0/\ts=[t,t]/\shp (d - 1) t=true/\Q (.bl true) H
theorem pI {P:Program}{w:World}{K:Frag}{mg:Str->Option Value}{base:Heap}{k:Nat}{f:Addr}{fd:FuncData}{ps:List Str}{sp:Sp3}(h:∀ts H Q,¬sp ts H Q):FnOk3 P w K mg base k f fd ps sp :=
 ⟨fun vs H Q E ⟨ts,H3,Q3,_,_,q,_⟩=>absurd q (h _ _ _),fun A outer s H args us vs Q E _ _ _ _ ⟨ts,H3,Q3,_,_,q,_⟩=>absurd q (h _ _ _)⟩
section
variable {H:Hp3}{Q:VK3}
theorem Hy (x:T):jP [x,.ty "str"] H Q=oq (isT "str" x H) fun b=>Q (.bl b) H:=by rw[pF];exact propext ⟨fun h=>h.2,fun h=>⟨by simp,h⟩⟩
theorem qM (x:Str):isT "str" (.str x) H=some true:=rfl
theorem qN (x:Int):isT "str" (.int x) H=some false:=rfl
theorem qO (x:List T):isT "str" (.tup x) H=some false:=rfl
theorem vf (x:Bool):isT "str" (.bl x) H=some false:=rfl
theorem qP  : isT "str" (.non) H=some false:=rfl
theorem Hz (x:T):jP [x,.ty "int"] H Q=oq (isT "int" x H) fun b=>Q (.bl b) H:=by rw[pF];exact propext ⟨fun h=>h.2,fun h=>⟨by simp,h⟩⟩
theorem qQ (x:Str):isT "int" (.str x) H=some false:=rfl
theorem qR (x:Int):isT "int" (.int x) H=some true:=rfl
theorem qT (x:List T):isT "int" (.tup x) H=some false:=rfl
theorem vg (x:Bool):isT "int" (.bl x) H=some true:=rfl
theorem qU  : isT "int" (.non) H=some false:=rfl
theorem Ba (x:T):jP [x,.ty "bool"] H Q=oq (isT "bool" x H) fun b=>Q (.bl b) H:=by rw[pF];exact propext ⟨fun h=>h.2,fun h=>⟨by simp,h⟩⟩
theorem pJ (x:Str):isT "bool" (.str x) H=some false:=rfl
theorem pK (x:Int):isT "bool" (.int x) H=some false:=rfl
theorem pL (x:List T):isT "bool" (.tup x) H=some false:=rfl
theorem qW (x:Bool):isT "bool" (.bl x) H=some true:=rfl
theorem pM  : isT "bool" (.non) H=some false:=rfl
theorem xx (x:T):jP [x,.ty "tuple"] H Q=oq (isT "tuple" x H) fun b=>Q (.bl b) H:=by rw[pF];exact propext ⟨fun h=>h.2,fun h=>⟨by simp,h⟩⟩
theorem m7 (x:Str):isT "tuple" (.str x) H=some false:=rfl
theorem m9 (x:Int):isT "tuple" (.int x) H=some false:=rfl
theorem ni (x:List T):isT "tuple" (.tup x) H=some true:=rfl
theorem pN (x:Bool):isT "tuple" (.bl x) H=some false:=rfl
theorem nj  : isT "tuple" (.non) H=some false:=rfl
theorem Bb (x:T):jP [x,.ty "list"] H Q=oq (isT "list" x H) fun b=>Q (.bl b) H:=by rw[pF];exact propext ⟨fun h=>h.2,fun h=>⟨by simp,h⟩⟩
theorem pO (x:Str):isT "list" (.str x) H=some false:=rfl
theorem pP (x:Int):isT "list" (.int x) H=some false:=rfl
theorem pQ (x:List T):isT "list" (.tup x) H=some false:=rfl
theorem qX (x:Bool):isT "list" (.bl x) H=some false:=rfl
theorem pR  : isT "list" (.non) H=some false:=rfl
theorem tM {α:Type} [DecidableEq α] (a:α):decide (a=a)=true:=y_ rfl
end
theorem bA {N P:List Str}{sc:Scope}(a:sc.kind=.function:=by rfl) (b:sc.isCoroutine=false:=by rfl) (c:sc.isGenerator=false:=by rfl) (d:N.Nodup:=by decide +kernel) (e:N.take P.length=P:=by rfl)
 (f:∀x∈P,sc.names.lookup x=some .local\/sc.names.lookup x=some .cell:=by decide +kernel) (g:∀y∈sc.names,y.2≠.free:=by decide +kernel):FnScope N P sc:=⟨a,b,c,d,e,f,g⟩
theorem qY {p:Prop} [Decidable p] (h:¬p):¬(decide p=true) := fun e=>h (Q5 e)
theorem upa {H:Hp3}{a q:Addr}{o u:O3}(h:H a=some u) (hq:H q=none):up3 H q o a=some u := by rw[aF (aY h hq)];exact h
structure Cal (P:Program) (w:World) (K:Frag) (mg:Str->Option Value) (base:Heap) (k:Nat) (x:Str) (st:Stmt) (ps:List Str) (sp:Sp3):Prop where
 ex:∃(f:Addr) (fd:FuncData),G3 K mg x st ps f fd/\FnOk3 P w K mg base k f fd ps sp
theorem xF {X:Cx}{k:Nat}{ps:List Str}{sp:Sp3}{st:Stmt}{x:Str}{p pos:Pos}{e:Expr}{es:List Expr}{t:TA3}(D:Cal X.prog X.w X.K X.mg X.base k x st ps sp) (hr:Room k X.A) (hg:Gl X x)
  (ha:PA3 X (e::es) t) (hdb:(x==("__debug__":Str))=false:=by decide) (he:starEach (e::es) X.env=(false,eval e X.env)::starEach es X.env:=by rfl) (hpl:(backTo pos (starEach es X.env)).any (·.1)=false:=by rfl) :
  PE3 X (.Call (.Name x p) (e::es) [] pos) (mQ sp t):=by
 obtain⟨f,fd,g,F⟩:=D.ex;exact Ag F hr hg g.m g.fn.kp g.b ha hdb he hpl
theorem aJ {X:Cx}{k j:Nat}{ps:List Str}{sp:Sp3}{st:Stmt}{x:Str}{p pos:Pos}{e:Expr}{es:List Expr}{t:TA3}(D:Cal X.prog X.w X.K X.mg X.base k x st ps sp) (hr:Room j X.A) (hg:Gl X x) (ha:PA3 X (e::es) t) (hk:k<=j:=by decide) (hdb:(x==("__debug__":Str))=false:=by decide) (he:starEach (e::es) X.env=(false,eval e X.env)::starEach es X.env:=by rfl) (hpl:(backTo pos (starEach es X.env)).any (·.1)=false:=by rfl):PE3 X (.Call (.Name x p) (e::es) [] pos) (mQ sp t):=xF D (hr.mono hk) hg ha hdb he hpl
section
variable {X:Cx}{pins:List (Addr × Obj)}{Z:L2.St}{H:Hp}{s:Shared}
theorem nq {c:Nat}:∀{xs:List Nat},(∀x∈xs,x<=c)->xs.sum<=xs.length*c
 |[],_=>by simp
 |x::xs,h=>by
  have a:=h x i_
  have b:=nq (xs:=xs) fun y hy=>h y (q_ _ hy)
  simp only[QK,j_,Nat.succ_mul]
  omega
def FD (n b:Nat) (d:PyData):Prop:=d.showable=true/\d.hasDict=false/\d.depth<=n/\d.shown.length<=b
def rpH (o:Option O3) (k:Int) (H:Hp3) (Q:VK3):Prop:=match o with
 |some (.lst xs)=>(-(2^63)<=k/\k<2^63/\xs.length*k.toNat<=sizeLine)/\∀p,H p=none->Q (.ref p) (up3 H p (.lst (List.replicate k.toNat xs).flatten))
 |_=>False
def DG:R3:=fun x y H Q=>match x,y with
 |.ref a,.int k=>rpH (H a) k H Q
 |_,_=>False
theorem DK (a:Addr) (k:Int) (H:Hp3) (Q:VK3):DG (.ref a) (.int k) H Q=rpH (H a) k H Q:=rfl
theorem DN (xs:List T) (k:Int) (H:Hp3) (Q:VK3):rpH (some (.lst xs)) k H Q=((-(2^63)<=k/\k<2^63/\xs.length*k.toNat<=sizeLine)/\∀p,H p=none->Q (.ref p) (up3 H p (.lst (List.replicate k.toNat xs).flatten))):=rfl
theorem Reps.rep {K:Frag}{H:Hp}{ts:List T}{vs:List V}(r:Reps K H ts vs):∀k:Nat,Reps K H (List.replicate k ts).flatten (List.replicate k vs).flatten
 |0=>.nil
 |k+1=>by rw[Q_,Q_,QQ,QQ];exact r.append (Reps.rep r k)
theorem HB:dU X (binaryOp .Mult) DG:=by
 refine OpR.imp Gu ?_;rintro x y H Q ⟨tx,ty,H3,Q3,rx,ry,sh,h,k⟩;cases tx with
 |ref a =>
  cases ty with
  |int n =>
   rw[DK] at h;cases e:H3 a with
   |none=>rw[e] at h;exact h.elim
   |some o =>
   rw[e] at h;cases o with
   |lst xs=>rw[DN] at h;obtain⟨vs,g1,r1⟩:=sh a _ e;obtain⟨⟨h1,h2,h3⟩,h'⟩:=h;refine⟨a,n,vs,rx.ref,ry.int,g1,h1,h2,by rw[<- r1.length];exact h3,fun p hp=>?_⟩;exact k _ _ _ _ (aR hp) (sh.newLst hp (r1.rep n.toNat)) .ofRef (h' p (sh.fresh hp))
   |_=>exact h.elim
  |_=>exact h.elim
 |_=>exact h.elim
variable {prog:Program}{w:World}{A:Around}{E:Value->Shared->Prop}
variable {tg e:Expr}{p p1 p2 pos pos':Pos}{o:Expr}{to:TE3}{name:Str}{apos cpos:Pos}{m:T->List T->Hp3->VK3->Prop}{Ty id:String}
def DP (Ty:String) (m:T->List T->Hp3->VK3->Prop) (to:TE3):TE3:=fun Z H Q=>to Z H fun x H1=>ty3 Ty x H1/\m x [] H1 Q
theorem HD (pa:PlainAttrs Ty) (slot:Slot Ty name id) (hty:typeOf (.builtin id)=pure (.type "method_descriptor")) (hm:o4 X id m) (ho:PE3 X o to)
  (hbase:attributeBase o name X.env (eval o X.env)=eval o X.env:=by rfl) (hline:(apos.endLine==cpos.line)=true:=by rfl) :
  PE3 X (.Call (.Attribute o name apos) [] [] cpos) (DP Ty m to):=by
 refine PE.imp (Gq pa slot hty hm ho hbase hline) ?_;rintro Z H Q ⟨Z3,H3,Q3,ss,sh,h,k⟩;exact⟨Z3,H3,_,ss,sh,h,fun x H1 tx H31 le1 sh1 rx q1=>⟨Dv sh1 rx q1.1,tx,[],H31,Q3,rx,.nil,sh1,q1.2,k.at le1⟩⟩
def Bc:V->List V->Hp->VK->Prop:=fun x vs H Q=>∃l xs i y,x=.ref l/\vs=[.int i,y]/\H l=some (.lst xs)/\0<=i/\i<=xs.length/\xs.length<sizeLine/\Q .non (upd H l (.lst (xs.take i.toNat++y::xs.drop i.toNat)))
theorem vh:MtR X "list.insert" Bc:=by
 intro pins s Z H x vs v us Q I rx rv h;obtain⟨l,xs,i,y,rfl,rfl,hH,h0,h1,hz,q⟩:=h;cases rx;obtain⟨u,u',rfl,ru,ru'⟩:=vals2 rv;obtain⟨t,rfl⟩:=ru;obtain⟨z,its,n,r,hl,e⟩:=I.lstM hH;have hsz:sizeLine=16777216:=rfl;have hf:¬(!Builtin.List.listFitsIndex i)=true:=by rw[fitsIndex_both (by omega) (by omega)];exact p_
 refine SQ F.slot_list_insert ⟨_,e,rfl⟩ F.entry_list_insert (F.args_list_insert_3 _ _ _) (AutoSeq1.list_insert_list_int_val_1 l its.toArray n i t u' hf (by rw[h_];omega)) ⟨e,?_⟩;refine⟨.non,_,I.lset (its':=its.take i.toNat++u'::its.drop i.toNat) hH e ?_ ((r.take _).append (.cons ru' (r.drop _))) ?_,rfl,q⟩
 ·dsimp only;rw[if_neg (by omega),h_,Nat.min_eq_left (by omega)];apply Array.toList_inj.mp;simp;exact Q6 (by simp)
 rw[a_,j_,Rc,Ro];omega
def HF (o:Option O3) (a:Addr) (i:Int) (t:T) (H:Hp3) (Q:VK3):Prop:=match o with
 |some (.lst xs)=>(0<=i/\i<=xs.length/\xs.length<sizeLine)/\Q .non (up3 H a (.lst (xs.take i.toNat++t::xs.drop i.toNat)))
 |_=>False
def DQ:T->List T->Hp3->VK3->Prop:=fun x ts H Q=>match x,ts with
 |.ref a,[.int i,t]=>HF (H a) a i t H Q
 |_,_=>False
theorem DR (a:Addr) (i:Int) (t:T) (H:Hp3) (Q:VK3):DQ (.ref a) [.int i,t] H Q=HF (H a) a i t H Q:=rfl
theorem xG (xs:List T) (a:Addr) (i:Int) (t:T) (H:Hp3) (Q:VK3):HF (some (.lst xs)) a i t H Q=((0<=i/\i<=xs.length/\xs.length<sizeLine)/\Q .non (up3 H a (.lst (xs.take i.toNat++t::xs.drop i.toNat)))):=rfl
theorem vm:o4 X "list.insert" DQ:=by
 refine MtR.imp vh ?_;rintro x xs H Q ⟨tx,ts,H3,Q3,rx,rs,sh,h,k⟩;cases tx with
 |ref a =>
  cases ts with
  |nil=>exact h.elim
  |cons t1 ts =>
  cases ts with
  |nil=>cases t1 <;> exact h.elim
  |cons t2 ts =>
  cases ts with
  |cons _ _=>cases t1 <;> exact h.elim
  |nil =>
  cases t1 with
  |int i =>
   rw[DR] at h;cases e:H3 a with
   |none=>rw[e] at h;exact h.elim
   |some o =>
   rw[e] at h;cases o with
   |lst ls=>rw[xG] at h;obtain⟨ys,hH,r⟩:=sh a _ e;obtain⟨⟨h1,h2,h3⟩,h'⟩:=h;obtain⟨v,v',rfl,rv,rv'⟩:=rs.two';refine⟨a,ys,i,v',rx.ref,by rw[rv.int],hH,h1,by rw[<- r.length];exact h2,by rw[<- r.length];exact h3,k _ _ _ _ (cB (by rw[hH];exact trivial)) (sh.wrL hH ((r.take _).append (.cons rv' (r.drop _)))) .ofNon h'⟩
   |_=>exact h.elim
  |_=>exact h.elim
 |_=>exact h.elim
def mxH (o:Option O3) (H:Hp3) (Q:VK3):Prop:=match o with
 |some (.lst xs)=>oq (ints3 xs) fun ns=>ns≠[]/\∀M,M∈ns->(∀a∈ns,a<=M)->Q (.int M) H
 |_=>False
def xH:List T->Hp3->VK3->Prop:=fun ts H Q=>match ts with
 |[.ref a]=>mxH (H a) H Q
 |_=>False
theorem xJ (a:Addr) (H:Hp3) (Q:VK3):xH [.ref a] H Q=mxH (H a) H Q:=rfl
theorem DW (xs:List T) (H:Hp3) (Q:VK3):mxH (some (.lst xs)) H Q=oq (ints3 xs) fun ns=>ns≠[]/\∀M,M∈ns->(∀a∈ns,a<=M)->Q (.int M) H:=rfl
theorem tO (hc:X.calm=true):dW X (.builtin "max") xH:=by
 intro pins s Z H xs us Q I rv h;obtain⟨ts,H3,Q3,r,sh,h,k⟩:=h;cases ts with
 |nil=>exact h.elim
 |cons t ts =>
 cases ts with
 |cons _ _=>cases t <;> exact h.elim
 |nil =>
 cases t with
 |ref a =>
  rw[xJ] at h;obtain⟨v,rfl,rv'⟩:=r.one';obtain⟨u,rfl,ru⟩:=vals1 rv;rw[rv'.ref] at ru;cases ru;cases e:H3 a with
  |none=>rw[e] at h;exact h.elim
  |some o =>
  rw[e] at h;cases o with
  |lst ls =>
   rw[DW] at h;obtain⟨ys,sq,rs⟩:=sh.sqL (.inl e);cases e2:ints3 ls with
   |none=>rw[e2] at h;exact h.elim
   |some ns =>
   rw[e2,gU] at h;obtain⟨hne,h⟩:=h;obtain⟨its,rvs,hl,_⟩:=I.list sq;have hi:=iC e2 rs rvs;have hall:AllInts its.toArray:=hi.allInts;obtain⟨zs,ez⟩:=hall.items;have hls:s.heap.IsList a (intItems zs):=by rw[<- ez];exact hl.isList
   have e1:=nums_intItems zs;rw[<- ez,show its.toArray.toList=its from rfl,hi.numsOf] at e1;have hz:0<zs.size:=by have:=F_ List.length e1;simp at this;have:=List.length_pos_iff.mpr hne;omega
   refine max_intList (I.ok.hd hc) hls hz fun v h' tk hv hk=>?_;obtain⟨t,rfl⟩:=intItems_at hv;obtain⟨h1,h2⟩:=argBest_gt (numAt zs) (zs.size - 1);refine⟨.int _,H,I.kept hk,⟨t,rfl⟩,k _ _ _ _ .refl sh .ofInt (h _ ?_ fun a ha=>?_)⟩
   ·rw[e1,numAt_eq];exact getD_mem (by rw[g_,Rk];omega)
   rw[e1] at ha;obtain⟨j,hj,rfl⟩:=mem_getD ha;rw[g_,Rk] at hj;rw[<- numAt_eq];exact h2 j (by omega)
  |_=>exact h.elim
 |_=>cases h
end
theorem gB {α:Type}(e1 e2 e3 f:α->T) (p:α->Bool) (as:List α) (rest:St3) {tt:TT3}{te:TE3}{still:Hp3->Prop}{fin:List T->Hp3->Prop}{v u w:Option T}{H:Hp3}(hst:still H) (hl:as.length<=sizeLine)
  (hc:∀a∈as,∀Q:Bool->Hp3->Prop,Q (p a) H->tt (some (e1 a)::some (e2 a)::some (e3 a)::rest) H Q)
  (ht:∀a∈as,p a=true->∀Q:VK3,Q (f a) H->te (some (e1 a)::some (e2 a)::some (e3 a)::rest) H Q) (hfin:fin ((as.filter p).map f) H) :
  cIter3 (sU 3 (iB (eE 0) (iB (eE 1) (iB (eE 2) sS)))) tt te still fin (as.map fun a=>.tup [e1 a,e2 a,e3 a]) [] (v::u::w::rest) H:=by
 refine iT (fun r ys Z H'=>∃(rs ds:List α) (v u w:Option T),Z=v::u::w::rest/\r=rs.map (fun a=>.tup [e1 a,e2 a,e3 a])/\ys=(ds.filter p).map f/\ds++rs=as/\H'=H) ⟨as,[],v,u,w,rfl,rfl,rfl,rfl,rfl⟩ ?_ ?_
 ·rintro ys Z H' ⟨rs,ds,v,u,w,rfl,hrs,rfl,hsp,rfl⟩;have hrs':rs=[]:=RG.mp hrs.symm;subst hrs';rw[Qv] at hsp;subst hsp;exact⟨hst,by rw[g_];exact N_ (Rb _ _) hl,hfin⟩
 rintro x r ys Z H' N ⟨rs,ds,v,u,w,rfl,hrs,rfl,hsp,rfl⟩ hN;cases rs with
 |nil=>cases hrs
 |cons t rs =>
 injection hrs with a1 a2;subst a1 a2;refine⟨hst,rfl,?_⟩;show tt (some (e1 t)::some (e2 t)::some (e3 t)::rest) H' _;refine hc t (by rw[<- hsp];simp) _ ?_;cases hp:p t with
 |true=>rw[if_pos rfl];refine ht t (by rw[<- hsp];simp) hp _ ⟨?_,hN _ _ _ ⟨rs,ds++[t],_,_,_,rfl,rfl,by simp [hp],by rw[<- hsp];simp,rfl⟩⟩;have:=F_ List.length hsp;simp only[a_,j_] at this;rw[g_];have:=Rb p ds;omega
 |false =>
 rw[if_neg p_];exact hN _ _ _ ⟨rs,ds++[t],_,_,_,rfl,rfl,by simp [hp],by rw[<- hsp];simp,rfl⟩
open L2 HT
section
variable {prog:Program}{w:World}{A:Around}{E:Value->Shared->Prop}{s:Shared}
variable {X:Cx}
def xK:T->Option Int->Option Int->Hp3->VK3->Prop:=fun x lo hi H Q=>match x with
 |.tup ts=>Q (.tup (cQ ts lo hi)) H
 |_=>False
def MF (te:TE3) (tl th:TO3):TE3:=fun Z H Q=>te Z H fun x H1=>tl Z H1 fun l H2=>th Z H2 fun u H3=>xK x l u H3 Q
theorem HH (ts:List T) (lo hi:Option Int) (H:Hp3) (Q:VK3):xK (.tup ts) lo hi H Q=Q (.tup (cQ ts lo hi)) H:=rfl
theorem HJ (te:TE3) (tl th:TO3) (Z:St3) (H:Hp3) (Q:VK3):MF te tl th Z H Q=te Z H fun x H1=>tl Z H1 fun l H2=>th Z H2 fun u H3=>xK x l u H3 Q:=rfl
end
theorem xM (l : List Value) : ((List.range l.length).filterMap fun (k : Nat) => l.toArray[((l.length : Int) - 1 + (k : Int) * (-1)).toNat]?) = l.reverse:=by
 have e:(List.range l.length).map (fun (k:Nat)=>l.toArray[((l.length:Int) - 1+(k:Int)*(-1)).toNat]?)=l.reverse.map some:=by
  apply List.ext_getElem?;intro i;rw[G_,G_];by_cases h:i<l.length
  ·rw[Sh h,List.getElem?_reverse h];have e1:((l.length:Int) - 1+(i:Int)*(-1)).toNat=l.length - 1 - i:=by omega
   have h2:l.length - 1 - i<l.length:=by omega
   simp only[Option.map_some,e1,List.getElem?_toArray];rw[d_ h2];rfl
  rw[Qz (by simp;omega),Qz (by simp;omega)];rfl
 have e2:=F_ (List.filterMap id) e;rw [List.filterMap_map,List.filterMap_map] at e2;have e3 : List.filterMap (id ∘ some) l.reverse = l.reverse:=List.filterMap_some;rw [e3] at e2;exact e2
section
variable {prog:Program}{w:World}{A:Around}{E:Value->Shared->Prop}{s:Shared}
theorem Bd (n:Nat):Builtin.Slice.sliceAdjust none none (-1) (n:Int)=((n:Int) - 1,-1):=by
 unfold Builtin.Slice.sliceAdjust;simp
theorem qZ (n:Nat):Builtin.Slice.slicePlaces ((n:Int) - 1) (-1) (-1)=n:=by
 unfold Builtin.Slice.slicePlaces;have h1:¬((-1:Int)>0):=by omega
 simp only[h1,Q4,Int.neg_neg,Int.ediv_one];split <;> omega
theorem jg {sl:Addr}{vs:Value}{n:Nat}{Q:Int × Int × Nat->Shared->Prop}(hs:s.heap.IsSliceOf sl .none .none vs) (ps:IsPart vs (some (-1)))
  (h:Q ((n:Int) - 1,-1,n) s):wpAny (model prog w) A (Builtin.Slice.sliceApplied (.ref sl) (pure (n:Int))) Q E s:=by
 obtain⟨os,hos,hcs,hds⟩:=id hs;unfold Builtin.Slice.sliceApplied Builtin.Slice.sliceFields;refine e_ (e_ (Rz hos hds (x:=.none) rfl (e_ (Rz hos hds (x:=.none) rfl (e_ (Rz hos hds (x:=vs) rfl (z_ ?_)))))));refine e_ (iu ps ?_);show wpAny _ _ (if ((-1:Int)==0)=true then _ else _) _ _ s;rw[if_neg (by decide)];refine e_ (slicePart_none (e_ (slicePart_none (e_ (z_ ?_)))));show wpAny _ _ (match Builtin.Slice.sliceAdjust none none (-1) (n:Int) with | (lo,hi)=>pure (lo,(-1:Int),Builtin.Slice.slicePlaces lo hi (-1))) _ _ s;rw[Bd n];show wpAny _ _ (pure ((n:Int) - 1,(-1:Int),Builtin.Slice.slicePlaces ((n:Int) - 1) (-1) (-1))) _ _ s;rw[qZ];exact z_ h
theorem iV {t sl:Addr}{its:List Value}{vs:Value}{Q:Value->Shared->Prop}(ht:IsTup s.heap t its.toArray) (hs:s.heap.IsSliceOf sl .none .none vs) (ps:IsPart vs (some (-1)))
  (h:Q (.ref s.heap.objs.size) { s with heap:=s.heap.push { cls:=.type "tuple",data:=.seq its.reverse.toArray}}) (hsz:its.length<=sizeLine):wpAny (model prog w) A (getItem (.ref t) (.ref sl)) Q E s:=by
 obtain⟨os,hos,hcs,hds⟩:=id hs;have hTs:s.TypeIs (.ref sl) "slice":=⟨os,hos,hcs⟩;have htake:sizeOk (.seq its.reverse.toArray):=by show its.reverse.toArray.size<=sizeLine;rw[h_,Sq];exact hsz
 unfold getItem;try with_reducible refine RW ?_
 first | refine e_ (z_ ?_) | skip
 refine e_ (wpAny_sequenceKey ht.typeIs (by decide) ?_);refine e_ (RK (name:=Str.ofString "__getitem__") ht.typeIs QD
  (RZ QD ht.typeIs entry_tuple_getitem ?_ (args_tuple_getitem _ _)))
 show wpAny _ _ (Builtin.Tuple.tupleItemsOf (.ref t) >>= _) _ _ s;refine e_ (tupleItemsOf_ ht ?_);refine e_ (wpAny_typeOf hTs ?_);rw[if_pos (by decide)];refine e_ (jg hs ps ?_);rw[h_];show wpAny _ _ (if (((its.length:Int) - 1)==0&&(-1:Int)==1&&its.length==its.toArray.size)=true then _ else _) _ _ s;rw[if_neg (by simp),xM];first
  |exact e_ (m:=Builtin.Tuple.tupleExact _) (QG (z_ ⟨_,rfl,z_ h⟩) htake)
  |exact e_ (m:=Builtin.Tuple.tupleExact _) (QG (e_ (z_ (z_ ⟨_,rfl,z_ h⟩))) htake)
  |exact e_ (e_ (m:=Builtin.Tuple.tupleExact _) (QG (z_ (z_ ⟨_,rfl,z_ h⟩)) htake))
  |exact e_ (e_ (m:=Builtin.Tuple.tupleExact _) (QG (z_ ⟨_,rfl,z_ h⟩) htake))
variable {X:Cx}{e st:Expr}{p2 pos:Pos}
def MJ (K:Frag) (te:TE) (ts:TO):TE:=fun Z H Q=>te Z H fun x H1=>ts Z H1 fun o H2=>o=some (-1)/\∃a xs,x=.ref a/\SqT K H2 a xs/\∀p,H2 p=none->Q (.ref p) (upd H2 p (.tup xs.reverse))
theorem Be {te:TE}{ts:TO}(he:PE X e te) (hs:PO X (some st) ts):PE X (.Subscript e (.Slice none none (some st) p2) pos) (MJ X.K te ts):=by
 intro pins s Z H Q I h;refine Subscript_ (thn (he pins s Z H _ I h) fun v s1 ⟨x,H1,I1,r1,q1⟩=>?_);refine wpAny_Slice ?_;rw[evalPart_none];refine z_ (z_ (thn (hs pins s1 Z H1 _ I1 q1) fun vs s3 ⟨o,H3,I3,ps,eo,a,xs,ex,hx,q⟩=>?_));subst eo ex;cases r1;have I4:Inv X pins Z H3 { s3 with heap:=s3.heap.push { cls:=.type "slice",data:=.fields #[.none,.none,vs]}}:=I3.kept (t':=s3.toks) fun b ob q=>l_ _ q;obtain⟨its,r,ht,hz⟩:=I4.tuple hx;have hlen:=r.length;show wpAny (model X.prog X.w) X.A (subscriptTail e (.Slice none none (some st) p2) (.ref a) (.ref s3.heap.objs.size)) (EP X pins Z Q) X.xe { s3 with heap:=s3.heap.push { cls:=.type "slice",data:=.fields #[.none,.none,vs]}};refine tail_any (T:="tuple") (ops:=[.ref a,.ref s3.heap.objs.size]) ht.typeIs QD.lookup ?_ (by with_unfolding_all rfl);refine iV ht (Heap.IsSliceOf.new ..) ps ?_ (by omega);refine⟨.ref (s3.heap.push { cls:=.type "slice",data:=.fields #[.none,.none,vs]}).objs.size,_,I4.laid (t':=s3.toks) (o:=.tup xs.reverse) (fun b ob q=>l_ _ q) (u_ _) ?_,rfl,q _ (I4.hok.fresh (u_ _))⟩;exact⟨by simpa using hz,its.reverse,r.reverse,Tup0.new _ _⟩
def rvT (x:T) (o:Option Int) (H:Hp3) (Q:VK3):Prop:=match x with
 |.tup ts=>o=some (-1)/\Q (.tup ts.reverse) H
 |_=>False
def xN (te:TE3) (ts:TO3):TE3:=fun Z H Q=>te Z H fun x H1=>ts Z H1 fun o H2=>rvT x o H2 Q
theorem HN (te:TE3) (ts:TO3) {Z:St3}{H:Hp3}{Q:VK3}:xN te ts Z H Q=te Z H fun x H1=>ts Z H1 fun o H2=>rvT x o H2 Q:=rfl
theorem DX (xs:List T) (o:Option Int) {H:Hp3}{Q:VK3}:rvT (.tup xs) o H Q=(o=some (-1)/\Q (.tup xs.reverse) H):=rfl
theorem Bf {te:TE3}{ts:TO3}(he:PE3 X e te) (hs:PO3 X (some st) ts):PE3 X (.Subscript e (.Slice none none (some st) p2) pos) (xN te ts):=by
 refine PE.imp (Be he hs) ?_;rintro Z H Q ⟨Z3,H3,Q3,ss,sh,h,k⟩;refine⟨Z3,H3,_,ss,sh,h,fun x H1 tx H31 le1 sh1 rx q1=>⟨Z3,H31,_,ss.mono le1,sh1,q1,fun o H2 H32 le2 sh2 q2=>?_⟩⟩;cases tx with
 |tup ts=>rw[DX] at q2;obtain⟨a,xs,rfl,sq,r⟩:=(rx.mono le2).tup;exact⟨q2.1,a,xs,rfl,sq,fun p hp=>k _ _ _ _ (le1.trans (le2.trans (aR hp))) (sh2.new hp) (SimH.newTup (H3:=H32) hp r.reverse) q2.2⟩
 |_=>exact q2.elim
end
theorem q8 {acc:Array Value}{n:Nat}(h:ItemsOf (fun i v=>∃t,v=Value.int (0+(i:Int)*1) t) acc n):Vals ((List.range n).map fun (i:Nat)=>V.int (i:Int)) acc.toList:=by
 obtain⟨hs,hv⟩:=h;have key:∀(l:List Value) (k:Nat),(∀(j:Nat) (v:Value),l[j]?=some v->∃t,v=Value.int ((k:Int)+(j:Int)) t)->Vals ((List.range' k l.length).map fun (i:Nat)=>V.int (i:Int)) l:=fun l=>by
  induction l with
  |nil=>intro k _;exact .nil
  |cons v r ih =>
  intro k hl;rw[j_,List.range'_succ,m_];refine .cons ?_ (ih (k+1) fun j u hj=>?_)
  ·obtain⟨t,e⟩:=hl 0 v rfl;exact⟨t,by rw[e];congr 1⟩
  obtain⟨t,e⟩:=hl (j+1) u (by rw[QX];exact hj);exact⟨t,by rw[e];congr 1;omega⟩
 have:=key acc.toList 0 fun j v hj=>by obtain⟨t,e⟩:=hv j v (by rw[<- Array.getElem?_toList];exact hj);exact⟨t,by rw[e];congr 1;omega⟩
 rw[Rk,hs,<- List.range_eq_range'] at this;exact this
section
variable {X:Cx}{e:Expr}{p1 p2 pos pos':Pos}
def HQ (te:TE):TE:=fun Z H Q=>te Z H fun x H1=>∃n:Nat,x=.int (n:Int)/\n<=1000/\∀l,H1 l=none->Q (.ref l) (upd H1 l (.lst ((List.range n).map fun (i:Nat)=>V.int (i:Int))))
theorem xO {te:TE}(hc:X.calm=true) (hgt:Gl X "list") (hmt:X.mg "list"=none) (hgr:Gl X "range") (hmr:X.mg "range"=none) (hvt:bootBuiltins "list"=some (.type "list")) (ha:PE X e te)
  (he:starEach [e] X.env=(false,eval e X.env)::starEach [] X.env:=by rfl) (hpl:(backTo pos (starEach [] X.env)).any (·.1)=false:=by rfl) (hpl':(backTo pos' (starEach [] X.env)).any (·.1)=false:=by rfl) :
  PE X (.Call (.Name "list" p1) [.Call (.Name "range" p2) [e] [] pos'] [] pos) (HQ te):=by
 intro pins s Z H Q I h;refine Rr (fU I hgt hmt hvt ?_ (by decide) (by decide));refine QM ?_ rfl hpl;show wpAny _ _ (spliced ((false,eval (.Call (.Name "range" p2) [e] [] pos') X.env)::backTo pos (starEach [] X.env))) _ _ s;refine SN ?_;refine Rr (fU I hgr hmr boot_range ?_ (by decide) (by decide));refine QM ?_ he hpl';rw[he];show wpAny _ _ (spliced ((false,eval e X.env)::backTo pos' (starEach [] X.env))) _ _ s;refine SN (thn (ha pins s Z H _ I h) fun u s1 ⟨x,H1,I1,r1,n,hx,hn,q⟩=>?_);subst hx;obtain⟨t,rfl⟩:=r1;refine S8 ?_;refine call_range_1 ?_;refine S8 ?_;have I2:Inv X pins Z H1 { s1 with heap:=s1.heap.push { cls:=.type "range",data:=.fields #[.int 0 s1.toks,.int (n:Int) t,.int 1 (s1.toks+1)]},toks:=s1.toks+1+1}:=I1.kept fun b o e=>l_ _ e;have hsz:Builtin.Range.rangeSize 0 (n:Int) 1=((n:Nat):Int):=by rw[rangeSize_one];split <;> omega
 refine call_list_range (I2.ok.hd hc) (IsRange.new ..) (small_one (by omega) (by omega) (by omega) (by omega)) hsz (by omega) fun h' tk acc' c' hk hg hit=>?_;have hv:=q8 hit;refine⟨.ref _,_,I2.laid (t':=tk) (o:=.lst ((List.range n).map fun (i:Nat)=>V.int (i:Int))) hk (u_ _) ⟨by rw[g_,t_];show n<=16777216;omega,acc'.toList,c',hv,?_⟩,rfl,q _ (I2.hok.fresh (u_ _))⟩;rw[show acc'.toList.toArray=acc' by simp];exact hg
def lrq (x:T) (H:Hp3) (Q:VK3):Prop:=match x with
 |.int i=>(0<=i/\i<=1000)/\∀p,H p=none->Q (.ref p) (up3 H p (.lst ((List.range i.toNat).map fun (k:Nat)=>T.int (k:Int))))
 |_=>False
def tQ (te:TE3):TE3:=fun Z H Q=>te Z H fun x H1=>lrq x H1 Q
theorem Bg (te:TE3) {Z:St3}{H:Hp3}{Q:VK3}:tQ te Z H Q=te Z H fun x H1=>lrq x H1 Q:=rfl
theorem DY (i:Int) {H:Hp3}{Q:VK3}:lrq (.int i) H Q=((0<=i/\i<=1000)/\∀p,H p=none->Q (.ref p) (up3 H p (.lst ((List.range i.toNat).map fun (k:Nat)=>T.int (k:Int))))):=rfl
theorem xP {K:Frag}{H:Hp}(l:List Nat):Reps K H (l.map fun (k:Nat)=>T.int (k:Int)) (l.map fun (k:Nat)=>V.int (k:Int)):=by
 induction l with
 |nil=>exact .nil
 |cons k r ih=>exact .cons .ofInt ih
theorem xQ {te:TE3}(hc:X.calm=true) (hgt:Gl X "list") (hmt:X.mg "list"=none) (hgr:Gl X "range") (hmr:X.mg "range"=none) (ha:PE3 X e te)
  (he:starEach [e] X.env=(false,eval e X.env)::starEach [] X.env:=by rfl) (hpl:(backTo pos (starEach [] X.env)).any (·.1)=false:=by rfl) (hpl':(backTo pos' (starEach [] X.env)).any (·.1)=false:=by rfl) :
  PE3 X (.Call (.Name "list" p1) [.Call (.Name "range" p2) [e] [] pos'] [] pos) (tQ te):=by
 refine PE.imp (xO hc hgt hmt hgr hmr jF ha he hpl hpl') ?_;rintro Z H Q ⟨Z3,H3,Q3,ss,sh,h,k⟩;refine⟨Z3,H3,_,ss,sh,h,fun v H' t H3' le sh' r q=>?_⟩;cases t with
 |int i=>rw[DY] at q;rw[r.int];refine⟨i.toNat,by rw[Rm q.1.1],by omega,fun l hl=>k _ _ _ _ (le.trans (aR hl)) (sh'.newLst hl (xP _)) .ofRef (q.2 l (sh'.fresh hl))⟩
 |_=>exact q.elim
end
open L2 PySem.Builtin PySem.Builtin.Str
section
variable {prog:Program}{w:World}{A:Around}{E:Value->Shared->Prop}{s:Shared}{x y:Str}{t u:Tok}{Q:Value->Shared->Prop}
variable {X:Cx}
variable {elts:List Expr}{x1 j:Nat}{tpos pos p cp kp:Pos}{e:Expr}
theorem nu:bootBuiltins "enumerate"=some (.type "enumerate"):=by decide +kernel
variable {tg l:Expr}
variable {te:TE}{p1 p2 pos':Pos}
variable {pins:List (Addr × Obj)}{Z:L2.St}{H:Hp}
variable {a:Expr}{ta:TE3}
def ngq (x:T) (H:Hp3) (Q:VK3):Prop:=match x with
 |.int i=>Q (.int (-i)) H
 |_=>False
def Ea (ta:TE3):TE3:=fun Z H Q=>ta Z H fun x H1=>ngq x H1 Q
theorem MK (ta:TE3) {Z:St3}{H:Hp3}{Q:VK3}:Ea ta Z H Q=ta Z H fun x H1=>ngq x H1 Q:=rfl
theorem MN (i:Int) {H:Hp3}{Q:VK3}:ngq (.int i) H Q=Q (.int (-i)) H:=rfl
theorem q9 (ha:PE3 X a ta):PE3 X (.UnaryOp .USub a pos) (Ea ta):=by
 refine PE.imp (J7 Ge ha) ?_;rintro Z H Q ⟨Z3,H3,Q3,ss,sh,h,k⟩;refine⟨Z3,H3,_,ss,sh,h,fun v H' t H3' le sh' r q=>?_⟩;cases t with
 |int i=>exact⟨i,r.int,k _ _ _ _ le sh' .ofInt q⟩
 |_=>exact q.elim
def HR:List T->Hp3->VK3->Prop:=fun ts H Q=>match ts with
 |[.str x]=>x.length<=640/\oq (intText? x) fun n=>Q (.int n) H
 |_=>False
theorem HS (x:Str) {H:Hp3}{Q:VK3}:HR [.str x] H Q=(x.length<=640/\oq (intText? x) fun n=>Q (.int n) H):=rfl
def d9 (k:Int):List T->List T
 |[]=>[]
 |x::r=>.tup [.int k,x]::d9 (k+1) r
theorem lN:∀(k:Int) (xs:List T) (i:Nat),(d9 k xs)[i]?=xs[i]?.map fun x=>.tup [.int (k+i),x]
 |_,[],i=>by simp [d9]
 |k,x::xs,0=>by simp [d9]
 |k,x::xs,i+1=>by
  simp only[d9,QX]
  rw[lN (k+1) xs i]
  have:k+1+(i:Int)=k+((i+1:Nat):Int):=by omega
  rw[this]
theorem lO:∀(k:Int) (xs:List T),(d9 k xs).length=xs.length
 |_,[]=>rfl
 |k,x::xs=>by simp [d9,lO (k+1) xs]
def HW (o:Option O3) (a:Addr) (H:Hp3) (R:List T->(Hp3->Prop)->Hp3->Prop):Prop:=match o with
 |some (.lst ts)=>R (d9 0 ts) (cM a ts) H
 |_=>False
def HX (x:T) (H:Hp3) (R:List T->(Hp3->Prop)->Hp3->Prop):Prop:=match x with
 |.ref a=>HW (H a) a H R
 |_=>False
def Bh (te:TE3):TI3:=fun Z H R=>te Z H fun x H1=>HX x H1 R
theorem xR (te:TE3) {Z:St3}{H:Hp3}{R:List T->(Hp3->Prop)->Hp3->Prop}:Bh te Z H R=te Z H fun x H1=>HX x H1 R:=rfl
theorem HY (a:Addr) {H:Hp3}{R:List T->(Hp3->Prop)->Hp3->Prop}:HX (.ref a) H R=HW (H a) a H R:=rfl
theorem Ia (ts:List T) (a:Addr) {H:Hp3}{R:List T->(Hp3->Prop)->Hp3->Prop}:HW (some (.lst ts)) a H R=R (d9 0 ts) (cM a ts) H:=rfl
end
theorem Ib {X:Cx}:dU X (binaryOp .LShift) (rI3 zK fun i j=>.int (i*2^j.toNat)):=u9 Ga fun _ _ _=>.ofInt
theorem pU (l:Addr) (items:Array Value) (n:Nat) (dct:Option Addr) (sl:Array (Option Value)) :
  Meets (Builtin.«enumerate.__new__» ⟨[.type "enumerate",.ref l],[]⟩) (fun _ R s=>s.heap.get? l=some { cls:=.type "tuple",dict:=dct,data:=.seq items n,slots:=sl} /\
   R (.ok (.ret (.ref (s.heap.push { cls:=.type "tuple_iterator",data:=.fields #[.ref l,.int 0 0]}).objs.size)))
    { s with heap:=(s.heap.push { cls:=.type "tuple_iterator",data:=.fields #[.ref l,.int 0 0]}).push { cls:=.type "enumerate",data:=.fields #[.none,.bool false,.ref s.heap.objs.size,rawInt 0,.none,.none]}}) :=
 .of_wp fun prog w A R s h=>by
  obtain⟨hp,g,d,tk,os⟩:=s;obtain⟨hl,h⟩:=h;have hsub:=sub_enumerate;have hL:Heap.IsTuple (Shared.heap ⟨hp,g,d,tk,os⟩) l items:=⟨_,hl,rfl,n,rfl⟩
  wp_walk using RD hl
  refine wpAny_stack_any fun st=>z_ ?_;split
  ·rename_i c _ _ _ _ _;cases (c==Value.type "enumerate")
   ·wp_walk using RD hl,SJ hL
    exact⟨_,rfl,h⟩
   wp_walk using RD hl,SJ hL
   exact⟨_,rfl,h⟩
  wp_walk using RD hl,SJ hL
  exact⟨_,rfl,h⟩
theorem iH {prog:Program}{w:World}{A:Around}{E:Value->Shared->Prop}{s:Shared}{l:Addr}{items:Array Value}{Q:Value->Shared->Prop}(hL:s.heap.IsTuple l items)
  (h:∀h',IsEnum h' (s.heap.objs.size+1) s.heap.objs.size 0 .none->h'.IsTupleIter s.heap.objs.size l 0->h'.objs.size=s.heap.objs.size+2 ->
   (∀b o,s.heap.get? b=some o->h'.get? b=some o)->Q (.ref (s.heap.objs.size+1)) { s with heap:=h'}) :
  wpAny (model prog w) A (call (.type "enumerate") [.ref l]) Q E s:=by
 obtain⟨⟨c,dct,dt,sl⟩,hl,hc,n,hd⟩:=hL;replace hc:c=.type "tuple":=hc;replace hd:dt=.seq items n:=hd;subst hc hd;refine callType_new F.called_enumerate (by decide) (F.typeCall_enumerate_1 _) (F.newCall_enumerate_1 _) (fun obj=>F.args_object_init_2 obj _) F.entry_enumerate_new
  (pU l items n dct sl) ⟨hl,?_⟩
 have hz:(s.heap.push { cls:=.type "tuple_iterator",data:=.fields #[.ref l,.int 0 0]}).objs.size=s.heap.objs.size+1:=Rq ..;show _/\_;rw[hz];have he:IsEnum ((s.heap.push { cls:=.type "tuple_iterator",data:=.fields #[.ref l,.int 0 0]}).push
   { cls:=.type "enumerate",data:=.fields #[.none,.bool false,.ref s.heap.objs.size,rawInt 0,.none,.none]}) (s.heap.objs.size+1) s.heap.objs.size 0 .none:=by
  have:=K_ (s.heap.push { cls:=.type "tuple_iterator",data:=.fields #[.ref l,.int 0 0]})
   (o:={ cls:=.type "enumerate",data:=.fields #[.none,.bool false,.ref s.heap.objs.size,rawInt 0,.none,.none]}) rfl
  rw[hz] at this;exact this
 refine⟨⟨_,he,rfl⟩,h _ he ⟨_,l_ _ (K_ _ rfl),rfl,rfl⟩ (by rw[Rq,hz]) fun b o x=>l_ _ (l_ _ x)⟩
def Ie (K:Frag) (a:Addr):It :=
 ⟨fun i H=>∃xs x,SqT K H a xs/\xs[i]?=some x,
  fun i H v H'=>∃p x,v=.ref p/\H p=none/\H'=upd H p (.tup [.int (i:Int),x])/\∀xs,SqT K H a xs->xs[i]?=some x,
  fun i H=>∃xs,SqT K H a xs/\xs.length<=i⟩
theorem rm {P:Program}{w:World}{K:Frag}{elts:List Expr}{x1:Nat}{pos:Pos}(a it e:Addr) (l1:a<it) (l2:it<e) :
  Turn P w K (.Tuple elts x1 pos) (Ie K a) [e,it] e (fun i h=>(∃old,IsEnum h e it (i:Int) old)/\h.IsTupleIter it a i) where
 mem:=i_
 obj:=fun i h st c hc=>by
  obtain⟨⟨old,he⟩,⟨o1,e1,_,d1⟩⟩:=st
  simp only[k_,M_,Q7] at hc
  rcases hc with rfl | rfl
  ·
   exact⟨_,he,fun v z=>by cases z⟩
  ·
   exact⟨_,e1,fun v z=>by rw[d1] at z;cases z⟩
 keep:=fun i h h' st k=>by
  obtain⟨⟨old,he⟩,h1⟩:=st
  exact⟨⟨old,k e (by simp) _ he⟩,h1.at fun o q=>k it (by simp) o q⟩
 item:=by
  intro X hP hw hK hc i pins s Z H E I hf st hg
  subst hP hw hK
  obtain⟨xs,x,hq,hx⟩:=hg
  obtain⟨its,rv,p,hz⟩:=I.tuple hq
  obtain⟨u,hu,ru⟩:=rv.get hx
  obtain⟨⟨old,he⟩,h1⟩:=st
  have hu':its.toArray[i]?=some u:=by simpa using hu
  have hai:a≠it:=Qt l1
  have hei:e≠it:=S7 l2
  have hea:e≠a:=S7 (RT l1 l2)
  have hef:e∉[it,a]:=by simp [hei,hea]
  have D:=Hv (prog:=X.prog) (w:=X.w) (A:=X.A.in1) (I.ok.hd hc) it a hai its.toArray
  refine wpAny_pyNext_enum_itemD (i:=i) D he ⟨h1,p⟩ (Array.getElem?_eq_some_iff.mp hu').1 hei hef fun x' h' tk px ho hs' hT hsz kp=>?_
  have e1:x'=u:=Qu (px.symm.trans hu')
  subst e1
  obtain⟨hs1,hs2⟩:=hs'
  refine⟨_,rfl,wpAny_letOwnedTupleGo_enum ho fun h2' hz2' sb=>?_⟩
  have kp2:∀c o,c∉[e,it]->s.heap.get? c=some o->h2'.get? c=some o:=fun c o nc q=>(sb.2 c fun z=>nc (z▸i_)).trans (kp c o (fun z=>nc (z▸i_)) (fun z=>nc (by simp [z])) q)
  have lt:∀{c o},s.heap.get? c=some o->s.heap.objs.size≠c:=fun q=>S7 (D_ q)
  have lt1:∀{c:Addr},c∈[e,it]->c≠s.heap.objs.size:=fun {c} hc=>by
   simp only[k_,M_,Q7] at hc
   rcases hc with q | q <;> subst q
   ·
    exact Ne.symm (lt he)
   ·
    obtain⟨o,q,_⟩:=h1;exact Ne.symm (lt q)
  have hTe:s.heap.objs.size≠e:=lt he
  have I1:Inv X pins Z (upd H s.heap.objs.size (.tup [.int (i:Int),x])) { s with heap:=s.heap.push { cls:=.type "tuple",data:=.seq #[.int (i:Int) tk,x']},toks:=tk+1} :=
   I.laid (t':=tk+1) (fun b o q=>l_ _ q) (u_ _) (show ObjOk X.prog X.w _ _ _ (.tup [.int (i:Int),x]) from ⟨by show 2<=sizeLine;decide,[.int (i:Int) tk,x'],.cons ⟨tk,rfl⟩ (.cons ru .nil),Tup0.new _ _⟩)
  have I2:Inv X pins Z (upd H s.heap.objs.size (.tup [.int (i:Int),x])) { s with heap:=h2',toks:=tk+1}:=tL (s:={ s with heap:=s.heap.push { cls:=.type "tuple",data:=.seq #[.int (i:Int) tk,x']},toks:=tk+1}) (ch:=[e,it]) (t':=tk+1) I1 (fun c o nc q=>by
   by_cases z:c=s.heap.objs.size
   ·
    subst z
    have q':(s.heap.push { cls:=.type "tuple",data:=.seq #[.int (i:Int) tk,x']}).get? s.heap.objs.size=some o:=q
    rw[K_ _ rfl] at q'
    cases q'
    exact (sb.2 _ hTe).trans hT
   ·
    have q':(s.heap.push { cls:=.type "tuple",data:=.seq #[.int (i:Int) tk,x']}).get? c=some o:=q
    rw[Heap.get?_push_ne _ _ _ z] at q'
    exact kp2 c o nc q') fun c hc=>⟨by rw[aW (lt1 hc)];exact (hf c hc).1,(hf c hc).2⟩
  refine⟨.ref s.heap.objs.size,_,I2,rfl,⟨s.heap.objs.size,x,rfl,I.hok.fresh (u_ _),rfl,fun zs hq'=>by rw[I.tuple_inj hq' hq];exact hx⟩,⟨⟨x',?_⟩,hs1.at fun o q=>(sb.2 it (Ne.symm hei)).trans q⟩,fun c hc=>by rw[aW (lt1 hc)];exact (hf c hc).1⟩
  exact hz2'
 done:=by
  intro X hP hw hK hc i pins s Z H E I hf st hg
  subst hP hw hK
  obtain⟨xs,hq,hx⟩:=hg
  obtain⟨its,rv,p,hz⟩:=I.tuple hq
  obtain⟨⟨old,he⟩,h1⟩:=st
  have hl:=rv.length
  have hai:a≠it:=Qt l1
  have D:=Hw (prog:=X.prog) (w:=X.w) (A:=X.A.in1) (I.ok.hd hc) it a hai its.toArray i (by simp;omega)
  exact wpAny_pyNext_enum_endD D he ⟨rfl,h1,p⟩ fun h' eb=>⟨rfl,tL (ch:=[e,it]) (t':=s.toks) I (fun b o nb q=>eb b o (fun z=>nb (by simp [z])) q) hf⟩
 self:=fun _ _ _ _ _ st h=>wpAny_pyIter_enum st.1.choose_spec h
section
variable {X:Cx}{elts:List Expr}{x1:Nat}{tpos pos p:Pos}{e:Expr}
def Ig (K:Frag) (te:TE):TI:=fun Z H R=>te Z H fun x H1=>∃a,x=.ref a/\(∃xs,SqT K H1 a xs)/\R (Ie K a) H1
theorem xT {te:TE}(hg:Gl X "enumerate") (hm:X.mg "enumerate"=none) (he:PE X e te)
  (hs:starEach [e] X.env=(false,eval e X.env)::starEach [] X.env:=by rfl) (hpl:(backTo pos (starEach [] X.env)).any (·.1)=false:=by rfl) :
  PI X (.Tuple elts x1 tpos) (.Call (.Name "enumerate" p) [e] [] pos) (Ig X.K te):=by
 intro pins s Z H R I h;refine Rr (fU I hg hm nu ?_ (by decide) (by decide));refine QM ?_ hs hpl;rw[hs];show wpAny _ _ (spliced ((false,eval e X.env)::backTo pos (starEach [] X.env))) _ _ s;refine SN (thn (he pins s Z H _ I h) fun u s2 ⟨x,H2,I2,r1,a,ea,⟨xs,hl⟩,q⟩=>?_);subst ea;cases r1;refine S8 ?_;obtain⟨its,rv,ho,_⟩:=I2.tuple hl;have la:a<s2.heap.objs.size:=let ⟨o,e,_⟩:=ho;D_ e;refine iH ho fun h' hE hL l1 kp=>wpAny_pyIter_enum hE ?_;refine⟨s2.heap.objs.size+1,[s2.heap.objs.size+1,s2.heap.objs.size],_,_,H2,rfl,I2.kept (t':=s2.toks) kp,rm a s2.heap.objs.size (s2.heap.objs.size+1) la (Nat.lt_succ_self _),⟨⟨.none,hE⟩,hL⟩,fun c hc=>?_,q⟩;have hc':s2.heap.objs.size<=c:=by
  simp only[k_,M_,Q7] at hc;rcases hc with z | z <;> subst z
  ·exact Nat.le_succ _
  exact u_ _
 exact I2.fpOk hc' (I2.hok.fresh hc')
def Ih (x:T) (H:Hp3) (R:List T->(Hp3->Prop)->Hp3->Prop):Prop:=match x with
 |.tup ts=>R (d9 0 ts) cg H
 |_=>False
def tR (te:TE3):TI3:=fun Z H R=>te Z H fun x H1=>Ih x H1 R
theorem xU (te:TE3) {Z:St3}{H:Hp3}{R:List T->(Hp3->Prop)->Hp3->Prop}:tR te Z H R=te Z H fun x H1=>Ih x H1 R:=rfl
theorem Ii (ts:List T) {H:Hp3}{R:List T->(Hp3->Prop)->Hp3->Prop}:Ih (.tup ts) H R=R (d9 0 ts) cg H:=rfl
theorem rA {K:Frag}{H:Hp}{a:Addr}{ts:List T}{xs:List V}(sq:SqT K H a xs) (rs:Reps K H ts xs):lJ K (Ie K a) (d9 0 ts) cg H:=fun H' H3' le sh st=>by
 have hl:=rs.length;have sq':=le _ _ sq;refine⟨fun i hi=>⟨xs,sq',by rw[lO] at hi;omega⟩,fun i t e=>?_⟩;rw[lN] at e;cases q:ts[i]? with
 |none=>rw[q] at e;cases e
 |some x =>
 rw[q] at e;cases e;obtain⟨v,ev,rv⟩:=rs.get q;refine⟨⟨xs,v,sq',ev⟩,fun z H'' y=>?_⟩;obtain⟨p,x',rfl,hp,rfl,q1⟩:=y;have:=(q1 xs sq').symm.trans ev;cases this;refine⟨aR hp,sh.new hp,?_⟩;rw[show (0:Int)+(i:Int)=(i:Int) from by omega];exact SimH.newTup (H3:=H3') hp (.cons .ofInt (.cons (rv.mono le) .nil))
theorem jU {te:TE3}(hg:Gl X "enumerate") (hm:X.mg "enumerate"=none) (he:PE3 X e te) (hs:starEach [e] X.env=(false,eval e X.env)::starEach [] X.env:=by rfl) (hpl:(backTo pos (starEach [] X.env)).any (·.1)=false:=by rfl) :
  PI3 X (.Tuple elts x1 tpos) (.Call (.Name "enumerate" p) [e] [] pos) (tR te):=by
 refine PI.imp (xT hg hm he hs hpl) ?_;rintro Z H R ⟨Z3,H3,R3,ss,sh,h,k⟩;refine⟨Z3,H3,_,ss,sh,h,fun v H' t H3' le sh' r q=>?_⟩;cases t with
 |tup ts=>obtain⟨a,xs,rfl,sq,rs⟩:=r.tup;exact⟨a,rfl,⟨xs,sq⟩,k _ _ cg H' H3' le sh' (rA sq rs) q⟩
 |_=>exact q.elim
def anH (o:Option O3) (H:Hp3) (Q:VK3):Prop:=match o with
 |some (.lst xs)=>oq (iG xs) fun bs=>Q (.bl (bs.any id)) H
 |some (.rol xs)=>oq (iG xs) fun bs=>Q (.bl (bs.any id)) H
 |_=>False
def MP:List T->Hp3->VK3->Prop:=fun ts H Q=>match ts with
 |[.ref a]=>anH (H a) H Q
 |_=>False
theorem MT (a:Addr) {H:Hp3}{Q:VK3}:MP [.ref a] H Q=anH (H a) H Q:=rfl
theorem M3 (xs:List T) {H:Hp3}{Q:VK3}:anH (some (.lst xs)) H Q=oq (iG xs) fun bs=>Q (.bl (bs.any id)) H:=rfl
def xV:List T->Hp3->VK3->Prop:=fun ts H Q=>match ts with
 |[.int i,.int j]=>Q (.int (if j>i then j else i)) H
 |_=>False
def Ij:List T->Hp3->VK3->Prop:=fun ts H Q=>match ts with
 |[.int i,.int j]=>Q (.int (if j<i then j else i)) H
 |_=>False
theorem Ik (i j:Int) {H:Hp3}{Q:VK3}:xV [.int i,.int j] H Q=Q (.int (if j>i then j else i)) H:=rfl
theorem Il (i j:Int) {H:Hp3}{Q:VK3}:Ij [.int i,.int j] H Q=Q (.int (if j<i then j else i)) H:=rfl
theorem nA (hc:X.calm=true):dW X (.builtin "max") xV:=by
 intro pins s Z H xs us Q I rv h;obtain⟨ts,H3,Q3,r,sh,h,k⟩:=h
 match ts,h,r with
 |[.int i,.int j],h,r =>
 obtain⟨v,v2,rfl,r1,r2⟩:=r.two';obtain⟨u1,u2,rfl,q1,q2⟩:=vals2 rv;rw[r1.int] at q1;rw[r2.int] at q2;obtain⟨t1,rfl⟩:=q1;obtain⟨t2,rfl⟩:=q2;refine max_two_ints (I.ok.hd hc) fun h' tk hk=>?_;refine⟨.int (if j>i then j else i),H,I.kept hk,?_,k _ _ _ _ .refl sh .ofInt h⟩;by_cases z:j>i
 ·rw[if_pos z,if_pos z];exact⟨_,rfl⟩
 rw[if_neg z,if_neg z];exact⟨_,rfl⟩
theorem Im:dU X (binaryOp .BitAnd) (u6 fun i j=>.int (Builtin.bitAnd i j)):=tu Gd fun _ _ _=>.ofInt
theorem jV:bootBuiltins "max"=some (.builtin "max"):=by decide +kernel
variable {st:Expr}{p2:Pos}
def M4 (K:Frag) (te:TE) (ts:TO):TE:=fun Z H Q=>te Z H fun x H1=>ts Z H1 fun o H2=>o=some (-1)/\∃a xs,x=.ref a/\SqL K H2 a xs/\∀p,H2 p=none->Q (.ref p) (upd H2 p (.lst xs.reverse))
theorem Bj {te:TE}{ts:TO}(he:PE X e te) (hs:PO X (some st) ts):PE X (.Subscript e (.Slice none none (some st) p2) pos) (M4 X.K te ts):=by
 intro pins s Z H Q I h;refine Subscript_ (thn (he pins s Z H _ I h) fun v s1 ⟨x,H1,I1,r1,q1⟩=>?_);refine wpAny_Slice ?_;rw[evalPart_none];refine z_ (z_ (thn (hs pins s1 Z H1 _ I1 q1) fun vs s3 ⟨o,H3,I3,ps,eo,a,xs,ex,hx,q⟩=>?_));subst eo ex;cases r1;have I4:Inv X pins Z H3 { s3 with heap:=s3.heap.push { cls:=.type "slice",data:=.fields #[.none,.none,vs]}}:=I3.kept (t':=s3.toks) fun b ob q=>l_ _ q;obtain⟨its,r,ht,hz⟩:=I4.list hx;have hlen:=r.length;show wpAny (model X.prog X.w) X.A (subscriptTail e (.Slice none none (some st) p2) (.ref a) (.ref s3.heap.objs.size)) (EP X pins Z Q) X.xe { s3 with heap:=s3.heap.push { cls:=.type "slice",data:=.fields #[.none,.none,vs]}};refine tail_any (T:="list") (ops:=[.ref a,.ref s3.heap.objs.size]) ht.isList.typeIs slot_list_getitem.lookup ?_ (by with_unfolding_all rfl);refine wpAny_getItem_list_slice ht.isList (Heap.IsSliceOf.new ..) .none .none ps (by simp) ?_ (by rw[h_] <;> omega);rw[PySem.W.krv_pick];refine⟨.ref (s3.heap.push { cls:=.type "slice",data:=.fields #[.none,.none,vs]}).objs.size,_,I4.laid (t':=s3.toks) (o:=.lst xs.reverse) (fun b ob q=>l_ _ q) (u_ _) ?_,rfl,q _ (I4.hok.fresh (u_ _))⟩;refine⟨by simpa using hz,its.reverse,0,r.reverse,?_⟩;rw[show its.toArray.toList.reverse.toArray=its.reverse.toArray by simp];exact K_ _ rfl
def rvH (o:Option O3) (H:Hp3) (Q:VK3):Prop:=match o with
 |some (.lst ts)=>∀p,H p=none->Q (.ref p) (up3 H p (.lst ts.reverse))
 |_=>False
def rvq (x:T) (o:Option Int) (H:Hp3) (Q:VK3):Prop:=match x with
 |.ref a=>o=some (-1)/\rvH (H a) H Q
 |_=>False
def xW (te:TE3) (ts:TO3):TE3:=fun Z H Q=>te Z H fun x H1=>ts Z H1 fun o H2=>rvq x o H2 Q
theorem Io (te:TE3) (ts:TO3) {Z:St3}{H:Hp3}{Q:VK3}:xW te ts Z H Q=te Z H fun x H1=>ts Z H1 fun o H2=>rvq x o H2 Q:=rfl
theorem M5 (a:Addr) (o:Option Int) {H:Hp3}{Q:VK3}:rvq (.ref a) o H Q=(o=some (-1)/\rvH (H a) H Q):=rfl
theorem M6 (ts:List T) {H:Hp3}{Q:VK3}:rvH (some (.lst ts)) H Q=∀p,H p=none->Q (.ref p) (up3 H p (.lst ts.reverse)):=rfl
theorem tU {te:TE3}{ts:TO3}(he:PE3 X e te) (hs:PO3 X (some st) ts):PE3 X (.Subscript e (.Slice none none (some st) p2) pos) (xW te ts):=by
 refine PE.imp (Bj he hs) ?_;rintro Z H Q ⟨Z3,H3,Q3,ss,sh,h,k⟩;refine⟨Z3,H3,_,ss,sh,h,fun x H1 tx H31 le1 sh1 rx q1=>⟨Z3,H31,_,ss.mono le1,sh1,q1,fun o H2 H32 le2 sh2 q2=>?_⟩⟩;cases tx with
 |ref a =>
  obtain⟨eo,q2⟩:=q2;cases e:H32 a with
  |none=>rw[e] at q2;exact q2.elim
  |some ob =>
  rw[e] at q2;cases ob with
  |lst ts=>obtain⟨xs,sq,r⟩:=sh2.sqL (.inl e);refine⟨eo,a,xs,rx.ref,sq,fun p hp=>k _ _ _ _ (le1.trans (le2.trans (aR hp))) (sh2.newLst hp r.reverse) .ofRef (q2 p (sh2.fresh hp))⟩
  |rol ts=>exact q2.elim
  |dct ts=>exact q2.elim
  |dcp ts=>exact q2.elim
  |exc _ _=>exact q2.elim
  |xdt _=>exact q2.elim
  |dci _=>exact q2.elim
  |dif _ _=>exact q2.elim
  |ins _ _=>exact q2.elim
 |_=>exact q2.elim
variable {H:Hp3}{Q:VK3}{Z:St3}
variable {o i k value:Expr}{es:List Expr}{td ti tk tv:TE3}{ta:TA3}{pos':Pos}
def Ip:TE3:=fun _ H Q=>∀p,H p=none->Q (.ref p) (up3 H p (.dct []))
theorem SimH.newD {K:Frag}{H:Hp}{H3:Hp3}{p:Addr}(s:SimH K H3 H) (hp:H p=none):SimH K (up3 H3 p (.dct [])) (upd H p (.dK [])):=fun a o e=>by
 by_cases ha:a=p
 ·subst ha;rw[aC] at e;cases e;exact⟨[],cA,.nil⟩
 rw[aF ha] at e;exact s.new hp a o e
theorem eQ:PE3 X (.Dict [] [] pos) Ip:=by
 refine PE.imp wg ?_;rintro Z H Q ⟨Z3,H3,Q3,ss,sh,h,k⟩ p hp;exact k _ _ _ _ (aR hp) (sh.newD hp) .ofRef (h p (sh.fresh hp))
def diH (neg:Bool) (y:T) (o:Option O3) (H:Hp3) (Q:VK3):Prop:=match y,o with
 |.str k,some (.dct kvs)=>Q (.bl (if neg then !(bU k kvs).isSome else (bU k kvs).isSome)) H
 |_,_=>False
def diq (neg:Bool) (y x:T) (H:Hp3) (Q:VK3):Prop:=match x with
 |.ref a=>diH neg y (H a) H Q
 |_=>False
def xX (neg:Bool) (ti to:TE3):TE3:=fun Z H Q=>ti Z H fun y H1=>to Z H1 fun x H2=>diq neg y x H2 Q
theorem M7 (neg:Bool) (y:T) (a:Addr) {H:Hp3}{Q:VK3}:diq neg y (.ref a) H Q=diH neg y (H a) H Q:=rfl
theorem M8 (neg:Bool) (k:Str) (kvs:List (Str × T)) {H:Hp3}{Q:VK3}:diH neg (.str k) (some (.dct kvs)) H Q=Q (.bl (if neg then !(bU k kvs).isSome else (bU k kvs).isSome)) H:=rfl
theorem lQ {K:Frag}{H:Hp}{k:Str}:∀{kvs:List (Str × T)}{vs:List (Key × V)},RepD K H kvs vs->(iw vs (Sum.inr k:Key)).isSome=(bU k kvs).isSome
 |[],_,.nil=>rfl
 | (k',t')::r,_,.cons (b:=(kk,v')) ⟨e1,rv⟩ rr=>by
  simp only at e1 rv
  subst e1
  unfold bU
  by_cases hk:k'=k
  ·
   rw[if_pos hk,fW (by rw[hk])];rfl
  ·
   rw[if_neg hk,fX (by intro z;exact hk (Sum.inr.inj z))]
   exact lQ rr
theorem tV {neg:Bool}{H:Hp}{H3:Hp3}{x y:V}{tx ty:T}{Q3:VK3}(sh:SimH X.K H3 H) (rx:Rep X.K H tx x) (ry:Rep X.K H ty y) (q:diq neg ty tx H3 Q3) :
  ∃a ov b,x=.ref a/\DGet H a y ov/\(if neg then !ov.isSome else ov.isSome)=b/\Q3 (.bl b) H3:=by
 cases tx with
 |ref a =>
  have h':diH neg ty (H3 a) H3 Q3:=q
  cases ty with
  |str k =>
   cases e:H3 a with
   |none=>rw[e] at h';exact h'.elim
   |some ob =>
    rw[e] at h'
    cases ob with
    |dct kvs =>
     obtain⟨ws,hH,r⟩:=sh a _ e
     refine⟨a,iw ws (Sum.inr k:Key),_,rx.ref,by rw[ry.str];exact DGet.k (k:=Sum.inr k) hH,rfl,?_⟩
     rw[lQ r]
     exact h'
    |_=>exact h'.elim
  |_=>exact h'.elim
 |_=>exact q.elim
theorem Ir (hu:X.A.units+1<cLine) (hi:PE3 X i ti) (ho:PE3 X o td) (hm:behindInMarks .In o=false:=by rfl):PT3 X (.Compare i [.In] [o] pos) (jM (xX false ti td)):=by
 refine PT.imp (vK (Gx hu hi ho) hm) ?_;rintro Z H Q ⟨Z3,H3,Q3,ss,sh,h,k⟩;refine⟨Z3,H3,_,ss,sh,h,fun y H1 ty H31 le1 sh1 ry q1=>⟨Z3,H31,_,ss.mono le1,sh1,q1,fun x H2 tx H32 le2 sh2 rx q2=>?_⟩⟩;obtain⟨a,ov,b,e,g,eb,q⟩:=tV sh2 rx (ry.mono le2) q2;exact⟨a,ov,e,g,b,by rw[show ov.isSome=b from eb],k _ _ _ (le1.trans le2) sh2 q⟩
theorem vo (hu:X.A.units+1<cLine) (hi:PE3 X i ti) (ho:PE3 X o td) (hm:behindInMarks .NotIn o=false:=by rfl):PT3 X (.Compare i [.NotIn] [o] pos) (jM (xX true ti td)):=by
 refine PT.imp (vK (uV hu hi ho) hm) ?_;rintro Z H Q ⟨Z3,H3,Q3,ss,sh,h,k⟩;refine⟨Z3,H3,_,ss,sh,h,fun y H1 ty H31 le1 sh1 ry q1=>⟨Z3,H31,_,ss.mono le1,sh1,q1,fun x H2 tx H32 le2 sh2 rx q2=>?_⟩⟩;obtain⟨a,ov,b,e,g,eb,q⟩:=tV sh2 rx (ry.mono le2) q2;exact⟨a,ov,e,g,b,by rw[show (!ov.isSome)=b from eb],k _ _ _ (le1.trans le2) sh2 q⟩
end
theorem aL {α:Type}(enc:α->T) (xs:List α) {g:TG3}{tb:TS3}{D:Ends3}{still:Hp3->Prop}{Z:St3}{H:Hp3}(I:List α->St3->Hp3->Prop) (h0:I [] Z H) (hn:∀Z H,I xs Z H->still H/\D.nx Z H)
  (hs:∀A x B Z H (N:St3->Hp3->Prop),xs=A++x::B->I A Z H->(∀Z' H',I (A++[x]) Z' H'->N Z' H')->still H/\g (enc x) Z H fun Z2 H2=>tb { D with nx:=N,ct:=N,bk:=D.nx} Z2 H2):iter3 g tb D still (xs.map enc) Z H:=by
 have:∀(B A:List α) (Z:St3) (H:Hp3),xs=A++B->I A Z H->iter3 g tb D still (B.map enc) Z H:=by
  intro B;induction B with
  |nil=>intro A Z H e h;rw[Qv] at e;subst e;exact hn Z H h
  |cons x B ih =>
  intro A Z H e h;exact hs A x B Z H (iter3 g tb D still (B.map enc)) e h fun Z' H' h'=>ih (A++[x]) Z' H' (by rw[e];simp) h'
 exact this xs [] Z H rfl h0
theorem cW {α:Type}(enc:α->T) (xs:List α) {g:TG3}{tt:TT3}{te:TE3}{still:Hp3->Prop}{fin:List T->Hp3->Prop}{Z:St3}{H:Hp3}(I:List α->List T->St3->Hp3->Prop) (h0:I [] [] Z H) (hn:∀ys Z H,I xs ys Z H->still H/\ys.length<=sizeLine/\fin ys H)
  (hs:∀A x B ys Z H (N:List T->St3->Hp3->Prop),xs=A++x::B->I A ys Z H->(∀ys' Z' H',I (A++[x]) ys' Z' H'->N ys' Z' H') ->
   still H/\g (enc x) Z H fun Z2 H2=>tt Z2 H2 fun b H3=>if b=true then te Z2 H3 fun y H4=>ys.length<sizeLine/\N (ys++[y]) Z2 H4 else N ys Z2 H3):cIter3 g tt te still fin (xs.map enc) [] Z H:=by
 have:∀(B A:List α) (ys:List T) (Z:St3) (H:Hp3),xs=A++B->I A ys Z H->cIter3 g tt te still fin (B.map enc) ys Z H:=by
  intro B;induction B with
  |nil=>intro A ys Z H e h;rw[Qv] at e;subst e;exact hn ys Z H h
  |cons x B ih =>
  intro A ys Z H e h;exact hs A x B ys Z H (cIter3 g tt te still fin (B.map enc)) e h fun ys' Z' H' h'=>ih (A++[x]) ys' Z' H' (by rw[e];simp) h'
 exact this xs [] [] Z H rfl h0
section
variable {prog:Program}{w:World}{A:Around}{E:Value->Shared->Prop}{s:Shared}{l:Addr}{xs:Array (Int × Tok)}
variable {X:Cx}
def Iu:List T->Hp3->VK3->Prop:=fun ts H Q=>match ts with
 |[.tup xs]=>oq (ints3 xs) fun ns=>Q (.int ns.sum) H
 |_=>False
theorem Iv (xs:List T) (H:Hp3) (Q:VK3):Iu [.tup xs] H Q=oq (ints3 xs) fun ns=>Q (.int ns.sum) H:=rfl
def isN:T->Bool
 |.non=>true
 |_=>false
def M9:R3:=fun x y H Q=>match y with
 |.non=>Q (.bl (isN x)) H
 |_=>False
theorem Qm (x:T) (H:Hp3) (Q:VK3):M9 x .non H Q=Q (.bl (isN x)) H:=rfl
theorem Bk:isN .non=true:=rfl
theorem Bm (i:Int):isN (.int i)=false:=rfl
theorem Bo (x:Str):isN (.str x)=false:=rfl
theorem Bp (ts:List T):isN (.tup ts)=false:=rfl
theorem Iw (b:Bool):isN (.bl b)=false:=rfl
theorem pW:dU X (compareOp .Is) M9:=by
 refine OpR.imp Gf ?_;rintro x y H Q ⟨tx,ty,H3,Q3,rx,ry,sh,h,k⟩;cases ty with
 |non =>
  refine⟨ry.non,?_⟩;have e:decide (x=.non)=isN tx:=by
   cases tx with
   |non=>rw[rx.non];rfl
   |int i=>rw[rx.int];rfl
   |str i=>rw[rx.str];rfl
   |bl i=>rw[rx.bl];rfl
   |ref a=>rw[rx.ref];rfl
   |tup ts=>obtain⟨a,vs,rfl,_⟩:=rx.tup;rfl
   |ty n=>rw[rx.ty];rfl
  rw[e];exact k _ _ _ _ .refl sh .ofBl h
 |_=>exact h.elim
end
end L3
namespace L2
section
variable {X:Cx}{a b:Expr}{rest:List Expr}{ta tb:TE}{pos:Pos}
def Qn (K:Frag) (ta tb:TE):TE:=fun Z H Q=>ta Z H fun x H1=>∃k,Kf K x H1 k/\if k=true then Q x H1 else tb Z H1 Q
theorem Iz (ha:PE X a ta) (hb:PE X (.BoolOp .Or (b::rest) pos) tb):PE X (.BoolOp .Or (a::b::rest) pos) (Qn X.K ta tb):=by
 intro pins s Z H Q I h;refine BoolOp_or (thn (ha pins s Z H _ I h) fun v s1 ⟨x,H1,I1,r1,k,tk,q1⟩=>?_);refine thn (Gg pins s1 Z H1 x v (fun c H2=>c=k/\H2=H1) I1 r1 ⟨k,tk,rfl,rfl⟩) fun c s2 ⟨H2,I2,e1,e2⟩=>?_;subst e1;subst e2;cases c with
 |false=>exact hb pins s2 Z H2 Q I2 q1
 |true=>exact⟨x,H2,I2,r1,q1⟩
def xY (K:Frag):V->List V->Hp->VK->Prop:=fun x vs H Q=>∃l b xs zs,x=.ref l/\vs=[.ref b]/\H l=some (.lst xs)/\SqT K H b zs/\xs.length+zs.length<=sizeLine/\Q .non (upd H l (.lst (xs++zs)))
theorem rB:MtR X "list.extend" (xY X.K):=by
 intro pins s Z H x vs v us Q I rx rv h;obtain⟨l,b,xs,zs,rfl,rfl,hH,hB,hz,q⟩:=h;cases rx;obtain⟨u,rfl,ru⟩:=rv.one;cases ru;obtain⟨z,its,n,r,hl,e⟩:=I.lstM hH;obtain⟨its2,r2,⟨ob,e2,hc2,n2,hd2⟩,hl2⟩:=I.tuple hB;obtain⟨oc,od,oda,osl⟩:=ob;simp only at hc2 hd2;subst hc2;subst hd2;have hr2:=r2.length;have hsz:its.toArray.size+its2.toArray.size<=sizeLine:=by rw[h_,h_];omega
 have hlong:¬(!its.toArray.isEmpty&&Builtin.List.listTooLong (its.toArray.size+its2.toArray.size))=true:=by rw[oU hsz,Bool.and_false];exact p_
 refine RZ F.slot_list_extend ⟨_,e,rfl⟩ F.entry_list_extend ?_ (F.args_list_extend_2 _ _);show wpAny _ _ (Builtin.List.listExtendWith (.ref l) (.ref b) .none) _ _ _;unfold Builtin.List.listExtendWith;refine e_ (wpAny_typeOf ⟨_,e2,rfl⟩ ?_);rw[if_pos (by rw[Bool.or_eq_true];exact .inr (by decide))];refine e_ (listItems_at e2 rfl (e_ (listItems_at e rfl ?_)));rw[if_neg hlong];refine e_ (listUpdate_at e rfl (z_ ⟨_,rfl,?_⟩) (by rw[h_];omega) (by rw[Array.size_append];omega));refine⟨.non,_,I.lset (its':=its++its2) hH e (by simp) (r.append r2) ?_,rfl,q⟩;rw[a_];omega
end
end L2
namespace L3
open L2
section
variable {X:Cx}{a b:Expr}{rest:List Expr}{ta tb:TE3}{pos:Pos}
def orq (x:T) (p q:Prop):Prop:=match x with
 |.non=>p
 |.tup (_::_)=>q
 |_=>False
theorem Eb (p q:Prop):orq .non p q=p:=rfl
theorem Ec (t:T) (ts:List T) (p q:Prop):orq (.tup (t::ts)) p q=q:=rfl
def Ed (ta tb:TE3):TE3:=fun Z H Q=>ta Z H fun x H1=>orq x (tb Z H1 Q) (Q x H1)
theorem iI (ha:PE3 X a ta) (hb:PE3 X (.BoolOp .Or (b::rest) pos) tb):PE3 X (.BoolOp .Or (a::b::rest) pos) (Ed ta tb):=by
 refine PE.imp (Iz ha hb) ?_;rintro Z H Q ⟨Z3,H3,Q3,ss,sh,h,k⟩;refine⟨Z3,H3,_,ss,sh,h,fun v H' t H3' le sh' r q=>?_⟩;cases t with
 |non=>rw[Eb] at q;rw[r.non];exact⟨false,rfl,by rw[if_neg p_];exact⟨Z3,H3',_,ss.mono le,sh',q,k.at le⟩⟩
 |tup ts =>
  cases ts with
  |nil=>exact q.elim
  |cons t ts =>
  rw[Ec] at q;obtain⟨p,xs,rfl,sq,rs⟩:=id r.tup;obtain⟨x,xr,rfl,_,_⟩:=rs.inv;exact⟨true,.inr (.inl ⟨_,sq,rfl⟩),by rw[if_pos rfl];exact k _ H' _ H3' le sh' r q⟩
 |_=>exact q.elim
def exT (o:Option O3) (a:Addr) (ys:List T) (H:Hp3) (Q:VK3):Prop:=match o with
 |some (.lst xs)=>xs.length+ys.length<=sizeLine/\Q .non (up3 H a (.lst (xs++ys)))
 |_=>False
def xZ:T->List T->Hp3->VK3->Prop:=fun x ts H Q=>match x,ts with
 |.ref a,[.tup ys]=>exT (H a) a ys H Q
 |_,_=>False
theorem yc (a:Addr) (ys:List T) (H:Hp3) (Q:VK3):xZ (.ref a) [.tup ys] H Q=exT (H a) a ys H Q:=rfl
theorem Ef (a:Addr) (xs ys:List T) (H:Hp3) (Q:VK3):exT (some (.lst xs)) a ys H Q=(xs.length+ys.length<=sizeLine/\Q .non (up3 H a (.lst (xs++ys)))):=rfl
theorem rC:o4 X "list.extend" xZ:=by
 refine MtR.imp rB ?_;rintro x xs H Q ⟨tx,ts,H3,Q3,rx,rs,sh,h,k⟩
 match tx,ts,h,rx,rs with
 |.ref a,[.tup ys],h,rx,rs =>
 obtain⟨v,rfl,rv⟩:=rs.one';rw[yc] at h;cases e:H3 a with
 |none=>rw[e] at h;exact h.elim
 |some o =>
 rw[e] at h;cases o with
 |lst ls=>rw[Ef] at h;obtain⟨us,hH,r⟩:=sh a _ e;obtain⟨p,zs,rfl,sq,r2⟩:=rv.tup;exact⟨a,p,us,zs,rx.ref,rfl,hH,sq,by rw[<- r.length,<- r2.length];exact h.1,k _ _ _ _ (cB (by rw[hH];exact trivial)) (sh.wrL hH (r.append r2)) .ofNon h.2⟩
 |_=>exact h.elim
theorem IK:dU X (binaryOp .RShift) (rI3 (fun _ j=>0<=j) fun i j=>.int (i / 2^j.toNat)):=u9 Gb fun _ _ _=>.ofInt
def neR (a b:Addr) (o u:Option O3) (H:Hp3) (Q:VK3):Prop:=match o,u with
 |some (.rol xs),some (.lst ys)=>a≠b/\xs.all (pl 20)=true/\ys.all (pl 20)=true/\Q (.bl (!decide (xs=ys))) H
 |_,_=>False
def Nf:R3:=fun x y H Q=>match x,y with
 |.ref a,.ref b=>neR a b (H a) (H b) H Q
 |_,_=>False
theorem Ng (a b:Addr) (H:Hp3) (Q:VK3):Nf (.ref a) (.ref b) H Q=neR a b (H a) (H b) H Q:=rfl
theorem IV (a b:Addr) (xs ys:List T) (H:Hp3) (Q:VK3):neR a b (some (.rol xs)) (some (.lst ys)) H Q=(a≠b/\xs.all (pl 20)=true/\ys.all (pl 20)=true/\Q (.bl (!decide (xs=ys))) H):=rfl
end
end L3
namespace L2
theorem vp:typeLookup (.type "list") "keys"=pure none:=by rw[typeLookup_type,builtinLookup_eq_fast];kernel_rfl
theorem rD {prog:Program}{w:World}{A:Around}{E:Value->Shared->Prop}{s:Shared}{a:Addr}{xs:Array Value}{k:Nat}{sl:Array (Option Value)}{Q:Option Value->Shared->Prop}
  (hx:s.heap.get? a=some { cls:=.type "list",dict:=none,data:=.seq xs k,slots:=sl}) (hA:A.handled=none)
  (h:∀h' tk e,Heap.NewExcOf s.heap h' e "AttributeError"->Q none { s with heap:=h',toks:=tk}):wpAny (model prog w) A (getAttr? (.ref a) "keys") Q E s:=by
 obtain⟨hp,g,d,tk,os⟩:=s;have hT:∀tk',(⟨hp,g,d,tk',os⟩:Shared).TypeIs (.ref a) "list":=fun _=>⟨_,hx,rfl⟩;have f1:=sub_AttributeError;have f3:=Sw.lookup;have f4:=Sw.bind (.ref a);have f5:=am_list_getattr_none;unfold getAttr? getAttrBy? getAttrBy;repeat (any_goals (first | assumption | exact hT _ | ((with_reducible show wpAny _ _ (call (Value.builtin "list.__getattribute__") _ _) _ _ _);refine SQ Sw (hT _) am_entry_list_getattribute (F.args_list_getattribute_2 _ _) (meets_getattribute_miss_list a xs k sl "keys" _ vp (by decide) (by decide)) ⟨hx,hA,fun h' tk' e hx'=>?_⟩) | wp_step))
 obtain⟨t',u',he⟩:=hx'.there;show wpAny _ _ (getattributeRaised _ _ _ _ _ _ _) _ _ _;unfold getattributeRaised;repeat (any_goals (first | assumption | wp_step))
 all_goals exact h _ _ _ hx'.of
theorem gM:plainId "dict.update.loop"=true:=by decide +kernel
theorem lR:entryFor table "dict.update.loop"=some Builtin.«dict.update.loop»:=entryFor_of_tree (by kernel_rfl)
def IW (h:Heap) (p:Addr) (k v:Value):Prop:=∃o n,h.get? p=some o/\o.cls=.type "tuple"/\o.data=.seq #[k,v] n
section
variable {prog:Program}{w:World}{K:Type} [DecidableEq K] {knd:KeyKind prog w K}
theorem vz {A:Around}{R:Result->Shared->Prop}{J:Addr}{fp wr:List Addr}{n:Nat}{P:Nat->Value->Prop}{St:Nat->Heap->Prop}
  (W:Walks prog w A.in1 J fp wr n P St) (d:Addr) (nd:d∉fp) (ps:List (K × Value)) (hn:ps.length=n) (h8:n<=sizeLine) :
  ∀(k i:Nat) (s:Shared),n - i=k->i<=n->St i s.heap->s.heap.DictOf knd d (merged [] (ps.take i)) ->
   (∀j v,P j v->∃kk kv x p,ps[j]?=some (kk,x)/\v=.ref p/\knd.is kk kv=true/\p∉d::wr/\IW s.heap p kv x) ->
   (∀s',Moved (d::wr) (fun a b=>b=a) s s'->s'.heap.DictOf knd d (merged [] ps)->R (.ok (.ret .none)) s') ->
   codeAny (model prog w) A (.builtin "dict.update.loop" ⟨[.ref d,.ref J,rawInt i,.none],[]⟩) R s:=by
 have WS:=W.toS;have nW:d∉wr:=fun h=>nd (WS.sub _ h);have up:∀c∈wr,c∈d::wr:=fun c hc=>q_ _ hc;intro k;induction k with
 |zero =>
  intro i s hk hi st hB hT fin;have ei:i=n:=by omega
  subst ei;refine codeAny_builtin lR ?_;rw[Around.under_plainId gM _];show wpAny _ A.in1 (pyNext (.ref J) >>= _) _ _ s;refine e_ (WS.done s _ _ st fun s' mv=>?_);show wpAny _ A.in1 (do Builtin.Dict.addKeywords d [];ret Value.none) _ _ s';rw[<- hn,List.take_length] at hB;refine e_ (z_ (z_ (fin s' (mv.mono up) ?_)));obtain⟨o,es,ep,ho,rest⟩:=hB;exact⟨o,es,ep,mv.heap d _ nW ho,rest⟩
 |succ k ih =>
 intro i s hk hi st hB hT fin;have lt:i<n:=by omega
 refine codeAny_builtin lR ?_;rw[Around.under_plainId gM _];show wpAny _ A.in1 (pyNext (.ref J) >>= _) _ _ s;refine e_ (WS.item i s _ _ lt st fun v s' pv st' mv=>?_);obtain⟨kk,kv,x,p,hp,rfl,hkv,hpn,o,no,ho,hc,hd⟩:=hT i v pv;have ho':s'.heap.get? p=some o:=mv.heap p _ (fun z=>hpn (up p z)) ho;have hB':s'.heap.DictOf knd d (merged [] (ps.take i)):=by obtain⟨o,es,ep,ho,rest⟩:=hB;exact⟨o,es,ep,mv.heap d _ nW ho,rest⟩
 refine e_ (RW ?_);refine e_ (m:=tryCatch (Builtin.Dict.pairItems (.ref p)) _) (wpAny_tryCatch ?_);unfold Builtin.Dict.pairItems;refine e_ (wpAny_typeOf (T:="tuple") ⟨o,ho',hc⟩ ?_);rw[if_pos (by decide)];refine e_ (wpAny_seqItems ho' hd (z_ ?_));have hm:(merged [] (ps.take i)).length<=sizeLine:=by
  have h1:=merged_length_le ([]:List (K × Value)) (ps.take i);have h2:(ps.take i).length<=n:=by rw[Rc];omega
  simp only[Rv,Q8] at h1;omega
 show wpAny _ A.in1 (holding [kv,x] (dictSet d kv x)) _ _ s';refine RW (wpAny_dictSet_pairs hkv hB' (fun h' hB2 sb=>?_) hm);refine z_ ⟨plainId_quiet gM _,ih (i+1) _ (by omega) lt (WS.frame _ s' _ _ st' (Nat.le_succ _) fun c hc o e=>?_) (by rw[merged_take_succ _ _ _ _ hp];exact hB2) (fun j v pj=>?_) fun s'' mv2 hB4=>?_⟩
 ·rw[sb.2 c (fun z:c=d=>nd (by rw[<- z];exact hc))];exact e
 ·obtain⟨kk,kv,x,p,hp,e,hkv,hpn,o,no,ho,hc,hd⟩:=hT j v pj;refine⟨kk,kv,x,p,hp,e,hkv,hpn,o,no,?_,hc,hd⟩;show h'.get? p=some o;rw[sb.2 p (fun z:p=d=>hpn (by rw[z];exact i_))];exact mv.heap p _ (fun z=>hpn (up p z)) ho
 refine fin s'' (Moved.trans WS.gtrans ((mv.mono up).then_heap (Nat.le_succ _) fun c o hc e=>?_) mv2) hB4;rw[sb.2 c (fun z:c=d=>hc (by rw[z];exact i_))];exact e
theorem jA {A:Around}{E:Value->Shared->Prop}{s:Shared}{l:Addr}{its:Array Value}{nl:Nat}{sl:Array (Option Value)}{ps:List (K × Value)}{Q:Value->Shared->Prop}(hh:A.handled=none)
  (hl:s.heap.get? l=some { cls:=.type "list",dict:=none,data:=.seq its nl,slots:=sl}) (hn:ps.length=its.size) (h8:its.size<=sizeLine)
  (hT:∀(j:Nat) (v:Value),its[j]?=some v->∃(kk:K) (kv x:Value) (p:Addr),ps[j]?=some (kk,x)/\v=.ref p/\knd.is kk kv=true/\IW s.heap p kv x)
  (h:∀(h':Heap) (tk:Nat),h'.DictOf knd s.heap.objs.size (merged [] ps)->(∀b o,s.heap.get? b=some o->h'.get? b=some o)->Q (.ref s.heap.objs.size) { s with heap:=h',toks:=tk}) :
  wpAny (model prog w) A (call (.type "dict") [.ref l]) Q E s:=by
 refine callType_codes (Q₁:=fun obj s₁=>obj=.ref s.heap.objs.size/\s₁={ s with heap:=s.heap.push { cls:=.type "dict",data:=.dict #[]}}) F.kt_called_dict (F.kt_typeCall_dict_1 _) F.entry_dict_init (kt_code_dict_new _ ⟨rfl,rfl⟩) ?_;rintro obj s₁ ⟨rfl,rfl⟩;have hnew:(s.heap.push { cls:=.type "dict",data:=.dict #[]}).DictOf knd s.heap.objs.size []:=Heap.DictOf.new s.heap;have hl1:(s.heap.push { cls:=.type "dict",data:=.dict #[]}).get? l=some { cls:=.type "list",dict:=none,data:=.seq its nl,slots:=sl}:=l_ _ hl;refine⟨hnew.typeIs,F.args_dict_init_2 _ _,?_⟩;unfold Builtin.«dict.__init__»;refine e_ ?_;unfold Builtin.Dict.selfAndRest;refine e_ (wpAny_notOrdered_dict hnew.typeIs ?_);show wpAny _ _ (pure (s.heap.objs.size,[Value.ref l])) _ _ _;refine z_ ?_;show wpAny _ _ (Builtin.Dict.updateFrom "dict.__init__" s.heap.objs.size (.ref l) [] .none) _ _ _;unfold Builtin.Dict.updateFrom;refine e_ (wpAny_typeOf (T:="list") ⟨_,hl1,rfl⟩ ?_);rw[if_pos (by decide)];have hh2:A.in1.in1.handled=none:=by simp [hh]
 refine e_ (rD hl1 hh2 fun h2 tk e ne=>?_);show wpAny _ _ (do rule _;let it <- pyIter (.ref l);again (.builtin "dict.update.loop" ⟨[.ref s.heap.objs.size,it,rawInt 0,.none],[]⟩)) _ _ _;refine e_ (wpAny_rule ?_);have hl2:=ne.keeps _ _ hl1;have hL2:h2.IsList l its:=⟨_,hl2,rfl,_,rfl⟩;refine e_ (wpAny_pyIter_list (s:={ s with heap:=h2,toks:=tk}) hL2 ?_);refine z_ ?_;have lS:l<h2.objs.size:=D_ hl2;have dS:s.heap.objs.size<h2.objs.size:=D_ (ne.keeps s.heap.objs.size _ (K_ _ rfl));have lt0:l<s.heap.objs.size:=D_ hl;have hh3:A.in1.in1.handled=none:=by simp [hh]
 have nB:s.heap.objs.size∉[h2.objs.size,l]:=by
  intro z;simp only[k_,M_,Q7] at z;rcases z with z | z
  ·exact absurd z (Qt dS)
  exact absurd z (S7 lt0)
 have kp0:∀b o,s.heap.get? b=some o->(h2.push { cls:=.type "list_iterator",data:=.fields #[.ref l,.int 0 0]}).get? b=some o:=fun b o e=>l_ _ (ne.keeps _ _ (l_ _ e));refine⟨plainId_quiet gM _,?_⟩;refine vz (knd:=knd) (Walks.list hh3 _ l (Qt lS) its) s.heap.objs.size nB ps hn h8 (its.size - 0) 0 _ (by omega) (S6 _) ⟨⟨_,K_ _ rfl,rfl,rfl⟩,⟨_,l_ _ hl2,rfl,_,rfl⟩⟩ ?_ ?_ ?_
 ·obtain⟨o,es,ep,ho,rest⟩:=hnew;exact⟨o,es,ep,l_ _ (ne.keeps _ _ ho),rest⟩
 ·intro j v e;obtain⟨kk,kv,x,p,hp,rfl,hkv,o,no,ho,hc,hd⟩:=hT j v e;refine⟨kk,kv,x,p,hp,rfl,hkv,fun z=>?_,o,no,kp0 _ _ ho,hc,hd⟩;have:=D_ ho;simp only[k_,M_,Q7] at z;rcases z with z | z
  ·exact absurd z (Qt this)
  exact absurd z (Qt (RT this dS))
 intro s' mv hB';obtain⟨h',g',d',tk',os'⟩:=s';have eg:g'=s.gens:=mv.gens;have ed:d'=s.drawn:=mv.drawn;have eo:os'=s.os:=mv.os;subst eg ed eo;refine⟨rfl,h h' tk' hB' fun b o e=>mv.heap b o (fun z=>?_) (kp0 b o e)⟩;have:=D_ e;simp only[k_,M_,Q7] at z;rcases z with z | z
 ·exact absurd z (Qt this)
 exact absurd z (Qt (RT this dS))
end
end L2
namespace L3
open L2
def Ja:T->Option (Str × T)
 |.tup [.str k,v]=>some (k,v)
 |_=>none
def nF:List T->Option (List (Str × T))
 |[]=>some []
 |t::r=>match Ja t,nF r with
  |some p,some ps=>some (p::ps)
  |_,_=>none
theorem pX {α:Type}(f:α->Str × T):∀xs:List α,nF (xs.map fun x=>T.tup [.str (f x).1,(f x).2])=some (xs.map f)
 |[]=>rfl
 |x::r=>by
  rw[m_,m_]
  unfold nF
  rw[pX f r]
  rfl
theorem yd {t:T}{p:Str × T}(h:Ja t=some p):t=.tup [.str p.1,p.2]:=by
 unfold Ja at h;split at h
 ·cases h;rfl
 cases h
section
variable {X:Cx}
theorem pY {pins:List (Addr × Obj)}{Z:L2.St}{H:Hp}{s:Shared}(I:Inv X pins Z H s):∀{ts:List T}{us:List V}{its:List Value}{kvs:List (Str × T)},nF ts=some kvs->Reps X.K H ts us->Vals us its ->
  ∃(vs:List (Key × V)) (ps:List (Key × Value)),RepD X.K H kvs vs/\KV vs ps/\ps.length=its.length/\∀(j:Nat) (v:Value),its[j]?=some v->∃(kk:Key) (kv x:Value) (p:Addr),ps[j]?=some (kk,x)/\v=.ref p/\(bQ X.prog X.w).is kk kv=true/\IW s.heap p kv x
 |[],us,its,kvs,e,r,rv=>by
  cases e
  rw[r.inv0] at rv
  cases rv
  exact⟨[],[],.nil,.nil,rfl,fun j v h=>by simp at h⟩
 |t::ts,us,its,kvs,e,r,rv=>by
  unfold nF at e
  split at e
  ·
   rename_i p ps' e1 e2
   cases e
   obtain⟨v,ur,rfl,rv1,rr⟩:=r.inv
   cases rv with
   |cons q qs =>
    rename_i it itr
    obtain⟨vs,ps,a1,a2,a3,a4⟩:=pY I e2 rr qs
    rw[yd e1] at rv1
    obtain⟨pa,xs,rfl,sq,rs⟩:=rv1.tup
    obtain⟨k0,r1,rfl,rk,rs1⟩:=rs.inv
    obtain⟨x0,r2,rfl,rx,rs2⟩:=rs1.inv
    rw[rs2.inv0] at sq
    rw[rk.str] at sq
    cases q
    obtain⟨its2,rv2,⟨o,ho,hc,n,hd⟩,_⟩:=I.tuple sq
    cases rv2 with
    |cons z1 z2 =>
     rename_i kv l2
     cases z2 with
     |cons z3 z4 =>
      rename_i xv l3
      cases z4
      refine⟨(Sum.inr p.1,x0)::vs,(Sum.inr p.1,xv)::ps,.cons ⟨rfl,rx⟩ a1,.cons ⟨rfl,z3⟩ a2,by simp [a3],fun j w h=>?_⟩
      cases j with
      |zero =>
       simp only[QF,S9] at h
       subst h
       exact⟨_,kv,xv,pa,rfl,rfl,lF (k:=Sum.inr p.1) z1,o,n,ho,hc,hd⟩
      |succ j =>
       rw[QX] at h ⊢
       exact a4 j w h
  ·
   cases e
def dcH (o:Option O3) (H:Hp3) (Q:VK3):Prop:=match o with
 |some (.lst xs)=>oq (nF xs) fun kvs=>(kvs.map (·.1)).Nodup/\∀p,H p=none->Q (.ref p) (up3 H p (.dct kvs))
 |_=>False
def ye:List T->Hp3->VK3->Prop:=fun ts H Q=>match ts with
 |[.ref a]=>dcH (H a) H Q
 |_=>False
theorem yf (a:Addr) (H:Hp3) (Q:VK3):ye [.ref a] H Q=dcH (H a) H Q:=rfl
theorem Eg (xs:List T) (H:Hp3) (Q:VK3):dcH (some (.lst xs)) H Q=oq (nF xs) fun kvs=>(kvs.map (·.1)).Nodup/\∀p,H p=none->Q (.ref p) (up3 H p (.dct kvs)):=rfl
theorem SimH.newDk {K:Frag}{H:Hp}{H3:Hp3}{p:Addr}{kvs:List (Str × T)}{vs:List (Key × V)}(s:SimH K H3 H) (hp:H p=none) (r:RepD K H kvs vs):SimH K (up3 H3 p (.dct kvs)) (upd H p (.dK vs)):=fun a o e=>by
 by_cases ha:a=p
 ·subst ha;rw[aC] at e;cases e;exact⟨vs,cA,r.mono (aR hp)⟩
 rw[aF ha] at e;exact s.new hp a o e
theorem tW {K:Frag}{H:Hp}:∀{kvs:List (Str × T)}{vs:List (Key × V)},RepD K H kvs vs->vs.map (·.1)=(kvs.map (·.1)).map Sum.inr
 |[],_,.nil=>rfl
 |p::r,_,.cons ⟨e,_⟩ q=>by rw[m_,m_,m_,tW q,e]
theorem pZ:∀{vs:List (Key × V)}{ps:List (Key × Value)},KV vs ps->ps.map (·.1)=vs.map (·.1)
 |[],_,.nil=>rfl
 |p::r,_,.cons ⟨e,_⟩ q=>by rw[m_,m_,pZ q,e]
theorem Bq (hc:X.calm=true):dW X (.type "dict") ye:=by
 intro pins s Z H xs us Q I rv h;obtain⟨ts,H3,Q3,r,sh,h,k⟩:=h
 match ts,h,r with
 |[.ref a],h,r =>
 obtain⟨v,rfl,rv'⟩:=r.one';obtain⟨u,rfl,ru⟩:=vals1 rv;rw[rv'.ref] at ru;cases ru;rw[yf] at h;cases e:H3 a with
 |none=>rw[e] at h;exact h.elim
 |some o =>
 rw[e] at h;cases o with
 |lst ls =>
  rw[Eg] at h;cases e2:nF ls with
  |none=>rw[e2] at h;exact h.elim
  |some kvs =>
  rw[e2,gU] at h;obtain⟨nd,q⟩:=h;obtain⟨ys,hH,rs⟩:=sh a _ e;obtain⟨z,its,n,rr,hlen,hl⟩:=I.lstM hH;obtain⟨vs,ps,a1,a2,a3,a4⟩:=pY I e2 rs rr;have hp:H s.heap.objs.size=none:=I.hok.fresh (u_ _);have hN:(ps.map (·.1)).Nodup:=by rw[pZ a2,tW a1];exact S_.mpr (List.Pairwise.imp (fun h e=>h (Sum.inr.inj e)) nd)
  refine jA (knd:=bQ X.prog X.w) (I.ok.hd hc) hl (by rw[h_];exact a3) (by rw[h_];omega) (fun j v e=>a4 j v (by simpa using e)) fun h' tk dd kp=>?_;rw[merged_nil_of_nodup ps hN] at dd;have hz:vs.length<=sizeLine:=by have h1:=Su a2;omega
  refine⟨.ref s.heap.objs.size,_,I.laid (a:=s.heap.objs.size) (o:=.dK vs) (h':=h') (t':=tk) kp (u_ _) ⟨hz,Sg.mpr (S7 I.big),ps,a2,dd⟩,rfl,?_⟩;exact k _ _ _ _ (aR hp) (sh.newDk hp a1) .ofRef (q _ (sh.fresh hp))
 |_=>exact h.elim
end
end L3
namespace M
open L2 L3
local macro_rules | `(tactic| walk_at "c") => `(tactic| try dsimp only [mO,List.replicate,m_,Rg,R_,List.nil_append,QF,QX,Option.getD_some])
local macro_rules | `(tactic| walk_at "n") => `(tactic| (obtain ⟨e⟩:=‹Shut (_ = _)›; subst e; try dsimp only))
def nm0 : String := "ne_eq not_false_eq_true aF sO wF tC3 eE Ds wB Dj Dm GF qK Do De KR Df GR K1 wD wC Dq mQ Dk Dl Qe KY ph sV Qi K4 xm G4 Am G5 K5 G6 gU q_I Qj G7 G8 G9 xn m5 K7 K8 K9 Dy La Lb Ld Le Lf Lg Lh Li Lj Lk Ha Ln Qk Hb Lp Dz Hc Lq Lr q_D Ls Hd Lw Lx Hf Ly Hg Hh An Lz Ao Hi LC Hj Hk Hl Hm Hn LK LQ LR Ma Mf Mg Mh Mi Mj Ml Aq Mm Ar Av Mp Mq Mr Ms Ho Mt Aw Mu Mv Hq Ax Hr aC GQ wL lL Mx Mz lM Hy qM qN qO vf qP Hz qQ qR qT vg qU Ba pJ pK pL qW pM xx m7 m9 ni pN nj Bb pO pP pQ qX pR tM decide_true decide_false Bool.not_true Bool.not_false Ht Hu Ql at0 at1 at2 at3 List.eraseIdx_cons_zero Int.toNat_natCast Ab List.length_map List.length_cons List.length_nil Nat.zero_add Bool.false_eq_true if_false if_true List.getElem?_cons_zero List.getElem?_cons_succ List.set_cons_zero List.set_cons_succ MK MN HS List.map_cons List.map_nil Jl Jm Jo xR HY Ia Io M5 M6 xU Ii MT M3 Ik Il DK DN DR xG xJ DW yx Ek DP Em yz Bg DY Jb Jc Jd Je Qm Bk Bm Bo Bp Iw Ed Eb Ec yc Ef Ng IV yf Eg Iv HN DX HJ HH M7 M8 xX JH"
local macro_rules | `(tactic| walk_at "") => do
 let ls <- ((nm0.splitOn " ").toArray.map String.toName).filterM fun n => do return !(<- Lean.Macro.resolveGlobalName n).isEmpty
 let ls <- ls.mapM fun n => let i:=Lean.mkIdent n; `(Lean.Parser.Tactic.simpLemma| $i:ident)
 `(tactic| ((try dsimp only [$[$ls:simpLemma],*]); try simp only [*,$[$ls:simpLemma],*]))
structure isNm (x:Str):Prop where
 lo:1<=x.length
 hi:x.length<=8
 az:∀c∈x.cps.toList,97<=c/\c<=122
structure Nms (ws:List Str):Prop where
 nm:∀x∈ws,isNm x
 nd:ws.Nodup
theorem Nms.nil:Nms []:=⟨fun _ h=>(nomatch h),RP⟩
theorem Nms.snoc {ws:List Str}{x:Str}(n:Nms ws) (h:isNm x) (hx:x∉ws):Nms (ws++[x]) :=
 ⟨fun y hy=>(v_.mp hy).elim (n.nm y) fun z=>by rw[b_.mp z];exact h,iR n.nd hx⟩
structure Wk where
 tasks:List (Str × Int × List Str)
 orders:List (Str × Str)
 pairs:List (Str × Str × Str)
 row:List Str
def sT (xs:List Str):T:=.tup (xs.map T.str)
def tkT (t:Str × Int × List Str):T:=.tup [.str t.1,.int t.2.1,sT t.2.2]
def orT (o:Str × Str):T:=.tup [.str o.1,.str o.2]
def prT (p:Str × Str × Str):T:=.tup [.str p.1,.str p.2.1,.str p.2.2]
def Wk.enc (W:Wk):T:=.tup [.tup (W.tasks.map tkT),.tup (W.orders.map orT),.tup (W.pairs.map prT),sT W.row]
structure tkOk (t:Str × Int × List Str):Prop where
 nm:isNm t.1
 lo:1<=t.2.1
 hi:t.2.1<10^60
 ks:Nms t.2.2
 kl:t.2.2.length<=4
structure WkOk (W:Wk):Prop where
 t1:1<=W.tasks.length
 t8:W.tasks.length<=8
 tk:∀t∈W.tasks,tkOk t
 nd:(W.tasks.map (·.1)).Nodup
 os:W.orders.length<=28
 od:W.orders.Nodup
 oo:∀o∈W.orders,o.1≠o.2/\o.1∈W.tasks.map (·.1)/\o.2∈W.tasks.map (·.1)
 ps:W.pairs.length<=12
 pd:W.pairs.Nodup
 pp:∀p∈W.pairs,(p.1="with"\/p.1="apart")/\p.2.1≠p.2.2/\p.2.1∈W.tasks.map (·.1)/\p.2.2∈W.tasks.map (·.1)
 r1:1<=W.row.length
 r8:W.row.length<=8
 rn:∀x∈W.row,isNm x
theorem gC {α:Type}{f:α->T}(hf:∀{a b},f a=f b->a=b) {x:α}{xs:List α}:f x∈xs.map f↔x∈xs:=by
 rw[C_];exact⟨fun ⟨y,hy,e⟩=>hf e▸hy,fun h=>⟨x,h,rfl⟩⟩
theorem eU {a b:Str}(h:T.str a=T.str b):a=b:=by injection h
theorem Br {α:Type}{f:α->T}(hf:∀{a b},f a=f b->a=b) {x:α}{xs:List α}:cC true (f x) (xs.map f)=true↔x∉xs:=by
 unfold cC;simp [gC hf]
theorem Nh {α:Type}{f:α->T}(hf:∀{a b},f a=f b->a=b) {x:α}{xs:List α}:cC false (f x) (xs.map f)=true↔x∈xs:=by
 unfold cC;simp [gC hf]
theorem dh (xs:List Str):(xs.map T.str).all (pl 20)=true:=by rw[J_];intro t ht;obtain⟨x,_,rfl⟩:=C_.mp ht;rfl
theorem Jb (W:Wk) (H:Hp3) (Q:VK3):o9 W.enc (.int 0) H Q=Q (.tup (W.tasks.map tkT)) H:=rfl
theorem Jc (W:Wk) (H:Hp3) (Q:VK3):o9 W.enc (.int 1) H Q=Q (.tup (W.orders.map orT)) H:=rfl
theorem Jd (W:Wk) (H:Hp3) (Q:VK3):o9 W.enc (.int 2) H Q=Q (.tup (W.pairs.map prT)) H:=rfl
theorem Je (W:Wk) (H:Hp3) (Q:VK3):o9 W.enc (.int 3) H Q=Q (.tup (W.row.map T.str)) H:=rfl
def mkS (l:List Nat):Str:=⟨l.toArray⟩
theorem cI (l:List Nat):(mkS l).cps.toList=l:=rfl
theorem cJ (l:List Nat):(mkS l).length=l.length:=by show (l.toArray).size=_;simp
theorem rE (x:Str):∃l,x=mkS l:=⟨x.cps.toList,by cases x;rfl⟩
theorem tX {a b:List Nat}(h:mkS a=mkS b):a=b:=by have:=F_ (fun x=>x.cps.toList) h;exact this
theorem nG (a b:List Nat):mkS a++mkS b=mkS (a++b):=by
 show (⟨a.toArray++b.toArray⟩:Str)=⟨(a++b).toArray⟩;simp
theorem Ni (l:List Nat) (k:Nat) (h:k<=l.length):Txt.slice (mkS l) none (some (k:Int))=mkS (l.take k):=by
 have e:=StrLaws.sliceText_to (x:=mkS l) (j:=(k:Int)) ⟨SM k,by rw[cI];omega⟩;rw[cI,List.drop_zero,Int.sub_zero,Q0] at e;exact e
theorem Bs (l:List Nat) (k:Nat) (h:k<=l.length):Txt.slice (mkS l) (some (k:Int)) none=mkS (l.drop k):=by
 have e:=StrLaws.sliceText_from (x:=mkS l) (i:=(k:Int)) ⟨SM k,by rw[cI];omega⟩;rw[cI,Q0,Q6 (by rw[Ro];omega)] at e;exact e
def jB:List Nat:=[97,98,99,100,101,102,103,104,105,106,107,108,109,110,111,112,113,114,115,116,117,118,119,120,121,122]
theorem yg:("abcdefghijklmnopqrstuvwxyz":Str)=mkS jB:=by decide +kernel
theorem Bt:∀i:_root_.Fin 26,jB[i.val]?=some (97+i.val):=by decide
theorem yh (i:Int) (h0:0<=i) (h1:i<26):atI jB i=some (97+i.toNat):=by
 obtain⟨j,rfl⟩:=Int.eq_ofNat_of_zero_le h0;have hj:j<26:=by omega
 have:=Bt ⟨j,hj⟩;exact bH (by simpa using this)
theorem Bu:∀i:_root_.Fin 26,Builtin.Str.occurrences (mkS jB) (mkS [97+i.val]) 0 26 1=[i.val]:=by decide +kernel
theorem Jf (c:Nat) (h0:97<=c) (h1:c<=122):Builtin.Str.occurrences (mkS jB) (mkS [c]) 0 (mkS jB).length 1=[c - 97]:=by
 have:=Bu ⟨c - 97,by omega⟩;rw[show 97+(c - 97)=c by omega] at this;exact this
theorem Eh {l:List Nat}(h1:1<=l.length) (h8:l.length<=8) (h:∀c∈l,97<=c/\c<=122):isNm (mkS l):=⟨by rw[cJ];exact h1,by rw[cJ];exact h8,by rw[cI];exact h⟩
def tkW (t:Str × Int × List Str):List Str:=([("task":Str),t.1,(toString t.2.1:String)]:List Str)++t.2.2
def tkR (t:Str × Int × List Str):Str:=Txt.join " " (tkW t)
theorem nq {B:Nat}:∀{ys:List Str},(∀y∈ys,y.length<=B)->(ys.map (·.length)).sum<=ys.length*B
 |[],_=>by simp
 |y::r,h=>by
  have h1:=h y i_
  have h2:=nq (ys:=r) fun z hz=>h z (q_ _ hz)
  simp only[m_,QK,j_,Nat.succ_mul]
  omega
theorem Jg (z:Str) (ys:List Str):(Txt.join z ys).length=(ys.map (·.length)).sum+(ys.length - 1)*z.length:=size_glued z ys
theorem nH:(" ":Str).length=1:=by decide +kernel
theorem tY {z:Str}{ys:List Str}{B n:Nat}(hz:z.length=1) (hn:ys.length<=n) (h:∀y∈ys,y.length<=B):(Txt.join z ys).length<=n*B+n:=by
 rw[Jg,hz];have h1:=nq h;have h2:ys.length*B<=n*B:=Nat.mul_le_mul_right B hn;omega
theorem Bv:("task":Str).length=4:=by decide +kernel
theorem yj:("order":Str).length=5:=by decide +kernel
theorem Bw:("with":Str).length=4:=by decide +kernel
theorem ym:("apart":Str).length=5:=by decide +kernel
theorem Jh:("row":Str).length=3:=by decide +kernel
theorem Bx {n:Int}(h1:1<=n) (h:n<10^60):((toString n:String):Str).length<=60:=toString_length_le (by omega) (by decide) h
theorem yo {t:Str × Int × List Str}(h:tkOk t):(tkW t).length<=7/\∀y∈tkW t,y.length<=60:=by
 unfold tkW;refine⟨by have:=h.kl;simp only[a_,j_,Rv];omega,fun y hy=>?_⟩;rcases v_.mp hy with hy | hy
 ·simp only[k_,M_,Q7] at hy;rcases hy with rfl | rfl | rfl
  ·rw[Bv];decide
  ·exact N_ h.nm.hi (by decide)
  exact Bx h.lo h.hi
 exact N_ (h.ks.nm y hy).hi (by decide)
theorem Ji {t:Str × Int × List Str}(h:tkOk t):(tkR t).length<=500:=N_ (tY nH (yo h).1 (yo h).2) (by decide)
theorem Nj {o:Str × Str}(h1:isNm o.1) (h2:isNm o.2):∀y∈(["order",o.1,o.2]:List Str),y.length<=8:=fun y hy=>by
 simp only[k_,M_,Q7] at hy;rcases hy with rfl | rfl | rfl
 ·rw[yj];decide
 ·exact h1.hi
 exact h2.hi
theorem Nk {o:Str × Str × Str}(h0:o.1="with"\/o.1="apart") (h1:isNm o.2.1) (h2:isNm o.2.2):∀y∈([o.1,o.2.1,o.2.2]:List Str),y.length<=8:=fun y hy=>by
 simp only[k_,M_,Q7] at hy;rcases hy with rfl | rfl | rfl
 ·rcases h0 with h0 | h0
  ·rw[h0,Bw];decide
  rw[h0,ym];decide
 ·exact h1.hi
 exact h2.hi
theorem Nm {xs:List Str}(h:∀x∈xs,isNm x):∀y∈(([("row":Str)]:List Str)++xs),y.length<=8:=fun y hy=>by
 rcases v_.mp hy with hy | hy
 ·rw[b_.mp hy,Jh];decide
 exact (h y hy).hi
def glue (c:Nat):List (List Nat)->List Nat
 |[]=>[]
 |[x]=>x
 |x::y::r=>x++c::glue c (y::r)
theorem yp {c:Nat}:∀{x y A B:List Nat},c∉x->c∉y->x++c::A=y++c::B->x=y/\A=B
 |[],[],A,B,_,_,h=>by simp at h;exact⟨rfl,h⟩
 |[],b::y,A,B,_,hy,h=>by
  simp at h
  exact absurd h.1 (fun e=>hy (e▸i_))
 |a::x,[],A,B,hx,_,h=>by
  simp at h
  exact absurd h.1.symm (fun e=>hx (e▸i_))
 |a::x,b::y,A,B,hx,hy,h=>by
  simp only[R_,Rj] at h
  obtain⟨e,h⟩:=h
  have:=yp (fun z=>hx (q_ _ z)) (fun z=>hy (q_ _ z)) h
  exact⟨by rw[e,this.1],this.2⟩
theorem p6 {c:Nat}:∀{xs ys:List (List Nat)},xs≠[]->ys≠[]->(∀x∈xs,c∉x)->(∀y∈ys,c∉y)->glue c xs=glue c ys->xs=ys
 |[],_,h,_,_,_,_=>absurd rfl h
 |_,[],_,h,_,_,_=>absurd rfl h
 |[x],[y],_,_,_,_,h=>by rw[show x=y from h]
 |[x],y::y2::r,_,_,hx,_,h=>by
  have h':x=y++c::glue c (y2::r):=h
  exact absurd (show c∈x by rw[h'];simp) (hx x i_)
 |x::x2::r,[y],_,_,_,hy,h=>by
  have h':x++c::glue c (x2::r)=y:=h
  exact absurd (show c∈y by rw[<- h'];simp) (hy y i_)
 |x::x2::r,y::y2::r',_,_,hx,hy,h=>by
  obtain⟨e,h⟩:=yp (hx x i_) (hy y i_) h
  rw[e,p6 (by simp) (by simp) (fun z hz=>hx z (q_ _ hz)) (fun z hz=>hy z (q_ _ hz)) h]
theorem tZ (a b:Str):(a++b).cps.toList=a.cps.toList++b.cps.toList:=by
 show (a.cps++b.cps).toList=_;simp
theorem jh (c:Nat):∀xs:List Str,(Str.join ⟨#[c]⟩ xs).cps.toList=glue c (xs.map fun x=>x.cps.toList)
 |[]=>rfl
 |[x]=>rfl
 |x::y::r=>by
  show (x++⟨#[c]⟩++Str.join ⟨#[c]⟩ (y::r)).cps.toList=_
  rw[tZ,tZ,jh c (y::r)]
  simp [glue]
theorem By {a b:Str}(h:a.cps.toList=b.cps.toList):a=b:=by
 obtain⟨l,rfl⟩:=rE a;obtain⟨m,rfl⟩:=rE b;rw[cI,cI] at h;rw[h]
theorem ju:∀{xs ys:List Str},xs.map (fun x=>x.cps.toList)=ys.map (fun x=>x.cps.toList)->xs=ys
 |[],[],_=>rfl
 |[],_::_,h=>by cases h
 |_::_,[],h=>by cases h
 |x::xs,y::ys,h=>by
  simp only[m_,Rj] at h
  rw[By h.1,ju h.2]
theorem yq (x y:Str):Txt.split x y≠[]:=by
 unfold Txt.split;split
 ·simp
 split
 ·simp
 intro h;have:=F_ List.length h;rw[length_partsBetween] at this;simp at this
theorem rF {c:Nat}{ws:List Str}(hn:ws≠[]) (hc:∀w∈ws,c∉w.cps.toList):Txt.split (Str.join ⟨#[c]⟩ ws) ⟨#[c]⟩=ws:=by
 have h1:=StrLaws.join_split (Str.join ⟨#[c]⟩ ws) ⟨#[c]⟩;have h2:=StrLaws.split_free (Str.join ⟨#[c]⟩ ws) c;have h3:=F_ (fun z:Str=>z.cps.toList) h1;simp only[jh] at h3;refine ju (p6 (c:=c) (by simp [yq]) (by simp [hn]) ?_ ?_ h3)
 ·intro x hx;obtain⟨p,hp,rfl⟩:=C_.mp hx;exact h2 p hp
 intro x hx;obtain⟨p,hp,rfl⟩:=C_.mp hx;exact hc p hp
theorem Ei:(" ":Str)=⟨#[32]⟩:=by decide +kernel
theorem Ej (z:Str) (ys:List Str):Txt.join z ys=Str.join z ys:=by
 exact PySem.StrLaws.glued_eq_join z ys
theorem yr {ws:List Str}(hn:ws≠[]) (hc:∀w∈ws,32∉w.cps.toList):Txt.split (Txt.join " " ws) " "=ws:=by
 rw[Ej,Ei];exact rF hn hc
theorem p7 {c d:Nat}:∀{xs:List (List Nat)},d∈glue c xs->d=c\/∃x∈xs,d∈x
 |[],h=>by cases h
 |[x],h=>.inr ⟨x,by simp,h⟩
 |x::y::r,h=>by
  have h':d∈x++c::glue c (y::r):=h
  rw[v_,k_] at h'
  rcases h' with h' | h' | h'
  ·
   exact .inr ⟨x,by simp,h'⟩
  ·
   exact .inl h'
  ·
   rcases p7 h' with e | ⟨z,hz,e⟩
   ·
    exact .inl e
   ·
    exact .inr ⟨z,q_ _ hz,e⟩
theorem BJ {ws:List Str}(hc:∀w∈ws,10∉w.cps.toList):10∉(Txt.join " " ws).cps.toList:=by
 rw[Ej,Ei,jh];intro h;rcases p7 h with e | ⟨x,hx,e⟩
 ·exact absurd e (by decide)
 obtain⟨p,hp,rfl⟩:=C_.mp hx;exact hc p hp e
def cleanS (w:Str):Prop:=∀c∈w.cps.toList,48<=c
theorem isNm.clean {x:Str}(h:isNm x):cleanS x:=fun c hc=>by have:=h.az c hc;omega
theorem cleanS.no {w:Str}(h:cleanS w) {c:Nat}(hc:c<48):c∉w.cps.toList:=fun z=>by have:=h c z;omega
theorem BK:cleanS "task":=by unfold cleanS;decide +kernel
theorem yt:cleanS "order":=by unfold cleanS;decide +kernel
theorem BL:cleanS "with":=by unfold cleanS;decide +kernel
theorem yu:cleanS "apart":=by unfold cleanS;decide +kernel
theorem Jj:cleanS "row":=by unfold cleanS;decide +kernel
theorem BP {n:Int}(h1:1<=n):∃m:Nat,n=m/\1<=m:=⟨n.toNat,by omega,by omega⟩
theorem vA (m:Nat):(((toString ((m:Nat):Int):String):Str)).cps.toList=(Nat.toDigits 10 m).map Char.toNat:=PySem.W.KIN.signs_num m
theorem BR {m c:Nat}(h:c∈(Nat.toDigits 10 m).map Char.toNat):48<=c/\c<=57:=by
 obtain⟨ch,hch,e⟩:=C_.mp h;have r:=PyProof.Rows.digit_range (Nat.isDigit_of_mem_toDigits (by decide) (by decide) hch);rw[<- e];exact r
theorem Jk {n:Int}(h1:1<=n):cleanS ((toString n:String):Str):=by
 obtain⟨m,rfl,_⟩:=BP h1;intro c hc;rw[vA] at hc;exact (BR hc).1
end M
namespace L3
open L2
theorem Jl (a:T) (r:List T):cQ (a::r) (some 1) none=r:=iU (k:=1)
theorem Jm (a b:T) (r:List T):cQ (a::b::r) (some 2) none=r:=iU (k:=2)
theorem Jo (a b c:T) (r:List T):cQ (a::b::c::r) (some 3) none=r:=iU (k:=3)
structure Shut (p:Prop):Prop where
 out:p
theorem aq {t u:TS3}{D:Ends3}{Z:St3}{H:Hp3}(h:∀R,Shut (R=u)->(sO t R) D Z H):(sO t u) D Z H:=h u ⟨rfl⟩
theorem lU {c:TT3}{tb:TS3}{D:Ends3}{Z:St3}{H:Hp3}(W:Nat->St3->Hp3->Prop) (h0:∃m,W m Z H) (h1:∀m Z H,W m Z H->∀(WI:Nat->St3->Hp3->Prop) (TB:TS3) (NX:St3->Hp3->Prop),Shut (WI=W)->Shut (TB=tb)->Shut (NX=D.nx) ->
  c Z H fun b H1=>if b=true then TB { D with nx:=fun Z' H'=>∃m',m'<m/\WI m' Z' H',ct:=fun Z' H'=>∃m',m'<m/\WI m' Z' H',bk:=D.nx} Z H1 else NX Z H1):jE c tb D Z H :=
 ⟨W,h0,fun m Z H w=>h1 m Z H w W tb D.nx ⟨rfl⟩ ⟨rfl⟩ ⟨rfl⟩⟩
theorem eV {α:Type}(enc f:α->T) (p:α->Bool) (as:List α) (rest:St3) {tt:TT3}{te:TE3}{still:Hp3->Prop}{fin:List T->Hp3->Prop}{v:Option T}{H:Hp3}(hst:still H) (hl:as.length<=sizeLine)
  (hc:∀a∈as,∀Q:Bool->Hp3->Prop,Q (p a) H->tt (some (enc a)::rest) H Q)
  (ht:∀a∈as,p a=true->∀Q:VK3,Q (f a) H->te (some (enc a)::rest) H Q) (hfin:fin ((as.filter p).map f) H):cIter3 (eE 0) tt te still fin (as.map enc) [] (v::rest) H:=by
 refine iT (fun r ys Z H'=>∃(rs ds:List α) (v:Option T),Z=v::rest/\r=rs.map enc/\ys=(ds.filter p).map f/\ds++rs=as/\H'=H) ⟨as,[],v,rfl,rfl,rfl,rfl,rfl⟩ ?_ ?_
 ·rintro ys Z H' ⟨rs,ds,v,rfl,hrs,rfl,hsp,rfl⟩;have hrs':rs=[]:=RG.mp hrs.symm;subst hrs';rw[Qv] at hsp;subst hsp;exact⟨hst,by rw[g_];exact N_ (Rb _ _) hl,hfin⟩
 rintro x r ys Z H' N ⟨rs,ds,v,rfl,hrs,rfl,hsp,rfl⟩ hN;cases rs with
 |nil=>cases hrs
 |cons t rs =>
 injection hrs with e1 e2;subst e1 e2;refine⟨hst,?_⟩;show tt (some (enc t)::rest) H' _;refine hc t (by rw[<- hsp];simp) _ ?_;cases hp:p t with
 |true=>rw[if_pos rfl];refine ht t (by rw[<- hsp];simp) hp _ ⟨?_,hN _ _ _ ⟨rs,ds++[t],_,rfl,rfl,by simp [hp],by rw[<- hsp];simp,rfl⟩⟩;have:=F_ List.length hsp;simp only[a_,j_] at this;rw[g_];have:=Rb p ds;omega
 |false =>
 rw[if_neg p_];exact hN _ _ _ ⟨rs,ds++[t],_,rfl,rfl,by simp [hp],by rw[<- hsp];simp,rfl⟩
end L3
namespace M
open L2 L3
local macro_rules | `(tactic| walk_at "c") => `(tactic| try dsimp only [mO,List.replicate,m_,Rg,R_,List.nil_append,QF,QX,Option.getD_some])
local macro_rules | `(tactic| walk_at "n") => `(tactic| (obtain ⟨e⟩:=‹Shut (_ = _)›; subst e; try dsimp only))
local macro_rules | `(tactic| walk_at "") => do
 let ls <- ((nm0.splitOn " ").toArray.map String.toName).filterM fun n => do return !(<- Lean.Macro.resolveGlobalName n).isEmpty
 let ls <- ls.mapM fun n => let i:=Lean.mkIdent n; `(Lean.Parser.Tactic.simpLemma| $i:ident)
 `(tactic| ((try dsimp only [$[$ls:simpLemma],*]); try simp only [*,$[$ls:simpLemma],*]))
inductive Rw where
 |tk (t:Str × Int × List Str) | od (o:Str × Str) | pr (p:Str × Str × Str)
def Rw.words:Rw->List Str
 |.tk t=>tkW t
 |.od o=>["order",o.1,o.2]
 |.pr p=>[p.1,p.2.1,p.2.2]
def prs:List Rw->List (Str × Str × Str)
 |[]=>[]
 |.pr p::r=>p::prs r
 |_::r=>prs r
inductive RowW:List Str->Prop
 |tk {t:Str × Int × List Str} (h:tkOk t):RowW (tkW t)
 |od {a b:Str} (h1:isNm a) (h2:isNm b):RowW ["order",a,b]
 |pr {z a b:Str} (h0:z="with"\/z="apart") (h1:isNm a) (h2:isNm b):RowW [z,a,b]
 |row {xs:List Str} (h1:1<=xs.length) (h8:xs.length<=8) (h:∀x∈xs,isNm x):RowW (([("row":Str)]:List Str)++xs)
theorem RowW.ne {ws:List Str}(h:RowW ws):ws≠[]:=by cases h <;> simp [tkW]
theorem RowW.clean {ws:List Str}(h:RowW ws):∀w∈ws,cleanS w:=by
 intro w hw;cases h with
 |tk h =>
  rcases v_.mp hw with hw | hw
  ·simp only[k_,M_,Q7] at hw;rcases hw with rfl | rfl | rfl
   ·exact BK
   ·exact h.nm.clean
   exact Jk h.lo
  exact (h.ks.nm w hw).clean
 |od h1 h2 =>
  simp only[k_,M_,Q7] at hw;rcases hw with rfl | rfl | rfl
  ·exact yt
  ·exact h1.clean
  exact h2.clean
 |pr h0 h1 h2 =>
  simp only[k_,M_,Q7] at hw;rcases hw with rfl | rfl | rfl
  ·rcases h0 with rfl | rfl
   ·exact BL
   exact yu
  ·exact h1.clean
  exact h2.clean
 |row h1 h8 h =>
 rcases v_.mp hw with hw | hw
 ·rw[b_.mp hw];exact Jj
 exact (h w hw).clean
theorem RowW.split {ws:List Str}(h:RowW ws):Txt.split (Txt.join " " ws) " "=ws:=yr h.ne fun w hw=>(h.clean w hw).no (by decide)
theorem RowW.len {ws:List Str}(h:RowW ws):(Txt.join " " ws).length<=500:=by
 cases h with
 |tk h=>exact Ji h
 |od h1 h2=>exact N_ (tY nH (n:=3) (by simp) (Nj (o:=(_,_)) h1 h2)) (by decide)
 |pr h0 h1 h2=>exact N_ (tY nH (n:=3) (by simp) (Nk (o:=(_,_,_)) h0 h1 h2)) (by decide)
 |row h1 h8 h=>exact N_ (tY nH (n:=9) (by simp only[a_,x_];omega) (Nm h)) (by decide)
theorem RowW.free {ws:List Str}(h:RowW ws):10∉(Txt.join " " ws).cps.toList:=BJ fun w hw=>(h.clean w hw).no (by decide)
end M
namespace L3
open L2
section
variable {X:Cx}
def ppH (o:Option O3) (a:Addr) (H:Hp3) (Q:VK3):Prop:=match o with
 |some (.lst xs)=>oq (xs[xs.length - 1]?) fun t=>Q t (up3 H a (.lst xs.dropLast))
 |_=>False
def yw:T->List T->Hp3->VK3->Prop:=fun x ts H Q=>match x,ts with
 |.ref a,[]=>ppH (H a) a H Q
 |_,_=>False
theorem yx (a:Addr) (H:Hp3) (Q:VK3):yw (.ref a) [] H Q=ppH (H a) a H Q:=rfl
theorem Ek (xs:List T) (a:Addr) (H:Hp3) (Q:VK3):ppH (some (.lst xs)) a H Q=oq (xs[xs.length - 1]?) fun t=>Q t (up3 H a (.lst xs.dropLast)):=rfl
theorem Reps.dropLast {K:Frag}{H:Hp}{ts:List T}{vs:List V}(r:Reps K H ts vs):Reps K H ts.dropLast vs.dropLast:=by
 rw[List.dropLast_eq_take,List.dropLast_eq_take,r.length];exact r.take _
theorem Jp:o4 X "list.pop" yw:=by
 refine MtR.imp Gr ?_;rintro x xs H Q ⟨tx,ts,H3,Q3,rx,rs,sh,h,k⟩;cases tx with
 |ref a =>
  cases ts with
  |cons _ _=>exact h.elim
  |nil =>
  rw[yx] at h;cases e:H3 a with
  |none=>rw[e] at h;exact h.elim
  |some o =>
  rw[e] at h;cases o with
  |lst ls =>
   rw[Ek] at h;obtain⟨ys,hH,r⟩:=sh a _ e;cases e2:ls[ls.length - 1]? with
   |none=>rw[e2] at h;exact h.elim
   |some t =>
   rw[e2,gU] at h;obtain⟨v,hv,rv⟩:=r.get e2;refine⟨a,ys,v,rx.ref,rs.inv0,hH,by rw[<- r.length];exact hv,k _ _ _ _ (cB (by rw[hH];exact trivial)) (sh.wrL hH r.dropLast) (rv.mono (cB (by rw[hH];exact trivial))) h⟩
  |_=>exact h.elim
 |_=>exact h.elim
def eqR (a b:Addr) (o u:Option O3) (H:Hp3) (Q:VK3):Prop:=match o,u with
 |some (.rol xs),some (.lst ys)=>a≠b/\xs.all (pl 20)=true/\ys.all (pl 20)=true/\Q (.bl (decide (xs=ys))) H
 |_,_=>False
def El:R3:=fun x y H Q=>match x,y with
 |.ref a,.ref b=>eqR a b (H a) (H b) H Q
 |_,_=>False
theorem Em (a b:Addr) (H:Hp3) (Q:VK3):El (.ref a) (.ref b) H Q=eqR a b (H a) (H b) H Q:=rfl
theorem yz (a b:Addr) (xs ys:List T) (H:Hp3) (Q:VK3):eqR a b (some (.rol xs)) (some (.lst ys)) H Q=(a≠b/\xs.all (pl 20)=true/\ys.all (pl 20)=true/\Q (.bl (decide (xs=ys))) H):=rfl
theorem Jq (hu:X.A.units+30<cLine):dU X (compareOp .Eq) El:=by
 intro pins s Z H x y v u Q I rv ru h;obtain⟨tx,ty,H3,Q3,rx,ry,sh,h,k⟩:=h;cases tx with
 |ref a =>
  cases ty with
  |ref b =>
   rw[Em] at h;cases e1:H3 a with
   |none=>rw[e1] at h;exact h.elim
   |some o =>
   cases e2:H3 b with
   |none=>rw[e1,e2] at h;cases o <;> exact h.elim
   |some o2 =>
   rw[e1,e2] at h;cases o with
   |rol ts =>
    cases o2 with
    |lst us =>
     rw[yz] at h;obtain⟨xs,g1,r⟩:=sh.sqL (.inr e1);obtain⟨ys,g2,r'⟩:=sh b _ e2;cases rx.ref;cases ry.ref;cases rv;cases ru;obtain⟨its,rv1,ht,_⟩:=I.list (X:=X) g1;obtain⟨its',rv2,ht',_⟩:=I.list (X:=X) (.of g2);have hl:its.length=ts.length:=by rw[<- rv1.length,<- r.length]
     have hl':its'.length=us.length:=by rw[<- rv2.length,<- r'.length]
     by_cases hsz:ts.length=us.length
     ·refine SeqAt.eq_listAt (e:=fun j=>decide (ts[j]?=us[j]?)) ht.isList ht'.isList (by simp;omega) (by omega) (fZ I hu h.2.1 h.2.2.1 r r' rv1 rv2) ⟨.bl _,H,I,rfl,?_⟩;have e:=f9 (ts:=ts) (us:=us);rw[<- hsz,Nat.min_self,beq_self_eq_true,Bool.and_true] at e;rw[h_,hl,e];exact k _ _ _ _ .refl sh .ofBl h.2.2.2
     refine SeqAt.eq_list_lengthsAt ht.isList ht'.isList (by simp;omega) (by omega) ⟨.bl false,H,I,rfl,?_⟩;have e:decide (ts=us)=false:=o_ fun z=>hsz (by rw[z]);have q:=h.2.2.2;rw[e] at q;exact k _ _ _ _ .refl sh .ofBl q
    |_=>exact h.elim
   |_=>cases o2 <;> exact h.elim
  |_=>exact h.elim
 |_=>exact h.elim
end
end L3
namespace M
open L2 L3
local macro_rules | `(tactic| walk_at "c") => `(tactic| try dsimp only [mO,List.replicate,m_,Rg,R_,List.nil_append,QF,QX,Option.getD_some])
local macro_rules | `(tactic| walk_at "n") => `(tactic| (obtain ⟨e⟩:=‹Shut (_ = _)›; subst e; try dsimp only))
local macro_rules | `(tactic| walk_at "") => do
 let ls <- ((nm0.splitOn " ").toArray.map String.toName).filterM fun n => do return !(<- Lean.Macro.resolveGlobalName n).isEmpty
 let ls <- ls.mapM fun n => let i:=Lean.mkIdent n; `(Lean.Parser.Tactic.simpLemma| $i:ident)
 `(tactic| ((try dsimp only [$[$ls:simpLemma],*]); try simp only [*,$[$ls:simpLemma],*]))
structure Box (p:Prop):Prop where
 out:p
structure Cl (H:Hp3) (a:Addr):Prop where
 ex:∃ns:List Int,H a=some (.lst (ns.map T.int))/\ns.length<=504
structure Drw (a:Addr) (H H':Hp3):Prop where
 cl:Cl H' a
 off:∀b,b≠a->H' b=H b
theorem Drw.trans {a:Addr}{H H1 H2:Hp3}(x:Drw a H H1) (y:Drw a H1 H2):Drw a H H2:=⟨y.cl,fun b h=>(y.off b h).trans (x.off b h)⟩
theorem Cl.refl {a:Addr}{H:Hp3}(D:Cl H a):Drw a H H:=⟨D,fun _ _=>rfl⟩
theorem Cl.ne {a p:Addr}{H:Hp3}(D:Cl H a) (hp:H p=none):p≠a:=fun e=>by obtain⟨ns,h,_⟩:=D.ex;rw[<- e,hp] at h;cases h
theorem Cl.new {a p:Addr}{H:Hp3}{u:O3}(D:Cl H a) (h:p≠a):Cl (up3 H p u) a:=by
 obtain⟨ns,e,r⟩:=D.ex;exact⟨ns,by rw[aF (Ne.symm h)];exact e,r⟩
def Kep (a:Addr) (H H':Hp3):Prop:=∀b o,H b=some o->b≠a->H' b=some o
theorem Kep.refl {a:Addr}{H:Hp3}:Kep a H H:=fun _ _ h _=>h
theorem Kep.drw {a:Addr}{H H1 H2:Hp3}(x:Kep a H H1) (y:Drw a H1 H2):Kep a H H2:=fun b o h h1=>by rw[y.off b h1];exact x b o h h1
theorem Kep.new {a p:Addr}{H H1:Hp3}{u:O3}(x:Kep a H H1) (hp:H1 p=none):Kep a H (up3 H1 p u):=fun b o h h1=>by
 have:=x b o h h1;rw[aF (aY this hp)];exact this
theorem Kep.at {a p:Addr}{H H1:Hp3}{u:O3}(x:Kep a H H1) (hp:H p=none):Kep a H (up3 H1 p u):=fun b o h h1=>by
 rw[aF (aY h hp)];exact x b o h h1
theorem Kep.sub {a:Addr}{H H1 H2:Hp3}(x:Kep a H H1) (s:Sub3 H1 H2):Kep a H H2:=fun b o h h1=>s b o (x b o h h1)
theorem t6 {a:Addr}{H H':Hp3}{Q:VK3}{v:T}(D:Cl H' a) (k:Kep a H H') (q:∀H'',Drw a H H''->Q v H''):Fin3 Q v H':=by
 refine⟨fun b=>if b=a then H' b else H b,fun b o hb=>?_,q _ ⟨?_,fun b h1=>?_⟩⟩
 ·by_cases h:b=a
  ·simp only[h,if_true] at hb ⊢;exact hb
  simp only[h,Q4] at hb;exact k b o hb h
 ·obtain⟨ns,e,r⟩:=D.ex;exact⟨ns,by simp only[if_true];exact e,r⟩
 simp only[h1,Q4]
structure Wt (c:Addr) (H0 H:Hp3) (fs:List (Addr × O3)):Prop where
 cl:Cl H c
 kp:Kep c H0 H
 at':∀p∈fs,H p.1=some p.2/\p.1≠c
theorem Wt.drw {c:Addr}{H0 H H':Hp3}{fs:List (Addr × O3)}(w:Wt c H0 H fs) (d:Drw c H H'):Wt c H0 H' fs:=⟨d.cl,w.kp.drw d,fun p hp=>⟨by rw[d.off _ (w.at' p hp).2];exact (w.at' p hp).1,(w.at' p hp).2⟩⟩
theorem Wt.new {c p:Addr}{H0 H:Hp3}{fs:List (Addr × O3)}{o:O3}(w:Wt c H0 H fs) (hp:H p=none):Wt c H0 (up3 H p o) ((p,o)::fs):=⟨w.cl.new (w.cl.ne hp),w.kp.new hp,fun q hq=>by
 rcases k_.mp hq with rfl | hq
 ·exact⟨aC,w.cl.ne hp⟩
 exact⟨by rw[aF (aY (w.at' q hq).1 hp)];exact (w.at' q hq).1,(w.at' q hq).2⟩⟩
theorem Wt.hd {c p:Addr}{H0 H:Hp3}{o:O3}{fs:List (Addr × O3)}(w:Wt c H0 H ((p,o)::fs)):H p=some o:=(w.at' (p,o) i_).1
theorem Wt.tl {c:Addr}{q:Addr × O3}{H0 H:Hp3}{fs:List (Addr × O3)}(w:Wt c H0 H (q::fs)):Wt c H0 H fs:=⟨w.cl,w.kp,fun p hp=>w.at' p (q_ _ hp)⟩
theorem Wt.set {c p:Addr}{H0 H:Hp3}{o:O3}{fs:List (Addr × O3)}(w:Wt c H0 H ((p,o)::fs)) (hp0:H0 p=none) (hd:∀q∈fs,q.1≠p) (o':O3):Wt c H0 (up3 H p o') ((p,o')::fs) :=
 have hc:=(w.at' (p,o) i_).2
 ⟨w.cl.new hc,w.kp.at hp0,fun q hq=>by
  rcases k_.mp hq with rfl | hq
  ·
   exact⟨aC,hc⟩
  ·
   exact⟨by rw[aF (hd q hq)];exact (w.at' q (q_ _ hq)).1,(w.at' q (q_ _ hq)).2⟩⟩
theorem Wt.fresh {c p:Addr}{H0 H:Hp3}{fs:List (Addr × O3)}(w:Wt c H0 H fs) (hp:H p=none):H0 p=none:=by
 cases e:H0 p with
 |none=>rfl
 |some o=>rw[w.kp p o e (w.cl.ne hp)] at hp;cases hp
def Jr:Sp3:=fun ts H Q=>∃(d:Addr) (m:Int),ts=[.ref d,.int m]/\0<m/\Cl H d/\∀(n:Int) (H':Hp3),0<=n->n<m->Drw d H H'->Q (.int n) H'
def Np:Sp3:=fun ts H Q=>∃(d:Addr) (m:Int),ts=[.ref d,.int m]/\0<m/\Cl H d/\∀(n:Int) (H':Hp3),0<=n->n<m->Drw d H H'->Q (.int n) H'
theorem Wt.swap {c p q:Addr}{H0 H:Hp3}{o u:O3}(w:Wt c H0 H [(p,o),(q,u)]):Wt c H0 H [(q,u),(p,o)]:=⟨w.cl,w.kp,fun x hx=>w.at' x (by
 rcases k_.mp hx with rfl | hx
 ·
  simp
 ·
  rw[b_.mp hx];simp)⟩
def Nq:Sp3:=fun ts H Q=>∃(d a:Addr) (xs:List T),ts=[.ref d,.ref a]/\a≠d/\H a=some (.lst xs)/\xs.all (pl 20)=true/\xs.length<=60/\Cl H d/\∀(ys:List T) (H1:Hp3) (p:Addr),ys.Perm xs->Drw d H H1->H1 p=none->Q (.ref p) (up3 H1 p (.lst ys))
theorem BV {α:Type}{xs:List α}{j:Nat}(h:j<xs.length):(xs[j]::xs.eraseIdx j).Perm xs:=by
 have e:xs=xs.take j++xs[j]::xs.drop (j+1):=by rw[<- Sd h];exact (List.take_append_drop j xs).symm
 rw[List.eraseIdx_eq_take_drop_succ];exact List.perm_middle.symm.trans (by rw[<- e])
theorem Js {xs:List T}(h:xs.all (pl 20)=true) (j:Nat):(xs.eraseIdx j).all (pl 20)=true:=by
 rw[J_] at h ⊢;exact fun t ht=>h t (List.mem_of_mem_eraseIdx ht)
theorem dZ (n:Nat):cN 0 n=(List.range n).map fun (i:Nat)=>T.int (i:Int):=by
 unfold cN;exact QL fun i _=>by rw[Int.zero_add]
theorem du {H H':Hp3}{p:Addr}(s:Sub3 H H') (hp:H' p=none):H p=none:=by
 cases e:H p with
 |none=>rfl
 |some o=>rw[s _ _ e] at hp;cases hp
structure Nb (H0 H:Hp3) (pc pf:Addr) (cs fs:List Int):Prop where
 sb:Sub3 H0 H
 c:H pc=some (.lst (cs.map T.int))
 f:H pf=some (.lst (fs.map T.int))
 f0:H0 pf=none
 ne:pc≠pf
theorem Nb.new {H0 H:Hp3}{pc pf p:Addr}{cs fs:List Int}{o:O3}(x:Nb H0 H pc pf cs fs) (hp:H p=none):Nb H0 (up3 H p o) pc pf cs fs :=
 ⟨x.sb.trans (Sub3.new hp),by rw[aF (aY x.c hp)];exact x.c,by rw[aF (aY x.f hp)];exact x.f,x.f0,x.ne⟩
theorem Nb.put {H0 H:Hp3}{pc pf:Addr}{cs fs:List Int}(x:Nb H0 H pc pf cs fs) (z:Int):Nb H0 (up3 H pf (.lst (fs.map T.int++[T.int z]))) pc pf cs (fs++[z]) :=
 ⟨fun a u e=>by rw[aF (aY e x.f0)];exact x.sb a u e,by rw[aF x.ne];exact x.c,by rw[aC,B_];rfl,x.f0,x.ne⟩
theorem yC (ns:List Int) (n:Int):((ns++[n]).map T.int)[((ns++[n]).map T.int).length - 1]?=some (T.int n):=by simp
theorem vB (ns:List Int) (n:Int):((ns++[n]).map T.int).dropLast=ns.map T.int:=by simp
theorem t60:(10:Int)^Int.toNat 60=1000000000000000000000000000000000000000000000000000000000000:=by decide
theorem t58:(10:Int)^Int.toNat 58=10000000000000000000000000000000000000000000000000000000000:=by decide
theorem Nr:(10:Int)^60=1000000000000000000000000000000000000000000000000000000000000:=by decide
theorem pig:∀(ws:List Str) (f:Nat->Str),(∀i j,i<=ws.length->j<=ws.length->f i=f j->i=j)->(∀i,i<=ws.length->f i∈ws)->False
 |[],f,_,h=>by have:=h 0 (u_ _);simp at this
 |w::ws,f,inj,h=>by
  rw[j_] at inj h
  by_cases q:∃j,j<=ws.length+1/\f j=w
  ·
   obtain⟨j,hj,e⟩:=q
   refine pig ws (fun i=>if i<j then f i else f (i+1)) (fun a b ha hb hab=>?_) (fun i hi=>?_)
   ·
    try dsimp only at hab
    split at hab <;> split at hab
    ·
     exact inj a b (by omega) (by omega) hab
    ·
     have:=inj a (b+1) (by omega) (by omega) hab;omega
    ·
     have:=inj (a+1) b (by omega) (by omega) hab;omega
    ·
     have:=inj (a+1) (b+1) (by omega) (by omega) hab;omega
   ·
    show (if i<j then f i else f (i+1))∈ws
    split
    ·
     exact (k_.mp (h i (by omega))).resolve_left fun e2=>by have:=inj i j (by omega) hj (e2.trans e.symm);omega
    ·
     exact (k_.mp (h (i+1) (by omega))).resolve_left fun e2=>by have:=inj (i+1) j (by omega) hj (e2.trans e.symm);omega
  ·
   exact pig ws f (fun a b ha hb=>inj a b (by omega) (by omega)) fun i hi=>(k_.mp (h i (by omega))).resolve_left fun e=>q ⟨i,by omega,e⟩
def dg:Nat->Int->List Nat
 |0,_=>[]
 |n+1,l=>(97+(l%26).toNat)::dg n (l / 26)
theorem rG:∀(n:Nat) (l:Int),(dg n l).length=n
 |0,_=>rfl
 |n+1,l=>by rw[dg,j_,rG n]
theorem En:∀(n:Nat) (l:Int),∀c∈dg n l,97<=c/\c<=122
 |0,_,_,h=>nomatch h
 |n+1,l,c,h=>by
  rw[dg] at h
  have:=QH l (show (0:Int)<26 by decide)
  rcases k_.mp h with rfl | h
  ·
   omega
  ·
   exact En n _ c h
theorem Jt {n:Nat}{num:Int}{i j:Nat}(hi:i<=25) (hj:j<=25) (h:mkS (dg (n+1) (num+i))=mkS (dg (n+1) (num+j))):i=j:=by
 have e:=tX h;rw[dg,dg,Rj] at e;have e1:=e.1;have a1:=QJ (num+i) (show (26:Int)≠0 by decide);have a2:=QJ (num+j) (show (26:Int)≠0 by decide);omega
def nmK (l:List Nat) (a s i:Nat):Str:=mkS (l.take a++[97+(((s:Int)+(i:Int))%26).toNat]++l.drop (a+1))
theorem Ju {l:List Nat}{a s i:Nat}(h8:l.length<=8) (ha:a<l.length) (az:∀c∈l,97<=c/\c<=122):isNm (nmK l a s i):=by
 have hlen:(l.take a++[97+(((s:Int)+(i:Int))%26).toNat]++l.drop (a+1)).length=l.length:=by rw[a_,a_,Rc,Ro,x_];omega
 refine Eh (by rw[hlen];omega) (by rw[hlen];exact h8) fun c hc=>?_;rcases v_.mp hc with hc | hc
 ·rcases v_.mp hc with hc | hc
  ·exact az c (List.mem_of_mem_take hc)
  rw[b_.mp hc];have:=QH ((s:Int)+(i:Int)) (show (0:Int)<26 by decide);omega
 exact az c (List.mem_of_mem_drop hc)
theorem BW {l:List Nat}{a s i j:Nat}(hi:i<26) (hj:j<26) (h:nmK l a s i=nmK l a s j):i=j:=by
 have e:=tX h;rw[QC,QC,List.append_cancel_left_eq,List.singleton_append,List.singleton_append,Rj] at e;have e1:=e.1;have a1:=QJ ((s:Int)+(i:Int)) (show (26:Int)≠0 by decide);have a2:=QJ ((s:Int)+(j:Int)) (show (26:Int)≠0 by decide);omega
theorem BX {l:List Nat}{a s m:Nat}(h8:l.length<=8) (ha:a<l.length) (az:∀c∈l,97<=c/\c<=122) (hm:m<=8):Nms ((List.range m).map (nmK l a s)):=by
 refine⟨fun x hx=>?_,?_⟩
 ·obtain⟨i,_,rfl⟩:=C_.mp hx;exact Ju h8 ha az
 rw[List.Nodup,S_];refine Sx (fun {x y} hx hy hne he=>?_) (List.nodup_range (n:=m));have h1:=L_.mp hx;have h2:=L_.mp hy;exact hne (BW (by omega) (by omega) he)
structure Tb (H0 H:Hp3) (p:Addr) (m:Nat) (as:List Addr):Prop where
 sb:Sub3 H0 H
 l:as.length=m
 t:H p=some (.lst (as.map T.ref))
 r:∀a∈as,∃bs:List Bool,bs.length=m/\H a=some (.lst (bs.map T.bl))
 np:p∉as
 f0:H0 p=none
 fa:∀a∈as,H0 a=none
theorem Tb.put {H0 H:Hp3}{p a:Addr}{m:Nat}{as:List Addr}{bs:List Bool}(x:Tb H0 H p m as) (ha:a∈as) (hb:bs.length=m):Tb H0 (up3 H a (.lst (bs.map T.bl))) p m as:=by
 have hpa:p≠a:=fun e=>x.np (e▸ha);refine⟨fun b u e=>by rw[aF (aY e (x.fa a ha))];exact x.sb b u e,x.l,by rw[aF hpa];exact x.t,fun b hb'=>?_,x.np,x.f0,x.fa⟩;by_cases e:b=a
 ·subst e;exact⟨bs,hb,aC⟩
 obtain⟨cs,h1,h2⟩:=x.r b hb';exact⟨cs,h1,by rw[aF e];exact h2⟩
theorem Tb.at' {H0 H:Hp3}{p:Addr}{m:Nat}{as:List Addr}(x:Tb H0 H p m as) {i:Nat}(hi:i<m):∃(a:Addr) (bs:List Bool),atI (as.map T.ref) (i:Int)=some (.ref a)/\a∈as/\bs.length=m/\H a=some (.lst (bs.map T.bl)):=by
 have hl:i<as.length:=by rw[x.l];exact hi
 obtain⟨bs,h1,h2⟩:=x.r _ (Qx hl);exact⟨as[i],bs,bH (by rw[G_,d_ hl];rfl),Qx hl,h1,h2⟩
def bw (b:Bool):Str:=if b then "with" else "apart"
def pT3 (x:Bool × Nat × Nat):T:=.tup [.str (bw x.1),.int (x.2.1:Int),.int (x.2.2:Int)]
def row2 (b:Bool) (m i:Nat):List (Bool × Nat × Nat):=(List.range m).map fun j=>(b,i,j)
def enm (b:Bool) (m:Nat) (A:List Nat):List (Bool × Nat × Nat):=A.flatMap (row2 b m)
def full (m:Nat):List (Bool × Nat × Nat):=enm true m (List.range m)++enm false m (List.range m)
theorem BZ:∀m:_root_.Fin 9,(full m.val).Nodup:=by decide +kernel
theorem p8 (b:Bool) (m:Nat) (A:List Nat) (i:Nat):enm b m (A++[i])=enm b m A++row2 b m i:=by simp [enm]
structure Tq (d:Addr) (H0 H:Hp3) (p:Addr) (m:Nat) (as:List Addr):Prop where
 l:as.length=m
 t:H p=some (.lst (as.map T.ref))
 r:∀a∈as,∃bs:List Bool,bs.length=m/\H a=some (.lst (bs.map T.bl))
 f0:H0 p=none
 fa:∀a∈as,H0 a=none
 nd:p≠d
 na:∀a∈as,a≠d
theorem Tq.drw {d:Addr}{H0 H H':Hp3}{p:Addr}{m:Nat}{as:List Addr}(x:Tq d H0 H p m as) (D:Drw d H H'):Tq d H0 H' p m as :=
 ⟨x.l,by rw[D.off _ x.nd];exact x.t,fun a ha=>by obtain⟨bs,h1,h2⟩:=x.r a ha;exact⟨bs,h1,by rw[D.off _ (x.na a ha)];exact h2⟩,x.f0,x.fa,x.nd,x.na⟩
theorem Tq.new {d q:Addr}{H0 H:Hp3}{p:Addr}{m:Nat}{as:List Addr}{o:O3}(x:Tq d H0 H p m as) (hq:H q=none):Tq d H0 (up3 H q o) p m as :=
 ⟨x.l,by rw[aF (aY x.t hq)];exact x.t,fun a ha=>by obtain⟨bs,h1,h2⟩:=x.r a ha;exact⟨bs,h1,by rw[aF (aY h2 hq)];exact h2⟩,x.f0,x.fa,x.nd,x.na⟩
theorem Tq.at' {d:Addr}{H0 H:Hp3}{p:Addr}{m:Nat}{as:List Addr}(x:Tq d H0 H p m as) {i:Nat}(hi:i<m):∃(a:Addr) (bs:List Bool),atI (as.map T.ref) (i:Int)=some (.ref a)/\a∈as/\bs.length=m/\H a=some (.lst (bs.map T.bl)):=by
 have hl:i<as.length:=by rw[x.l];exact hi
 obtain⟨bs,h1,h2⟩:=x.r _ (Qx hl);exact⟨as[i],bs,bH (by rw[G_,d_ hl];rfl),Qx hl,h1,h2⟩
structure PI (d:Addr) (H0 H:Hp3) (pp pe a:Addr) (ws:List Str) (ps:List (Bool × Nat × Nat)) (es:List T):Prop where
 w:Wt d H0 H [(pp,.lst (ps.map pT3)),(pe,.lst es),(a,.lst (ws.map T.str))]
 ne:pe≠pp
 na:a≠pp
 l12:ps.length<=12
 ea:es.all (pl 20)=true
 el:es.length<=28+2*ps.length
 ok:∀x∈ps,x.2.1≠x.2.2/\x.2.1<ws.length/\x.2.2<ws.length
theorem PI.drw {d:Addr}{H0 H H':Hp3}{pp pe a:Addr}{ws:List Str}{ps:List (Bool × Nat × Nat)}{es:List T}(x:PI d H0 H pp pe a ws ps es) (D:Drw d H H'):PI d H0 H' pp pe a ws ps es:={ x with w:=x.w.drw D}
theorem PI.add {d:Addr}{H0 H:Hp3}{pp pe a q:Addr}{ws:List Str}{ps:List (Bool × Nat × Nat)}{es fs:List T}{y:Bool × Nat × Nat}(x:PI d H0 H pp pe a ws ps es) (p0:H0 pp=none) (h12:ps.length<12) (hy:y.2.1≠y.2.2/\y.2.1<ws.length/\y.2.2<ws.length) {o:O3}{q0:Addr}
  (hq0:up3 H pp (.lst ((ps++[y]).map pT3)) q0=none) (hq:up3 (up3 H pp (.lst ((ps++[y]).map pT3))) q0 o q=none) (fa:fs.all (pl 20)=true) (fl:fs.length=2):PI d H0 (up3 (up3 (up3 H pp (.lst ((ps++[y]).map pT3))) q0 o) q (.lst (es++fs))) pp q a ws (ps++[y]) (es++fs):=by
 have w1:=x.w.set p0 (fun r hr=>by
  rcases k_.mp hr with rfl | hr
  ·
   exact x.ne
  ·
   rw[b_.mp hr];exact x.na) (.lst ((ps++[y]).map pT3))
 have w2:=(w1.new (o:=o) hq0).tl;have w3:=w2.new (o:=.lst (es++fs)) hq;refine⟨⟨w3.cl,w3.kp,fun r hr=>w3.at' r ?_⟩,Ne.symm (aY w2.hd hq),x.na,by rw[a_,x_];omega,by rw[List.all_append,x.ea,fa];rfl,by have:=x.el;rw[a_,a_,x_,fl];omega,fun z hz=>?_⟩
 ·simp only[k_,M_,Q7] at hr ⊢;rcases hr with h | h | h
  ·exact .inr (.inl h)
  ·exact .inl h
  exact .inr (.inr (.inr h))
 rcases v_.mp hz with h | h
 ·exact x.ok z h
 rw[b_.mp h];exact hy
theorem PI.add1 {d:Addr}{H0 H:Hp3}{pp pe a:Addr}{ws:List Str}{ps:List (Bool × Nat × Nat)}{es:List T}{y:Bool × Nat × Nat}(x:PI d H0 H pp pe a ws ps es) (p0:H0 pp=none) (h12:ps.length<12) (hy:y.2.1≠y.2.2/\y.2.1<ws.length/\y.2.2<ws.length):PI d H0 (up3 H pp (.lst ((ps++[y]).map pT3))) pp pe a ws (ps++[y]) es:=by
 refine⟨x.w.set p0 (fun r hr=>by
  rcases k_.mp hr with rfl | hr
  ·
   exact x.ne
  ·
   rw[b_.mp hr];exact x.na) _,x.ne,x.na,by rw[a_,x_];omega,x.ea,by have:=x.el;rw[a_,x_];omega,fun z hz=>?_⟩
 rcases v_.mp hz with h | h
 ·exact x.ok z h
 rw[b_.mp h];exact hy
theorem PI.sub {d:Addr}{H0 H H':Hp3}{pp pe a:Addr}{ws:List Str}{ps:List (Bool × Nat × Nat)}{es:List T}(x:PI d H0 H pp pe a ws ps es) (s:Sub3 H H'):PI d H0 H' pp pe a ws ps es:=by
 refine { x with w:=⟨?_,x.w.kp.sub s,fun q hq=>⟨s _ _ (x.w.at' q hq).1,(x.w.at' q hq).2⟩⟩};obtain⟨ns,h1,h2⟩:=x.w.cl.ex;exact⟨ns,s _ _ h1,h2⟩
theorem Tb.tq {d:Addr}{H0 H H':Hp3}{p:Addr}{m:Nat}{as:List Addr}(x:Tb H H' p m as) (c:Cl H d) (k:Kep d H0 H):Tq d H0 H' p m as:=by
 have nd:∀b,H b=none->b≠d:=fun b hb=>c.ne hb;have f0:∀b,H b=none->H0 b=none:=fun b hb=>by
  cases e:H0 b with
  |none=>rfl
  |some o=>rw[k b o e (nd b hb)] at hb;cases hb
 exact⟨x.l,x.t,x.r,f0 _ x.f0,fun a ha=>f0 a (x.fa a ha),nd _ x.f0,fun a ha=>nd a (x.fa a ha)⟩
theorem Tq.set {d q:Addr}{H0 H:Hp3}{p:Addr}{m:Nat}{as:List Addr}{o:O3}(x:Tq d H0 H p m as) (h1:p≠q) (h2:∀a∈as,a≠q):Tq d H0 (up3 H q o) p m as :=
 ⟨x.l,by rw[aF h1];exact x.t,fun a ha=>by obtain⟨bs,g1,g2⟩:=x.r a ha;exact⟨bs,g1,by rw[aF (h2 a ha)];exact g2⟩,x.f0,x.fa,x.nd,x.na⟩
theorem gD {α β:Type}{f:α->β}:∀{ys xs:List β},ys.Perm xs->∀l:List α,xs=l.map f->∃l':List α,l'.Perm l/\ys=l'.map f:=by
 intro ys xs h;induction h with
 |nil=>intro l e;rw[RG.mp e.symm];exact⟨[],List.Perm.refl _,rfl⟩
 |cons x _ ih =>
  intro l e;cases l with
  |nil=>cases e
  |cons a r =>
  rw[m_,Rj] at e;obtain⟨l',h1,h2⟩:=ih r e.2;exact⟨a::l',h1.cons a,by rw[m_,h2,e.1]⟩
 |swap x y t =>
  intro l e;cases l with
  |nil=>cases e
  |cons a r =>
  cases r with
  |nil=>rw[m_,Rj] at e;cases e.2
  |cons b r =>
  rw[m_,m_,Rj,Rj] at e;exact⟨b::a::r,List.Perm.swap a b r,by rw[m_,m_,<- e.1,<- e.2.1,<- e.2.2]⟩
 |trans _ _ ih1 ih2 =>
 intro l e;obtain⟨l2,p2,e2⟩:=ih2 l e;obtain⟨l1,p1,e1⟩:=ih1 l2 e2;exact⟨l1,p1.trans p2,e1⟩
def nmP (ws:List Str) (x:Bool × Nat × Nat):Str × Str × Str:=(bw x.1,ws.getD x.2.1 "",ws.getD x.2.2 "")
theorem eF {ws:List Str}(h:ws.Nodup) {i j:Nat}(hi:i<ws.length) (hj:j<ws.length) (e:ws.getD i ""=ws.getD j ""):i=j:=by
 rw[A_,A_,d_ hi,d_ hj] at e;have e':ws[i]=ws[j]:=e;have pw:=List.pairwise_iff_getElem.mp h;rcases Nat.lt_trichotomy i j with q | q | q
 ·exact absurd e' (pw i j hi hj q)
 ·exact q
 exact absurd e'.symm (pw j i hj hi q)
theorem Jv {ws:List Str}(h:ws.Nodup) {ps:List (Bool × Nat × Nat)}(nd:ps.Nodup) (ok:∀x∈ps,x.2.1≠x.2.2/\x.2.1<ws.length/\x.2.2<ws.length):(ps.map (nmP ws)).Nodup:=by
 rw[List.Nodup,S_];refine Sx (fun {x y} hx hy hne he=>hne ?_) nd;have ox:=ok x hx;have oy:=ok y hy;obtain⟨b1,i1,j1⟩:=x;obtain⟨b2,i2,j2⟩:=y;simp only[nmP,Prod.mk.injEq] at he;have e1:i1=i2:=eF h ox.2.1 oy.2.1 he.2.1;have e2:j1=j2:=eF h ox.2.2 oy.2.2 he.2.2;have e3:b1=b2:=by have:=he.1;cases b1 <;> cases b2 <;> first | rfl | (exact absurd this (by decide +kernel))
 rw[e1,e2,e3]
theorem Jw {ws:List Str}(h:ws.Nodup) {x:Bool × Nat × Nat}(o:x.2.1≠x.2.2/\x.2.1<ws.length/\x.2.2<ws.length):((nmP ws x).1="with"\/(nmP ws x).1="apart")/\(nmP ws x).2.1≠(nmP ws x).2.2/\(nmP ws x).2.1∈ws/\(nmP ws x).2.2∈ws:=by
 have mem:∀i,i<ws.length->ws.getD i ""∈ws:=fun i hi=>by rw[A_,d_ hi];exact Qx hi
 refine⟨?_,fun e=>o.1 (eF h o.2.1 o.2.2 e),mem _ o.2.1,mem _ o.2.2⟩;obtain⟨b,i,j⟩:=x;cases b
 ·exact .inr rfl
 exact .inl rfl
theorem getD_at {ws:List Str}{i:Nat}(h:i<ws.length):atI (ws.map T.str) (i:Int)=some (.str (ws.getD i "")):=bH (by rw[G_,d_ h,A_,d_ h];rfl)
theorem rH {α:Type}{ps E:List α}{y:α}(h:ps.Sublist E):(ps++[y]).Sublist (E++[y]):=h.append (List.Sublist.refl _)
theorem rJ {α:Type}{ps E:List α}{y:α}(h:ps.Sublist E):ps.Sublist (E++[y]):=h.trans (List.sublist_append_left _ _)
theorem Nt (ps:List (Bool × Nat × Nat)):(ps.map pT3).all (pl 20)=true:=by rw[J_];intro t ht;obtain⟨x,_,rfl⟩:=C_.mp ht;rfl
theorem Nms.ins {ws:List Str}{i:Nat}{x:Str}(h:Nms ws) (hx:isNm x) (hn:x∉ws):Nms (ws.take i++x::ws.drop i):=by
 have hp:(ws.take i++x::ws.drop i).Perm (x::ws):=List.perm_middle.trans (by rw[List.take_append_drop]);refine⟨fun y hy=>?_,hp.nodup_iff.mpr (QB.mpr ⟨hn,h.nd⟩)⟩;rcases k_.mp (hp.mem_iff.mp hy) with rfl | h'
 ·exact hx
 exact h.nm y h'
theorem yD {ws:List Str}{i:Nat}{x y:Str}(h:y∈ws.take i++x::ws.drop i):y=x\/y∈ws:=by
 have hp:(ws.take i++x::ws.drop i).Perm (x::ws):=List.perm_middle.trans (by rw[List.take_append_drop]);exact k_.mp (hp.mem_iff.mp h)
theorem qb {m i:Nat}{A B:List Nat}(e:List.range m=A++i::B):i=A.length:=by
 have h:=F_ (fun l=>l[A.length]?) e;simp only[Qp (u_ _),Nat.sub_self,QF] at h;have hl:A.length<m:=by have:=F_ List.length e;simp only[t_,a_,j_] at this;omega
 rw[Sh hl] at h;exact (Qu h).symm
theorem lV {m:Nat}{A B:List Nat}(e:List.range m=A++B):A=List.range A.length:=by
 have h:=F_ (List.take A.length) e;rw[List.take_left',List.take_range] at h
 ·have hl:A.length<=m:=by have:=F_ List.length e;simp only[t_,a_] at this;omega
  rw[Nat.min_eq_left hl] at h;exact h.symm
 rfl
def tkD (ws:List Str) (ls:List Int) (kk:List (List Str)) (k:Nat):Str × Int × List Str:=(ws.getD k "",ls.getD k 0,kk.getD k [])
def oD (ws:List Str) (tv:List Nat) (x:Nat × Nat):Str × Str:=(ws.getD (tv.getD x.1 0) "",ws.getD (tv.getD x.2 0) "")
theorem getD_mem {α:Type}{l:List α}{d:α}{i:Nat}(h:i<l.length):l.getD i d∈l:=by
 rw[A_,d_ h];exact Qx h
theorem jW {tv:List Nat}(h:tv.Nodup) {i j:Nat}(hi:i<tv.length) (hj:j<tv.length) (e:tv.getD i 0=tv.getD j 0):i=j:=by
 rw[A_,A_,d_ hi,d_ hj] at e;have e':tv[i]=tv[j]:=e;have pw:=List.pairwise_iff_getElem.mp h;rcases Nat.lt_trichotomy i j with q | q | q
 ·exact absurd e' (pw i j hi hj q)
 ·exact q
 exact absurd e'.symm (pw j i hj hi q)
theorem Ca (ws:List Str) (ls:List Int) (kk:List (List Str)):((List.range ws.length).map (tkD ws ls kk)).map (·.1)=ws:=by
 apply List.ext_getElem?;intro i;rw[G_,G_];by_cases h:i<ws.length
 ·rw[Sh h,d_ h];simp [tkD,A_,d_ h]
 rw[Qz (by simp;omega),Qz (by omega)];rfl
theorem Nu {ws:List Str}{ls:List Int}{kk:List (List Str)}{tv:List Nat}{os:List (Nat × Nat)}{prs:List (Str × Str × Str)}{row:List Str}(hws:Nms ws) (w1:1<=ws.length) (w8:ws.length<=8) (hll:ls.length=ws.length) (hlb:∀l∈ls,1<=l/\l<10^60) (hkk:kk.length=ws.length) (hkb:∀k∈kk,Nms k/\k.length<=4)
  (tvl:tv.length=ws.length) (tvn:tv.Nodup) (tvm:∀x∈tv,x<ws.length) (ol:os.length<=28) (ond:os.Nodup) (oin:∀x∈os,x.1<x.2/\x.2<ws.length) (p12:prs.length<=12) (pnd:prs.Nodup) (pok:∀x∈prs,(x.1="with"\/x.1="apart")/\x.2.1≠x.2.2/\x.2.1∈ws/\x.2.2∈ws)
  (r1:1<=row.length) (r8:row.length<=8) (rn:∀x∈row,isNm x):WkOk ⟨(List.range ws.length).map (tkD ws ls kk),os.map (oD ws tv),prs,row⟩:=by
 have e:=Ca ws ls kk;have tm:∀i,i<ws.length->tv.getD i 0<ws.length:=fun i hi=>tvm _ (getD_mem (by omega));refine⟨by show 1<=((List.range ws.length).map (tkD ws ls kk)).length;rw[g_,t_];exact w1,by show ((List.range ws.length).map (tkD ws ls kk)).length<=8;rw[g_,t_];exact w8,fun t ht=>?_,by show (((List.range ws.length).map (tkD ws ls kk)).map (·.1)).Nodup;rw[e];exact hws.nd,by show (os.map (oD ws tv)).length<=28;rw[g_];exact ol,?_,fun o ho=>?_,p12,pnd,fun q hq=>?_,r1,r8,rn⟩
 ·obtain⟨k,hk,rfl⟩:=C_.mp ht;have hk':=L_.mp hk;have hl:=hlb _ (getD_mem (d:=0) (show k<ls.length by omega));have hkd:=hkb _ (getD_mem (d:=[]) (show k<kk.length by omega));exact⟨hws.nm _ (getD_mem hk'),hl.1,hl.2,hkd.1,hkd.2⟩
 ·show (os.map (oD ws tv)).Nodup;rw[List.Nodup,S_];refine Sx (fun {x y} hx hy hne he=>hne ?_) ond;have ox:=oin x hx;have oy:=oin y hy;obtain⟨i1,j1⟩:=x;obtain⟨i2,j2⟩:=y;simp only at ox oy;simp only[oD,Prod.mk.injEq] at he;have q1:=eF hws.nd (tm i1 (by omega)) (tm i2 (by omega)) he.1;have q2:=eF hws.nd (tm j1 (by omega)) (tm j2 (by omega)) he.2;rw[jW tvn (by omega) (by omega) q1,jW tvn (by omega) (by omega) q2]
 ·show _/\o.1∈((List.range ws.length).map (tkD ws ls kk)).map (·.1)/\o.2∈((List.range ws.length).map (tkD ws ls kk)).map (·.1);rw[e];obtain⟨x,hx,rfl⟩:=C_.mp ho;have ox:=oin x hx;refine⟨fun h=>?_,getD_mem (tm _ (by omega)),getD_mem (tm _ (by omega))⟩;have:=jW tvn (by omega) (by omega) (eF hws.nd (tm _ (by omega)) (tm _ (by omega)) h);omega
 show _/\_/\q.2.1∈((List.range ws.length).map (tkD ws ls kk)).map (·.1)/\q.2.2∈((List.range ws.length).map (tkD ws ls kk)).map (·.1);rw[e];exact pok q hq
theorem Eo {ls:List Int}{i:Nat}(h:i<ls.length):atI (ls.map T.int) (i:Int)=some (.int (ls.getD i 0)):=bH (by rw[G_,d_ h,A_,d_ h];rfl)
theorem Nv {ls:List (List Str)}{i:Nat}(h:i<ls.length):atI (ls.map sT) (i:Int)=some (sT (ls.getD i [])):=bH (by rw[G_,d_ h,A_,d_ h];rfl)
theorem Wt.kep {c:Addr}{H0 H H':Hp3}{fs:List (Addr × O3)}(w:Wt c H0 H fs) (cl:Cl H' c) (kp:Kep c H H'):Wt c H0 H' fs:=⟨cl,fun b o h h1=>kp b o (w.kp b o h h1) h1,fun p hp=>⟨kp _ _ (w.at' p hp).1 (w.at' p hp).2,(w.at' p hp).2⟩⟩
def tri (m:Nat) (A:List Nat):List (Nat × Nat):=A.flatMap fun i=>(List.range' (i+1) (m - (i+1))).map fun j=>(i,j)
theorem Jx:∀m:_root_.Fin 9,(tri m.val (List.range m.val)).Nodup:=by decide +kernel
theorem t7:∀m:_root_.Fin 9,(tri m.val (List.range m.val)).length<=28:=by decide +kernel
theorem yE (m:Nat) (A:List Nat) (i:Nat):tri m (A++[i])=tri m A++(List.range' (i+1) (m - (i+1))).map fun j=>(i,j):=by simp [tri]
def oT (tv:List Nat) (x:Nat × Nat):T:=.tup [.int ((tv.getD x.1 0:Nat):Int),.int ((tv.getD x.2 0:Nat):Int)]
theorem Nx (i m:Nat):cN ((i:Int)+1) ((m:Int) - ((i:Int)+1)).toNat=(List.range' (i+1) (m - (i+1))).map fun (j:Nat)=>T.int (j:Int):=by
 rw[show ((m:Int) - ((i:Int)+1)).toNat=m - (i+1) by omega];generalize m - (i+1)=n;unfold cN;rw[List.range'_eq_map_range,O_];exact QL fun k _=>by show T.int _=T.int _;congr 1
theorem Ep {tv:List Nat}{i:Nat}(h:i<tv.length):atI (tv.map fun (k:Nat)=>T.int (k:Int)) (i:Int)=some (.int ((tv.getD i 0:Nat):Int)):=bH (by rw[G_,d_ h,A_,d_ h];rfl)
theorem Er (tv:List Nat) (ps:List (Nat × Nat)):(ps.map (oT tv)).all (pl 20)=true:=by rw[J_];intro t ht;obtain⟨x,_,rfl⟩:=C_.mp ht;rfl
theorem Ny (ks:List Nat):(ks.map fun (k:Nat)=>T.int (k:Int)).all (pl 20)=true:=by rw[J_];intro t ht;obtain⟨x,_,rfl⟩:=C_.mp ht;rfl
theorem Cd {m:Nat}{x:Nat × Nat}{A:List Nat}(hA:∀i∈A,i<m) (h:x∈tri m A):x.1<x.2/\x.2<m:=by
 obtain⟨i,hi,hx⟩:=List.mem_flatMap.mp h;obtain⟨j,hj,rfl⟩:=C_.mp hx;have:=List.mem_range'_1.mp hj;exact⟨by omega,by omega⟩
structure Ci (H:Hp3) (a:Addr) (ds:List Int):Prop where
 at_:H a=some (.lst (ds.map T.int))
 le:ds.length<=504
structure Di (a:Addr) (H H':Hp3) (ds:List Int):Prop where
 cl:Ci H' a ds
 off:∀b,b≠a->H' b=H b
theorem Ci.refl {a:Addr}{H:Hp3}{ds:List Int}(D:Ci H a ds):Di a H H ds:=⟨D,fun _ _=>rfl⟩
theorem Ci.ne {a p:Addr}{H:Hp3}{ds:List Int}(D:Ci H a ds) (hp:H p=none):p≠a:=fun e=>by have h:=D.at_;rw[<- e,hp] at h;cases h
theorem Ci.new {a p:Addr}{H:Hp3}{u:O3}{ds:List Int}(D:Ci H a ds) (h:p≠a):Ci (up3 H p u) a ds:=⟨by rw[aF (Ne.symm h)];exact D.at_,D.le⟩
theorem Kep.di {a:Addr}{H H1 H2:Hp3}{ds:List Int}(x:Kep a H H1) (y:Di a H1 H2 ds):Kep a H H2:=fun b o h h1=>by rw[y.off b h1];exact x b o h h1
theorem jX {a:Addr}{H H':Hp3}{Q:VK3}{v:T}{ds:List Int}(D:Ci H' a ds) (k:Kep a H H') (q:∀H'',Di a H H'' ds->Q v H''):Fin3 Q v H':=by
 refine⟨fun b=>if b=a then H' b else H b,fun b o hb=>?_,q _ ⟨⟨?_,D.le⟩,fun b h1=>?_⟩⟩
 ·by_cases h:b=a
  ·simp only[h,if_true] at hb ⊢;exact hb
  simp only[h,Q4] at hb;exact k b o hb h
 ·simp only[if_true];exact D.at_
 simp only[h1,Q4]
theorem gO {d p:Addr}{H H':Hp3}{Q:VK3}{o:O3}{ds:List Int}(D:Ci H' d ds) (k:Kep d H H') (hp:H' p=some o) (h0:H p=none) (hd:p≠d) (q:∀H1,Di d H H1 ds->H1 p=none->Q (.ref p) (up3 H1 p o)):Fin3 Q (.ref p) H':=by
 refine⟨up3 (fun b=>if b=d then H' b else H b) p o,fun b u hb=>?_,q _ ⟨⟨?_,D.le⟩,fun b h1=>?_⟩ ?_⟩
 ·by_cases e:b=p
  ·subst e;rw[aC] at hb;rw[hp];exact hb
  rw[aF e] at hb;by_cases h:b=d
  ·simp only[h,if_true] at hb ⊢;exact hb
  simp only[h,Q4] at hb;exact k b u hb h
 ·simp only[if_true];exact D.at_
 ·simp only[h1,Q4]
 simp only[hd,Q4];exact h0
structure Wi (c:Addr) (ds:List Int) (H0 H:Hp3) (fs:List (Addr × O3)):Prop where
 cl:Ci H c ds
 kp:Kep c H0 H
 at':∀p∈fs,H p.1=some p.2/\p.1≠c
section
variable {c p:Addr}{ds d':List Int}{H0 H H':Hp3}{fs:List (Addr × O3)}{o:O3}
theorem Wi.drw (w:Wi c ds H0 H fs) (d:Di c H H' d'):Wi c d' H0 H' fs:=⟨d.cl,w.kp.di d,fun p hp=>⟨by rw[d.off _ (w.at' p hp).2];exact (w.at' p hp).1,(w.at' p hp).2⟩⟩
theorem Wi.new (w:Wi c ds H0 H fs) (hp:H p=none):Wi c ds H0 (up3 H p o) ((p,o)::fs):=⟨w.cl.new (w.cl.ne hp),w.kp.new hp,fun q hq=>by
 rcases k_.mp hq with rfl | hq
 ·exact⟨aC,w.cl.ne hp⟩
 exact⟨by rw[aF (aY (w.at' q hq).1 hp)];exact (w.at' q hq).1,(w.at' q hq).2⟩⟩
theorem Wi.hd (w:Wi c ds H0 H ((p,o)::fs)):H p=some o:=(w.at' (p,o) i_).1
theorem Wi.tl {q:Addr × O3}(w:Wi c ds H0 H (q::fs)):Wi c ds H0 H fs:=⟨w.cl,w.kp,fun p hp=>w.at' p (q_ _ hp)⟩
theorem Wi.set (w:Wi c ds H0 H ((p,o)::fs)) (hp0:H0 p=none) (hd:∀q∈fs,q.1≠p) (o':O3):Wi c ds H0 (up3 H p o') ((p,o')::fs) :=
 have hc:=(w.at' (p,o) i_).2
 ⟨w.cl.new hc,w.kp.at hp0,fun q hq=>by
  rcases k_.mp hq with rfl | hq
  ·
   exact⟨aC,hc⟩
  ·
   exact⟨by rw[aF (hd q hq)];exact (w.at' q (q_ _ hq)).1,(w.at' q (q_ _ hq)).2⟩⟩
theorem Wi.fresh (w:Wi c ds H0 H fs) (hp:H p=none):H0 p=none:=by
 cases e:H0 p with
 |none=>rfl
 |some o=>rw[w.kp p o e (w.cl.ne hp)] at hp;cases hp
theorem Wi.swap {q:Addr}{u:O3}(w:Wi c ds H0 H [(p,o),(q,u)]):Wi c ds H0 H [(q,u),(p,o)]:=⟨w.cl,w.kp,fun x hx=>w.at' x (by
 rcases k_.mp hx with rfl | hx
 ·
  simp
 ·
  rw[b_.mp hx];simp)⟩
end
def drF (ds:List Int) (m:Int):Int × List Int:=match ds.getLast? with
 |none=>(0,ds)
 |some x=>(x%m,ds.dropLast)
theorem yF (r:List Int) (n m:Int):drF (r++[n]) m=(n%m,r):=by unfold drF;simp
def grS (s:Int × List Int) (_:Nat):Int × List Int:=(s.1*10^12+(drF s.2 (10^12)).1,(drF s.2 (10^12)).2)
def grF (ds:List Int) (m:Int):Int × List Int:=(((List.range 6).foldl grS (0,ds)).1%m,((List.range 6).foldl grS (0,ds)).2)
def tuF:Nat->List Int->List T->List T->List T × List Int
 |0,ds,_,fs=>(fs,ds)
 |n+1,ds,ls,fs=>if ls=[] then (fs,ds) else tuF n (drF ds ls.length).2 (ls.eraseIdx (drF ds ls.length).1.toNat) (fs++[ls.getD (drF ds ls.length).1.toNat .non])
def kO:Sp3:=fun ts H Q=>∃(d:Addr) (m:Int) (ds:List Int),ts=[.ref d,.int m]/\0<m/\Ci H d ds/\∀(n:Int) (d1:List Int) (H':Hp3),drF ds m=(n,d1)->0<=n->n<m->Di d H H' d1->Q (.int n) H'
def Jy:Sp3:=fun ts H Q=>∃(d:Addr) (m:Int) (ds:List Int),ts=[.ref d,.int m]/\0<m/\Ci H d ds/\∀(n:Int) (d1:List Int) (H':Hp3),grF ds m=(n,d1)->0<=n->n<m->Di d H H' d1->Q (.int n) H'
def yG:Sp3:=fun ts H Q=>∃(d a:Addr) (xs:List T) (ds:List Int),ts=[.ref d,.ref a]/\a≠d/\H a=some (.lst xs)/\xs.all (pl 20)=true/\xs.length<=60/\Ci H d ds/\∀(ys:List T) (d1:List Int) (H1:Hp3) (p:Addr),tuF 60 ds xs []=(ys,d1)->ys.Perm xs->Di d H H1 d1->H1 p=none->Q (.ref p) (up3 H1 p (.lst ys))
def tot:List Str->Int->Int
 |[],_=>0
 |_::r,b=>(if b%2=1 then 1 else 0)+2*tot r (b / 2)
universe u
variable {α:Type u}
theorem yH [DecidableEq α]:∀{l m:List α},l.Nodup->(∀x∈l,x∈m)->l.length<=m.length:=by
 intro l;induction l with
 |nil=>intro m _ _;exact S6 _
 |cons a l ih =>
 intro m nd hs;rw[QB] at nd;have ha:=hs a i_;have h:=ih (m:=m.erase a) nd.2 fun x hx=>by have hx':=hs x (q_ _ hx);have hne:x≠a:=fun e=>nd.1 (e▸hx);exact (List.mem_erase_of_ne hne).mpr hx'
 have e:=List.length_erase_of_mem ha;have p:0<m.length:=List.length_pos_of_mem ha;simp only[j_];omega
def dF (F:List Str):List (Str × T):=F.map fun z=>(z,T.bl true)
structure Hs (H:Hp3) (fs:List (Addr × O3)):Prop where
 at':∀q∈fs,H q.1=some q.2
 nd:(fs.map (·.1)).Nodup
theorem Hs.nil {H:Hp3}:Hs H []:=⟨fun _ h=>(nomatch h),RP⟩
theorem Hs.hd {H:Hp3}{p:Addr}{o:O3}{fs:List (Addr × O3)}(w:Hs H ((p,o)::fs)):H p=some o:=w.at' (p,o) i_
theorem Hs.tl {H:Hp3}{p:Addr × O3}{fs:List (Addr × O3)}(w:Hs H (p::fs)):Hs H fs:=⟨fun q hq=>w.at' q (q_ _ hq),(QB.mp w.nd).2⟩
theorem Hs.new {H:Hp3}{fs:List (Addr × O3)}(w:Hs H fs) {p:Addr}{o:O3}(hp:H p=none):Hs (up3 H p o) ((p,o)::fs):=by
 have ne:∀q∈fs,q.1≠p:=fun q hq e=>by have:=w.at' q hq;rw[e,hp] at this;cases this
 refine⟨fun q hq=>?_,?_⟩
 ·rcases k_.mp hq with rfl | hq
  ·exact aC
  rw[aF (ne q hq)];exact w.at' q hq
 rw[m_,QB];refine⟨fun h=>?_,w.nd⟩;obtain⟨q,hq,e⟩:=C_.mp h;exact ne q hq e
theorem Hs.set {H:Hp3}{fs:List (Addr × O3)}{p:Addr}{o:O3}(w:Hs H ((p,o)::fs)) (o':O3):Hs (up3 H p o') ((p,o')::fs):=by
 have nd:=w.nd;rw[m_,QB] at nd;refine⟨fun q hq=>?_,by rw[m_,QB];exact nd⟩;rcases k_.mp hq with rfl | hq
 ·exact aC
 have ne:q.1≠p:=fun e=>nd.1 (C_.mpr ⟨q,hq,e⟩);rw[aF ne];exact w.at' q (q_ _ hq)
theorem Hs.sub {H:Hp3}{fs gs:List (Addr × O3)}(w:Hs H fs) (h:gs.Sublist fs):Hs H gs:=⟨fun q hq=>w.at' q (h.subset hq),List.Nodup.sublist (h.map _) w.nd⟩
theorem Hs.of {H:Hp3}{p:Addr}{o:O3}(h:H p=some o):Hs H [(p,o)]:=⟨fun q hq=>by rw[b_.mp hq];exact h,by simp⟩
theorem Hs.le {H H':Hp3}{fs:List (Addr × O3)}(w:Hs H fs) (h:Sub3 H H'):Hs H' fs:=⟨fun q hq=>h _ _ (w.at' q hq),w.nd⟩
def dN (ns:List Str) (f:Str->Nat):List (Str × T):=ns.map fun n=>(n,T.int (f n:Int))
def fu (f:Str->Nat) (n:Str) (v:Nat):Str->Nat:=fun x=>if x=n then v else f x
theorem bR {f:Str->Nat}{n:Str}:∀{ns:List Str},n∈ns->bU n (dN ns f)=some (T.int (f n:Int))
 |x::r,h=>by
  unfold dN
  rw[m_]
  unfold bU
  by_cases e:x=n
  ·
   rw[if_pos e,e]
  ·
   rw[if_neg e]
   exact bR (ns:=r) ((k_.mp h).resolve_left (Ne.symm e))
theorem nJ {ns:List Str}{f:Str->Nat}{n:Str}{v:Nat}(h:n∈ns):put3 n (T.int (v:Int)) (dN ns f)=dN ns (fu f n v):=by
 unfold put3 dN;rw[if_pos (by rw[RM];exact⟨(n,T.int (f n:Int)),C_.mpr ⟨n,h,rfl⟩,by simp⟩),O_];refine QL fun x hx=>?_;show (if x=n then (x,T.int (v:Int)) else (x,T.int (f x:Int)))=(x,T.int ((fu f n v x:Nat):Int));unfold fu;by_cases e:x=n
 ·rw[if_pos e,if_pos e]
 rw[if_neg e,if_neg e]
theorem yI {ns:List Str}{f:Str->Nat}{n:Str}{v:Nat}(h:n∉ns):put3 n (T.int (v:Int)) (dN ns f)=dN (ns++[n]) (fu f n v):=by
 unfold put3 dN;rw[if_neg (by
  intro e
  rw[RM] at e
  obtain⟨x,hx,e⟩:=e
  obtain⟨y,hy,rfl⟩:=C_.mp hx
  exact h (Q5 e▸hy)),B_]
 congr 1
 ·refine QL fun x hx=>?_;unfold fu;rw[if_neg (fun (e:x=n)=>h (e▸hx))]
 unfold fu;rw[List.map_singleton,if_pos rfl]
theorem ji (ns:List Str) (f:Str->Nat):(dN ns f).length=ns.length:=g_ _
def mu (m:Nat) (ns:List Str) (f:Str->Nat):Nat:=(ns.map fun n=>m - f n).sum
theorem Es {m:Nat}{f g:Str->Nat}(h:∀n,f n<=g n):∀ns,mu m ns g<=mu m ns f
 |[]=>u_ _
 |x::r=>by
  have:=Es (m:=m) h r
  have:=h x
  unfold mu at *
  rw[m_,m_,QK,QK]
  omega
theorem ud {m:Nat}{f g:Str->Nat}{x:Str}(h:∀n,f n<=g n) (h1:f x<g x) (h2:f x<m):∀{ns},x∈ns->mu m ns g+1<=mu m ns f
 |y::r,hx=>by
  have a:=Es (m:=m) h r
  have b:=h y
  rcases k_.mp hx with rfl | hx
  ·
   unfold mu at *
   rw[m_,m_,QK,QK]
   omega
  ·
   have c:=ud h h1 h2 hx
   unfold mu at *
   rw[m_,m_,QK,QK]
   omega
theorem yJ {f:Str->Nat}{n:Str}{v:Nat}(h:f n<=v) (x:Str):f x<=fu f n v x:=by
 unfold fu;by_cases e:x=n
 ·rw[if_pos e,e];exact h
 rw[if_neg e];exact u_ _
theorem ue {f:Str->Nat}{n:Str}{v:Nat}:fu f n v n=v:=if_pos rfl
theorem uf {f:Str->Nat}{n:Str}{v m:Nat}(h:∀x,f x<m) (hv:v<m) (x:Str):fu f n v x<m:=by
 unfold fu;by_cases e:x=n
 ·rw[if_pos e];exact hv
 rw[if_neg e];exact h x
theorem Wt.swap3 {c p q r:Addr}{H0 H:Hp3}{o u v:O3}(w:Wt c H0 H [(p,o),(q,u),(r,v)]):Wt c H0 H [(q,u),(p,o)]:=⟨w.cl,w.kp,fun x hx=>w.at' x (by
 rcases k_.mp hx with rfl | hx
 ·
  simp
 ·
  rw[b_.mp hx];simp)⟩
theorem Jz {H:Hp3}{a:Addr}{o:O3}(h:H a=some o):up3 H a o=H:=by
 funext b;by_cases e:b=a
 ·subst e;rw[aC,h]
 rw[aF e]
def Nz:Sp3:=fun ts H Q=>∃(W:Wk) (a:Addr) (f:Str->Nat) (m:Nat),ts=[W.enc,.ref a]/\WkOk W/\H a=some (.dct (dN (W.tasks.map (·.1)) f))/\(∀n,f n<m)/\∀g:Str->Nat,(∀n,g n<m)->Q .non (up3 H a (.dct (dN (W.tasks.map (·.1)) g)))
def g8 (ns:List Str) (f:Str->Nat) (m:Nat):List (List Str):=(List.range m).map fun k=>ns.filter fun n=>decide (f n=k)
def NB:Sp3:=fun ts H Q=>∃(d:Addr) (W:Wk),ts=[.ref d,W.enc]/\WkOk W/\Cl H d/\∀(ns:List Str) (f:Str->Nat) (m:Nat) (H':Hp3),ns.Perm (W.tasks.map (·.1))->1<=m->m<=W.row.length->(∀n,f n<m)->Drw d H H'->Q (.tup ((g8 ns f m).map sT)) H'
def shn:Nat->T->Bool
 |_,.int _=>true
 |_,.str _=>true
 |_,.non=>true
 |d+1,.tup ts=>decide (ts.length<=sizeLine)&&ts.all (shn d)
 |_,_=>false
theorem JB {ts:List T}{i:Nat}(h:i<ts.length):atI ts (i:Int)=some ts[i]:=by
 rw[show atI ts (i:Int)=(ixN ts.length (i:Int)).bind (ts[·]?) from rfl,jG h];exact d_ h
def m6 (d:Nat):Sp3:=fun ts H Q=>∃t,d≠0/\ts=[t,t]/\shn (d - 1) t=true/\Q (.bl true) H
theorem pI {P:Program}{w:World}{K:Frag}{mg:Str->Option Value}{base:Heap}{k:Nat}{f:Addr}{fd:FuncData}{ps:List Str}{sp:Sp3}(h:∀ts H Q,¬sp ts H Q):FnOk3 P w K mg base k f fd ps sp :=
 ⟨fun vs H Q E ⟨ts,H3,Q3,_,_,q,_⟩=>absurd q (h _ _ _),fun A outer s H args us vs Q E _ _ _ _ ⟨ts,H3,Q3,_,_,q,_⟩=>absurd q (h _ _ _)⟩
def iN (ts:List (Str × Int × List Str)):List (Str × T):=ts.map fun t=>(t.1,T.int t.2.1)
def lnOf (ts:List (Str × Int × List Str)) (n:Str):Int:=match ts.find? (fun t=>decide (t.1=n)) with
 |some t=>t.2.1
 |none=>0
theorem nM {n:Str}:∀{ts:List (Str × Int × List Str)},n∈ts.map (·.1)->bU n (iN ts)=some (T.int (lnOf ts n))
 |t::r,h=>by
  unfold iN lnOf
  rw[m_,QT]
  unfold bU
  by_cases e:t.1=n
  ·
   rw[if_pos e,y_ e]
  ·
   rw[if_neg e,o_ e]
   exact nM (ts:=r) ((k_.mp (show n∈t.1::r.map (·.1) from h)).resolve_left (Ne.symm e))
theorem yK {ts:List (Str × Int × List Str)}{t:Str × Int × List Str}(h:t.1∉ts.map (·.1)):put3 t.1 (T.int t.2.1) (iN ts)=iN (ts++[t]):=by
 unfold put3 iN;rw[if_neg (by
  intro e
  rw[RM] at e
  obtain⟨x,hx,e⟩:=e
  obtain⟨y,hy,rfl⟩:=C_.mp hx
  exact h (Q5 e▸C_.mpr ⟨y,hy,rfl⟩)),B_]
 rfl
theorem yL (ts:List (Str × Int × List Str)):(iN ts).length=ts.length:=g_ _
def smL (tk:List (Str × Int × List Str)) (ns:List Str):Int:=(ns.map (lnOf tk)).sum
def NK:Sp3:=fun ts H Q=>∃(W:Wk) (D:List (List Str)),ts=[W.enc,.tup (D.map sT)]/\WkOk W/\D.length<=8/\(∀ns∈D,ns.length<=8/\∀n∈ns,n∈W.tasks.map (·.1))/\∀p,H p=none->Q (.ref p) (up3 H p (.lst ((D.map (smL W.tasks)).map T.int)))
def ld (tk:List (Str × Int × List Str)) (ns:List Str):Int:=((tk.filter (fun t=>cC false (.str t.1) (ns.map T.str))).map (·.2.1)).sum
def NP:Sp3:=fun ts H Q=>∃(W:Wk) (ns:List Str),ts=[W.enc,.tup (ns.map T.str)]/\W.tasks.length<=8/\Q (.int (ld W.tasks ns)) H
def NQ:Sp3:=fun ts H Q=>∃(W:Wk) (D:List (List Str)),ts=[W.enc,.tup (D.map sT)]/\W.tasks.length<=8/\D.length<=8/\Q (.tup ((D.map (ld W.tasks)).map T.int)) H
theorem ug {t:Str × Int × List Str}:∀{tk:List (Str × Int × List Str)},(tk.map (·.1)).Nodup->t∈tk->lnOf tk t.1=t.2.1
 |u::r,hn,h=>by
  rw[m_,QB] at hn
  unfold lnOf
  rw[QT]
  rcases k_.mp h with rfl | h
  ·
   rw[y_ rfl]
  ·
   rw[o_ (fun e=>hn.1 (by rw[e];exact C_.mpr ⟨t,h,rfl⟩))]
   exact ug hn.2 h
theorem yM {a b:List Int}(h:a.Perm b):a.sum=b.sum:=by
 induction h with
 |nil=>rfl
 |cons x _ ih=>rw[QK,QK,ih]
 |swap x y l=>rw[QK,QK,QK,QK];omega
 |trans _ _ h1 h2=>exact h1.trans h2
theorem NT {tk:List (Str × Int × List Str)}{ns:List Str}(hn:(tk.map (·.1)).Nodup) (hs:ns.Nodup) (hm:∀n∈ns,n∈tk.map (·.1)):smL tk ns=ld tk ns:=by
 have hb:∀t:Str × Int × List Str,cC false (.str t.1) (ns.map T.str)=true↔t.1∈ns:=fun t=>Nh eU;have e:(tk.filter (fun t=>cC false (.str t.1) (ns.map T.str))).map (·.2.1)=((tk.filter (fun t=>cC false (.str t.1) (ns.map T.str))).map (·.1)).map (lnOf tk):=by rw[O_];refine QL fun t ht=>?_;exact (ug hn (QS.mp ht).1).symm
 unfold smL ld;rw[e];refine yM (List.Perm.map _ ?_);refine (List.perm_ext_iff_of_nodup hs ((List.filter_sublist.map _).nodup hn)).mpr fun n=>⟨fun h=>?_,fun h=>?_⟩
 ·obtain⟨t,ht,rfl⟩:=C_.mp (hm n h);exact C_.mpr ⟨t,QS.mpr ⟨ht,(hb t).mpr h⟩,rfl⟩
 obtain⟨t,ht,rfl⟩:=C_.mp h;exact (hb t).mp (QS.mp ht).2
theorem lW (ns:List Str) (f:Str->Nat) (m:Nat):(g8 ns f m).length=m:=by unfold g8;rw[g_,t_]
theorem Ce:bootBuiltins "dict"=some (.type "dict"):=by decide +kernel
def oE (o:Option T):T:=o.getD .non
def IsF (o:Option T):Prop:=∀t,o=some t->shn 1 t=true/\∃a r,t=.tup (a::r)
theorem IsF.none:IsF none:=fun _ h=>(nomatch h)
theorem IsF.map {α:Type}{o:Option α}{f:α->T}(h:∀x,shn 1 (f x)=true/\∃a r,f x=.tup (a::r)):IsF (o.map f):=fun t e=>by
 obtain⟨x,_,rfl⟩:=Option.map_eq_some_iff.mp e;exact h x
theorem IsF.or {a b:Option T}(ha:IsF a) (hb:IsF b):IsF (a.or b):=fun t e=>by
 cases a with
 |none=>exact hb t e
 |some x=>exact ha t e
theorem IsF.shn {o:Option T}(h:IsF o):shn 1 (oE o)=true:=by
 cases o with
 |none=>rfl
 |some t=>exact (h t rfl).1
theorem eX {o:Option T}(h:IsF o) {p:Prop}{Q:T->Prop}(h1:o=none->p) (h2:∀t,o=some t->Q t):orq (oE o) p (Q (oE o)):=by
 cases o with
 |none=>exact h1 rfl
 |some t =>
 obtain⟨_,a,r,e⟩:=h t rfl;subst e;exact h2 _ rfl
def kW (ks:List Str) (n:Str):List Str:=if n∈ks then ks else ks++[n]
def kst (ks xs:List Str):List Str:=xs.foldl kW ks
def jY (k:Nat) (f:Str->Nat) (xs:List Str):Str->Nat:=xs.foldl (fun f n=>fu f n k) f
def kD (D:List (List Str)):List Str:=kst [] D.flatten
def fD (D:List (List Str)):Str->Nat:=D.zipIdx.foldl (fun f p=>jY p.2 f p.1) (fun _=>0)
theorem qd (ks xs:List Str) (n:Str):kst ks (xs++[n])=kW (kst ks xs) n:=by unfold kst;rw[E_];rfl
theorem qe (k:Nat) (f:Str->Nat) (xs:List Str) (n:Str):jY k f (xs++[n])=fu (jY k f xs) n k:=by unfold jY;rw[E_];rfl
theorem uh (A:List (List Str)) (s:List Str):kD (A++[s])=kst (kD A) s:=by unfold kD kst;rw[List.flatten_append,E_,List.flatten_singleton]
theorem ul (A:List (List Str)) (s:List Str):fD (A++[s])=jY A.length (fD A) s:=by
 unfold fD;rw[List.zipIdx_append,E_];simp
theorem um (ks:List Str) (f:Str->Nat) (n:Str) (k:Nat):put3 n (T.int (k:Int)) (dN ks f)=dN (kW ks n) (fu f n k):=by
 unfold kW;split
 ·rename_i h;exact nJ h
 rename_i h;exact yI h
theorem uo (x:Str):∀(xs ks:List Str),x∈kst ks xs↔x∈ks\/x∈xs
 |[],ks=>by simp [kst]
 |n::r,ks=>by
  show x∈kst (kW ks n) r↔_
  rw[uo x r]
  unfold kW
  by_cases h:n∈ks
  ·
   rw[if_pos h,k_]
   constructor
   ·
    rintro (a | a)
    ·
     exact .inl a
    ·
     exact .inr (.inr a)
   ·
    rintro (a | rfl | a)
    ·
     exact .inl a
    ·
     exact .inl h
    ·
     exact .inr a
  ·
   rw[if_neg h,v_,b_,k_,or_assoc]
theorem kst_len:∀(xs ks:List Str),(kst ks xs).length<=ks.length+xs.length
 |[],ks=>u_ _
 |n::r,ks=>by
  have h:=kst_len r (kW ks n)
  have h2:(kW ks n).length<=ks.length+1:=by unfold kW;split <;> simp
  show (kst (kW ks n) r).length<=_
  rw[j_]
  omega
theorem mem_kD {x:Str}{D:List (List Str)}:x∈kD D↔x∈D.flatten:=by
 unfold kD;rw[uo];simp
theorem yN (D:List (List Str)):(kD D).length<=D.flatten.length:=by
 have:=kst_len D.flatten [];simpa [kD] using this
theorem Et {f:Str->Nat}{n:Str}:∀{ns:List Str},n∉ns->bU n (dN ns f)=none
 |[],_=>rfl
 |x::r,h=>by
  unfold dN
  rw[m_]
  unfold bU
  rw[if_neg (fun e=>h (by rw[<- e];exact i_))]
  exact Et fun z=>h (q_ _ z)
theorem NZ (ns:List Str) (f:Str->Nat) (n:Str):(bU n (dN ns f)).isSome=decide (n∈ns):=by
 by_cases h:n∈ns
 ·rw[bR h,y_ h];rfl
 rw[Et h,o_ h];rfl
def kN (ts:List (Str × Int × List Str)):List (Str × T):=ts.map fun t=>(t.1,sT t.2.2)
def kdOf (ts:List (Str × Int × List Str)) (n:Str):List Str:=match ts.find? (fun t=>decide (t.1=n)) with
 |some t=>t.2.2
 |none=>[]
theorem nO {n:Str}:∀{ts:List (Str × Int × List Str)},n∈ts.map (·.1)->bU n (kN ts)=some (sT (kdOf ts n))
 |t::r,h=>by
  unfold kN kdOf
  rw[m_,QT]
  unfold bU
  by_cases e:t.1=n
  ·
   rw[if_pos e,y_ e]
  ·
   rw[if_neg e,o_ e]
   exact nO (ts:=r) ((k_.mp (show n∈t.1::r.map (·.1) from h)).resolve_left (Ne.symm e))
theorem JC {ts:List (Str × Int × List Str)}{t:Str × Int × List Str}(h:t.1∉ts.map (·.1)):put3 t.1 (sT t.2.2) (kN ts)=kN (ts++[t]):=by
 unfold put3 kN;rw[if_neg (by
  intro e
  rw[RM] at e
  obtain⟨x,hx,e⟩:=e
  obtain⟨y,hy,rfl⟩:=C_.mp hx
  exact h (Q5 e▸C_.mpr ⟨y,hy,rfl⟩)),B_]
 rfl
theorem JD (ts:List (Str × Int × List Str)):(kN ts).length=ts.length:=g_ _
def gW (row:List Str) (D:List (List Str)):Option T:=if D.length>row.length then some (.tup [.str "stands",.int (D.length:Int)]) else none
def fP (ns xs:List Str):Option T:=(xs.find? fun x=>!decide (x∈ns)).map fun x=>.tup [.str "strange",.str x]
def twG:List Str->List Str->Option Str
 |_,[]=>none
 |sn,x::r=>if x∈sn then some x else twG (sn++[x]) r
def twF (xs:List Str):Option T:=(twG [] xs).map fun x=>.tup [.str "twice",.str x]
def fQ (ns xs:List Str):Option T:=(ns.find? fun n=>!decide (n∈xs)).map fun n=>.tup [.str "lost",.str n]
def iW (f:Str->Nat) (os:List (Str × Str)):Option T:=(os.find? fun o=>decide (f o.2<f o.1)).map fun o=>.tup [.str "order",.str o.1,.str o.2]
def iJ (f:Str->Nat) (ps:List (Str × Str × Str)):Option T:=(ps.find? fun p=>decide (f p.2.1=f p.2.2) != decide (p.1=("with":Str))).map fun p=>.tup [.str p.1,.str p.2.1,.str p.2.2]
def okK (ks:List Str) (k:Str):Bool:=decide (ks=[])||decide (k∈ks)
def gF (kd:Str->List Str) (row:List Str):Nat->List (List Str)->Option T
 |_,[]=>none
 |k,s::r=>match s.find? fun n=>!okK (kd n) (row.getD k "") with
  |some n=>some (.tup [.str "kind",.str n,.int (k:Int)])
  |none=>gF kd row (k+1) r
def d7 (g:List Str->Int) (beat:Int):Nat->List (List Str)->Option T
 |_,[]=>none
 |k,s::r=>if g s>beat then some (.tup [.str "beat",.int (k:Int)]) else d7 g beat (k+1) r
def vC (W:Wk) (D:List (List Str)):Option T:=(gW W.row D).or ((fP (W.tasks.map (·.1)) D.flatten).or ((twF D.flatten).or (fQ (W.tasks.map (·.1)) D.flatten)))
def qg (ns xs:List Str):Option T:=(fP ns xs).or ((twF xs).or (fQ ns xs))
def vD (W:Wk) (beat:Int) (D:List (List Str)):Option T:=(iW (fD D) W.orders).or ((iJ (fD D) W.pairs).or ((gF (kdOf W.tasks) W.row 0 D).or (d7 (ld W.tasks) beat 0 D)))
def flt (W:Wk) (beat:Int) (D:List (List Str)):Option T:=(vC W D).or (vD W beat D)
theorem uq (row:List Str) (D:List (List Str)):IsF (gW row D):=fun t e=>by
 unfold gW at e;split at e
 ·cases e;exact⟨rfl,_,_,rfl⟩
 cases e
theorem nP (ns xs:List Str):IsF (fP ns xs):=IsF.map fun x=>⟨rfl,_,_,rfl⟩
theorem rK (xs:List Str):IsF (twF xs):=IsF.map fun x=>⟨rfl,_,_,rfl⟩
theorem ut (ns xs:List Str):IsF (fQ ns xs):=IsF.map fun x=>⟨rfl,_,_,rfl⟩
theorem uv (f:Str->Nat) (os:List (Str × Str)):IsF (iW f os):=IsF.map fun x=>⟨rfl,_,_,rfl⟩
theorem uw (f:Str->Nat) (ps:List (Str × Str × Str)):IsF (iJ f ps):=IsF.map fun x=>⟨rfl,_,_,rfl⟩
theorem nQ (kd:Str->List Str) (row:List Str):∀(D:List (List Str)) (k:Nat),IsF (gF kd row k D)
 |[],k=>IsF.none
 |s::r,k=>fun t e=>by
  unfold gF at e
  split at e
  ·
   cases e;exact⟨rfl,_,_,rfl⟩
  ·
   exact nQ kd row r (k+1) t e
theorem ux (g:List Str->Int) (beat:Int):∀(D:List (List Str)) (k:Nat),IsF (d7 g beat k D)
 |[],k=>IsF.none
 |s::r,k=>fun t e=>by
  unfold d7 at e
  split at e
  ·
   cases e;exact⟨rfl,_,_,rfl⟩
  ·
   exact ux g beat r (k+1) t e
theorem Cg (ns xs:List Str):IsF (qg ns xs):=(nP _ _).or ((rK _).or (ut _ _))
theorem uA (W:Wk) (D:List (List Str)):IsF (vC W D):=(uq _ _).or ((nP _ _).or ((rK _).or (ut _ _)))
theorem Cj (W:Wk) (beat:Int) (D:List (List Str)):IsF (vD W beat D):=(uv _ _).or ((uw _ _).or ((nQ _ _ _ _).or (ux _ _ _ _)))
theorem Ck (W:Wk) (beat:Int) (D:List (List Str)):IsF (flt W beat D):=(uA _ _).or (Cj _ _ _)
theorem cF {α:Type}{p:α->Bool}{A B:List α}{x:α}(h:∀a∈A,p a=false) (hx:p x=true):(A++x::B).find? p=some x:=by
 rw[Tc,RV.mpr (fun a ha=>by rw[h a ha];exact p_),QT,hx];rfl
theorem dj {α:Type}{p:α->Bool}{A:List α}(h:∀a∈A,p a=false):A.find? p=none:=RV.mpr fun a ha=>by rw[h a ha];exact p_
theorem str_none {ns xs:List Str}(h:fP ns xs=none):∀x∈xs,x∈ns:=fun x hx=>by
 unfold fP at h;rw[Option.map_eq_none_iff,RV] at h;have:=h x hx;simpa using this
theorem yO {ns xs:List Str}(h:fQ ns xs=none):∀n∈ns,n∈xs:=fun x hx=>by
 unfold fQ at h;rw[Option.map_eq_none_iff,RV] at h;have:=h x hx;simpa using this
theorem nR {sn:List Str}{x:Str}{B:List Str}:∀{A:List Str},(sn++A).Nodup->x∈sn++A->twG sn (A++x::B)=some x
 |[],_,h=>by
  show twG sn (x::B)=_
  unfold twG
  rw[if_pos (by simpa using h)]
 |a::A,hn,h=>by
  show twG sn (a::(A++x::B))=_
  unfold twG
  have ha:a∉sn:=fun z=>by
   rw[Q9] at hn
   exact hn.2.2 a z a i_ rfl
  rw[if_neg ha]
  exact nR (by simpa using hn) (by simpa using h)
theorem rM {sn:List Str}:∀{A:List Str},(sn++A).Nodup->twG sn A=none
 |[],_=>rfl
 |a::A,hn=>by
  unfold twG
  have ha:a∉sn:=fun z=>by
   rw[Q9] at hn
   exact hn.2.2 a z a i_ rfl
  rw[if_neg ha]
  exact rM (by simpa using hn)
theorem yP:∀{A sn:List Str},sn.Nodup->twG sn A=none->(sn++A).Nodup
 |[],sn,hs,_=>by simpa using hs
 |a::A,sn,hs,h=>by
  unfold twG at h
  split at h
  ·
   cases h
  ·
   rename_i ha
   have:=yP (A:=A) (sn:=sn++[a]) (iR hs ha) h
   simpa using this
theorem Cm {xs:List Str}(h:twF xs=none):xs.Nodup:=by
 unfold twF at h;rw[Option.map_eq_none_iff] at h;simpa using yP (sn:=[]) RP h
theorem yQ {row:List Str}{D:List (List Str)}(h:gW row D=none):D.length<=row.length:=by
 unfold gW at h;split at h
 ·cases h
 omega
theorem or_none {a b:Option T}(h:a.or b=none):a=none/\b=none:=by
 cases a with
 |none=>exact⟨rfl,h⟩
 |some x=>cases h
structure Dok (W:Wk) (D:List (List Str)):Prop where
 rw:D.length<=W.row.length
 st:∀x∈D.flatten,x∈W.tasks.map (·.1)
 nd:D.flatten.Nodup
 al:∀n∈W.tasks.map (·.1),n∈D.flatten
theorem Dok.of {W:Wk}{D:List (List Str)}(h:vC W D=none):Dok W D:=by
 have h1:=or_none h;have h2:=or_none h1.2;have h3:=or_none h2.2;exact⟨yQ h1.1,str_none h2.1,Cm h3.1,yO h3.2⟩
theorem Dok.in {W:Wk}{D:List (List Str)}(h:Dok W D) {s:List Str}(hs:s∈D):s.Nodup/\∀n∈s,n∈W.tasks.map (·.1) :=
 ⟨(List.sublist_flatten_of_mem hs).nodup h.nd,fun n hn=>h.st n (List.mem_flatten.mpr ⟨s,hs,hn⟩)⟩
theorem lX {g g':List Str->Int}{beat:Int}:∀{D:List (List Str)}{k:Nat},(∀s∈D,g s=g' s)->d7 g beat k D=d7 g' beat k D
 |[],_,_=>rfl
 |s::r,k,h=>by
  unfold d7
  rw[h s i_,lX fun x hx=>h x (q_ _ hx)]
theorem nT {kd:Str->List Str}{row:List Str}{s:List Str}{n:Str}{B:List (List Str)}:∀{A:List (List Str)}{k:Nat},(∀j s',A[j]?=some s'->∀n∈s',okK (kd n) (row.getD (k+j) "")=true)->(s.find? fun n=>!okK (kd n) (row.getD (k+A.length) ""))=some n ->
  gF kd row k (A++s::B)=some (.tup [.str "kind",.str n,.int ((k+A.length:Nat):Int)])
 |[],k,_,h=>by
  show gF kd row k (s::B)=_
  unfold gF
  rw[show k+([]:List (List Str)).length=k from rfl] at h
  rw[h]
  rfl
 |a::A,k,hA,h=>by
  show gF kd row k (a::(A++s::B))=_
  unfold gF
  rw[dj (fun x hx=>by have q:=hA 0 a rfl x hx;rw[Nat.add_zero] at q;rw[q];rfl)]
  have e:k+(a::A).length=(k+1)+A.length:=by rw[j_];omega
  rw[e] at h ⊢
  exact nT (fun j s' hj n hn=>by have:=hA (j+1) s' hj n hn;rwa [show k+(j+1)=k+1+j by omega] at this) h
theorem kin_no {kd:Str->List Str}{row:List Str}:∀{A:List (List Str)}{k:Nat},(∀j s',A[j]?=some s'->∀n∈s',okK (kd n) (row.getD (k+j) "")=true)->gF kd row k A=none
 |[],_,_=>rfl
 |a::A,k,hA=>by
  unfold gF
  rw[dj (fun x hx=>by have q:=hA 0 a rfl x hx;rw[Nat.add_zero] at q;rw[q];rfl)]
  exact kin_no (fun j s' hj n hn=>by have:=hA (j+1) s' hj n hn;rwa [show k+(j+1)=k+1+j by omega] at this)
theorem nU {g:List Str->Int}{beat:Int}{s:List Str}{B:List (List Str)}:∀{A:List (List Str)}{k:Nat},(∀s'∈A,g s'<=beat)->g s>beat->d7 g beat k (A++s::B)=some (.tup [.str "beat",.int ((k+A.length:Nat):Int)])
 |[],k,_,h=>by
  show d7 g beat k (s::B)=_
  unfold d7
  rw[if_pos h]
  rfl
 |a::A,k,hA,h=>by
  show d7 g beat k (a::(A++s::B))=_
  unfold d7
  have:=hA a i_
  rw[if_neg (by omega),nU (fun x hx=>hA x (q_ _ hx)) h,j_,show k+1+A.length=k+(A.length+1) by omega]
theorem rN {g:List Str->Int}{beat:Int}:∀{A:List (List Str)}{k:Nat},(∀s'∈A,g s'<=beat)->d7 g beat k A=none
 |[],_,_=>rfl
 |a::A,k,hA=>by
  unfold d7
  have:=hA a i_
  rw[if_neg (by omega),rN fun x hx=>hA x (q_ _ hx)]
theorem gG {A:List (List Str)}{s:List Str}{B:List (List Str)}:(A++s::B).flatten=A.flatten++(s++B.flatten):=by rw[List.flatten_append,QQ]
theorem Cp {x:Str}{xs:List Str}:cC true (T.str x) (xs.map T.str)=!decide (x∈xs):=by
 rw[QV,Br eU];simp
theorem N5 {x:Str}{xs:List Str}:cC false (T.str x) (xs.map T.str)=decide (x∈xs):=by
 rw[QV,Nh eU];simp
theorem jk {α:Type}(enc:α->T) (xs:List α) {g:TG3}{tb:TS3}{D:Ends3}{still:Hp3->Prop}{Z:St3}{H:Hp3}(I:List α->St3->Hp3->Prop) (h0:I [] Z H) (hn:∀Z H,I xs Z H->still H/\D.nx Z H)
  (hs:∀A x B Z H (N:St3->Hp3->Prop),xs=A++x::B->I A Z H->(∀Z' H',I (A++[x]) Z' H'->N Z' H')->still H/\g (.tup [.int (A.length:Int),enc x]) Z H fun Z2 H2=>tb { D with nx:=N,ct:=N,bk:=D.nx} Z2 H2):iter3 g tb D still (d9 0 (xs.map enc)) Z H:=by
 have:∀(B A:List α) (Z:St3) (H:Hp3),xs=A++B->I A Z H->iter3 g tb D still (d9 (A.length:Int) (B.map enc)) Z H:=by
  intro B;induction B with
  |nil=>intro A Z H e h;rw[Qv] at e;subst e;exact hn Z H h
  |cons x B ih =>
  intro A Z H e h;refine hs A x B Z H _ e h fun Z' H' h'=>?_;have q:=ih (A++[x]) Z' H' (by rw[e,QC];rfl) h';rw[a_,x_,Int.natCast_add] at q;exact q
 exact this xs [] Z H rfl h0
theorem iY {α:Type}(xs:List α) {g:TG3}{tb:TS3}{D:Ends3}{still:Hp3->Prop}{Z:St3}{H:Hp3}(I:List α->St3->Hp3->Prop) (h0:I [] Z H) (hn:∀Z H,I xs Z H->still H/\D.nx Z H)
  (hs:∀A x B Z H (N:St3->Hp3->Prop),xs=A++x::B->I A Z H->(∀Z' H',I (A++[x]) Z' H'->N Z' H')->still H/\g (.int (A.length:Int)) Z H fun Z2 H2=>tb { D with nx:=N,ct:=N,bk:=D.nx} Z2 H2):iter3 g tb D still (cN 0 xs.length) Z H:=by
 have st:∀(k:Int) (n:Nat),cN k (n+1)=.int k::cN (k+1) n:=fun k n=>by
  unfold cN;rw[List.range_succ_eq_map,m_,O_];congr 1
  ·simp
  refine QL fun i _=>?_;show T.int (k+((i+1:Nat):Int))=_;congr 1;omega
 have:∀(B A:List α) (Z:St3) (H:Hp3),xs=A++B->I A Z H->iter3 g tb D still (cN (A.length:Int) B.length) Z H:=by
  intro B;induction B with
  |nil=>intro A Z H e h;rw[Qv] at e;subst e;exact hn Z H h
  |cons x B ih =>
  intro A Z H e h;rw[j_,st];refine hs A x B Z H _ e h fun Z' H' h'=>?_;have q:=ih (A++[x]) Z' H' (by rw[e,QC];rfl) h';rw[a_,x_,Int.natCast_add] at q;exact q
 exact this xs [] Z H rfl h0
theorem nY {α:Type}(enc:α->T) {A B:List α}{x:α}:atI ((A++x::B).map enc) (A.length:Int)=some (enc x):=bH (by rw[G_,Qp (u_ _)];simp)
def dB (ks:List Str):List (Str × T):=ks.map fun n=>(n,T.bl true)
theorem Eu (n:Str):∀ks:List Str,(bU n (dB ks)).isSome=decide (n∈ks)
 |[]=>by simp [dB,bU]
 |x::r=>by
  unfold dB
  rw[m_]
  unfold bU
  by_cases e:x=n
  ·
   rw[if_pos e];simp [e]
  ·
   rw[if_neg e]
   have:=Eu n r
   unfold dB at this
   rw[this]
   simp [Ne.symm e]
theorem JF {ks:List Str}{n:Str}(h:n∉ks):put3 n (T.bl true) (dB ks)=dB (ks++[n]):=by
 unfold put3 dB;rw[if_neg (by
  intro e
  rw[RM] at e
  obtain⟨x,hx,e⟩:=e
  obtain⟨y,hy,rfl⟩:=C_.mp hx
  exact h (Q5 e▸hy)),B_]
 rfl
theorem JG (ks:List Str):(dB ks).length=ks.length:=g_ _
theorem JH (ts:List T) (i:Int) (H:Hp3) (Q:VK3):ixH (some (.rol ts)) i H Q=oq (atI ts i) fun t=>Q t H:=rfl
def N6:Sp3:=fun ts H Q=>∃(a b:Addr) (ns xs:List Str),ts=[.ref a,.ref b]/\H a=some (.lst (ns.map T.str))/\H b=some (.lst (xs.map T.str))/\ns.length<=1000/\xs.length<=1000/\Q (oE (qg ns xs)) H
def N7:Sp3:=fun ts H Q=>∃(W:Wk) (beat:Int) (D:List (List Str)),ts=[W.enc,.int beat,.tup (D.map sT)]/\WkOk W/\D.flatten.length<=1000/\Dok W D/\Q (oE (vD W beat D)) H
def N8:Sp3:=fun ts H Q=>∃(d:Addr) (W:Wk),ts=[.ref d,W.enc]/\WkOk W/\Cl H d/\∀(n:Int) (H':Hp3),Drw d H H'->Q (.int n) H'
def yR:Sp3:=fun ts H Q=>∃D:List (List Str),ts=[.tup (D.map sT)]/\D.flatten.length<=1000/\∀p,H p=none->Q (.ref p) (up3 H p (.lst (D.flatten.map T.str)))
def Cq:Sp3:=fun ts H Q=>∃D:List (List Str),ts=[.tup (D.map sT)]/\D.flatten.length<=1000/\∀p,H p=none->Q (.ref p) (up3 H p (.dct (dN (kD D) (fD D))))
def Oa:Sp3:=fun ts H Q=>∃D:List (List Str),ts=[.tup (D.map sT)]/\D.flatten.length<=1000/\D.length<=1000/\∀p,H p=none->Q (.ref p) (up3 H p (.dct (dN (kD D) (fD D))))
def JK:Sp3:=fun ts H Q=>∃tk:List (Str × Int × List Str),ts=[.tup (tk.map tkT)]/\tk.length<=8/\∀p,H p=none->Q (.ref p) (up3 H p (.lst ((tk.map (·.1)).map T.str)))
def Ob:Sp3:=fun ts H Q=>∃(ks:List Str) (k:Str),ts=[sT ks,.str k]/\Q (.bl (okK ks k)) H
def Oc:Sp3:=fun ts H Q=>∃(W:Wk) (D:List (List Str)),ts=[W.enc,.tup (D.map sT)]/\Q (oE (gW W.row D)) H
def Od:Sp3:=fun ts H Q=>∃(W:Wk) (D:List (List Str)),ts=[W.enc,.tup (D.map sT)]/\WkOk W/\D.flatten.length<=1000/\Q (oE (fP (W.tasks.map (·.1)) D.flatten)) H
def Oe:Sp3:=fun ts H Q=>∃(D:List (List Str)),ts=[.tup (D.map sT)]/\D.flatten.length<=1000/\Q (oE (twF D.flatten)) H
def Og:Sp3:=fun ts H Q=>∃(W:Wk) (D:List (List Str)),ts=[W.enc,.tup (D.map sT)]/\WkOk W/\D.flatten.length<=1000/\Q (oE (fQ (W.tasks.map (·.1)) D.flatten)) H
def Oh:Sp3:=fun ts H Q=>∃(W:Wk) (D:List (List Str)),ts=[W.enc,.tup (D.map sT)]/\WkOk W/\D.flatten.length<=1000/\Dok W D/\Q (oE (iW (fD D) W.orders)) H
def Oi:Sp3:=fun ts H Q=>∃(W:Wk) (D:List (List Str)),ts=[W.enc,.tup (D.map sT)]/\WkOk W/\D.flatten.length<=1000/\Dok W D/\Q (oE (iJ (fD D) W.pairs)) H
def Oj:Sp3:=fun ts H Q=>∃(W:Wk) (D:List (List Str)),ts=[W.enc,.tup (D.map sT)]/\WkOk W/\D.flatten.length<=1000/\Dok W D/\Q (oE (gF (kdOf W.tasks) W.row 0 D)) H
def Ol:Sp3:=fun ts H Q=>∃(W:Wk) (beat:Int) (D:List (List Str)),ts=[W.enc,.int beat,.tup (D.map sT)]/\WkOk W/\Dok W D/\Q (oE (d7 (ld W.tasks) beat 0 D)) H
def Om:Sp3:=fun ts H Q=>∃(W:Wk) (D:List (List Str)),ts=[W.enc,.tup (D.map sT)]/\WkOk W/\D.flatten.length<=1000/\Q (oE (vC W D)) H
def Cr:Sp3:=fun ts H Q=>∃(W:Wk) (beat:Int) (D:List (List Str)),ts=[W.enc,.int beat,.tup (D.map sT)]/\WkOk W/\D.flatten.length<=1000/\D.length<=1000/\Q (oE (flt W beat D)) H
theorem vG {W:Wk}{ns:List Str}{f:Str->Nat}{m:Nat}(hW:WkOk W) (hp:ns.Perm (W.tasks.map (·.1))) (hm:m<=W.row.length) (hf:∀n,f n<m):Dok W (g8 ns f m):=by
 have mem:∀x,x∈(g8 ns f m).flatten↔x∈ns:=fun x=>by
  rw[List.mem_flatten];constructor
  ·rintro⟨s,hs,hx⟩;obtain⟨k,_,rfl⟩:=C_.mp hs;exact (QS.mp hx).1
  intro hx;exact⟨_,C_.mpr ⟨f x,L_.mpr (hf x),rfl⟩,QS.mpr ⟨hx,y_ rfl⟩⟩
 refine⟨by rw[lW];exact hm,fun x hx=>hp.mem_iff.mp ((mem x).mp hx),?_,fun x hx=>(mem x).mpr (hp.mem_iff.mpr hx)⟩;have nd:=hp.nodup_iff.mpr hW.nd;unfold g8;have:∀l:List Nat,l.Nodup->((l.map fun k=>ns.filter fun n=>decide (f n=k)).flatten).Nodup:=by
  intro l;induction l with
  |nil=>intro _;exact RP
  |cons k r ih =>
  intro hl;rw[QB] at hl;rw[m_,QQ,Q9];refine⟨List.filter_sublist.nodup nd,ih hl.2,fun a ha b hb e=>?_⟩;subst e;obtain⟨s,hs,hb⟩:=List.mem_flatten.mp hb;obtain⟨j,hj,rfl⟩:=C_.mp hs;have e1:=Q5 (QS.mp ha).2;have e2:=Q5 (QS.mp hb).2;exact hl.1 (by rw[<- e1,e2];exact hj)
 exact this _ List.nodup_range
theorem Dok.len {W:Wk}{D:List (List Str)}(h:Dok W D) (hW:WkOk W):D.flatten.length<=8:=by
 have:=yH h.nd h.st;rw[g_] at this;exact N_ this hW.t8
theorem nZ {P:Program}{w:World}{K:Frag}{mg:Str->Option Value}{base:Heap}{k:Nat}{x:Str}{st:Stmt}{ps:List Str}{sp sp':Sp3}(D:Cal P w K mg base k x st ps sp) (h:∀ts H Q,sp' ts H Q->sp ts H Q):Cal P w K mg base k x st ps sp':=by
 obtain⟨f,fd,g,F⟩:=D.ex;refine⟨f,fd,g,FnOk.imp F fun vs H Q E q=>?_⟩;obtain⟨ts,H3,Q3,r,sh,q,k⟩:=q;exact⟨ts,H3,Q3,r,sh,h _ _ _ q,k⟩
theorem Ci.wk {H:Hp3}{d:Addr}{ds:List Int}(h:Ci H d ds):Cl H d:=⟨ds,h.at_,h.le⟩
theorem Di.wk {H H':Hp3}{d:Addr}{ds:List Int}(h:Di d H H' ds):Drw d H H':=⟨h.cl.wk,h.off⟩
theorem Wi.wk {c:Addr}{ds:List Int}{H0 H:Hp3}{fs:List (Addr × O3)}(w:Wi c ds H0 H fs):Wt c H0 H fs:=⟨w.cl.wk,w.kp,w.at'⟩
section
variable {P:Program}{w:World}{K:Frag}{mg:Str->Option Value}{base:Heap}{k:Nat}{x:Str}{st:Stmt}{ps:List Str}
theorem uB (D:Cal P w K mg base k x st ps kO):Cal P w K mg base k x st ps Jr:=nZ D fun ts H Q ⟨d,m,e,hm,hC,q⟩=>by
 obtain⟨ns,h1,h2⟩:=hC.ex;exact⟨d,m,ns,e,hm,⟨h1,h2⟩,fun n d1 H' _ n0 n1 hD=>q n H' n0 n1 hD.wk⟩
theorem yS (D:Cal P w K mg base k x st ps Jy):Cal P w K mg base k x st ps Np:=nZ D fun ts H Q ⟨d,m,e,hm,hC,q⟩=>by
 obtain⟨ns,h1,h2⟩:=hC.ex;exact⟨d,m,ns,e,hm,⟨h1,h2⟩,fun n d1 H' _ n0 n1 hD=>q n H' n0 n1 hD.wk⟩
theorem Cu (D:Cal P w K mg base k x st ps yG):Cal P w K mg base k x st ps Nq:=nZ D fun ts H Q ⟨d,a,xs,e,h1,h2,h3,h4,hC,q⟩=>by
 obtain⟨ns,g1,g2⟩:=hC.ex;exact⟨d,a,xs,ns,e,h1,h2,h3,h4,⟨g1,g2⟩,fun ys d1 H1 p _ hp hD hn=>q ys H1 p hp hD.wk hn⟩
end
theorem Cv (xs:List (Str × Int × List Str)):(xs.map tkT).all (pl 19)=true:=by
 rw[J_];intro t ht;obtain⟨x,_,rfl⟩:=C_.mp ht;show ([T.str x.1,T.int x.2.1,.tup (x.2.2.map T.str)]:List T).all (pl 18)=true;rw[J_];intro t ht;simp only[k_,M_,Q7] at ht;rcases ht with rfl | rfl | rfl
 ·rfl
 ·rfl
 show (x.2.2.map T.str).all (pl 17)=true;rw[J_];intro t ht;obtain⟨y,_,rfl⟩:=C_.mp ht;rfl
theorem yU (W:Wk):([.tup (W.tasks.map tkT),.tup (W.orders.map orT),.tup (W.pairs.map prT),.tup (W.row.map T.str)]:List T).all (pl 20)=true:=by
 rw[J_];intro t ht;simp only[k_,M_,Q7] at ht;rcases ht with rfl | rfl | rfl | rfl
 ·exact Cv _
 ·show (W.orders.map orT).all (pl 19)=true;rw[J_];intro t ht;obtain⟨x,_,rfl⟩:=C_.mp ht;rfl
 ·show (W.pairs.map prT).all (pl 19)=true;rw[J_];intro t ht;obtain⟨x,_,rfl⟩:=C_.mp ht;rfl
 show (W.row.map T.str).all (pl 19)=true;rw[J_];intro t ht;obtain⟨x,_,rfl⟩:=C_.mp ht;rfl
theorem JL (W:Wk) (H:Hp3) (Q:VK3) (q:Q (.bl true) H):mU false W.enc W.enc H Q:=by
 show mU false (.tup [.tup (W.tasks.map tkT),.tup (W.orders.map orT),.tup (W.pairs.map prT),.tup (W.row.map T.str)]) (.tup [.tup (W.tasks.map tkT),.tup (W.orders.map orT),.tup (W.pairs.map prT),.tup (W.row.map T.str)]) H Q;rw[Dy];refine⟨yU W,yU W,?_⟩;simpa using q
theorem Cw {W:Wk}{beat:Int}{t:Str × Int × List Str}{r:List (Str × Int × List Str)}(e:W.tasks=t::r):flt W beat []=some (.tup [.str "lost",.str t.1]):=by
 unfold flt vC gW fP twF fQ;rw[e];simp [twG]
section
variable {P:Program}{w:World}{K:Frag}{mg:Str->Option Value}{base:Heap}
structure Rwx (H0 H:Hp3) (m:Nat) (as:List Addr) (tt:List (List Bool)):Prop where
 sb:Sub3 H0 H
 ll:tt.length=as.length
 r:∀(i:Nat) (a:Addr),as[i]?=some a->∃bs:List Bool,tt[i]?=some bs/\bs.length=m/\H a=some (.lst (bs.map T.bl))
 fa:∀a∈as,H0 a=none
 nd:as.Nodup
structure Tbx (H0 H:Hp3) (p:Addr) (m:Nat) (as:List Addr) (tt:List (List Bool)):Prop where
 rw:Rwx H0 H m as tt
 l:as.length=m
 t:H p=some (.lst (as.map T.ref))
 np:p∉as
 f0:H0 p=none
theorem Rwx.grow {H0 H:Hp3}{m:Nat}{as:List Addr}{tt:List (List Bool)}{q:Addr}{bs:List Bool}(x:Rwx H0 H m as tt) (hb:bs.length=m) (hq:H q=none):Rwx H0 (up3 H q (.lst (bs.map T.bl))) m (as++[q]) (tt++[bs]):=by
 have hn:∀a∈as,a≠q:=fun a ha=>by obtain⟨i,hi⟩:=RC ha;obtain⟨_,_,_,h2⟩:=x.r i a hi;exact aY h2 hq
 refine⟨x.sb.trans (Sub3.new hq),by rw[a_,a_,x.ll];rfl,fun i a ha=>?_,fun a ha=>?_,?_⟩
 ·by_cases h:i<as.length
  ·rw[Qy h] at ha;obtain⟨cs,h0,h1,h2⟩:=x.r i a ha;exact⟨cs,by rw[Qy (by rw[x.ll];exact h)];exact h0,h1,by rw[aF (aY h2 hq)];exact h2⟩
  rw[Qp (by omega)] at ha;have hz:i - as.length=0:=by
   cases z:i - as.length with
   |zero=>rfl
   |succ n=>rw[z] at ha;simp at ha
  rw[hz] at ha;simp only[QF,S9] at ha;subst ha;exact⟨bs,by rw[Qp (by rw[x.ll];omega),x.ll,hz];rfl,hb,aC⟩
 ·rcases v_.mp ha with h | h
  ·exact x.fa a h
  rw[b_.mp h];exact du x.sb hq
 rw[Q9];exact⟨x.nd,by simp,fun a ha b hb=>by rw[b_.mp hb];exact hn a ha⟩
theorem Tbx.put {H0 H:Hp3}{p a:Addr}{m i:Nat}{as:List Addr}{tt:List (List Bool)}{bs:List Bool}(x:Tbx H0 H p m as tt) (hi:as[i]?=some a) (hb:bs.length=m):Tbx H0 (up3 H a (.lst (bs.map T.bl))) p m as (tt.set i bs):=by
 have ha:=Rh hi;have hpa:p≠a:=fun e=>x.np (e▸ha);have hil:i<as.length:=by
  rcases Nat.lt_or_ge i as.length with z | z
  ·exact z
  rw[Qz z] at hi;cases hi
 refine⟨⟨fun b u e=>by rw[aF (aY e (x.rw.fa a ha))];exact x.rw.sb b u e,by rw[List.length_set];exact x.rw.ll,fun j b hj=>?_,x.rw.fa,x.rw.nd⟩,x.l,by rw[aF hpa];exact x.t,x.np,x.f0⟩;by_cases e:j=i
 ·subst e;rw[hi] at hj;cases hj;exact⟨bs,by rw[Rn (by rw[x.rw.ll];exact hil)],hb,aC⟩
 obtain⟨cs,h0,h1,h2⟩:=x.rw.r j b hj;have hne:b≠a:=fun z=>by
  rw[z,<- hi] at hj;have hjl:j<as.length:=by
   rcases Nat.lt_or_ge j as.length with z | z
   ·exact z
   rw[Qz z,hi] at hj;cases hj
  exact e ((List.getElem?_inj hjl x.rw.nd).mp hj)
 exact⟨cs,by rw[Ry (Ne.symm e)];exact h0,h1,by rw[aF hne];exact h2⟩
theorem Tbx.at' {H0 H:Hp3}{p:Addr}{m:Nat}{as:List Addr}{tt:List (List Bool)}(x:Tbx H0 H p m as tt) {i:Nat}(hi:i<m):∃(a:Addr) (bs:List Bool),atI (as.map T.ref) (i:Int)=some (.ref a)/\as[i]?=some a/\tt.getD i []=bs/\bs.length=m/\H a=some (.lst (bs.map T.bl)):=by
 have hl:i<as.length:=by rw[x.l];exact hi
 have ha:=d_ hl;obtain⟨bs,h0,h1,h2⟩:=x.rw.r i _ ha;exact⟨as[i],bs,bH (by rw[G_,ha];rfl),ha,by rw[A_,h0];rfl,h1,h2⟩
theorem iK {bs:List Bool}{j:Nat}(h:j<bs.length):atI (bs.map T.bl) (j:Int)=some (.bl (bs.getD j false)):=bH (by rw[G_,A_,d_ h];rfl)
theorem Tbx.tb {H0 H:Hp3}{p:Addr}{m:Nat}{as:List Addr}{tt:List (List Bool)}(x:Tbx H0 H p m as tt):Tb H0 H p m as:=⟨x.rw.sb,x.l,x.t,fun a ha=>by
 obtain⟨i,hi⟩:=RC ha;obtain⟨bs,_,h1,h2⟩:=x.rw.r i a hi;exact⟨bs,h1,h2⟩,x.np,x.f0,x.rw.fa⟩
def ch0 (es:List T) (m i:Nat):List Bool:=(List.range m).map fun (j:Nat)=>cC false (.tup [.int (i:Int),.int (j:Int)]) es
def ch3 (k i:Nat) (tt:List (List Bool)) (j:Nat):List (List Bool):=tt.set i ((tt.getD i []).set j ((tt.getD i []).getD j false||((tt.getD i []).getD k false&&(tt.getD k []).getD j false)))
def ch2 (m k:Nat) (tt:List (List Bool)) (i:Nat):List (List Bool):=(List.range m).foldl (ch3 k i) tt
def ch1 (m:Nat) (tt:List (List Bool)) (k:Nat):List (List Bool):=(List.range m).foldl (ch2 m k) tt
def chF (m:Nat) (es:List T):List (List Bool):=(List.range m).foldl (ch1 m) ((List.range m).map (ch0 es m))
def Oo:Sp3:=fun ts H Q=>∃(m:Nat) (a:Addr) (es:List T),ts=[.int (m:Int),.ref a]/\m<=8/\H a=some (.lst es)/\es.all (pl 20)=true/\∀(p:Addr) (as:List Addr) (H':Hp3),Tbx H H' p m as (chF m es)->Q (.ref p) H'
abbrev jl:List Str:=["_law_many","_law_edges","_law_table","_law_k","_law_i","_law_j"]
theorem sc_chained:FnScope jl ["_law_many","_law_edges"] (aB (top 27)):=bA
theorem rO {f:Addr}{fd:FuncData}(g:G3 K mg "_law_chained" (top 27) ["_law_many","_law_edges"] f fd) (B:Bl mg):Cal P w K mg base 1 "_law_chained" (top 27) ["_law_many","_law_edges"] Oo:=by
 refine⟨f,fd,g,?_⟩;refine fn3 g.fn sc_chained (fun ts H Q h=>?_) (fun cdv A outer s H E ts H3 Q hr h=>?_)
 ·obtain⟨m,a,es,rfl,_⟩:=h;rfl
 have hu31:=Room.u31 hr;obtain⟨m,a,es,rfl,m8,ha,hes,k⟩:=h;refine⟨_,(ak (sX (i:=2) rfl sc_chained.nd (bI (n0:=(aB (top 27)).names) (N:=jl) (N':=["_law_i","_law_edges","_law_many"]) (nt:=1) (cap:=[1,0]) rfl rfl (by decide +kernel)) (aN rfl B.range_ (aa (v3 0) aj)) (fun cl pins s H C0 fp=>⟨(aA (i:=0) (show List.Nodup [("_law_i":Str),("_law_edges":Str),("_law_many":Str)] by decide +kernel)),bC,(bh rfl (mZ (n00:=(aB (top 27)).names) (N:=["_law_i","_law_edges","_law_many"]) (N':=["_law_j","_law_edges","_law_i"]) (nt:=1) (cap:=[1,0]) rfl rfl rfl (by decide +kernel)) (aN rfl B.range_ (aa (v3 2) aj)) (fun cl pins s H C0 fp=>⟨(aA (i:=0) (show List.Nodup [("_law_j":Str),("_law_edges":Str),("_law_i":Str)] by decide +kernel)),bC,(dz (tD hu31) (aZ (aa (v3 2) (aa (v3 0) aj))) (v3 1) rfl)⟩))⟩))
   (ak (aU n_ rfl (aN rfl B.range_ (aa (v3 0) aj)) (aA (i:=3) sc_chained.nd) (ao (aU n_ rfl (aN rfl B.range_ (aa (v3 0) aj)) (aA (i:=4) sc_chained.nd) (ao (aU n_ rfl (aN rfl B.range_ (aa (v3 0) aj)) (aA (i:=5) sc_chained.nd) (ao (wG (Dh (aM ix3 (aM ix3 (v3 2) (v3 4)) (v3 5)) (iz (mL (aM ix3 (aM ix3 (v3 2) (v3 4)) (v3 3)) (iz (aM ix3 (aM ix3 (v3 2) (v3 3)) (v3 5)))))) (GK (aM ix3 (v3 2) (v3 4)) (v3 5) vd))))))))
   (ao (aK (v3 2))))),?_⟩
 rw[show aV jl [T.int (m:Int),T.ref a]=[some (T.int (m:Int)),some (T.ref a),none,none,none,none] from rfl];have hsz:sizeLine=16777216:=rfl;have k':=Box.mk k;clear k;have rg:cN 0 m=(List.range m).map fun (i:Nat)=>T.int (i:Int):=dZ m;refine aq fun R0 hR0=>?_;walk_at "";refine⟨by first | trivial | omega,by omega,by omega,?_⟩;try rw[rg]
 walk_at "c";refine cW (fun (i:Nat)=>T.int (i:Int)) (List.range m) (fun A ys Z H=>∃(as:List Addr) (v:Option T),Z=[v,some (.ref a),some (.int (m:Int))]/\ys=as.map T.ref/\as.length=A.length/\Rwx H3 H m as (A.map (ch0 es m))) ⟨[],_,rfl,rfl,rfl,Sub3.refl,rfl,(fun i a h=>by simp at h),(fun _ h=>nomatch h),RP⟩ ?_ ?_;rotate_left
 ·rintro A i B ys Z H N e ⟨as,v,rfl,rfl,hl,hx⟩ hN;refine⟨trivial,?_⟩;have hA:A.length<8:=by have:=F_ List.length e;simp only[a_,j_,t_] at this;omega
  have hN':=Box.mk hN;have ha':=hx.sb _ _ ha;have hx':=Box.mk hx;clear hN e k' hR0 ha;walk_at "";refine⟨by first | trivial | omega,by omega,by omega,?_⟩;try rw[rg]
  walk_at "c";refine bV (fun (j:Nat)=>T.int (j:Int)) (fun j=>.bl (cC false (.tup [.int (i:Int),.int (j:Int)]) es)) (List.range m) [some (.ref a),some (.int (i:Int))] trivial (by rw[t_];omega) (fun j hj Q' hq=>?_) (fun q hq=>?_)
  ·clear hN' rg;walk_at "";exact⟨by decide,rfl,trivial,trivial⟩
  rw[show (List.range m).map (fun (j:Nat)=>T.bl (cC false (.tup [.int (i:Int),.int (j:Int)]) es))=((List.range m).map fun (j:Nat)=>cC false (.tup [.int (i:Int),.int (j:Int)]) es).map T.bl by rw[O_];rfl];refine⟨by first | omega | (rw[g_,hl];omega),hN'.out _ _ _ ⟨as++[q],_,rfl,by rw[B_];rfl,by rw[a_,a_,hl];rfl,by rw[B_];exact hx'.out.grow (by rw[g_,t_]) hq⟩⟩
 rintro ys Z H ⟨as,v,rfl,rfl,hl,hx⟩;rw[t_] at hl;refine⟨trivial,by rw[g_];omega,fun p hp=>?_⟩;have tb:Tbx H3 (up3 H p (.lst (as.map T.ref))) p m as ((List.range m).map (ch0 es m)):=by
  refine⟨⟨hx.sb.trans (Sub3.new hp),hx.ll,fun i b hb=>?_,hx.fa,hx.nd⟩,hl,aC,fun hin=>?_,du hx.sb hp⟩
  ·obtain⟨bs,h0,h1,h2⟩:=hx.r i b hb;exact⟨bs,h0,h1,by rw[aF (aY h2 hp)];exact h2⟩
  obtain⟨i,hi⟩:=RC hin;obtain⟨bs,_,_,h2⟩:=hx.r i p hi;rw[h2] at hp;cases hp
 generalize up3 H p (.lst (as.map T.ref))=H4 at tb;clear hx hp;walk_at "n";refine aq fun R1 hR1=>?_;walk_at "";refine⟨by first | trivial | omega,by omega,by omega,?_⟩;try rw[rg]
 refine aL (fun (i:Nat)=>T.int (i:Int)) (List.range m) (fun A1 Z H=>∃(v3 v4 v5:Option T),Z=[some (.int (m:Int)),some (.ref a),some (.ref p),v3,v4,v5]/\Tbx H3 H p m as (A1.foldl (ch1 m) ((List.range m).map (ch0 es m)))) ⟨_,_,_,rfl,tb⟩ ?_ ?_
 ·rintro Z H ⟨v3,v4,v5,rfl,tb⟩;refine⟨trivial,?_⟩;walk_at "n";walk_at "";exact Fin3.of Sub3.refl (k'.out p as H tb)
 rintro A1 kk B1 Z H N1 e1 ⟨v3,v4,v5,rfl,tb⟩ hN1;refine⟨trivial,?_⟩;have hk:kk<m:=L_.mp (by rw[e1];simp);have hM1:Box (∀v4 v5 H,Tbx H3 H p m as (ch1 m (A1.foldl (ch1 m) ((List.range m).map (ch0 es m))) kk)->N1 [some (.int (m:Int)),some (.ref a),some (.ref p),some (.int (kk:Int)),v4,v5] H):=⟨fun v4 v5 H t=>hN1 _ _ ⟨_,_,_,rfl,by rw[E_];exact t⟩⟩;generalize A1.foldl (ch1 m) ((List.range m).map (ch0 es m))=T1 at tb hM1;clear hN1 e1 hR1 k' ha;walk_at "";refine⟨by first | trivial | omega,by omega,by omega,?_⟩;try rw[rg]
 refine aL (fun (i:Nat)=>T.int (i:Int)) (List.range m) (fun A2 Z H=>∃(v4 v5:Option T),Z=[some (.int (m:Int)),some (.ref a),some (.ref p),some (.int (kk:Int)),v4,v5]/\Tbx H3 H p m as (A2.foldl (ch2 m kk) T1)) ⟨_,_,rfl,tb⟩ ?_ ?_
 ·rintro Z H ⟨v4,v5,rfl,tb⟩;exact⟨trivial,hM1.out _ _ _ tb⟩
 rintro A2 ii B2 Z H N2 e2 ⟨v4,v5,rfl,tb⟩ hN2;refine⟨trivial,?_⟩;have hii:ii<m:=L_.mp (by rw[e2];simp);have hM2:Box (∀v5 H,Tbx H3 H p m as (ch2 m kk (A2.foldl (ch2 m kk) T1) ii)->N2 [some (.int (m:Int)),some (.ref a),some (.ref p),some (.int (kk:Int)),some (.int (ii:Int)),v5] H):=⟨fun v5 H t=>hN2 _ _ ⟨_,_,rfl,by rw[E_];exact t⟩⟩;generalize A2.foldl (ch2 m kk) T1=T2 at tb hM2;clear hN2 e2 hM1;walk_at "";refine⟨by first | trivial | omega,by omega,by omega,?_⟩;try rw[rg]
 refine aL (fun (i:Nat)=>T.int (i:Int)) (List.range m) (fun A3 Z H=>∃(v5:Option T),Z=[some (.int (m:Int)),some (.ref a),some (.ref p),some (.int (kk:Int)),some (.int (ii:Int)),v5]/\Tbx H3 H p m as (A3.foldl (ch3 kk ii) T2)) ⟨_,rfl,tb⟩ ?_ ?_
 ·rintro Z H ⟨v5,rfl,tb⟩;exact⟨trivial,hM2.out _ _ tb⟩
 rintro A3 jj B3 Z H N3 e3 ⟨v5,rfl,tb⟩ hN3;refine⟨trivial,?_⟩;have hjj:jj<m:=L_.mp (by rw[e3];simp);have hM3:Box (∀H,Tbx H3 H p m as (ch3 kk ii (A3.foldl (ch3 kk ii) T2) jj)->N3 [some (.int (m:Int)),some (.ref a),some (.ref p),some (.int (kk:Int)),some (.int (ii:Int)),some (.int (jj:Int))] H):=⟨fun H t=>hN3 _ _ ⟨_,rfl,by rw[E_];exact t⟩⟩;generalize A3.foldl (ch3 kk ii) T2=T3 at tb hM3;clear hN3 e3 hM2 rg;have gt:=tb.t;obtain⟨ri,bi,gi,hri,ti,li,gri⟩:=tb.at' hii;obtain⟨rk,bk,gk,hrk,tk,lk,grk⟩:=tb.at' hk;have gx1:=iK (show jj<bi.length by omega);have gx2:=iK (show kk<bi.length by omega);have gx3:=iK (show jj<bk.length by omega);have hch:Box (ch3 kk ii T3 jj=T3.set ii (bi.set jj (bi.getD jj false||(bi.getD kk false&&bk.getD jj false)))):=⟨by unfold ch3;rw[ti,tk]⟩;generalize bi.getD jj false=x1 at gx1 hch;generalize bi.getD kk false=x2 at gx2 hch;generalize bk.getD jj false=x3 at gx3 hch;have li':=Box.mk li;clear li lk ti tk;have fin:∀b:Bool,b=(x1||(x2&&x3))->oq (ixN bi.length (jj:Int)) fun j=>N3 [some (T.int (m:Int)),some (T.ref a),some (T.ref p),some (T.int (kk:Int)),some (T.int (ii:Int)),some (T.int (jj:Int))] (up3 H ri (O3.lst ((List.map T.bl bi).set j (T.bl b))))  :=fun b hb=>by rw[jG (by have:=li'.out;omega),gU,<- List.map_set];refine hM3.out _ ?_;rw[hch.out,<- hb];exact tb.put hri (by rw[List.length_set];exact li'.out)
 have fin':=Box.mk fin;clear fin;walk_at "";split
 ·exact fin'.out true (by simp_all)
 split
 ·exact fin'.out x3 (by simp_all)
 exact fin'.out false (by simp_all)
structure Tqx (d:Addr) (H0 H:Hp3) (p:Addr) (m:Nat) (as:List Addr) (tt:List (List Bool)):Prop where
 l:as.length=m
 t:H p=some (.lst (as.map T.ref))
 r:∀(i:Nat) (a:Addr),as[i]?=some a->∃bs:List Bool,tt[i]?=some bs/\bs.length=m/\H a=some (.lst (bs.map T.bl))
 f0:H0 p=none
 fa:∀a∈as,H0 a=none
 nd:p≠d
 na:∀a∈as,a≠d
section
variable {d q p:Addr}{H0 H H':Hp3}{m:Nat}{as:List Addr}{tt:List (List Bool)}{o:O3}{d1:List Int}
theorem Tqx.drw (x:Tqx d H0 H p m as tt) (D:Di d H H' d1):Tqx d H0 H' p m as tt :=
 ⟨x.l,by rw[D.off _ x.nd];exact x.t,fun i a ha=>by obtain⟨bs,h0,h1,h2⟩:=x.r i a ha;exact⟨bs,h0,h1,by rw[D.off _ (x.na a (Rh ha))];exact h2⟩,x.f0,x.fa,x.nd,x.na⟩
theorem Tqx.new (x:Tqx d H0 H p m as tt) (hq:H q=none):Tqx d H0 (up3 H q o) p m as tt :=
 ⟨x.l,by rw[aF (aY x.t hq)];exact x.t,fun i a ha=>by obtain⟨bs,h0,h1,h2⟩:=x.r i a ha;exact⟨bs,h0,h1,by rw[aF (aY h2 hq)];exact h2⟩,x.f0,x.fa,x.nd,x.na⟩
theorem Tqx.set (x:Tqx d H0 H p m as tt) (h1:p≠q) (h2:∀a∈as,a≠q):Tqx d H0 (up3 H q o) p m as tt :=
 ⟨x.l,by rw[aF h1];exact x.t,fun i a ha=>by obtain⟨bs,g0,g1,g2⟩:=x.r i a ha;exact⟨bs,g0,g1,by rw[aF (h2 a (Rh ha))];exact g2⟩,x.f0,x.fa,x.nd,x.na⟩
theorem Tqx.at' (x:Tqx d H0 H p m as tt) {i:Nat}(hi:i<m):∃(a:Addr) (bs:List Bool),atI (as.map T.ref) (i:Int)=some (.ref a)/\a∈as/\tt.getD i []=bs/\bs.length=m/\H a=some (.lst (bs.map T.bl)):=by
 have hl:i<as.length:=by rw[x.l];exact hi
 have ha:=d_ hl;obtain⟨bs,h0,h1,h2⟩:=x.r i _ ha;exact⟨as[i],bs,bH (by rw[G_,ha];rfl),Qx hl,by rw[A_,h0];rfl,h1,h2⟩
theorem Tbx.tq {ds:List Int}(x:Tbx H H' p m as tt) (c:Ci H d ds) (k:Kep d H0 H):Tqx d H0 H' p m as tt:=by
 have nd:∀b,H b=none->b≠d:=fun b hb=>c.ne hb;have f0:∀b,H b=none->H0 b=none:=fun b hb=>by
  cases e:H0 b with
  |none=>rfl
  |some o=>rw[k b o e (nd b hb)] at hb;cases hb
 exact⟨x.l,x.t,x.rw.r,f0 _ x.f0,fun a ha=>f0 a (x.rw.fa a ha),nd _ x.f0,fun a ha=>nd a (x.rw.fa a ha)⟩
end
structure PIx (d:Addr) (ds:List Int) (H0 H:Hp3) (pp pe a:Addr) (ws:List Str) (ps:List (Bool × Nat × Nat)) (es:List T):Prop where
 w:Wi d ds H0 H [(pp,.lst (ps.map pT3)),(pe,.lst es),(a,.lst (ws.map T.str))]
 ne:pe≠pp
 na:a≠pp
 l12:ps.length<=12
 ea:es.all (pl 20)=true
 el:es.length<=28+2*ps.length
 ok:∀x∈ps,x.2.1≠x.2.2/\x.2.1<ws.length/\x.2.2<ws.length
theorem PIx.drw {d:Addr}{ds d1:List Int}{H0 H H':Hp3}{pp pe a:Addr}{ws:List Str}{ps:List (Bool × Nat × Nat)}{es:List T}(x:PIx d ds H0 H pp pe a ws ps es) (D:Di d H H' d1):PIx d d1 H0 H' pp pe a ws ps es:=⟨x.w.drw D,x.ne,x.na,x.l12,x.ea,x.el,x.ok⟩
theorem PIx.add {d:Addr}{ds:List Int}{H0 H:Hp3}{pp pe a q:Addr}{ws:List Str}{ps:List (Bool × Nat × Nat)}{es fs:List T}{y:Bool × Nat × Nat}(x:PIx d ds H0 H pp pe a ws ps es) (p0:H0 pp=none) (h12:ps.length<12) (hy:y.2.1≠y.2.2/\y.2.1<ws.length/\y.2.2<ws.length) {o:O3}{q0:Addr}
  (hq0:up3 H pp (.lst ((ps++[y]).map pT3)) q0=none) (hq:up3 (up3 H pp (.lst ((ps++[y]).map pT3))) q0 o q=none) (fa:fs.all (pl 20)=true) (fl:fs.length=2):PIx d ds H0 (up3 (up3 (up3 H pp (.lst ((ps++[y]).map pT3))) q0 o) q (.lst (es++fs))) pp q a ws (ps++[y]) (es++fs):=by
 have w1:=x.w.set p0 (fun r hr=>by
  rcases k_.mp hr with rfl | hr
  ·
   exact x.ne
  ·
   rw[b_.mp hr];exact x.na) (.lst ((ps++[y]).map pT3))
 have w2:=(w1.new (o:=o) hq0).tl;have w3:=w2.new (o:=.lst (es++fs)) hq;refine⟨⟨w3.cl,w3.kp,fun r hr=>w3.at' r ?_⟩,Ne.symm (aY w2.hd hq),x.na,by rw[a_,x_];omega,by rw[List.all_append,x.ea,fa];rfl,by have:=x.el;rw[a_,a_,x_,fl];omega,fun z hz=>?_⟩
 ·simp only[k_,M_,Q7] at hr ⊢;rcases hr with h | h | h
  ·exact .inr (.inl h)
  ·exact .inl h
  exact .inr (.inr (.inr h))
 rcases v_.mp hz with h | h
 ·exact x.ok z h
 rw[b_.mp h];exact hy
theorem PIx.add1 {d:Addr}{ds:List Int}{H0 H:Hp3}{pp pe a:Addr}{ws:List Str}{ps:List (Bool × Nat × Nat)}{es:List T}{y:Bool × Nat × Nat}(x:PIx d ds H0 H pp pe a ws ps es) (p0:H0 pp=none) (h12:ps.length<12) (hy:y.2.1≠y.2.2/\y.2.1<ws.length/\y.2.2<ws.length):PIx d ds H0 (up3 H pp (.lst ((ps++[y]).map pT3))) pp pe a ws (ps++[y]) es:=by
 refine⟨x.w.set p0 (fun r hr=>by
  rcases k_.mp hr with rfl | hr
  ·
   exact x.ne
  ·
   rw[b_.mp hr];exact x.na) _,x.ne,x.na,by rw[a_,x_];omega,x.ea,by have:=x.el;rw[a_,x_];omega,fun z hz=>?_⟩
 rcases v_.mp hz with h | h
 ·exact x.ok z h
 rw[b_.mp h];exact hy
theorem PIx.sub {d:Addr}{ds:List Int}{H0 H H':Hp3}{pp pe a:Addr}{ws:List Str}{ps:List (Bool × Nat × Nat)}{es:List T}(x:PIx d ds H0 H pp pe a ws ps es) (s:Sub3 H H'):PIx d ds H0 H' pp pe a ws ps es:=by
 exact { x with w:=⟨⟨s _ _ x.w.cl.at_,x.w.cl.le⟩,x.w.kp.sub s,fun q hq=>⟨s _ _ (x.w.at' q hq).1,(x.w.at' q hq).2⟩⟩}
def pr1 (lots:Int) (i:Nat) (s:List (Bool × Nat × Nat) × List T × List Int) (j:Nat):List (Bool × Nat × Nat) × List T × List Int :=
 if i=j then s else if (drF s.2.2 (2*lots)).1=1/\s.1.length<12 then (s.1++[(true,i,j)],s.2.1++[.tup [.int (i:Int),.int (j:Int)],.tup [.int (j:Int),.int (i:Int)]],(drF s.2.2 (2*lots)).2) else (s.1,s.2.1,(drF s.2.2 (2*lots)).2)
def Cy (lots:Int) (m:Nat) (s:List (Bool × Nat × Nat) × List T × List Int) (i:Nat):List (Bool × Nat × Nat) × List T × List Int:=(List.range m).foldl (pr1 lots i) s
def pr2 (lots:Int) (tt:List (List Bool)) (i:Nat) (s:List (Bool × Nat × Nat) × List Int) (j:Nat):List (Bool × Nat × Nat) × List Int :=
 if i=j then s else if (drF s.2 lots).1=1/\¬((tt.getD i []).getD j false=true/\(tt.getD j []).getD i false=true)/\s.1.length<12 then (s.1++[(false,i,j)],(drF s.2 lots).2) else (s.1,(drF s.2 lots).2)
def qi (lots:Int) (tt:List (List Bool)) (m:Nat) (s:List (Bool × Nat × Nat) × List Int) (i:Nat):List (Bool × Nat × Nat) × List Int:=(List.range m).foldl (pr2 lots tt i) s
def yV:T->Bool × Nat × Nat
 |.tup [.str w,.int i,.int j]=>(decide (w="with"),i.toNat,j.toNat)
 |_=>(false,0,0)
theorem JM (x:Bool × Nat × Nat):yV (pT3 x)=x:=by
 obtain⟨b,i,j⟩:=x;cases b <;> rfl
theorem yW (ps:List (Bool × Nat × Nat)):(ps.map pT3).map yV=ps:=by
 rw[O_];exact (QL fun x _=>JM x).trans (List.map_id _)
def prF (ds:List Int) (ws:List Str) (es:List T) (lots:Int):List (Str × Str × Str) × List (List Bool) × List Int :=
 let s1:=(List.range ws.length).foldl (Cy lots ws.length) ([],es,ds)
 let s2:=(List.range ws.length).foldl (qi lots (chF ws.length s1.2.1) ws.length) (s1.1,s1.2.2)
 let t:=tuF 60 s2.2 (s2.1.map pT3) []
 ((t.1.map yV).map (nmP ws),chF ws.length s1.2.1,t.2)
def Oq:Sp3:=fun ts H Q=>∃(d a o:Addr) (ws:List Str) (es:List T) (lots:Int) (ds:List Int),ts=[.ref d,.ref a,.ref o,.int lots]/\1<=lots/\lots<=100/\a≠d/\o≠d/\H a=some (.lst (ws.map T.str))/\Nms ws/\ws.length<=8/\H o=some (.lst es)/\es.all (pl 20)=true/\es.length<=28/\Ci H d ds /\
 ∀(prs:List (Str × Str × Str)) (tt:List (List Bool)) (d1:List Int) (p:Addr) (as:List Addr) (H':Hp3),prF ds ws es lots=(prs,tt,d1)->prs.length<=12->prs.Nodup->(∀x∈prs,(x.1="with"\/x.1="apart")/\x.2.1≠x.2.2/\x.2.1∈ws/\x.2.2∈ws)->Ci H' d d1->Kep d H H'->Tqx d H H' p ws.length as tt->Q (.tup [.tup (prs.map prT),.ref p]) H'
abbrev n6:List Str:=["_law_deck","_law_names_here","_law_orders","_law_lots","_law_many","_law_pairs_here","_law_edges","_law_i","_law_j","_law_table"]
theorem sc_pairs:FnScope n6 ["_law_deck","_law_names_here","_law_orders","_law_lots"] (aB (top 28)):=bA
theorem yX {f:Addr}{fd:FuncData}(g:G3 K mg "_law_pairs" (top 28) ["_law_deck","_law_names_here","_law_orders","_law_lots"] f fd) (B:Bl mg) (F_turn:Cal P w K mg base 2 "_law_turn" (top 25) ["_law_deck","_law_things"] yG) (F_draw:Cal P w K mg base 1 "_law_draw" (top 21) ["_law_deck","_law_most"] kO) (F_chained:Cal P w K mg base 1 "_law_chained" (top 27) ["_law_many","_law_edges"] Oo):Cal P w K mg base 3 "_law_pairs" (top 28) ["_law_deck","_law_names_here","_law_orders","_law_lots"] Oq:=by
 refine⟨f,fd,g,?_⟩;refine fn3 g.fn sc_pairs (fun ts H Q h=>?_) (fun cdv A outer s H E ts H3 Q hr h=>?_)
 ·obtain⟨d,a,o,ws,es,lots,ds,rfl,_⟩:=h;rfl
 have hu30:=Room.u30 hr;obtain⟨d,a,o,ws,es,lots,ds,rfl,l1,l100,nad,nod,ha,hws,w8,ho,hes,e28,hC,k⟩:=h;refine⟨_,(ak (aD (i:=4) sc_pairs.nd (aH bc rfl B.len_ bf (aa (v3 1) aj)))
   (ak (aD (i:=5) sc_pairs.nd (bO aj))
   (ak (aD (i:=6) sc_pairs.nd (bD mX rfl B.list_ jF (aa (v3 2) aj)))
   (ak (aU n_ rfl (aN rfl B.range_ (aa (v3 4) aj)) (aA (i:=7) sc_pairs.nd) (ao (aU n_ rfl (aN rfl B.range_ (aa (v3 4) aj)) (aA (i:=8) sc_pairs.nd) (ao (bz (PW3.pt (cU (aP (jr hu30) (v3 7) (v3 8)) (cU (aP (bY hu30) (aJ F_draw hr rfl (aa (v3 0) (aa (aO jf au (v3 3)) aj))) au) (cZ (aP wO (aH bc rfl B.len_ bf (aa (v3 5) aj)) au))))) (ak (b8 (dY I_ Qq Qs bT (v3 5) (aa (aZ (aa bB (aa (v3 7) (aa (v3 8) aj)))) aj)))
      (ao (aD (i:=6) sc_pairs.nd (aO bx (v3 6) (bO (aa (aZ (aa (v3 7) (aa (v3 8) aj))) (aa (aZ (aa (v3 8) (aa (v3 7) aj))) aj))))))) aQ)))))
   (ak (aD (i:=9) sc_pairs.nd (aJ F_chained hr rfl (aa (v3 4) (aa (v3 6) aj))))
   (ak (aU n_ rfl (aN rfl B.range_ (aa (v3 4) aj)) (aA (i:=7) sc_pairs.nd) (ao (aU n_ rfl (aN rfl B.range_ (aa (v3 4) aj)) (aA (i:=8) sc_pairs.nd) (ao (bz (PW3.pt (cU (aP (jr hu30) (v3 7) (v3 8)) (cU (aP (bY hu30) (aJ F_draw hr rfl (aa (v3 0) (aa (v3 3) aj))) au) (cU (fY (PW3.pt (cU (cT (aM ix3 (aM ix3 (v3 9) (v3 7)) (v3 8))) (cZ (cT (aM ix3 (aM ix3 (v3 9) (v3 8)) (v3 7))))))) (cZ (aP wO (aH bc rfl B.len_ bf (aa (v3 5) aj)) au)))))) (ao (b8 (dY I_ Qq Qs bT (v3 5) (aa (aZ (aa bB (aa (v3 7) (aa (v3 8) aj)))) aj)))) aQ)))))
   (ak (aD (i:=5) sc_pairs.nd (aJ F_turn hr rfl (aa (v3 0) (aa (v3 5) aj))))
   (ao (aK (aZ (aa (bD cP rfl B.tuple_ cj (aa (bh rfl (bI (n0:=(aB (top 28)).names) (N:=n6) (N':=["_law_word","_law_i","_law_j","_law_names_here"]) (nt:=3) (cap:=[1]) rfl rfl (by decide +kernel)) (cz (v3 5)) (fun cl pins s H C0 fp=>⟨(bZ (n:=3) rfl (aG (aA (i:=0) (show List.Nodup [("_law_word":Str),("_law_i":Str),("_law_j":Str),("_law_names_here":Str)] by decide +kernel)) (aG (aA (i:=1) (show List.Nodup [("_law_word":Str),("_law_i":Str),("_law_j":Str),("_law_names_here":Str)] by decide +kernel)) (aG (aA (i:=2) (show List.Nodup [("_law_word":Str),("_law_i":Str),("_law_j":Str),("_law_names_here":Str)] by decide +kernel)) bL)))),bC,(aZ (aa (v3 0) (aa (aM ix3 (v3 3) (v3 1)) (aa (aM ix3 (v3 3) (v3 2)) aj))))⟩)) aj)) (aa (v3 9) aj)))))))))))),?_⟩
 rw[show aV n6 [T.ref d,T.ref a,T.ref o,T.int lots]=[some (T.ref d),some (T.ref a),some (T.ref o),some (T.int lots),none,none,none,none,none,none] from rfl];have hsz:sizeLine=16777216:=rfl;have k':=Box.mk k;clear k;have w0:Wi d ds H3 H3 []:=⟨hC,Kep.refl,(fun _ h=>nomatch h)⟩;have w0:Wi d ds H3 H3 [(a,.lst (ws.map T.str))]:=⟨hC,Kep.refl,fun q hq=>by rw[b_.mp hq];exact⟨ha,nad⟩⟩;clear hC;have rg:cN 0 ws.length=(List.range ws.length).map fun (i:Nat)=>T.int (i:Int):=dZ _;refine aq fun R0 hR0=>?_;walk_at "";walk_at "n";refine aq fun R1 hR1=>?_;walk_at "";refine⟨by omega,fun pp hpp=>?_⟩;have pp0:=w0.fresh hpp;have npa:a≠pp:=aY ha hpp;have npo:o≠pp:=aY ho hpp;have w1:=w0.new (o:=.lst []) hpp;have ho1:up3 H3 pp (.lst []) o=some (.lst es):=by rw[aF npo];exact ho
 generalize up3 H3 pp (.lst [])=H4 at w1 ho1;clear w0 hpp ha;walk_at "n";refine aq fun R2 hR2=>?_;walk_at "";intro pe hpe;have w2:=w1.new (o:=.lst es) hpe;have pe0:=w1.fresh hpe;have npe:pp≠pe:=aY w1.hd hpe;have nae:a≠pe:=aY w1.tl.hd hpe;generalize up3 H4 pe (.lst es)=H5 at w2;clear w1 hpe ho1;walk_at "n";obtain⟨es0,hes0⟩:∃z,z=es:=⟨_,rfl⟩;rw[show prF ds ws es lots=prF ds ws es0 lots by rw[hes0]] at k';have hes0':=Box.mk hes0;clear hes0;have pi0:PIx d ds H3 H5 pp pe a ws [] es:=⟨⟨w2.cl,w2.kp,fun q hq=>w2.at' q (by simp only[k_,M_,Q7] at hq ⊢;rcases hq with h | h | h;exact .inr (.inl h);exact .inl h;exact .inr (.inr h))⟩,Ne.symm npe,npa,by decide,hes,by simp;omega,(fun _ h=>nomatch h)⟩;clear w2 pe0 npe nae;refine aq fun R3 hR3=>?_;walk_at "";refine⟨trivial,by omega,by omega,?_⟩;try rw[rg]
 refine aL (fun (i:Nat)=>T.int (i:Int)) (List.range ws.length) (fun A Z H=>∃(ps:List (Bool × Nat × Nat)) (es:List T) (pe:Addr) (d1:List Int) (v7 v8:Option T),Z=[some (.ref d),some (.ref a),some (.ref o),some (.int lots),some (.int (ws.length:Int)),some (.ref pp),some (.ref pe),v7,v8,none]/\PIx d d1 H3 H pp pe a ws ps es/\ps.Sublist (enm true ws.length A)/\Box (A.foldl (Cy lots ws.length) ([],es0,ds)=(ps,es,d1))) ⟨[],es,pe,ds,_,_,rfl,pi0,List.Sublist.refl _,⟨by rw[hes0'.out];rfl⟩⟩ ?_ ?_;rotate_left
 ·rintro A i B Z H N e ⟨ps,es,pe,d1,v7,v8,rfl,pi,hsub,hx⟩ hN;refine⟨trivial,?_⟩;have hi:i<ws.length:=L_.mp (by rw[e];simp);have hM:=Box.mk hN;clear hN e pi0 k' hR3;walk_at "";refine⟨trivial,by omega,by omega,?_⟩;try rw[rg]
  refine aL (fun (i:Nat)=>T.int (i:Int)) (List.range ws.length) (fun A2 Z H=>∃(ps:List (Bool × Nat × Nat)) (es:List T) (pe:Addr) (d1:List Int) (v8:Option T),Z=[some (.ref d),some (.ref a),some (.ref o),some (.int lots),some (.int (ws.length:Int)),some (.ref pp),some (.ref pe),some (.int (i:Int)),v8,none]/\PIx d d1 H3 H pp pe a ws ps es/\ps.Sublist (enm true ws.length A++A2.map fun j=>(true,i,j))/\Box (A2.foldl (pr1 lots i) (A.foldl (Cy lots ws.length) ([],es0,ds))=(ps,es,d1))) ⟨ps,es,pe,d1,_,rfl,pi,by rw[Rg,Qv];exact hsub,⟨hx.out⟩⟩ ?_ ?_
  ·rintro Z H ⟨ps,es,pe,d1,v8,rfl,pi,hsub,hx⟩;exact⟨trivial,hM.out _ _ ⟨ps,es,pe,d1,_,_,rfl,pi,by rw[p8];exact hsub,⟨by rw[E_];exact hx.out⟩⟩⟩
  rintro A2 j B2 Z H N2 e2 ⟨ps,es,pe,d1,v8,rfl,pi,hsub,hx⟩ hN2;refine⟨trivial,?_⟩;have hj:j<ws.length:=L_.mp (by rw[e2];simp);have hN':=Box.mk hN2;have hs1:=rH (y:=(true,i,j)) hsub;have hs2:=rJ (y:=(true,i,j)) hsub;rw[QC,show [(true,i,j)]=[j].map fun j=>(true,i,j) from rfl,<- B_] at hs1 hs2;clear hN2 e2 hM rg hsub;walk_at "";by_cases hij:(i:Int)=(j:Int)
  ·rw[y_ hij];simp only[Sy,QW,Q4];exact hN'.out _ _ ⟨ps,es,pe,d1,_,rfl,pi,hs2,⟨by rw[E_,hx.out];show pr1 lots i (ps,es,d1) j=_;unfold pr1;rw[if_pos (by omega)]⟩⟩
  rw[o_ hij];simp only[Bool.not_false,if_true];refine⟨.inl ⟨by decide,by decide⟩,d,_,d1,rfl,by omega,pi.w.cl,fun n d2 H6 e3 n0 n1 hD=>?_⟩;have hst:Box ((A2++[j]).foldl (pr1 lots i) (A.foldl (Cy lots ws.length) ([],es0,ds))=if n=1/\ps.length<12 then (ps++[(true,i,j)],es++[.tup [.int (i:Int),.int (j:Int)],.tup [.int (j:Int),.int (i:Int)]],d2) else (ps,es,d2)):=⟨by rw[E_,hx.out];show pr1 lots i (ps,es,d1) j=_;unfold pr1;rw[if_neg (by omega)];dsimp only;rw[e3]⟩;clear e3 hx;have pi2:=pi.drw hD;clear pi hD;have g1:=pi2.w.hd;have g2:=pi2.w.tl.hd;walk_at "";have stay:Box (¬(n=1/\ps.length<12)->N2 [some (.ref d),some (.ref a),some (.ref o),some (.int lots),some (.int (ws.length:Int)),some (.ref pp),some (.ref pe),some (.int (i:Int)),some (.int (j:Int)),none] H6):=⟨fun z=>hN'.out _ H6 ⟨ps,es,pe,d2,_,rfl,pi2,hs2,⟨by rw[hst.out,if_neg z]⟩⟩⟩;by_cases c1:n=1
  ·rw[if_pos (y_ c1)];by_cases h12':ps.length<12
   ·rw[if_pos (y_ (by omega))];have el:=pi2.el;have e1:ps.map pT3++[T.tup [T.str (Str.ofString "with"),T.int (i:Int),T.int (j:Int)]]=(ps++[(true,i,j)]).map pT3:=by rw[B_];rfl
    rw[e1];refine⟨⟨trivial,trivial⟩,by decide,by omega,by decide,by decide,by decide,fun q0 hq0=>?_⟩;have gpe:up3 H6 pp (.lst ((ps++[(true,i,j)]).map pT3)) pe=some (.lst es):=by rw[aF pi2.ne];exact g2
    rw[aF (aY gpe hq0),gpe,m5];refine⟨by rw[j_,j_,Rv];omega,fun q hq=>?_⟩;exact hN'.out _ _ ⟨ps++[(true,i,j)],es++[T.tup [T.int (i:Int),T.int (j:Int)],T.tup [T.int (j:Int),T.int (i:Int)]],q,d2,_,rfl,pi2.add pp0 h12' ⟨fun h=>hij (by have:i=j:=h;rw[this]),hi,hj⟩ hq0 hq rfl rfl,hs1,⟨by rw[hst.out,if_pos ⟨c1,h12'⟩]⟩⟩
   rw[if_neg (qY (by omega))];exact stay.out fun z=>h12' z.2
  rw[if_neg (qY c1)];exact stay.out fun z=>c1 z.1
 rintro Z H ⟨ps,es,pe,d1,v7,v8,rfl,pi,hsub,hx1⟩;refine⟨trivial,?_⟩;clear pi0 hes0';walk_at "n";refine aq fun R4 hR4=>?_;have gpe:=pi.w.tl.hd;walk_at "";refine⟨ws.length,pe,es,rfl,w8,gpe,pi.ea,fun pt as H7 tb=>?_⟩;have tq:Tqx d H3 H7 pt ws.length as (chF ws.length es):=tb.tq pi.w.cl pi.w.kp;have npt:pt≠pp:=Ne.symm (aY pi.w.hd tb.f0);have nas:∀x∈as,x≠pp:=fun x hx=>Ne.symm (aY pi.w.hd (tb.rw.fa x hx));have pi1:=pi.sub tb.rw.sb;clear pi tb gpe;obtain⟨s20,hs20⟩:∃z,z=(ps,d1):=⟨_,rfl⟩;have hs20':=Box.mk hs20;have hpr:Box (prF ds ws es0 lots=((((tuF 60 ((List.range ws.length).foldl (qi lots (chF ws.length es) ws.length) s20).2 (((List.range ws.length).foldl (qi lots (chF ws.length es) ws.length) s20).1.map pT3) []).1.map yV).map (nmP ws)),chF ws.length es,(tuF 60 ((List.range ws.length).foldl (qi lots (chF ws.length es) ws.length) s20).2 (((List.range ws.length).foldl (qi lots (chF ws.length es) ws.length) s20).1.map pT3) []).2)):=⟨by unfold prF;dsimp only;rw[hx1.out,hs20]⟩;clear hx1 hs20;generalize chF ws.length es=tt at tq hpr;walk_at "n";refine aq fun R5 hR5=>?_;walk_at "";refine⟨trivial,by omega,by omega,?_⟩;try rw[rg]
 refine aL (fun (i:Nat)=>T.int (i:Int)) (List.range ws.length) (fun A Z H=>∃(ps:List (Bool × Nat × Nat)) (d1:List Int) (v7 v8:Option T),Z=[some (.ref d),some (.ref a),some (.ref o),some (.int lots),some (.int (ws.length:Int)),some (.ref pp),some (.ref pe),v7,v8,some (.ref pt)]/\PIx d d1 H3 H pp pe a ws ps es/\Tqx d H3 H pt ws.length as tt/\ps.Sublist (enm true ws.length (List.range ws.length)++enm false ws.length A)/\Box (A.foldl (qi lots tt ws.length) s20=(ps,d1))) ⟨ps,d1,_,_,rfl,pi1,tq,by rw[show enm false ws.length []=[] from rfl,Qv];exact hsub,⟨hs20'.out⟩⟩ ?_ ?_;rotate_left
 ·rintro A i B Z H N e ⟨ps,d1,v7,v8,rfl,pi,tq,hsub,hx⟩ hN;refine⟨trivial,?_⟩;have hi:i<ws.length:=L_.mp (by rw[e];simp);have hM:=Box.mk hN;clear hN e pi1 k' hR5;walk_at "";refine⟨trivial,by omega,by omega,?_⟩;try rw[rg]
  refine aL (fun (i:Nat)=>T.int (i:Int)) (List.range ws.length) (fun A2 Z H=>∃(ps:List (Bool × Nat × Nat)) (d1:List Int) (v8:Option T),Z=[some (.ref d),some (.ref a),some (.ref o),some (.int lots),some (.int (ws.length:Int)),some (.ref pp),some (.ref pe),some (.int (i:Int)),v8,some (.ref pt)]/\PIx d d1 H3 H pp pe a ws ps es/\Tqx d H3 H pt ws.length as tt/\ps.Sublist (enm true ws.length (List.range ws.length)++enm false ws.length A++A2.map fun j=>(false,i,j))/\Box (A2.foldl (pr2 lots tt i) (A.foldl (qi lots tt ws.length) s20)=(ps,d1))) ⟨ps,d1,_,rfl,pi,tq,by rw[Rg,Qv];exact hsub,⟨hx.out⟩⟩ ?_ ?_
  ·rintro Z H ⟨ps,d1,v8,rfl,pi,tq,hsub,hx⟩;exact⟨trivial,hM.out _ _ ⟨ps,d1,_,_,rfl,pi,tq,by rw[p8,<- QC];exact hsub,⟨by rw[E_];exact hx.out⟩⟩⟩
  rintro A2 j B2 Z H N2 e2 ⟨ps,d1,v8,rfl,pi,tq,hsub,hx⟩ hN2;refine⟨trivial,?_⟩;have hj:j<ws.length:=L_.mp (by rw[e2];simp);have hN':=Box.mk hN2;have hs1:=rH (y:=(false,i,j)) hsub;have hs2:=rJ (y:=(false,i,j)) hsub;rw[QC (_++_),show [(false,i,j)]=[j].map fun j=>(false,i,j) from rfl,<- B_] at hs1 hs2;clear hN2 e2 hM rg hsub;walk_at "";by_cases hij:(i:Int)=(j:Int)
  ·rw[y_ hij];simp only[Sy,QW,Q4];exact hN'.out _ _ ⟨ps,d1,_,rfl,pi,tq,hs2,⟨by rw[E_,hx.out];show pr2 lots tt i (ps,d1) j=_;unfold pr2;rw[if_pos (by omega)]⟩⟩
  rw[o_ hij];simp only[Bool.not_false,if_true];refine⟨d,_,d1,rfl,by omega,pi.w.cl,fun n d2 H6 e3 n0 n1 hD=>?_⟩;have e3':=Box.mk e3;clear e3;have pi2:=pi.drw hD;have tq2:=tq.drw hD;clear pi hD tq;have g1:=pi2.w.hd;have gt:=tq2.t;obtain⟨ri,bi,gi,hri,ti,li,gri⟩:=tq2.at' hi;obtain⟨rj,bj,gj,hrj,tj,lj,grj⟩:=tq2.at' hj;have gx1:=iK (show j<bi.length by omega);have gx2:=iK (show i<bj.length by omega);have hst:Box ((A2++[j]).foldl (pr2 lots tt i) (A.foldl (qi lots tt ws.length) s20)=if n=1/\¬(bi.getD j false=true/\bj.getD i false=true)/\ps.length<12 then (ps++[(false,i,j)],d2) else (ps,d2)):=⟨by rw[E_,hx.out];show pr2 lots tt i (ps,d1) j=_;unfold pr2;rw[if_neg (by omega)];dsimp only;rw[e3'.out,ti,tj]⟩;generalize bi.getD j false=x1 at gx1 hst;generalize bj.getD i false=x2 at gx2 hst;clear li lj ti tj e3' hx;have stay:Box (¬(n=1/\¬(x1=true/\x2=true)/\ps.length<12)->N2 [some (.ref d),some (.ref a),some (.ref o),some (.int lots),some (.int (ws.length:Int)),some (.ref pp),some (.ref pe),some (.int (i:Int)),some (.int (j:Int)),some (.ref pt)] H6):=⟨fun z=>hN'.out _ H6 ⟨ps,d2,_,rfl,pi2,tq2,hs2,⟨by rw[hst.out,if_neg z]⟩⟩⟩;have e1:ps.map pT3++[T.tup [T.str (Str.ofString "apart"),T.int (i:Int),T.int (j:Int)]]=(ps++[(false,i,j)]).map pT3:=by rw[B_];rfl
  have go:(n=1/\¬(x1=true/\x2=true)/\ps.length<12)->N2 [some (.ref d),some (.ref a),some (.ref o),some (.int lots),some (.int (ws.length:Int)),some (.ref pp),some (.ref pe),some (.int (i:Int)),some (.int (j:Int)),some (.ref pt)] (up3 H6 pp (O3.lst (List.map pT3 ps++[T.tup [T.str (Str.ofString "apart"),T.int (i:Int),T.int (j:Int)]]))):=fun h12=>by rw[e1];exact hN'.out _ _ ⟨ps++[(false,i,j)],d2,_,rfl,pi2.add1 pp0 h12.2.2 ⟨fun h=>hij (by have:i=j:=h;rw[this]),hi,hj⟩,tq2.set npt nas,hs1,⟨by rw[hst.out,if_pos h12]⟩⟩
  have go':=Box.mk go;have l12:=pi2.l12;clear go e1;walk_at "";by_cases c1:n=1
  ·rw[if_pos (y_ c1)];by_cases c2:ps.length<12
   ·rw[if_pos (y_ (show (ps.length:Int)<12 by omega))];cases x1 <;> cases x2
    ·exact⟨⟨trivial,trivial⟩,by decide,by omega,go'.out ⟨c1,by simp,c2⟩⟩
    ·exact⟨⟨trivial,trivial⟩,by decide,by omega,go'.out ⟨c1,by simp,c2⟩⟩
    ·exact⟨⟨trivial,trivial⟩,by decide,by omega,go'.out ⟨c1,by simp,c2⟩⟩
    exact stay.out fun z=>z.2.1 ⟨rfl,rfl⟩
   have st:=stay.out fun z=>c2 z.2.2;rw[if_neg (show ¬decide ((ps.length:Int)<12)=true by rw[o_ (by omega)];exact p_)];cases x1 <;> cases x2 <;> exact st
  rw[if_neg (qY c1)];exact stay.out fun z=>c1 z.1
 rintro Z H ⟨ps,d1,v7,v8,rfl,pi,tq,hsub,hx2⟩;refine⟨trivial,?_⟩;clear pi1 hs20';walk_at "n";refine aq fun R6 hR6=>?_;have g1:=pi.w.hd;have l12:=pi.l12;walk_at "";refine⟨d,pp,ps.map pT3,d1,rfl,(pi.w.at' _ i_).2,g1,Nt ps,by rw[g_];omega,pi.w.cl,fun ys d2 H8 q et hperm hD hq=>?_⟩;have hpr2:Box (prF ds ws es0 lots=((ys.map yV).map (nmP ws),tt,d2)):=⟨by rw[hpr.out,hx2.out];dsimp only;rw[et]⟩;clear hpr hx2 et;obtain⟨ps',hp',rfl⟩:=gD hperm ps rfl;have hpr3:Box (prF ds ws es0 lots=(ps'.map (nmP ws),tt,d2)):=⟨by rw[hpr2.out,yW]⟩;clear hpr2;have nd':ps'.Nodup:=(hp'.nodup_iff).mpr ((BZ ⟨ws.length,by omega⟩).sublist hsub);have ok':∀x∈ps',x.2.1≠x.2.2/\x.2.1<ws.length/\x.2.2<ws.length:=fun x hx=>pi.ok x (hp'.mem_iff.mp hx);have l12':ps'.length<=12:=by rw[hp'.length_eq];exact l12
 have w9:=(pi.w.drw hD).tl.tl.new (o:=.lst (ps'.map pT3)) hq;have tq9:=(tq.drw hD).new (o:=.lst (ps'.map pT3)) hq;generalize up3 H8 q (.lst (ps'.map pT3))=H9 at w9 tq9;clear hD hq pi tq hperm hp' hsub g1 l12 rg;walk_at "n";have gq:=w9.hd;have gA:=w9.tl.hd;try dsimp only
 walk_at "";walk_at "c";refine gB (fun x:Bool × Nat × Nat=>.str (bw x.1)) (fun x=>.int (x.2.1:Int)) (fun x=>.int (x.2.2:Int)) (fun x=>prT (nmP ws x)) (fun _=>true) ps' [some (.ref a)] (.inl gq) (by omega) (fun x hx Q' hq=>hq) (fun x hx _ Q' hq=>?_) (fun p hp=>?_)
 ·have o:=ok' x hx;have a1:=getD_at o.2.1;have a2:=getD_at o.2.2;have hq':=Box.mk hq;clear k' hq;walk_at "";exact⟨by decide,hq'.out⟩
 rw[show ps'.filter (fun _=>true)=ps' from Ss.mpr fun _ _=>rfl] at *;rw[show ps'.map (fun x=>prT (nmP ws x))=(ps'.map (nmP ws)).map prT by rw[O_];rfl];have w10:=w9.new (o:=.lst ((ps'.map (nmP ws)).map prT)) hp;have tq10:=tq9.new (o:=.lst ((ps'.map (nmP ws)).map prT)) hp;generalize up3 H9 p (.lst ((ps'.map (nmP ws)).map prT))=H10 at w10 tq10;walk_at "";exact⟨by decide,Fin3.of Sub3.refl (k'.out (ps'.map (nmP ws)) tt d2 pt as H10 hpr3.out (by rw[g_];exact l12') (Jv hws.nd nd' ok') (fun x hx=>by obtain⟨y,hy,rfl⟩:=C_.mp hx;exact Jw hws.nd (ok' y hy)) w10.cl w10.kp tq10)⟩
def unS:T->Str
 |.str x=>x
 |_=>""
theorem Cz (fs:List Str):(fs.map T.str).map unS=fs:=by
 rw[O_];exact List.map_id'' (fun _=>rfl) fs
def skS (s:List Str × List Int) (x:Str):List Str × List Int :=
 if s.1.length<4 then (if (drF s.2 2).1=1 then (s.1.take (drF (drF s.2 2).2 ((s.1.length:Int)+1)).1.toNat++x::s.1.drop (drF (drF s.2 2).2 ((s.1.length:Int)+1)).1.toNat,(drF (drF s.2 2).2 ((s.1.length:Int)+1)).2) else (s.1,(drF s.2 2).2)) else s
def skF (ds:List Int) (cm:Str) (ws:List Str):List Str × List Int :=
 ((tuF 60 ds ((ws.filter fun x=>!decide (x=cm)).map T.str) []).1.map unS).foldl skS ([cm],(tuF 60 ds ((ws.filter fun x=>!decide (x=cm)).map T.str) []).2)
def Ot:Sp3:=fun ts H Q=>∃(d a:Addr) (cm:Str) (ws:List Str) (ds:List Int),ts=[.ref d,.str cm,.ref a]/\a≠d/\H a=some (.lst (ws.map T.str))/\Nms ws/\ws.length<=8/\isNm cm/\Ci H d ds/\∀(ks:List Str) (d1:List Int) (H':Hp3),skF ds cm ws=(ks,d1)->Nms ks->ks.length<=4->Di d H H' d1->Q (.tup (ks.map T.str)) H'
abbrev eY:List Str:=["_law_deck","_law_common","_law_names_here","_law_found","_law_name"]
theorem sc_some_kinds:FnScope eY ["_law_deck","_law_common","_law_names_here"] (aB (top 29)):=bA
theorem kY {f:Addr}{fd:FuncData}(g:G3 K mg "_law_some_kinds" (top 29) ["_law_deck","_law_common","_law_names_here"] f fd) (B:Bl mg) (F_turn:Cal P w K mg base 2 "_law_turn" (top 25) ["_law_deck","_law_things"] yG) (F_draw:Cal P w K mg base 1 "_law_draw" (top 21) ["_law_deck","_law_most"] kO):Cal P w K mg base 3 "_law_some_kinds" (top 29) ["_law_deck","_law_common","_law_names_here"] Ot:=by
 refine⟨f,fd,g,?_⟩;refine fn3 g.fn sc_some_kinds (fun ts H Q h=>?_) (fun cdv A outer s H E ts H3 Q hr h=>?_)
 ·obtain⟨d,a,cm,ws,ds,rfl,_⟩:=h;rfl
 have hu30:=Room.u30 hr;obtain⟨d,a,cm,ws,ds,rfl,nad,ha,hws,w8,hcm,hC,k⟩:=h;refine⟨_,(ak (aD (i:=3) sc_some_kinds.nd (bO (aa (v3 1) aj)))
   (ak (aU n_ rfl (cz (aJ F_turn hr rfl (aa (v3 0) (aa (bh rfl (bI (n0:=(aB (top 29)).names) (N:=eY) (N':=["_law_name","_law_common"]) (nt:=1) (cap:=[1]) rfl rfl (by decide +kernel)) (cz (v3 2)) (fun cl pins s H C0 fp=>⟨(aA (i:=0) (show List.Nodup [("_law_name":Str),("_law_common":Str)] by decide +kernel)),(gJ (aP (jr hu30) (v3 0) (v3 1))),(v3 0)⟩)) aj)))) (aA (i:=4) sc_some_kinds.nd) (ao (bz (PW3.pt (cU (aP wO (aH bc rfl B.len_ bf (aa (v3 3) aj)) au) (cZ (aP (bY hu30) (aJ F_draw hr rfl (aa (v3 0) (aa au aj))) au)))) (ao (b8 (dY I_ PySem.F.slot_list_insert PySem.F.type_list_insert vm (v3 3) (aa (aJ F_draw hr rfl (aa (v3 0) (aa (aO bx (aH bc rfl B.len_ bf (aa (v3 3) aj)) au) aj))) (aa (v3 4) aj))))) aQ)))
   (ao (aK (bD cP rfl B.tuple_ cj (aa (v3 3) aj)))))),?_⟩
 rw[show aV eY [T.ref d,T.str cm,T.ref a]=[some (T.ref d),some (T.str cm),some (T.ref a),none,none] from rfl];have hsz:sizeLine=16777216:=rfl;have k':=Box.mk k;clear k;have w0:Wi d ds H3 H3 [(a,.lst (ws.map T.str))]:=⟨hC,Kep.refl,fun q hq=>by rw[b_.mp hq];exact⟨ha,nad⟩⟩;clear hC;refine aq fun R0 hR0=>?_;walk_at "";refine⟨by decide,fun pf hpf=>?_⟩;have f0:=w0.fresh hpf;have nfa:a≠pf:=aY ha hpf;have w1:=w0.new (o:=.lst [T.str cm]) hpf;generalize up3 H3 pf (.lst [T.str cm])=H4 at w1;clear w0 hpf ha;walk_at "n";refine aq fun R1 hR1=>?_;have gA:=w1.tl.hd;walk_at "";walk_at "c";refine eV T.str T.str (fun x=>!decide (x=cm)) ws [some (.str cm)] (.inl gA) (by omega) (fun x hx Q' hq=>?_) (fun x hx _ Q' hq=>hq) (fun q hq=>?_)
 ·have hq':=Box.mk hq;clear k' hq hR1;walk_at "";first | exact hq'.out | trivial
 have w2:=w1.new (o:=.lst ((ws.filter fun x=>!decide (x=cm)).map T.str)) hq;have gq:=w2.hd;generalize up3 H4 q (.lst ((ws.filter fun x=>!decide (x=cm)).map T.str))=H5 at w2 gq;clear w1 hq gA;refine⟨d,q,(ws.filter fun x=>!decide (x=cm)).map T.str,ds,rfl,(w2.at' _ i_).2,gq,dh _,by rw[g_];have:=Rb (fun x=>!decide (x=cm)) ws;omega,w2.cl,fun ys dt H6 q2 et hperm hD hq2=>?_⟩;obtain⟨fs,hp',rfl⟩:=gD hperm _ rfl;have hF:Box (skF ds cm ws=fs.foldl skS ([cm],dt)):=⟨by unfold skF;rw[et];dsimp only;rw[Cz]⟩;clear et;have fnm:Nms fs:=⟨fun x hx=>hws.nm x (QS.mp (hp'.mem_iff.mp hx)).1,hp'.nodup_iff.mpr (hws.nd.filter _)⟩;have fcm:cm∉fs:=fun h=>by have:=(QS.mp (hp'.mem_iff.mp h)).2;simp at this
 have fl:fs.length<=8:=by rw[hp'.length_eq];have:=Rb (fun x=>!decide (x=cm)) ws;omega
 have w3:=(w2.drw hD).tl.new (o:=.lst (fs.map T.str)) hq2;have gq2:=w3.hd;have nfq:pf≠q2:=aY (w2.drw hD).tl.hd hq2;generalize up3 H6 q2 (.lst (fs.map T.str))=H7 at w3 gq2;clear w2 hD hq2 gq hperm hp';try dsimp only
 walk_at "";have w4:Wi d dt H3 H7 [(pf,.lst ([cm].map T.str)),(q2,.lst (fs.map T.str))]:=⟨w3.cl,w3.kp,fun x hx=>by
  rcases k_.mp hx with rfl | hx
  ·
   exact w3.at' _ (by simp)
  ·
   rw[b_.mp hx];exact w3.at' _ i_⟩
 clear w3 gq2;refine aL T.str fs (fun A Z H=>∃(ks:List Str) (d1:List Int) (v4:Option T),Z=[some (.ref d),some (.str cm),some (.ref a),some (.ref pf),v4]/\Nms ks/\ks.length<=4/\(∀x∈ks,x=cm\/x∈A)/\Wi d d1 H3 H [(pf,.lst (ks.map T.str)),(q2,.lst (fs.map T.str))]/\Box (A.foldl skS ([cm],dt)=(ks,d1))) ⟨[cm],dt,_,rfl,⟨fun x hx=>by rw[b_.mp hx];exact hcm,by simp⟩,by simp,fun x hx=>.inl (b_.mp hx),w4,⟨rfl⟩⟩ ?_ ?_
 ·rintro Z H ⟨ks,d1,v4,rfl,hk,k4,_,w,hx1⟩;refine⟨.inl w.tl.hd,?_⟩;have g:=w.hd;walk_at "n";clear w4;try dsimp only
  walk_at "";exact jX w.cl w.kp fun H'' hD=>k'.out ks d1 H'' (by rw[hF.out,hx1.out]) hk k4 hD
 rintro A x B Z H N e ⟨ks,d1,v4,rfl,hk,k4,hin,w,hx1⟩ hN;refine⟨.inl w.tl.hd,?_⟩;have hx:isNm x:=fnm.nm x (by rw[e];simp);have hnx:x∉ks:=fun h=>by
  rcases hin x h with h | h
  ·exact fcm (by rw[<- h,e];simp)
  have nd:=fnm.nd;rw[e,Q9] at nd;exact nd.2.2 x h x i_ rfl
 have hst:Box ((A++[x]).foldl skS ([cm],dt)=skS (ks,d1) x):=⟨by rw[E_,hx1.out];rfl⟩;have hN':=Box.mk hN;have hin':=Box.mk hin;clear hN hin e k' hR1 w4;have g:=w.hd;walk_at "";have stay:∀H6 d2,skS (ks,d1) x=(ks,d2)->Wi d d2 H3 H6 [(pf,.lst (ks.map T.str)),(q2,.lst (fs.map T.str))]->N [some (.ref d),some (.str cm),some (.ref a),some (.ref pf),some (.str x)] H6:=fun H6 d2 hz w'=>hN'.out _ _ ⟨ks,d2,_,rfl,hk,k4,fun y hy=>(hin'.out y hy).imp id fun h=>Rx _ h,w',⟨hst.out.trans hz⟩⟩;have stay':=Box.mk stay;clear stay;by_cases h4':ks.length<4
 ·rw[if_pos (y_ (by omega))];refine⟨d,2,d1,rfl,by decide,w.cl,fun n1 d2 H8 f1 p0 p1 hD1=>?_⟩;have f1':=Box.mk f1;clear f1;have w5:=w.drw hD1;have g5:=w5.hd;clear w g hD1;walk_at "";by_cases c1:n1=1
  ·rw[if_pos (y_ c1)];refine⟨⟨trivial,trivial⟩,d,_,d2,rfl,by omega,w5.cl,fun n2 d3 H9 f2 r0 r1 hD2=>?_⟩;have f2':=Box.mk f2;clear f2;have w6:=w5.drw hD2;have g6:=w6.hd;clear w5 g5 hD2;walk_at "";have em:(ks.map T.str).take n2.toNat++T.str x::(ks.map T.str).drop n2.toNat=(ks.take n2.toNat++x::ks.drop n2.toNat).map T.str:=by rw[B_,m_,List.map_take,List.map_drop]
   rw[em];refine⟨⟨by first | trivial | omega,by first | trivial | omega,by first | trivial | omega⟩,hN'.out _ _ ⟨ks.take n2.toNat++x::ks.drop n2.toNat,d3,_,rfl,hk.ins hx hnx,?_,fun y hy=>?_,w6.set f0 (fun q hq=>by rw[b_.mp hq];exact Ne.symm nfq) _,⟨by rw[hst.out];unfold skS;dsimp only;rw[if_pos h4',f1'.out];dsimp only;rw[if_pos c1,f2'.out]⟩⟩⟩
   ·rw[a_,j_,Rc,Ro];omega
   rcases yD hy with rfl | h
   ·exact .inr (P_ _ (b_.mpr rfl))
   exact (hin'.out y h).imp id fun h=>Rx _ h
  rw[if_neg (qY c1)];exact stay'.out _ d2 (by unfold skS;dsimp only;rw[if_pos h4',f1'.out];dsimp only;rw[if_neg c1]) w5
 rw[if_neg (qY (by omega))];exact stay'.out _ d1 (by unfold skS;dsimp only;rw[if_neg h4']) w
structure KIx (d:Addr) (ds:List Int) (tt:List (List Bool)) (H3 H0 H:Hp3) (pf pc r a t:Addr) (row ws:List Str) (m:Nat) (as:List Addr) (cs:List Str) (ks:List (List Str)):Prop where
 w:Wi d ds H3 H [(pf,.lst (ks.map sT)),(pc,.lst (cs.map T.str)),(r,.lst (row.map T.str)),(a,.lst (ws.map T.str))]
 tq:Tqx d H0 H t m as tt
 nfc:pf≠pc
 nr:r≠pc/\r≠pf
 na:a≠pc/\a≠pf
 nt:t≠pc/\t≠pf
 ns:∀x∈as,x≠pc/\x≠pf
 c0:H3 pc=none
 f0:H3 pf=none
theorem KIx.drw {d:Addr}{ds d1:List Int}{tt:List (List Bool)}{H3 H0 H H':Hp3}{pf pc r a t:Addr}{row ws:List Str}{m:Nat}{as:List Addr}{cs:List Str}{ks:List (List Str)}(x:KIx d ds tt H3 H0 H pf pc r a t row ws m as cs ks) (D:Di d H H' d1):KIx d d1 tt H3 H0 H' pf pc r a t row ws m as cs ks:=⟨x.w.drw D,x.tq.drw D,x.nfc,x.nr,x.na,x.nt,x.ns,x.c0,x.f0⟩
theorem KIx.new {d q:Addr}{ds:List Int}{tt:List (List Bool)}{H3 H0 H:Hp3}{pf pc r a t:Addr}{row ws:List Str}{m:Nat}{as:List Addr}{cs:List Str}{ks:List (List Str)}{o:O3}(x:KIx d ds tt H3 H0 H pf pc r a t row ws m as cs ks) (hq:H q=none):KIx d ds tt H3 H0 (up3 H q o) pf pc r a t row ws m as cs ks:={ x with w:=(x.w.new hq).tl,tq:=x.tq.new hq}
theorem KIx.putf {d:Addr}{ds:List Int}{tt:List (List Bool)}{H3 H0 H:Hp3}{pf pc r a t:Addr}{row ws:List Str}{m:Nat}{as:List Addr}{cs:List Str}{ks:List (List Str)}(x:KIx d ds tt H3 H0 H pf pc r a t row ws m as cs ks) (ks':List (List Str)):KIx d ds tt H3 H0 (up3 H pf (.lst (ks'.map sT))) pf pc r a t row ws m as cs ks' :=
 { x with
  w:=x.w.set x.f0 (fun q hq=>by
   simp only[k_,M_,Q7] at hq
   rcases hq with rfl | rfl | rfl
   ·
    exact Ne.symm x.nfc
   ·
    exact x.nr.2
   ·
    exact x.na.2) _
  tq:=x.tq.set x.nt.2 fun y hy=>(x.ns y hy).2}
theorem KIx.putc {d:Addr}{ds:List Int}{tt:List (List Bool)}{H3 H0 H:Hp3}{pf pc r a t:Addr}{row ws:List Str}{m:Nat}{as:List Addr}{cs:List Str}{ks:List (List Str)}(x:KIx d ds tt H3 H0 H pf pc r a t row ws m as cs ks) (cs':List Str):KIx d ds tt H3 H0 (up3 H pc (.lst (cs'.map T.str))) pf pc r a t row ws m as cs' ks:=by
 refine { x with
  w:=⟨x.w.cl.new (x.w.at' (pc,.lst (cs.map T.str)) (by simp)).2,x.w.kp.at x.c0,fun q hq=>?_⟩
  tq:=x.tq.set x.nt.1 fun y hy=>(x.ns y hy).1}
 simp only[k_,M_,Q7] at hq;rcases hq with rfl | rfl | rfl | rfl
 ·exact⟨by rw[aF x.nfc];exact (x.w.at' (pf,.lst (ks.map sT)) (by simp)).1,(x.w.at' (pf,.lst (ks.map sT)) (by simp)).2⟩
 ·exact⟨aC,(x.w.at' (pc,.lst (cs.map T.str)) (by simp)).2⟩
 ·exact⟨by rw[aF x.nr.1];exact (x.w.at' (r,.lst (row.map T.str)) (by simp)).1,(x.w.at' (r,.lst (row.map T.str)) (by simp)).2⟩
 exact⟨by rw[aF x.na.1];exact (x.w.at' (a,.lst (ws.map T.str)) (by simp)).1,(x.w.at' (a,.lst (ws.map T.str)) (by simp)).2⟩
def jsF (tt:List (List Bool)) (A:List Nat) (i:Nat):List Nat:=A.filter fun j=>decide (j=i)||((tt.getD i []).getD j false&&(tt.getD j []).getD i false)
def cdF (row:List Str) (tt:List (List Bool)) (m:Nat) (s:List Str × List (List Str) × List Int) (i:Nat):Str × List Int :=
 if (jsF tt (List.range m) i).getD 0 0=i then ((atI row (drF s.2.2 row.length).1).getD "",(drF s.2.2 row.length).2) else (s.1.getD ((jsF tt (List.range m) i).getD 0 0) "",s.2.2)
def kiS (row ws:List Str) (tt:List (List Bool)) (m:Nat) (s:List Str × List (List Str) × List Int) (i:Nat):List Str × List (List Str) × List Int :=
 if (drF (cdF row tt m s i).2 3).1=1 then (s.1++[(cdF row tt m s i).1],s.2.1++[(skF (drF (cdF row tt m s i).2 3).2 (cdF row tt m s i).1 ws).1],(skF (drF (cdF row tt m s i).2 3).2 (cdF row tt m s i).1 ws).2)
 else (s.1++[(cdF row tt m s i).1],s.2.1++[[]],(drF (cdF row tt m s i).2 3).2)
def kiF (ds:List Int) (row ws:List Str) (tt:List (List Bool)) (m:Nat):List (List Str) × List Int:=(((List.range m).foldl (kiS row ws tt m) ([],[],ds)).2.1,((List.range m).foldl (kiS row ws tt m) ([],[],ds)).2.2)
def Ou:Sp3:=fun ts H Q=>∃(d r a t:Addr) (row ws:List Str) (m:Nat) (H0:Hp3) (as:List Addr) (tt:List (List Bool)) (ds:List Int),ts=[.ref d,.ref r,.ref a,.ref t]/\r≠d/\a≠d/\H r=some (.lst (row.map T.str))/\1<=row.length/\row.length<=8/\(∀x∈row,isNm x)/\H a=some (.lst (ws.map T.str))/\Nms ws/\ws.length<=8/\Tqx d H0 H t m as tt/\m<=8/\Ci H d ds /\
 ∀(ks:List (List Str)) (d1:List Int) (H1:Hp3) (p:Addr),kiF ds row ws tt m=(ks,d1)->ks.length=m->(∀k∈ks,Nms k/\k.length<=4)->Di d H H1 d1->H1 p=none->Q (.ref p) (up3 H1 p (.lst (ks.map sT)))
abbrev n8:List Str:=["_law_deck","_law_row","_law_names_here","_law_table","_law_many","_law_commons","_law_found","_law_i","_law_first"]
theorem sc_kinds:FnScope n8 ["_law_deck","_law_row","_law_names_here","_law_table"] (aB (top 30)):=bA
theorem yZ {f:Addr}{fd:FuncData}(g:G3 K mg "_law_kinds" (top 30) ["_law_deck","_law_row","_law_names_here","_law_table"] f fd) (B:Bl mg) (F_draw:Cal P w K mg base 1 "_law_draw" (top 21) ["_law_deck","_law_most"] kO) (F_some_kinds:Cal P w K mg base 3 "_law_some_kinds" (top 29) ["_law_deck","_law_common","_law_names_here"] Ot):Cal P w K mg base 4 "_law_kinds" (top 30) ["_law_deck","_law_row","_law_names_here","_law_table"] Ou:=by
 refine⟨f,fd,g,?_⟩;refine fn3 g.fn sc_kinds (fun ts H Q h=>?_) (fun cdv A outer s H E ts H3 Q hr h=>?_)
 ·obtain⟨d,r,a,t,row,ws,m,H0,as,tt,ds,rfl,_⟩:=h;rfl
 have hu30:=Room.u30 hr;obtain⟨d,r,a,t,row,ws,m,H0,as,tt,ds,rfl,nrd,nad,hr',r1,r8,hrow,ha,hws,w8,tq,m8,hC,k⟩:=h;refine⟨_,(ak (aD (i:=4) sc_kinds.nd (aH bc rfl B.len_ bf (aa (v3 3) aj)))
   (ak (aD (i:=5) sc_kinds.nd (bO aj))
   (ak (aD (i:=6) sc_kinds.nd (bO aj))
   (ak (aU n_ rfl (aN rfl B.range_ (aa (v3 4) aj)) (aA (i:=7) sc_kinds.nd) (ak (aD (i:=8) sc_kinds.nd (aM ix3 (bh rfl (bI (n0:=(aB (top 30)).names) (N:=n8) (N':=["_law_j","_law_i","_law_table"]) (nt:=1) (cap:=[7,3]) rfl rfl (by decide +kernel)) (aN rfl B.range_ (aa (v3 4) aj)) (fun cl pins s H C0 fp=>⟨(aA (i:=0) (show List.Nodup [("_law_j":Str),("_law_i":Str),("_law_table":Str)] by decide +kernel)),(gJ (PW3.pt (sJ (aP (bY hu30) (v3 0) (v3 1)) (mK (PW3.pt (cU (cT (aM ix3 (aM ix3 (v3 2) (v3 1)) (v3 0))) (cZ (cT (aM ix3 (aM ix3 (v3 2) (v3 0)) (v3 1)))))))))),(v3 0)⟩)) au))
    (ak (bz (aP (bY hu30) (v3 8) (v3 7)) (ao (b8 (dY I_ Qq Qs bT (v3 5) (aa (aM ix3 (v3 1) (aJ F_draw hr rfl (aa (v3 0) (aa (aH bc rfl B.len_ bf (aa (v3 1) aj)) aj)))) aj)))) (ao (b8 (dY I_ Qq Qs bT (v3 5) (aa (aM ix3 (v3 5) (v3 8)) aj)))))
    (ao (bz (aP (bY hu30) (aJ F_draw hr rfl (aa (v3 0) (aa au aj))) au) (ao (b8 (dY I_ Qq Qs bT (v3 6) (aa (aJ F_some_kinds hr rfl (aa (v3 0) (aa (aM ix3 (v3 5) (v3 7)) (aa (v3 2) aj)))) aj)))) (ao (b8 (dY I_ Qq Qs bT (v3 6) (aa (aZ aj) aj)))))))))
   (ao (aK (v3 6))))))),?_⟩
 rw[show aV n8 [T.ref d,T.ref r,T.ref a,T.ref t]=[some (T.ref d),some (T.ref r),some (T.ref a),some (T.ref t),none,none,none,none,none] from rfl];have hsz:sizeLine=16777216:=rfl;have k':=Box.mk k;clear k;have gt:=tq.t;have tl:as.length=m:=tq.l;have w0:Wi d ds H3 H3 [(r,.lst (row.map T.str)),(a,.lst (ws.map T.str))]:=⟨hC,Kep.refl,fun q hq=>by
  rcases k_.mp hq with rfl | hq
  ·
   exact⟨hr',nrd⟩
  ·
   rw[b_.mp hq];exact⟨ha,nad⟩⟩
 clear hC;have rg:cN 0 m=(List.range m).map fun (i:Nat)=>T.int (i:Int):=dZ _;refine aq fun R0 hR0=>?_;walk_at "";walk_at "n";refine aq fun R1 hR1=>?_;walk_at "";refine⟨by omega,fun pc hpc=>?_⟩;have c0:=w0.fresh hpc;have nrc:r≠pc:=aY hr' hpc;have nac:a≠pc:=aY ha hpc;have ntc:t≠pc:=aY gt hpc;have nsc:∀x∈as,x≠pc:=fun x hx=>by obtain⟨i,hi⟩:=RC hx;obtain⟨bs,_,_,h2⟩:=tq.r i x hi;exact aY h2 hpc
 have w1:=w0.new (o:=.lst []) hpc;have tq1:=tq.new (o:=.lst []) hpc;generalize up3 H3 pc (.lst [])=H4 at w1 tq1;clear hpc gt;walk_at "n";refine aq fun R2 hR2=>?_;walk_at "";refine⟨by omega,fun pf hpf=>?_⟩;have ki:KIx d ds tt H3 H0 (up3 H4 pf (.lst [])) pf pc r a t row ws m as [] [] :=
  ⟨w1.new hpf,tq1.new hpf,Ne.symm (aY w1.hd hpf),⟨nrc,aY w1.tl.hd hpf⟩,⟨nac,aY w1.tl.tl.hd hpf⟩,⟨ntc,aY tq1.t hpf⟩,fun x hx=>⟨nsc x hx,by obtain⟨i,hi⟩:=RC hx;obtain⟨bs,_,_,h2⟩:=tq1.r i x hi;exact aY h2 hpf⟩,c0,w1.fresh hpf⟩
 generalize up3 H4 pf (.lst [])=H5 at ki;clear w1 tq1 hpf nrc nac ntc nsc c0 tq;walk_at "n";refine aq fun R3 hR3=>?_;walk_at "";refine⟨by first | trivial | omega,by omega,by omega,?_⟩;try rw[rg]
 refine aL (fun (i:Nat)=>T.int (i:Int)) (List.range m) (fun A Z H=>∃(cs:List Str) (ks:List (List Str)) (d1:List Int) (v7 v8:Option T),Z=[some (.ref d),some (.ref r),some (.ref a),some (.ref t),some (.int (m:Int)),some (.ref pc),some (.ref pf),v7,v8]/\KIx d d1 tt H3 H0 H pf pc r a t row ws m as cs ks/\cs.length=A.length/\ks.length=A.length/\(∀c∈cs,isNm c)/\(∀k∈ks,Nms k/\k.length<=4)/\Box (A.foldl (kiS row ws tt m) ([],[],ds)=(cs,ks,d1))) ⟨[],[],ds,_,_,rfl,ki,rfl,rfl,(fun _ h=>nomatch h),(fun _ h=>nomatch h),⟨rfl⟩⟩ ?_ ?_
 ·rintro Z H ⟨cs,ks,d1,v7,v8,rfl,ki,hcl,hkl,hc,hk,hx⟩;refine⟨trivial,?_⟩;rw[t_] at hkl;walk_at "n";walk_at "";exact gO ki.w.cl ki.w.kp ki.w.hd ki.f0 (ki.w.at' _ i_).2 fun H1 hD h1=>k'.out ks d1 H1 pf (by unfold kiF;rw[hx.out]) hkl hk hD h1
 rintro A i B Z H N e ⟨cs,ks,d1,v7,v8,rfl,ki,hcl,hkl,hc,hk,hx⟩ hN;refine⟨trivial,?_⟩;have hi:i<m:=L_.mp (by rw[e];simp);have hiA:=Box.mk (qb e);have hN':=Box.mk hN;have hst:Box ((A++[i]).foldl (kiS row ws tt m) ([],[],ds)=kiS row ws tt m (cs,ks,d1) i):=⟨by rw[E_,hx.out];rfl⟩;clear hx;have hcl':=Box.mk hcl;have hkl':=Box.mk hkl;clear hN e k' hR3 hcl hkl;refine aq fun R4 hR4=>?_;walk_at "";refine⟨by first | trivial | omega,by omega,by omega,?_⟩;try rw[rg]
 walk_at "c";refine cW (fun (j:Nat)=>T.int (j:Int)) (List.range m) (fun A2 ys Z H'=>∃(js:List Nat) (v:Option T),Z=[v,some (.int (i:Int)),some (.ref t)]/\ys=js.map (fun (j:Nat)=>T.int (j:Int))/\js.length<=A2.length/\H=H'/\Box (js=jsF tt A2 i)/\((js=[]/\i∉A2)\/∃f rest,js=f::rest/\f<=i)) ⟨[],_,rfl,rfl,u_ _,rfl,⟨rfl⟩,.inl ⟨rfl,by simp⟩⟩ ?_ ?_;rotate_left
 ·rintro A2 j B2 ys Z H' N2 e2 ⟨js,v,rfl,rfl,hjl,rfl,hjx,hjs⟩ hN2;refine⟨trivial,?_⟩;have hj:j<m:=L_.mp (by rw[e2];simp);have hjA:=qb e2;have hpr:=lV e2;have hA2:A2.length<8:=by omega
  have app:(decide (j=i)||((tt.getD i []).getD j false&&(tt.getD j []).getD i false))=true->N2 (js.map (fun (j:Nat)=>T.int (j:Int))++[T.int (j:Int)]) [some (T.int (j:Int)),some (.int (i:Int)),some (.ref t)] H:=fun hz=>hN2 _ _ _ ⟨js++[j],_,rfl,by rw[B_];rfl,by rw[a_,a_];simp only[x_];omega,rfl,⟨by unfold jsF;rw[List.filter_append,List.filter_cons,hz,if_pos rfl,hjx.out];rfl⟩,.inr (by
   rcases hjs with ⟨rfl,hni⟩ | ⟨f,rest,rfl,hf⟩
   ·
    refine⟨j,[],rfl,?_⟩
    rw[hpr,L_,<- hjA] at hni
    omega
   ·
    exact⟨f,rest++[j],rfl,hf⟩)⟩
  have skip:j≠i->(decide (j=i)||((tt.getD i []).getD j false&&(tt.getD j []).getD i false))=false->N2 (js.map (fun (j:Nat)=>T.int (j:Int))) [some (T.int (j:Int)),some (.int (i:Int)),some (.ref t)] H:=fun hne hz=>hN2 _ _ _ ⟨js,_,rfl,rfl,by rw[a_];simp only[x_];omega,rfl,⟨by unfold jsF;rw[List.filter_append,List.filter_cons,hz,hjx.out];simp [jsF]⟩,by
   rcases hjs with ⟨rfl,hni⟩ | h
   ·
    exact .inl ⟨rfl,fun h=>by
     rcases v_.mp h with h | h
     ·
      exact hni h
     ·
      exact hne (b_.mp h).symm⟩
   ·
    exact .inr h⟩
  have gt:=ki.tq.t;obtain⟨ri,bi,gi,hri,ti,li,gri⟩:=ki.tq.at' hi;obtain⟨rj,bj,gj,hrj,tj,lj,grj⟩:=ki.tq.at' hj;have gx1:=iK (show j<bi.length by omega);have gx2:=iK (show i<bj.length by omega);rw[ti,tj] at app skip;generalize bi.getD j false=x1 at gx1 app skip;generalize bj.getD i false=x2 at gx2 app skip;have app':=Box.mk app;have skip':=Box.mk skip;have hjl':js.length<8:=by omega
  clear li lj ti tj hjx hst app skip hN2 hN' hjs hjA hpr e2 hR4 hjl rg;walk_at "";by_cases hji:(j:Int)=(i:Int)
  ·rw[y_ hji,if_pos rfl];exact⟨by omega,app'.out (by rw[y_ (show j=i by omega)];rfl)⟩
  rw[o_ hji,if_neg p_];have hne:decide (j=i)=false:=o_ (by omega);rw[hne,Bool.false_or] at app' skip';have sk:=skip'.out (fun h=>hji (by rw[h]));cases x1
  ·exact sk rfl
  cases x2
  ·exact sk rfl
  exact⟨by omega,app'.out rfl⟩
 rintro ys Z H' ⟨js,v,rfl,rfl,hjl,rfl,hjx,hjs⟩;rw[t_] at hjl;refine⟨trivial,by rw[g_];omega,fun q hq=>?_⟩;obtain⟨f,rest,rfl,hf⟩:∃f rest,js=f::rest/\f<=i:=hjs.resolve_left fun h=>h.2 (L_.mpr hi);have ki2:=ki.new (o:=.lst ((f::rest).map fun (j:Nat)=>T.int (j:Int))) hq;generalize up3 H q (.lst ((f::rest).map fun (j:Nat)=>T.int (j:Int)))=H6 at ki2;have hf0:Box ((jsF tt (List.range m) i).getD 0 0=f):=⟨by rw[<- hjx.out];rfl⟩;clear ki hq hjs hjl hjx;rw[m_,at0,gU];walk_at "n";refine aq fun R5 hR5=>?_;have il:cs.length=i:=hcl'.out.trans hiA.out.symm;have key:∀(c:Str) (d2:List Int) (H7:Hp3),cdF row tt m (cs,ks,d1) i=(c,d2)->isNm c->KIx d d2 tt H3 H0 H7 pf pc r a t row ws m as (cs++[c]) ks->R5 { nx:=N,rt:=Fin3 Q,bk:=R3 { nx:=fun x H'=>Fin3 Q T.non H',rt:=Fin3 Q},ct:=N} [some (T.ref d),some (T.ref r),some (T.ref a),some (T.ref t),some (T.int (m:Int)),some (T.ref pc),some (T.ref pf),some (T.int (i:Int)),some (T.int (f:Int))] H7:=fun c d2 H7 ecd hcn ki7=>by
  have ecd':=Box.mk ecd;clear ecd;walk_at "n";clear ki2;have hcs:∀x∈cs++[c],isNm x:=fun x hx=>by
   rcases v_.mp hx with h | h
   ·exact hc x h
   rw[b_.mp h];exact hcn
  have gci:atI ((cs++[c]).map T.str) (i:Int)=some (.str c):=bH (by rw[<- il];simp);have il':=Box.mk il;clear il;walk_at "";refine⟨d,3,d2,rfl,by decide,ki7.w.cl,fun n d3 H8 f3 p0 p1 hD=>?_⟩;have f3':=Box.mk f3;clear f3;have ki8:=ki7.drw hD;have gf:=ki8.w.hd;have gc:=ki8.w.tl.hd;have gA:=ki8.w.tl.tl.tl.hd;have kl:ks.length<8:=by rw[hkl'.out,<- hiA.out];omega
  clear ki7 hD;walk_at "";by_cases c1:n=1
  ·rw[if_pos (y_ c1)];refine⟨⟨trivial,trivial⟩,d,a,c,ws,d3,rfl,nad,gA,hws,w8,hcn,ki8.w.cl,fun k1 d4 H9 f4 hk1 hk4 hD9=>?_⟩;have f4':=Box.mk f4;clear f4;have ki9:=ki8.drw hD9;have gf9:=ki9.w.hd;clear ki8 hD9 gf gc gA;try dsimp only
   walk_at "";have em:ks.map sT++[T.tup (k1.map T.str)]=(ks++[k1]).map sT:=by rw[B_];rfl
   rw[em];refine⟨by omega,hN'.out _ _ ⟨cs++[c],ks++[k1],d4,_,_,rfl,ki9.putf _,by rw[a_,a_,hcl'.out];rfl,by rw[a_,a_,hkl'.out];rfl,hcs,fun k hk'=>?_,⟨by rw[hst.out];unfold kiS;rw[ecd'.out];dsimp only;rw[f3'.out];dsimp only;rw[if_pos c1,f4'.out]⟩⟩⟩;rcases v_.mp hk' with h | h
   ·exact hk k h
   rw[b_.mp h];exact⟨hk1,hk4⟩
  rw[if_neg (qY c1)];have em:ks.map sT++[T.tup []]=(ks++[[]]).map sT:=by rw[B_];rfl
  rw[em];refine⟨⟨trivial,trivial⟩,by first | trivial | omega,by omega,hN'.out _ _ ⟨cs++[c],ks++[[]],d3,_,_,rfl,ki8.putf _,by rw[a_,a_,hcl'.out];rfl,by rw[a_,a_,hkl'.out];rfl,hcs,fun k hk'=>?_,⟨by rw[hst.out];unfold kiS;rw[ecd'.out];dsimp only;rw[f3'.out];dsimp only;rw[if_neg c1]⟩⟩⟩;rcases v_.mp hk' with h | h
  ·exact hk k h
  rw[b_.mp h];exact⟨Nms.nil,by decide⟩
 have key':=Box.mk key;have gc:=ki2.w.tl.hd;have gr:=ki2.w.tl.tl.hd;have cl8:cs.length<8:=by omega
 clear key hR5;walk_at "";by_cases hfi:(f:Int)=(i:Int)
 ·rw[y_ hfi,if_pos rfl];refine⟨⟨trivial,trivial⟩,d,_,d1,rfl,by omega,ki2.w.cl,fun n d2 H7 f5 p0 p1 hD=>?_⟩;have f5':=Box.mk f5;clear f5;have ki3:=ki2.drw hD;have gr3:=ki3.w.tl.tl.hd;have gc3:=ki3.w.tl.hd;clear ki2 hD gc gr;obtain⟨z,hz,ez⟩:=pG row n p0 (by omega);have ez':atI (row.map T.str) n=some (T.str z):=by rw[jT,ez];rfl
  have ecd:Box (cdF row tt m (cs,ks,d1) i=(z,d2)):=⟨by unfold cdF;rw[hf0.out,if_pos (by omega)];dsimp only;rw[f5'.out];dsimp only;rw[ez];rfl⟩;clear ez;have em:cs.map T.str++[T.str z]=(cs++[z]).map T.str:=by rw[B_];rfl
  walk_at "";have fin:=key'.out z d2 _ ecd.out (hrow z hz) (ki3.putc _);rw[hfi] at fin;exact⟨by omega,fin⟩
 rw[o_ hfi,if_neg p_];have hfl:f<cs.length:=by omega
 have gz:atI (cs.map T.str) (f:Int)=some (T.str cs[f]):=bH (by rw[G_,d_ hfl];rfl);have hz:=hc _ (Qx hfl);have ecd:Box (cdF row tt m (cs,ks,d1) i=(cs[f],d1)):=⟨by unfold cdF;rw[hf0.out,if_neg (by omega)];dsimp only;rw[A_,d_ hfl];rfl⟩;generalize cs[f]=z at gz hz ecd;have em:cs.map T.str++[T.str z]=(cs++[z]).map T.str:=by rw[B_];rfl
 rw[gz,gU,em];exact⟨⟨trivial,trivial⟩,by omega,key'.out z d1 _ ecd.out hz (ki2.putc _)⟩
def fnF (sz:Nat) (num:Int) (ws:List Str):Str:=(((List.range (ws.length+1)).map fun (i:Nat)=>mkS (dg sz (num+i))).find? fun x=>decide (x∉ws)).getD ""
def Ov:Sp3:=fun ts H Q=>∃(sz:Nat) (num:Int) (a:Addr) (ws:List Str),ts=[.int (sz:Int),.int num,.ref a]/\1<=sz/\sz<=8/\H a=some (.lst (ws.map T.str))/\ws.length<=8/\∀x,fnF sz num ws=x->isNm x->x∉ws->Q (.str x) H
abbrev jw:List Str:=["_law_size","_law_number","_law_names_here","_law_letters","_law_found","_law_turn_here","_law_left","_law_name","_law_k"]
theorem sc_free_name:FnScope jw ["_law_size","_law_number","_law_names_here"] (aB (top 23)):=bA
theorem oh {f:Addr}{fd:FuncData}(g:G3 K mg "_law_free_name" (top 23) ["_law_size","_law_number","_law_names_here"] f fd) (B:Bl mg):Cal P w K mg base 1 "_law_free_name" (top 23) ["_law_size","_law_number","_law_names_here"] Ov:=by
 refine⟨f,fd,g,?_⟩;refine fn3 g.fn sc_free_name (fun ts H Q h=>?_) (fun cdv A outer s H E ts H3 Q hr h=>?_)
 ·obtain⟨sz,num,a,ws,rfl,_⟩:=h;rfl
 have hu30:=Room.u30 hr;have hu31:=Room.u31 hr;obtain⟨sz,num,a,ws,rfl,s1,s8,ha,hl,k⟩:=h;refine⟨_,(ak (aD (i:=3) sc_free_name.nd bB)
   (ak (aD (i:=4) sc_free_name.nd bB)
   (ak (aU n_ rfl (aN rfl B.range_ (aa (aO bx (aH bc rfl B.len_ bf (aa (v3 2) aj)) au) aj)) (aA (i:=5) sc_free_name.nd) (ak (aD (i:=6) sc_free_name.nd (aO bx (v3 1) (v3 5)))
    (ak (aD (i:=7) sc_free_name.nd bB)
    (ak (aU n_ rfl (aN rfl B.range_ (aa (v3 0) aj)) (aA (i:=8) sc_free_name.nd) (ak (aD (i:=7) sc_free_name.nd (aO bx (v3 7) (aM ix3 (v3 3) (aO dX (v3 6) au))))
     (ao (aD (i:=6) sc_free_name.nd (aO gK (v3 6) au)))))
    (ao (bz (PW3.pt (cU (aP (bY hu30) (v3 4) bB) (cZ (aP (gh hu31) (v3 7) (v3 2) rfl)))) (ao (aD (i:=4) sc_free_name.nd (v3 7))) aQ))))))
   (ao (aK (v3 4)))))),?_⟩
 rw[show aV jw [T.int (sz:Int),T.int num,T.ref a]=[some (T.int (sz:Int)),some (T.int num),some (T.ref a),none,none,none,none,none,none] from rfl];have hsz:sizeLine=16777216:=rfl;have al:(mkS jB).length<=sizeLine:=by rw[cJ];decide
 have k':=Box.mk k;clear k;have e0:("":Str)=mkS []:=by decide +kernel
 refine aq fun R0 hR0=>?_;walk_at "";simp only[yg];walk_at "n";refine aq fun R1 hR1=>?_;walk_at "";walk_at "n";refine aq fun R2 hR2=>?_;walk_at "";refine⟨by first | trivial | omega,by omega,by omega,?_⟩;rw[show cN 0 ((ws.length:Int)+1).toNat=(List.range (ws.length+1)).map (fun (i:Nat)=>T.int (i:Int)) by rw[show ((ws.length:Int)+1).toNat=ws.length+1 by omega];exact dZ _];refine aL (fun (i:Nat)=>T.int (i:Int)) (List.range (ws.length+1)) (fun A Z H=>∃(fo:Str) (v5 v6 v7 v8:Option T),Z=[some (.int (sz:Int)),some (.int num),some (.ref a),some (.str (mkS jB)),some (.str fo),v5,v6,v7,v8]/\H3=H/\((fo=""/\∀i∈A,mkS (dg sz (num+i))∈ws)\/(isNm fo/\fo∉ws/\Box ((A.map fun (i:Nat)=>mkS (dg sz (num+i))).find? (fun x=>decide (x∉ws))=some fo)))) ⟨"",_,_,_,_,rfl,rfl,.inl ⟨rfl,(fun _ h=>nomatch h)⟩⟩ ?_ ?_
 ·rintro Z H ⟨fo,v5,v6,v7,v8,rfl,rfl,hfo⟩;refine⟨trivial,?_⟩;walk_at "n";walk_at "";rcases hfo with ⟨_,hall⟩ | ⟨h1,h2,h3⟩
  ·exfalso;obtain⟨n,rfl⟩:∃n,sz=n+1:=⟨sz - 1,by omega⟩;exact pig ws (fun i=>mkS (dg (n+1) (num+i))) (fun i j hi hj h=>Jt (by omega) (by omega) h) fun i hi=>hall i (L_.mpr (by omega))
  exact Fin3.of Sub3.refl (k'.out fo (by unfold fnF;rw[h3.out];rfl) h1 h2)
 rintro A i B Z H N e ⟨fo,v5,v6,v7,v8,rfl,rfl,hfo⟩ hN;refine⟨trivial,?_⟩;have hN':=Box.mk hN;have hfo':=Box.mk hfo;clear hN hfo e k' hR2;refine aq fun R3 hR3=>?_;walk_at "";walk_at "n";refine aq fun R4 hR4=>?_;walk_at "";walk_at "n";refine aq fun R5 hR5=>?_;walk_at "";refine⟨by first | trivial | omega,by omega,by omega,?_⟩;have hrl:(cN 0 sz).length=sz:=by unfold cN;rw[g_,t_]
 generalize cN 0 sz=ts0 at hrl;try rw[e0]
 refine Ay (fun r Z H=>∃(pre:List Nat) (lf:Int) (v8:Option T),Z=[some (.int (sz:Int)),some (.int num),some (.ref a),some (.str (mkS jB)),some (.str fo),some (.int (i:Int)),some (.int lf),some (.str (mkS pre)),v8]/\pre++dg r.length lf=dg sz (num+i)/\pre.length+r.length=sz/\H3=H) ⟨[],num+i,_,rfl,by rw[hrl];rfl,by rw[hrl];exact Q8 _,rfl⟩ ?_ ?_
 ·rintro Z H ⟨pre,lf,v8,rfl,hpre,hpl,rfl⟩;refine⟨trivial,?_⟩;rw[Rv,dg,Qv] at hpre;subst hpre;walk_at "n";walk_at "";have nmx:isNm (mkS (dg sz (num+(i:Int)))):=Eh (by rw[rG];omega) (by rw[rG];omega) (En _ _);by_cases q:fo=mkS []
  ·rw[y_ q,if_pos rfl];refine⟨rfl,dh ws,?_⟩;split
   ·rename_i hm;rcases hfo'.out with ⟨_,hall⟩ | hbad
    ·exact hN'.out _ _ ⟨_,_,_,_,_,rfl,rfl,.inr ⟨nmx,(Br eU (x:=mkS (dg sz (num+(i:Int))))).mp hm,⟨by
      rw[B_,Tc,RV.mpr (fun y hy=>by
       obtain⟨j,hj,rfl⟩:=C_.mp hy
       rw[Qw]
       exact fun z=>z (hall j hj)),Option.none_or,m_,Rg,QT,y_ ((Br eU (x:=mkS (dg sz (num+(i:Int))))).mp hm)]⟩⟩⟩
    exact absurd (F_ Str.length q) (by rw[cJ];have:=hbad.1.lo;simp;omega)
   rename_i hm;have hin:mkS (dg sz (num+(i:Int)))∈ws:=Classical.byContradiction fun h=>hm ((Br eU).mpr h);rcases hfo'.out with ⟨_,hall⟩ | h
   ·exact hN'.out _ _ ⟨fo,_,_,_,_,rfl,rfl,.inl ⟨q.trans e0.symm,fun j hj=>by
     rcases v_.mp hj with hj | hj
     ·
      exact hall j hj
     ·
      rw[b_.mp hj];exact hin⟩⟩
   exact hN'.out _ _ ⟨fo,_,_,_,_,rfl,rfl,.inr ⟨h.1,h.2.1,⟨by rw[B_,Tc,h.2.2.out];rfl⟩⟩⟩
  rw[o_ q,if_neg p_];rcases hfo'.out with ⟨h,_⟩ | h
  ·exact absurd (h.trans e0) q
  exact hN'.out _ _ ⟨fo,_,_,_,_,rfl,rfl,.inr ⟨h.1,h.2.1,⟨by rw[B_,Tc,h.2.2.out];rfl⟩⟩⟩
 rintro x r Z H N2 ⟨pre,lf,v8,rfl,hpre,hpl,rfl⟩ hN2;refine⟨trivial,?_⟩;rw[j_] at hpre hpl;rw[dg] at hpre;have hM:=Box.mk hN2;have hpre':=Box.mk hpre;have hpl':pre.length<8:=by omega
 have hpl2:=Box.mk hpl;have hch:=yh (lf%26) (QJ _ (by decide)) (QH _ (by decide));clear hN2 hN' hfo' hR5 hpre hpl;walk_at "";simp only[cI,hch,gU];walk_at "";rw[show (⟨#[97+(lf%26).toNat]⟩:Str)=mkS [97+(lf%26).toNat] from rfl];refine⟨by decide,al,by rw[cJ,cJ];simp only[x_];omega,⟨by decide,by decide +kernel⟩,?_⟩;rw[nG];exact hM.out _ _ ⟨_,_,_,rfl,by rw[QC];exact hpre'.out,by rw[a_,x_];have:=hpl2.out;omega,rfl⟩
def naS (s:List Str × List Int) (_:Nat):List Str × List Int:=(s.1++[fnF (1+(drF s.2 8).1).toNat (drF (drF s.2 8).2 (10^Int.toNat 12)).1 s.1],(drF (drF s.2 8).2 (10^Int.toNat 12)).2)
def naB (ds:List Int) (m:Nat) (x:Str):List Str × List Int:=((List.range m).map (nmK x.cps.toList (drF ds x.length).1.toNat (x.cps.toList.getD (drF ds x.length).1.toNat 0 - 97)),(drF ds x.length).2)
def naF (ds:List Int) (m:Nat):List Str × List Int:=if 0<(drF ds 3).1 then (List.range m).foldl naS ([],(drF ds 3).2) else
 naB (drF (drF (drF ds 3).2 8).2 (10^Int.toNat 12)).2 m (fnF (1+(drF (drF ds 3).2 8).1).toNat (drF (drF (drF ds 3).2 8).2 (10^Int.toNat 12)).1 [])
def Ow:Sp3:=fun ts H Q=>∃(d:Addr) (m:Nat) (ds:List Int),ts=[.ref d,.int (m:Int)]/\1<=m/\m<=8/\Ci H d ds/\∀(ws:List Str) (d1:List Int) (H1:Hp3) (p:Addr),naF ds m=(ws,d1)->ws.length=m->Nms ws->Di d H H1 d1->H1 p=none->Q (.ref p) (up3 H1 p (.lst (ws.map T.str)))
abbrev ou:List Str:=["_law_deck","_law_many","_law_letters","_law_found","_law_k","_law_base","_law_at_here","_law_spot"]
theorem sc_names:FnScope ou ["_law_deck","_law_many"] (aB (top 24)):=bA
theorem za {f:Addr}{fd:FuncData}(g:G3 K mg "_law_names" (top 24) ["_law_deck","_law_many"] f fd) (B:Bl mg) (F_draw:Cal P w K mg base 1 "_law_draw" (top 21) ["_law_deck","_law_most"] kO) (F_free_name:Cal P w K mg base 1 "_law_free_name" (top 23) ["_law_size","_law_number","_law_names_here"] Ov):Cal P w K mg base 2 "_law_names" (top 24) ["_law_deck","_law_many"] Ow:=by
 refine⟨f,fd,g,?_⟩;refine fn3 g.fn sc_names (fun ts H Q h=>?_) (fun cdv A outer s H E ts H3 Q hr h=>?_)
 ·obtain⟨d,m,ds,rfl,_⟩:=h;rfl
 obtain⟨d,m,ds,rfl,m1,m8,hC,k⟩:=h;refine⟨_,(ak (aD (i:=2) sc_names.nd bB)
   (ak (aD (i:=3) sc_names.nd (bO aj))
   (ak (bz (aP gZ (aJ F_draw hr rfl (aa (v3 0) (aa au aj))) au) (ak (aU n_ rfl (aN rfl B.range_ (aa (v3 1) aj)) (aA (i:=4) sc_names.nd) (ao (b8 (dY I_ Qq Qs bT (v3 3) (aa (aJ F_free_name hr rfl (aa (aO bx au (aJ F_draw hr rfl (aa (v3 0) (aa au aj)))) (aa (aJ F_draw hr rfl (aa (v3 0) (aa (aO eO au au) aj))) (aa (v3 3) aj)))) aj)))))
    (ao (aK (v3 3)))) aQ)
   (ak (aD (i:=5) sc_names.nd (aJ F_free_name hr rfl (aa (aO bx au (aJ F_draw hr rfl (aa (v3 0) (aa au aj)))) (aa (aJ F_draw hr rfl (aa (v3 0) (aa (aO eO au au) aj))) (aa (bO aj) aj)))))
   (ak (aD (i:=6) sc_names.nd (aJ F_draw hr rfl (aa (v3 0) (aa (aH bc rfl B.len_ bf (aa (v3 5) aj)) aj))))
   (ak (aD (i:=7) sc_names.nd (dY PySem.F.plainAttrs_str PySem.F.slot_str_index PySem.F.type_str_index xg (v3 2) (aa (aM ix3 (v3 5) (v3 6)) aj)))
   (ao (aK (bh rfl (bI (n0:=(aB (top 24)).names) (N:=ou) (N':=["_law_k","_law_base","_law_letters","_law_at_here","_law_spot"]) (nt:=1) (cap:=[5,2,6,7]) rfl rfl (by decide +kernel)) (aN rfl B.range_ (aa (v3 1) aj)) (fun cl pins s H C0 fp=>⟨(aA (i:=0) (show List.Nodup [("_law_k":Str),("_law_base":Str),("_law_letters":Str),("_law_at_here":Str),("_law_spot":Str)] by decide +kernel)),bC,(aO bx (aO bx (gw (v3 1) gm (dm (v3 3))) (aM ix3 (v3 2) (aO dX (aO bx (v3 4) (v3 0)) au))) (gw (v3 1) (dm (aO bx (v3 3) au)) gm))⟩)))))))))),?_⟩
 rw[show aV ou [T.ref d,T.int (m:Int)]=[some (T.ref d),some (T.int (m:Int)),none,none,none,none,none,none] from rfl];have hsz:sizeLine=16777216:=rfl;have al:(mkS jB).length<=sizeLine:=by rw[cJ];decide
 have k':=Box.mk k;clear k;have w0:Wi d ds H3 H3 []:=⟨hC,Kep.refl,(fun _ h=>nomatch h)⟩;clear hC;refine aq fun R0 hR0=>?_;walk_at "";simp only[yg];walk_at "n";refine aq fun R1 hR1=>?_;walk_at "";refine⟨by omega,fun pf hpf=>?_⟩;have f0:=w0.fresh hpf;have npd:=w0.cl.ne hpf;have w1:=w0.new (o:=.lst []) hpf;generalize up3 H3 pf (.lst [])=H4 at w1;clear w0 hpf;walk_at "n";refine aq fun R2 hR2=>?_;walk_at "";refine⟨d,3,ds,rfl,by decide,w1.cl,fun way dw H5 ew y0 y1 hD=>?_⟩;have ew':=Box.mk ew;clear ew;have w2:=w1.drw hD;clear w1 hD;walk_at "";have rg:cN 0 m=(List.range m).map fun (i:Nat)=>T.int (i:Int):=dZ m;by_cases hw:0<way
 ·have hF:Box (naF ds m=(List.range m).foldl naS ([],dw)):=⟨by unfold naF;rw[ew'.out];dsimp only;rw[if_pos hw]⟩;rw[y_ hw,if_pos rfl];clear hR2;refine⟨by first | trivial | omega,by omega,by omega,?_⟩;try rw[rg]
  refine aL (fun (i:Nat)=>T.int (i:Int)) (List.range m) (fun A Z H=>∃(ws:List Str) (d1:List Int) (v4:Option T),Z=[some (.ref d),some (.int (m:Int)),some (.str (mkS jB)),some (.ref pf),v4,none,none,none]/\Nms ws/\ws.length=A.length/\Wi d d1 H3 H [(pf,.lst (ws.map T.str))]/\Box (A.foldl naS ([],dw)=(ws,d1))) ⟨[],dw,_,rfl,Nms.nil,rfl,w2,⟨rfl⟩⟩ ?_ ?_
  ·rintro Z H ⟨ws,d1,v4,rfl,hn,hl,w,hx⟩;refine⟨trivial,?_⟩;rw[t_] at hl;clear w2;walk_at "";exact gO w.cl w.kp w.hd f0 npd fun H1 hD h1=>k'.out ws d1 H1 pf (by rw[hF.out,hx.out]) hl hn hD h1
  rintro A i B Z H N e ⟨ws,d1,v4,rfl,hn,hl,w,hx⟩ hN;refine⟨trivial,?_⟩;have hA:A.length<8:=by have:=F_ List.length e;simp only[a_,j_,t_] at this;omega
  have hN':=Box.mk hN;have g:=w.hd;clear hN e k' w2;walk_at "";refine⟨⟨trivial,trivial⟩,d,8,d1,rfl,by decide,w.cl,fun n1 d2 H6 f1 p0 p1 hD1=>?_⟩;have f1':=Box.mk f1;clear f1;have w3:=w.drw hD1;clear w g hD1;walk_at "";refine⟨⟨by decide,by decide,by decide⟩,d,_,d2,rfl,by decide,w3.cl,fun n2 d3 H7 f2 q0 q1 hD2=>?_⟩;have f2':=Box.mk f2;clear f2;have w4:=w3.drw hD2;have g4:=w4.hd;clear w3 hD2;try dsimp only
  refine⟨(1+n1).toNat,n2,pf,ws,by rw[Rm (by omega)],by omega,by omega,g4,by omega,fun x ex hx' hnx=>?_⟩;have ex':=Box.mk ex;clear ex;walk_at "";refine⟨by omega,hN'.out _ _ ⟨ws++[x],d3,_,rfl,hn.snoc hx' hnx,by rw[a_,a_,hl];rfl,?_,⟨by rw[E_,hx.out];show naS (ws,d1) i=_;unfold naS;dsimp only;rw[f1'.out];dsimp only;rw[f2'.out];dsimp only;rw[ex'.out]⟩⟩⟩;have w5:=w4.set f0 (fun _ h=>nomatch h) (.lst (ws.map T.str++[T.str x]));rw[B_];exact w5
 rw[o_ hw,if_neg p_];walk_at "n";refine aq fun R3 hR3=>?_;walk_at "";refine⟨d,8,dw,rfl,by decide,w2.cl,fun n1 d2 H6 f1 p0 p1 hD1=>?_⟩;have w3:=w2.drw hD1;clear w2 hD1;walk_at "";refine⟨⟨by decide,by decide,by decide⟩,d,_,d2,rfl,by decide,w3.cl,fun n2 d3 H7 f2 q0 q1 hD2=>?_⟩;have hF:Box (naF ds m=naB d3 m (fnF (1+n1).toNat n2 [])):=⟨by unfold naF;rw[ew'.out];dsimp only;rw[if_neg hw,f1];dsimp only;rw[f2]⟩;clear f1 f2 ew';have w4:=w3.drw hD2;clear w3 hD2;refine⟨by omega,fun pe hpe=>?_⟩;have w5:=w4.new (o:=.lst []) hpe;have ge:=w5.hd;generalize up3 H7 pe (.lst [])=H8 at w5 ge;clear w4 hpe;refine⟨(1+n1).toNat,n2,pe,[],by rw[Rm (by omega)],by omega,by omega,ge,by decide,fun x ex hx _=>?_⟩;have hF2:Box (naF ds m=naB d3 m x):=⟨by rw[hF.out,ex]⟩;clear ex hF;have w6:=w5.tl;clear w5 ge;obtain⟨l,rfl⟩:=rE x;have e1:=hx.lo;have e2:=hx.hi;have e3:=hx.az;rw[cJ] at e1 e2;rw[cI] at e3;have ml:=cJ l;walk_at "n";refine aq fun R4 hR4=>?_;walk_at "";refine⟨by first | trivial | omega,d,_,d3,rfl,by omega,w6.cl,fun n3 d4 H9 f3 r0 r1 hD3=>?_⟩;have f3':Box (drF d3 ((mkS l).length:Int)=(n3,d4)):=⟨by rw[cJ];exact f3⟩;clear f3;have w7:=w6.drw hD3;clear w6 hD3;obtain⟨at',rfl⟩:∃at':Nat,n3=(at':Int):=⟨n3.toNat,by omega⟩;have hat:at'<l.length:=by omega
 walk_at "n";refine aq fun R5 hR5=>?_;have ga:atI l (at':Int)=some l[at']:=bH (d_ hat);have gz:=e3 _ (Qx hat);have hF3:Box (naF ds m=((List.range m).map (nmK l at' (l[at'] - 97)),d4)):=⟨by rw[hF2.out];unfold naB;rw[f3'.out];dsimp only;rw[cI,Q0,A_,d_ hat];rfl⟩;clear hF2 f3';generalize l[at']=ch at ga gz hF3;have hix:=Jf ch gz.1 gz.2;walk_at "";refine⟨trivial,by omega,?_⟩;rw[cI,ga,gU,show (⟨#[ch]⟩:Str)=mkS [ch] from rfl,hix];clear ga hix;walk_at "";walk_at "n";walk_at "";refine⟨by first | trivial | omega,by omega,by omega,?_⟩;try rw[rg]
 walk_at "c";refine bV (fun (i:Nat)=>T.int (i:Int)) (fun i=>.str (nmK l at' (ch - 97) i)) (List.range m) [some (.str (mkS l)),some (.str (mkS jB)),some (.int (at':Int)),some (.int ((ch - 97:Nat):Int))] trivial (by rw[t_];omega) (fun i hi Q' hq=>?_) (fun p hp=>?_)
 ·have hch:=yh ((((ch - 97:Nat):Int)+(i:Int))%26) (QJ _ (by decide)) (QH _ (by decide));have st:=Ni l at' (by omega);have sf:=Bs l (at'+1) (by omega);rw[show ((at'+1:Nat):Int)=(at':Int)+1 by omega] at sf;have hq':=Box.mk hq;clear k' hq rg;walk_at "";refine⟨by omega,by decide,by rw[cJ];decide,?_⟩;rw[cI,hch,gU,show (⟨#[97+((((ch - 97:Nat):Int)+(i:Int))%26).toNat]⟩:Str)=mkS [97+((((ch - 97:Nat):Int)+(i:Int))%26).toNat] from rfl];rw[nG,nG];simp only[cJ,a_,Rc,Ro,x_];exact⟨by omega,by omega,by omega,hq'.out⟩
 have el:(List.range m).map (fun i=>T.str (nmK l at' (ch - 97) i))=((List.range m).map (nmK l at' (ch - 97))).map T.str:=by rw[O_];rfl
 rw[el];have w8:=w7.new (o:=.lst (((List.range m).map (nmK l at' (ch - 97))).map T.str)) hp;exact gO w8.cl w8.kp w8.hd (w7.fresh hp) (w7.cl.ne hp) fun H1 hD h1=>k'.out _ d4 H1 p hF3.out (by rw[g_,t_]) (BX e2 hat e3 m8) hD h1
def lgA (s:List Int × List Int) (_:Nat):List Int × List Int:=(s.1++[1+(grF s.2 (10^Int.toNat 60 - 1)).1],(grF s.2 (10^Int.toNat 60 - 1)).2)
def lgB (bs:Int) (s:List Int × List Int) (_:Nat):List Int × List Int:=(s.1++[bs*(1+(drF s.2 9).1)+(drF (drF s.2 9).2 5).1 / 3],(drF (drF s.2 9).2 5).2)
def lgF (ds:List Int) (m:Nat):List Int × List Int:=if (drF ds 4).1=0 then (List.range m).foldl lgA ([],(drF ds 4).2) else
 (List.range m).foldl (lgB (1+(grF (drF ds 4).2 ((atI ([1,9,10^Int.toNat 58]:List Int) ((drF ds 4).1 - 1)).getD 0)).1)) ([],(grF (drF ds 4).2 ((atI ([1,9,10^Int.toNat 58]:List Int) ((drF ds 4).1 - 1)).getD 0)).2)
def Ox:Sp3:=fun ts H Q=>∃(d:Addr) (m:Nat) (ds:List Int),ts=[.ref d,.int (m:Int)]/\m<=8/\Ci H d ds/\∀(ls:List Int) (d1:List Int) (H1:Hp3) (p:Addr),lgF ds m=(ls,d1)->ls.length=m->(∀l∈ls,1<=l/\l<10^60)->Di d H H1 d1->H1 p=none->Q (.ref p) (up3 H1 p (.lst (ls.map T.int)))
abbrev gP:List Str:=["_law_deck","_law_many","_law_way","_law_base"]
theorem sc_lengths:FnScope gP ["_law_deck","_law_many"] (aB (top 26)):=bA
theorem rP {f:Addr}{fd:FuncData}(g:G3 K mg "_law_lengths" (top 26) ["_law_deck","_law_many"] f fd) (B:Bl mg) (F_draw:Cal P w K mg base 1 "_law_draw" (top 21) ["_law_deck","_law_most"] kO) (F_great:Cal P w K mg base 2 "_law_great" (top 22) ["_law_deck","_law_most"] Jy):Cal P w K mg base 3 "_law_lengths" (top 26) ["_law_deck","_law_many"] Ox:=by
 refine⟨f,fd,g,?_⟩;refine fn3 g.fn sc_lengths (fun ts H Q h=>?_) (fun cdv A outer s H E ts H3 Q hr h=>?_)
 ·obtain⟨d,m,ds,rfl,_⟩:=h;rfl
 have hu30:=Room.u30 hr;obtain⟨d,m,ds,rfl,hm,hC,k⟩:=h;refine⟨_,(ak (aD (i:=2) sc_lengths.nd (aJ F_draw hr rfl (aa (v3 0) (aa au aj))))
   (ak (bz (aP (bY hu30) (v3 2) au) (ao (aK (bh rfl (bI (n0:=(aB (top 26)).names) (N:=gP) (N':=["_law_k","_law_deck"]) (nt:=1) (cap:=[0]) rfl rfl (by decide +kernel)) (aN rfl B.range_ (aa (v3 1) aj)) (fun cl pins s H C0 fp=>⟨(aA (i:=0) (show List.Nodup [("_law_k":Str),("_law_deck":Str)] by decide +kernel)),bC,(aO bx au (aJ F_great hr rfl (aa (v3 1) (aa (aO mR (aO eO au au) au) aj))))⟩)))) aQ)
   (ak (aD (i:=3) sc_lengths.nd (aO bx au (aJ F_great hr rfl (aa (v3 0) (aa (aM ix3 (bO (aa au (aa au (aa (aO eO au au) aj)))) (aO mR (v3 2) au)) aj)))))
   (ao (aK (bh rfl (bI (n0:=(aB (top 26)).names) (N:=gP) (N':=["_law_k","_law_base","_law_deck"]) (nt:=1) (cap:=[3,0]) rfl rfl (by decide +kernel)) (aN rfl B.range_ (aa (v3 1) aj)) (fun cl pins s H C0 fp=>⟨(aA (i:=0) (show List.Nodup [("_law_k":Str),("_law_base":Str),("_law_deck":Str)] by decide +kernel)),bC,(aO bx (aO jf (v3 1) (aO bx au (aJ F_draw hr rfl (aa (v3 2) (aa au aj))))) (aO gK (aJ F_draw hr rfl (aa (v3 2) (aa au aj))) au))⟩))))))),?_⟩
 rw[show aV gP [T.ref d,T.int (m:Int)]=[some (T.ref d),some (T.int (m:Int)),none,none] from rfl];have hsz:sizeLine=16777216:=rfl;have k':=Box.mk k;clear k;have w0:Wi d ds H3 H3 []:=⟨hC,Kep.refl,(fun _ h=>nomatch h)⟩;clear hC;refine aq fun R0 hR0=>?_;walk_at "";refine⟨d,4,ds,rfl,by decide,w0.cl,fun way dw H4 ew y0 y1 hD=>?_⟩;have ew':=Box.mk ew;clear ew;have w1:=w0.drw hD;clear w0 hD;walk_at "n";refine aq fun R1 hR1=>?_;walk_at "";have rg:cN 0 m=(List.range m).map fun (i:Nat)=>T.int (i:Int):=dZ m;by_cases hw:way=0
 ·have hF:Box (lgF ds m=(List.range m).foldl lgA ([],dw)):=⟨by unfold lgF;rw[ew'.out];dsimp only;rw[if_pos hw]⟩;rw[y_ hw,if_pos rfl];clear hR1;refine⟨trivial,by omega,by omega,?_⟩;try rw[rg]
  walk_at "c";refine cW (fun (i:Nat)=>T.int (i:Int)) (List.range m) (fun A ys Z H=>∃(ls:List Int) (d1:List Int) (v:Option T),Z=[v,some (.ref d)]/\ys=ls.map T.int/\ls.length=A.length/\(∀l∈ls,1<=l/\l<10^60)/\Wi d d1 H3 H []/\Box (A.foldl lgA ([],dw)=(ls,d1))) ⟨[],dw,_,rfl,rfl,rfl,(fun _ h=>nomatch h),w1,⟨rfl⟩⟩ ?_ ?_
  ·rintro ys Z H ⟨ls,d1,v,rfl,rfl,hl,hr,w,hx⟩;rw[t_] at hl;refine⟨trivial,by rw[g_];omega,fun p hp=>?_⟩;have w2:=w.new (o:=.lst (ls.map T.int)) hp;exact gO w2.cl w2.kp w2.hd (w.fresh hp) (w.cl.ne hp) fun H1 hD h1=>k'.out ls d1 H1 p (by rw[hF.out,hx.out]) hl hr hD h1
  rintro A i B ys Z H N e ⟨ls,d1,v,rfl,rfl,hl,hr,w,hx⟩ hN;refine⟨trivial,?_⟩;have hA:A.length<8:=by have:=F_ List.length e;simp only[a_,j_,t_] at this;omega
  have hN':=Box.mk hN;clear hN e k' w1;walk_at "";refine⟨⟨by decide,by decide,by decide⟩,d,_,d1,rfl,by rw[t60];decide,w.cl,fun n d2 H5 e2 n0 n1 hD=>?_⟩;have e2':=Box.mk e2;clear e2;rw[t60] at n1;walk_at "";refine⟨by omega,hN'.out _ _ _ ⟨ls++[1+n],d2,_,rfl,by rw[B_];rfl,by rw[a_,a_,hl];rfl,fun l hl'=>?_,w.drw hD,⟨by rw[E_,hx.out];show lgA (ls,d1) i=_;unfold lgA;dsimp only;rw[e2'.out]⟩⟩⟩;rcases v_.mp hl' with h | h
  ·exact hr l h
  rw[b_.mp h,Nr];omega
 rw[o_ hw,if_neg p_];walk_at "n";refine aq fun R2 hR2=>?_;walk_at "";refine⟨⟨by decide,by decide,by decide⟩,by decide,fun p hp=>?_⟩;have hF:Box (lgF ds m=(List.range m).foldl (lgB (1+(grF dw ((atI ([1,9,10^Int.toNat 58]:List Int) (way - 1)).getD 0)).1)) ([],(grF dw ((atI ([1,9,10^Int.toNat 58]:List Int) (way - 1)).getD 0)).2)):=⟨by unfold lgF;rw[ew'.out];dsimp only;rw[if_neg hw]⟩;obtain⟨b,hbm,hb'⟩:=pG ([1,9,10^Int.toNat 58]:List Int) (way - 1) (by omega) (by show way - 1<3;omega);have hb2:atI [T.int 1,T.int 9,T.int (10^Int.toNat 58)] (way - 1)=some (T.int b):=by have:=jT T.int ([1,9,10^Int.toNat 58]:List Int) (way - 1);rw[hb'] at this;exact this
 have hb0:1<=b/\b<=10000000000000000000000000000000000000000000000000000000000:=by rw[t58] at hbm;simp only[k_,M_,Q7] at hbm;rcases hbm with h | h | h <;> omega
 have hF2:Box (lgF ds m=(List.range m).foldl (lgB (1+(grF dw b).1)) ([],(grF dw b).2)):=⟨by rw[hF.out,hb'];rfl⟩;clear hF;rw[hb2,gU];have w2:=(w1.new (o:=.lst [T.int 1,T.int 9,T.int (10^Int.toNat 58)]) hp).tl;generalize up3 H4 p (.lst [T.int 1,T.int 9,T.int (10^Int.toNat 58)])=H5 at w2;clear w1 hp hb2 hb' hbm;refine⟨d,b,dw,rfl,by omega,w2.cl,fun n dg H6 eg n0 n1 hD=>?_⟩;have hF:Box (lgF ds m=(List.range m).foldl (lgB (1+n)) ([],dg)):=⟨by rw[hF2.out,eg]⟩;clear hF2 eg;have w3:=w2.drw hD;clear w2 hD;have u0:1<=1+n:=by omega
 have u1:1+n<=10000000000000000000000000000000000000000000000000000000000:=by omega
 try dsimp only
 walk_at "";generalize 1+n=bs at u0 u1 hF;walk_at "n";walk_at "";refine⟨by first | trivial | omega,by omega,by omega,?_⟩;try rw[rg]
 walk_at "c";refine cW (fun (i:Nat)=>T.int (i:Int)) (List.range m) (fun A ys Z H=>∃(ls:List Int) (d1:List Int) (v:Option T),Z=[v,some (.int bs),some (.ref d)]/\ys=ls.map T.int/\ls.length=A.length/\(∀l∈ls,1<=l/\l<10^60)/\Wi d d1 H3 H []/\Box (A.foldl (lgB bs) ([],dg)=(ls,d1))) ⟨[],dg,_,rfl,rfl,rfl,(fun _ h=>nomatch h),w3,⟨rfl⟩⟩ ?_ ?_
 ·rintro ys Z H ⟨ls,d1,v,rfl,rfl,hl,hr,w,hx⟩;rw[t_] at hl;refine⟨trivial,by rw[g_];omega,fun p hp=>?_⟩;have w2:=w.new (o:=.lst (ls.map T.int)) hp;exact gO w2.cl w2.kp w2.hd (w.fresh hp) (w.cl.ne hp) fun H1 hD h1=>k'.out ls d1 H1 p (by rw[hF.out,hx.out]) hl hr hD h1
 rintro A i B ys Z H N e ⟨ls,d1,v,rfl,rfl,hl,hr,w,hx⟩ hN;refine⟨trivial,?_⟩;have hA:A.length<8:=by have:=F_ List.length e;simp only[a_,j_,t_] at this;omega
 have hN':=Box.mk hN;clear hN e k' w3;walk_at "";refine⟨d,9,d1,rfl,by decide,w.cl,fun n1 d2 H7 f1 p0 p1 hD1=>?_⟩;have f1':=Box.mk f1;clear f1;have w2:=w.drw hD1;walk_at "";refine⟨.inr ⟨by omega,by omega⟩,d,5,d2,rfl,by decide,w2.cl,fun n2 d3 H8 f2 q0 q1 hD2=>?_⟩;have f2':=Box.mk f2;clear f2;have w4:=w2.drw hD2;walk_at "";refine⟨⟨by decide,by decide +kernel⟩,by omega,hN'.out _ _ _ ⟨ls++[bs*(1+n1)+n2 / 3],d3,_,rfl,by rw[B_];rfl,by rw[a_,a_,hl];rfl,fun l hl'=>?_,w4,⟨by rw[E_,hx.out];show lgB bs (ls,d1) i=_;unfold lgB;dsimp only;rw[f1'.out];dsimp only;rw[f2'.out]⟩⟩⟩;rcases v_.mp hl' with h | h
 ·exact hr l h
 rw[b_.mp h,Nr];have m1:bs*(1+n1)<=bs*9:=Int.mul_le_mul_of_nonneg_left (by omega) (by omega);have m2:bs*1<=bs*(1+n1):=Int.mul_le_mul_of_nonneg_left (by omega) (by omega);omega
def unI:T->Nat
 |.int i=>i.toNat
 |_=>0
theorem CG (tv:List Nat):(tv.map fun (k:Nat)=>T.int (k:Int)).map unI=tv:=by
 rw[O_];exact List.map_id'' (fun _=>by simp [unI]) tv
def unO (ws:List Str):T->Str × Str
 |.tup [.int a,.int b]=>(ws.getD a.toNat "",ws.getD b.toNat "")
 |_=>("","")
theorem CJ (ws:List Str) (tv:List Nat) (os:List (Nat × Nat)):(os.map (oT tv)).map (unO ws)=os.map (oD ws tv):=by
 rw[O_];exact QL fun x _=>by show unO ws (oT tv x)=oD ws tv x;unfold oT unO oD;simp
def woS (lots:Int) (i:Nat) (s:List (Nat × Nat) × List Int) (j:Nat):List (Nat × Nat) × List Int:=if (drF s.2 lots).1=1 then (s.1++[(i,j)],(drF s.2 lots).2) else (s.1,(drF s.2 lots).2)
def woR (lots:Int) (m:Nat) (s:List (Nat × Nat) × List Int) (i:Nat):List (Nat × Nat) × List Int:=(List.range' (i+1) (m - (i+1))).foldl (woS lots i) s
def rwS (ks:List Str) (s:List Str × List Int) (_:Nat):List Str × List Int:=(s.1++[(atI ks (drF s.2 ks.length).1).getD ""],(drF s.2 ks.length).2)
def wF9 (ws:List Str) (os:List (Str × Str)) (prs:List (Str × Str × Str)) (row:List Str) (kk:List (List Str)) (r:List Int × List Int):Wk × List Int:=(⟨(List.range ws.length).map (tkD ws r.1 kk),os,prs,row⟩,r.2)
def wF8 (ws:List Str) (os:List (Str × Str)) (prs:List (Str × Str × Str)) (row:List Str) (r:List (List Str) × List Int):Wk × List Int:=wF9 ws os prs row r.1 (lgF r.2 ws.length)
def wF7 (ws:List Str) (os:List (Str × Str)) (prs:List (Str × Str × Str)) (tt:List (List Bool)) (ks:List Str) (s:List Str × List Int):Wk × List Int:=wF8 ws os prs s.1 (kiF s.2 s.1 ks tt ws.length)
def wF6 (st:Int) (ws:List Str) (os:List (Str × Str)) (prs:List (Str × Str × Str)) (tt:List (List Bool)) (r:List Str × List Int):Wk × List Int:=wF7 ws os prs tt r.1 ((List.range (1+(drF r.2 st).1).toNat).foldl (rwS r.1) ([],(drF r.2 st).2))
def wF5 (st:Int) (ws:List Str) (os:List (Str × Str)) (r:List (Str × Str × Str) × List (List Bool) × List Int):Wk × List Int:=wF6 st ws os r.1 r.2.1 (naF (drF r.2.2 5).2 (1+(drF r.2.2 5).1).toNat)
def wF4 (st:Int) (ws:List Str) (r:List T × List Int):Wk × List Int:=wF5 st ws (r.1.map (unO ws)) (prF (drF r.2 24).2 ws r.1 (8+(drF r.2 24).1))
def wF3 (st:Int) (ws:List Str) (tv:List Nat) (s:List (Nat × Nat) × List Int):Wk × List Int:=wF4 st ws (tuF 60 s.2 (s.1.map (oT tv)) [])
def wF2 (st:Int) (ws:List Str) (r:List T × List Int):Wk × List Int:=wF3 st ws (r.1.map unI) ((List.range ws.length).foldl (woR (3+(drF r.2 6).1) ws.length) ([],(drF r.2 6).2))
def wF1 (st:Int) (r:List Str × List Int):Wk × List Int:=wF2 st r.1 (tuF 60 r.2 ((List.range r.1.length).map fun (k:Nat)=>T.int (k:Int)) [])
def wkF (ds:List Int) (most st:Int):Wk × List Int:=wF1 st (naF (drF ds most).2 (1+(drF ds most).1).toNat)
theorem Wi.kep {c:Addr}{ds d1:List Int}{H0 H H':Hp3}{fs:List (Addr × O3)}(w:Wi c ds H0 H fs) (cl:Ci H' c d1) (kp:Kep c H H'):Wi c d1 H0 H' fs:=⟨cl,fun b o h h1=>kp b o (w.kp b o h h1) h1,fun p hp=>⟨kp _ _ (w.at' p hp).1 (w.at' p hp).2,(w.at' p hp).2⟩⟩
def Oz:Sp3:=fun ts H Q=>∃(d:Addr) (most st:Int) (ds:List Int),ts=[.ref d,.int most,.int st]/\1<=most/\most<=8/\1<=st/\st<=8/\Ci H d ds/\∀(W:Wk) (d1:List Int) (H':Hp3),wkF ds most st=(W,d1)->WkOk W->(W.tasks.length:Int)<=most->(W.row.length:Int)<=st->Di d H H' d1->Q W.enc H'
abbrev iZ:List Str:=["_law_deck","_law_most","_law_stands","_law_names_here","_law_many","_law_turn_here","_law_orders","_law_lots","_law_i","_law_j","_law_pairs_here","_law_table","_law_kinds_here","_law_row","_law_some","_law_lengths_here","_law_tasks"]
theorem sc_works:FnScope iZ ["_law_deck","_law_most","_law_stands"] (aB (top 31)):=bA
theorem zb {f:Addr}{fd:FuncData}(g:G3 K mg "_law_works" (top 31) ["_law_deck","_law_most","_law_stands"] f fd) (B:Bl mg) (F_names:Cal P w K mg base 2 "_law_names" (top 24) ["_law_deck","_law_many"] Ow) (F_draw:Cal P w K mg base 1 "_law_draw" (top 21) ["_law_deck","_law_most"] kO) (F_turn:Cal P w K mg base 2 "_law_turn" (top 25) ["_law_deck","_law_things"] yG) (F_pairs:Cal P w K mg base 3 "_law_pairs" (top 28) ["_law_deck","_law_names_here","_law_orders","_law_lots"] Oq) (F_kinds:Cal P w K mg base 4 "_law_kinds" (top 30) ["_law_deck","_law_row","_law_names_here","_law_table"] Ou) (F_lengths:Cal P w K mg base 3 "_law_lengths" (top 26) ["_law_deck","_law_many"] Ox):Cal P w K mg base 5 "_law_works" (top 31) ["_law_deck","_law_most","_law_stands"] Oz:=by
 refine⟨f,fd,g,?_⟩;refine fn3 g.fn sc_works (fun ts H Q h=>?_) (fun cdv A outer s H E ts H3 Q hr h=>?_)
 ·obtain⟨d,most,st,ds,rfl,_⟩:=h;rfl
 have hu30:=Room.u30 hr;obtain⟨d,most,st,ds,rfl,m1,m8,s1,s8,hC,k⟩:=h;refine⟨_,(ak (aD (i:=3) sc_works.nd (aJ F_names hr rfl (aa (v3 0) (aa (aO bx au (aJ F_draw hr rfl (aa (v3 0) (aa (v3 1) aj)))) aj))))
   (ak (aD (i:=4) sc_works.nd (aH bc rfl B.len_ bf (aa (v3 3) aj)))
   (ak (aD (i:=5) sc_works.nd (aJ F_turn hr rfl (aa (v3 0) (aa (xQ rfl rfl B.list_ rfl B.range_ (v3 4)) aj))))
   (ak (aD (i:=6) sc_works.nd (bO aj))
   (ak (aD (i:=7) sc_works.nd (aO bx au (aJ F_draw hr rfl (aa (v3 0) (aa au aj)))))
   (ak (aU n_ rfl (aN rfl B.range_ (aa (v3 4) aj)) (aA (i:=8) sc_works.nd) (ao (aU n_ rfl (uZ rfl B.range_ (aa (aO bx (v3 8) au) (aa (v3 4) aj))) (aA (i:=9) sc_works.nd) (ao (bz (aP (bY hu30) (aJ F_draw hr rfl (aa (v3 0) (aa (v3 7) aj))) au) (ao (b8 (dY I_ Qq Qs bT (v3 6) (aa (aZ (aa (aM ix3 (v3 5) (v3 8)) (aa (aM ix3 (v3 5) (v3 9)) aj))) aj)))) aQ)))))
   (ak (aD (i:=6) sc_works.nd (aJ F_turn hr rfl (aa (v3 0) (aa (v3 6) aj))))
   (ak (wG (aJ F_pairs hr rfl (aa (v3 0) (aa (v3 3) (aa (v3 6) (aa (aO bx au (aJ F_draw hr rfl (aa (v3 0) (aa au aj)))) aj))))) (bZ (n:=2) rfl (aG (aA (i:=10) sc_works.nd) (aG (aA (i:=11) sc_works.nd) bL))))
   (ak (aD (i:=12) sc_works.nd (aJ F_names hr rfl (aa (v3 0) (aa (aO bx au (aJ F_draw hr rfl (aa (v3 0) (aa au aj)))) aj))))
   (ak (sX (i:=13) rfl sc_works.nd (bI (n0:=(aB (top 31)).names) (N:=iZ) (N':=["_law_k","_law_kinds_here","_law_deck"]) (nt:=1) (cap:=[12,0]) rfl rfl (by decide +kernel)) (aN rfl B.range_ (aa (aO bx au (aJ F_draw hr rfl (aa (v3 0) (aa (v3 2) aj)))) aj)) (fun cl pins s H C0 fp=>⟨(aA (i:=0) (show List.Nodup [("_law_k":Str),("_law_kinds_here":Str),("_law_deck":Str)] by decide +kernel)),bC,(aM ix3 (v3 1) (aJ F_draw hr rfl (aa (v3 2) (aa (aH bc rfl B.len_ bf (aa (v3 1) aj)) aj))))⟩))
   (ak (aD (i:=14) sc_works.nd (aJ F_kinds hr rfl (aa (v3 0) (aa (v3 13) (aa (v3 12) (aa (v3 11) aj))))))
   (ak (aD (i:=15) sc_works.nd (aJ F_lengths hr rfl (aa (v3 0) (aa (v3 4) aj))))
   (ak (aD (i:=16) sc_works.nd (bD cP rfl B.tuple_ cj (aa (bh rfl (bI (n0:=(aB (top 31)).names) (N:=iZ) (N':=["_law_k","_law_names_here","_law_lengths_here","_law_some"]) (nt:=1) (cap:=[3,15,14]) rfl rfl (by decide +kernel)) (aN rfl B.range_ (aa (v3 4) aj)) (fun cl pins s H C0 fp=>⟨(aA (i:=0) (show List.Nodup [("_law_k":Str),("_law_names_here":Str),("_law_lengths_here":Str),("_law_some":Str)] by decide +kernel)),bC,(aZ (aa (aM ix3 (v3 1) (v3 0)) (aa (aM ix3 (v3 2) (v3 0)) (aa (aM ix3 (v3 3) (v3 0)) aj))))⟩)) aj)))
   (ao (aK (aZ (aa (v3 16) (aa (bD cP rfl B.tuple_ cj (aa (bh rfl (bI (n0:=(aB (top 31)).names) (N:=iZ) (N':=["_law_i","_law_j","_law_names_here"]) (nt:=2) (cap:=[3]) rfl rfl (by decide +kernel)) (cz (v3 6)) (fun cl pins s H C0 fp=>⟨(bZ (n:=2) rfl (aG (aA (i:=0) (show List.Nodup [("_law_i":Str),("_law_j":Str),("_law_names_here":Str)] by decide +kernel)) (aG (aA (i:=1) (show List.Nodup [("_law_i":Str),("_law_j":Str),("_law_names_here":Str)] by decide +kernel)) bL))),bC,(aZ (aa (aM ix3 (v3 2) (v3 0)) (aa (aM ix3 (v3 2) (v3 1)) aj)))⟩)) aj)) (aa (v3 10) (aa (bD cP rfl B.tuple_ cj (aa (v3 13) aj)) aj)))))))))))))))))))),?_⟩
 rw[show aV iZ [T.ref d,T.int most,T.int st]=[some (T.ref d),some (T.int most),some (T.int st),none,none,none,none,none,none,none,none,none,none,none,none,none,none] from rfl];have hsz:sizeLine=16777216:=rfl;have k':=Box.mk k;clear k;have w0:Wi d ds H3 H3 []:=⟨hC,Kep.refl,(fun _ h=>nomatch h)⟩;clear hC;refine aq fun R0 hR0=>?_;walk_at "";refine⟨d,most,ds,rfl,by omega,w0.cl,fun n0 dA H4 fA a0 a1 hD0=>?_⟩;have F0:Box (wkF ds most st=wF1 st (naF dA (1+n0).toNat)):=⟨by unfold wkF;rw[fA]⟩;clear fA;have w1:=w0.drw hD0;clear w0 hD0;walk_at "";refine⟨d,(1+n0).toNat,dA,by rw[Rm (by omega)],by omega,by omega,w1.cl,fun ws dB H5 pn fB hwl hws hD1 hpn=>?_⟩;have F1:Box (wkF ds most st=wF2 st ws (tuF 60 dB ((List.range ws.length).map fun (k:Nat)=>T.int (k:Int)) [])):=⟨by rw[F0.out,fB];rfl⟩;clear fB F0;have w2:=(w1.drw hD1).new (o:=.lst (ws.map T.str)) hpn;generalize up3 H5 pn (.lst (ws.map T.str))=H6 at w2;clear w1 hD1 hpn;have ws1:1<=ws.length:=by omega
 have ws8:ws.length<=8:=by omega
 have wsm:(ws.length:Int)<=most:=by omega
 clear hwl a0 a1;walk_at "n";refine aq fun R1 hR1=>?_;have gn:=w2.hd;walk_at "";walk_at "n";refine aq fun R2 hR2=>?_;walk_at "";refine⟨⟨by omega,by omega⟩,fun q1 hq1=>?_⟩;have w3:=w2.new (o:=.lst ((List.range ws.length).map fun (k:Nat)=>T.int (k:Int))) hq1;have gq1:=w3.hd;generalize up3 H6 q1 (.lst ((List.range ws.length).map fun (k:Nat)=>T.int (k:Int)))=H7 at w3 gq1;clear w2 hq1 gn;try dsimp only
 refine⟨d,q1,_,dB,rfl,(w3.at' _ i_).2,gq1,Ny _,by rw[g_,t_];omega,w3.cl,fun ys dC H8 pt fC hperm hD2 hpt=>?_⟩;obtain⟨tv,htv,rfl⟩:=gD hperm _ rfl;have F2:Box (wkF ds most st=wF3 st ws tv ((List.range ws.length).foldl (woR (3+(drF dC 6).1) ws.length) ([],(drF dC 6).2))):=⟨by rw[F1.out,fC];unfold wF2;dsimp only;rw[CG]⟩;clear fC F1;have tvl:tv.length=ws.length:=by rw[htv.length_eq,t_]
 have tvn:tv.Nodup:=htv.nodup_iff.mpr List.nodup_range;have tvm:∀x∈tv,x<ws.length:=fun x hx=>L_.mp (htv.mem_iff.mp hx);have w4:=(w3.drw hD2).tl.new (o:=.lst (tv.map fun (k:Nat)=>T.int (k:Int))) hpt;generalize up3 H8 pt (.lst (tv.map fun (k:Nat)=>T.int (k:Int)))=H9 at w4;clear w3 hD2 hpt gq1 hperm htv;walk_at "n";refine aq fun R3 hR3=>?_;walk_at "";refine⟨by omega,fun po hpo=>?_⟩;have po0:=w4.fresh hpo;have nto:pt≠po:=aY w4.hd hpo;have nno:pn≠po:=aY w4.tl.hd hpo;have w5:=w4.new (o:=.lst []) hpo;generalize up3 H9 po (.lst [])=H10 at w5;clear w4 hpo;walk_at "n";refine aq fun R4 hR4=>?_;walk_at "";refine⟨d,6,dC,rfl,by decide,w5.cl,fun n1 dD H11 fD b0 b1 hD3=>?_⟩;have F3:Box (wkF ds most st=wF3 st ws tv ((List.range ws.length).foldl (woR (3+n1) ws.length) ([],dD))):=⟨by rw[F2.out,fD]⟩;clear fD F2;have w6:=w5.drw hD3;clear w5 hD3;have lo0:3<=3+n1:=by omega
 have lo1:3+n1<=8:=by omega
 walk_at "";generalize 3+n1=lots at lo0 lo1 F3;walk_at "n";refine aq fun R5 hR5=>?_;walk_at "";refine⟨by first | trivial | omega,by omega,by omega,?_⟩;rw[dZ];refine aL (fun (i:Nat)=>T.int (i:Int)) (List.range ws.length) (fun A Z H=>∃(os:List (Nat × Nat)) (d1:List Int) (v8 v9:Option T),Z=[some (.ref d),some (.int most),some (.int st),some (.ref pn),some (.int (ws.length:Int)),some (.ref pt),some (.ref po),some (.int lots),v8,v9,none,none,none,none,none,none,none]/\Wi d d1 H3 H [(po,.lst (os.map (oT tv))),(pt,.lst (tv.map fun (k:Nat)=>T.int (k:Int))),(pn,.lst (ws.map T.str))]/\os.Sublist (tri ws.length A)/\Box (A.foldl (woR lots ws.length) ([],dD)=(os,d1))) ⟨[],dD,_,_,rfl,w6,List.Sublist.refl _,⟨rfl⟩⟩ ?_ ?_;rotate_left
 ·rintro A i B Z H N e ⟨os,d1,v8,v9,rfl,w,hsub,hx⟩ hN;refine⟨trivial,?_⟩;have hi:i<ws.length:=L_.mp (by rw[e];simp);have hM:=Box.mk hN;have hAl:(tri ws.length A).length<=64:=by
   have h1:=lV e;have h2:A.length<=8:=by have:=F_ List.length e;simp only[a_,j_,t_] at this;omega
   have h3:∀(A:List Nat),(tri ws.length A).length<=8*A.length:=fun A=>by
    induction A with
    |nil=>exact u_ _
    |cons x r ih =>
     have e3:tri ws.length (x::r)=(List.range' (x+1) (ws.length - (x+1))).map (fun j=>(x,j))++tri ws.length r:=rfl
     rw[e3,a_,g_,List.length_range',j_]
     omega
   have:=h3 A;omega
  clear hN e w6 k' hR5;walk_at "";refine⟨by first | trivial | omega,⟨by omega,by omega,by omega,by omega⟩,?_⟩;rw[Nx];refine aL (fun (j:Nat)=>T.int (j:Int)) (List.range' (i+1) (ws.length - (i+1))) (fun A2 Z H=>∃(os:List (Nat × Nat)) (d1:List Int) (v9:Option T),Z=[some (.ref d),some (.int most),some (.int st),some (.ref pn),some (.int (ws.length:Int)),some (.ref pt),some (.ref po),some (.int lots),some (.int (i:Int)),v9,none,none,none,none,none,none,none]/\Wi d d1 H3 H [(po,.lst (os.map (oT tv))),(pt,.lst (tv.map fun (k:Nat)=>T.int (k:Int))),(pn,.lst (ws.map T.str))]/\os.Sublist (tri ws.length A++A2.map fun j=>(i,j))/\Box (A2.foldl (woS lots i) (A.foldl (woR lots ws.length) ([],dD))=(os,d1))) ⟨os,d1,_,rfl,w,by rw[Rg,Qv];exact hsub,⟨hx.out⟩⟩ ?_ ?_
  ·rintro Z H ⟨os,d1,v9,rfl,w,hsub,hx⟩;exact⟨trivial,hM.out _ _ ⟨os,d1,_,_,rfl,w,by rw[yE];exact hsub,⟨by rw[E_];exact hx.out⟩⟩⟩
  rintro A2 j B2 Z H N2 e2 ⟨os,d1,v9,rfl,w,hsub,hx⟩ hN2;refine⟨trivial,?_⟩;have hj:=List.mem_range'_1.mp (show j∈List.range' (i+1) (ws.length - (i+1)) by rw[e2];simp);have hN':=Box.mk hN2;have hs1:=rH (y:=(i,j)) hsub;have hs2:=rJ (y:=(i,j)) hsub;rw[QC,show [(i,j)]=[j].map fun j=>(i,j) from rfl,<- B_] at hs1 hs2;have hA2:A2.length<8:=by have:=F_ List.length e2;simp only[a_,j_,List.length_range'] at this;omega
  have hol:os.length<=100:=by have h1:=hsub.length_le;have h2:=(t7 ⟨ws.length,by omega⟩);have h3:(tri ws.length A).length<=64:=hAl;rw[a_,g_] at h1;omega
  clear hN2 e2 hM hsub;walk_at "";refine⟨d,lots,d1,rfl,by omega,w.cl,fun n d2 H12 fE c0 c1 hD=>?_⟩;have hst:Box ((A2++[j]).foldl (woS lots i) (A.foldl (woR lots ws.length) ([],dD))=if n=1 then (os++[(i,j)],d2) else (os,d2)):=⟨by rw[E_,hx.out];show woS lots i (os,d1) j=_;unfold woS;dsimp only;rw[fE]⟩;clear fE hx;have w7:=w.drw hD;have go':=w7.hd;have gt':=w7.tl.hd;have x1:=Ep (show i<tv.length by omega);have x2:=Ep (show j<tv.length by omega);clear w hD;have tvl':=Box.mk tvl;clear tvl;walk_at "";by_cases cn:n=1
  ·rw[if_pos (y_ cn)];have em:os.map (oT tv)++[T.tup [T.int ((tv.getD i 0:Nat):Int),T.int ((tv.getD j 0:Nat):Int)]]=(os++[(i,j)]).map (oT tv):=by rw[B_];rfl
   rw[em];refine⟨⟨trivial,trivial⟩,by decide,by omega,hN'.out _ _ ⟨os++[(i,j)],d2,_,rfl,w7.set po0 (fun q hq=>?_) _,hs1,⟨by rw[hst.out,if_pos cn]⟩⟩⟩;rcases k_.mp hq with rfl | hq
   ·exact nto
   rw[b_.mp hq];exact nno
  rw[if_neg (qY cn)];exact hN'.out _ _ ⟨os,d2,_,rfl,w7,hs2,⟨by rw[hst.out,if_neg cn]⟩⟩
 rintro Z H ⟨os,d1,v8,v9,rfl,w,hsub,hx⟩;have F4:Box (wkF ds most st=wF4 st ws (tuF 60 d1 (os.map (oT tv)) [])):=⟨by rw[F3.out,hx.out];rfl⟩;clear hx F3;refine⟨trivial,?_⟩;clear w6;walk_at "n";refine aq fun R6 hR6=>?_;have ol28:os.length<=28:=N_ hsub.length_le (t7 ⟨ws.length,by omega⟩);have ond:os.Nodup:=(Jx ⟨ws.length,by omega⟩).sublist hsub;have oin:∀x∈os,x.1<x.2/\x.2<ws.length:=fun x hx=>Cd (fun i hi=>L_.mp hi) (hsub.subset hx);have go':=w.hd;walk_at "";refine⟨d,po,_,d1,rfl,(w.at' _ i_).2,go',Er tv os,by rw[g_];omega,w.cl,fun ys dF H12 q2 fF hperm hD4 hq2=>?_⟩;obtain⟨os',hos,rfl⟩:=gD hperm _ rfl;have F5:Box (wkF ds most st=wF5 st ws (os'.map (oD ws tv)) (prF (drF dF 24).2 ws (os'.map (oT tv)) (8+(drF dF 24).1))):=⟨by rw[F4.out,fF];unfold wF4;dsimp only;rw[CJ]⟩;clear fF F4;have ol':os'.length<=28:=by rw[hos.length_eq];exact ol28
 have ond':os'.Nodup:=hos.nodup_iff.mpr ond;have oin':∀x∈os',x.1<x.2/\x.2<ws.length:=fun x hx=>oin x (hos.mem_iff.mp hx);have w7:=(w.drw hD4).tl.tl.new (o:=.lst (os'.map (oT tv))) hq2;generalize up3 H12 q2 (.lst (os'.map (oT tv)))=H13 at w7;clear w hD4 hq2 go' hperm hos hsub ol28 ond oin;walk_at "n";refine aq fun R7 hR7=>?_;walk_at "";refine⟨d,24,dF,rfl,by decide,w7.cl,fun n2 dG H14 fG c0 c1 hD5=>?_⟩;have F6:Box (wkF ds most st=wF5 st ws (os'.map (oD ws tv)) (prF dG ws (os'.map (oT tv)) (8+n2))):=⟨by rw[F5.out,fG]⟩;clear fG F5;have w8:=w7.drw hD5;clear w7 hD5;try dsimp only
 walk_at "";refine⟨d,pn,q2,ws,_,8+n2,dG,rfl,by omega,by omega,(w8.at' (pn,.lst (ws.map T.str)) (by simp)).2,(w8.at' _ i_).2,w8.tl.hd,hws,ws8,w8.hd,Er tv os',by rw[g_];exact ol',w8.cl,fun prs tt dH pb as H15 fH p12 pnd pok hcl hkp tq=>?_⟩;have F7:Box (wkF ds most st=wF6 st ws (os'.map (oD ws tv)) prs tt (naF (drF dH 5).2 (1+(drF dH 5).1).toNat)):=⟨by rw[F6.out,fH];rfl⟩;clear fH F6;have w9:=w8.kep hcl hkp;clear w8 hkp hcl;try dsimp only
 walk_at "";refine⟨trivial,?_⟩;walk_at "n";refine aq fun R8 hR8=>?_;walk_at "";refine⟨d,5,dH,rfl,by decide,w9.cl,fun n3 dI H16 fI d0 d1 hD6=>?_⟩;have F8:Box (wkF ds most st=wF6 st ws (os'.map (oD ws tv)) prs tt (naF dI (1+n3).toNat)):=⟨by rw[F7.out,fI]⟩;clear fI F7;have w10:=w9.drw hD6;have tq1:=tq.drw hD6;clear w9 tq hD6;walk_at "";refine⟨d,(1+n3).toNat,dI,by rw[Rm (by omega)],by omega,by omega,w10.cl,fun ks0 dJ H17 pk fJ hkl hks hD7 hpk=>?_⟩;have F9:Box (wkF ds most st=wF7 ws (os'.map (oD ws tv)) prs tt ks0 ((List.range (1+(drF dJ st).1).toNat).foldl (rwS ks0) ([],(drF dJ st).2))):=⟨by rw[F8.out,fJ];rfl⟩;clear fJ F8;have w11:=(w10.drw hD7).new (o:=.lst (ks0.map T.str)) hpk;have tq2:=(tq1.drw hD7).new (o:=.lst (ks0.map T.str)) hpk;generalize up3 H17 pk (.lst (ks0.map T.str))=H18 at w11 tq2;have ks1:1<=ks0.length:=by omega
 have ks8:ks0.length<=8:=by omega
 clear w10 tq1 hD7 hpk hkl;walk_at "n";refine aq fun R9 hR9=>?_;walk_at "";refine⟨d,st,dJ,rfl,by omega,w11.cl,fun n4 dK H19 fK e0 e1 hD8=>?_⟩;have FA:Box (wkF ds most st=wF7 ws (os'.map (oD ws tv)) prs tt ks0 ((List.range (1+n4).toNat).foldl (rwS ks0) ([],dK))):=⟨by rw[F9.out,fK]⟩;clear fK F9;have w12:=w11.drw hD8;have tq3:=tq2.drw hD8;clear w11 tq2 hD8;walk_at "";refine⟨by first | trivial | omega,by omega,by omega,?_⟩;rw[dZ];walk_at "c";refine cW (fun (i:Nat)=>T.int (i:Int)) (List.range (1+n4).toNat) (fun A ys Z H=>∃(rw_:List Str) (d1:List Int) (v:Option T),Z=[v,some (.ref pk),some (.ref d)]/\ys=rw_.map T.str/\rw_.length=A.length/\(∀x∈rw_,x∈ks0)/\Wi d d1 H3 H [(pk,.lst (ks0.map T.str)),(q2,.lst (os'.map (oT tv))),(pn,.lst (ws.map T.str))]/\Tqx d H14 H pb ws.length as tt/\Box (A.foldl (rwS ks0) ([],dK)=(rw_,d1))) ⟨[],dK,_,rfl,rfl,rfl,(fun _ h=>nomatch h),w12,tq3,⟨rfl⟩⟩ ?_ ?_;rotate_left
 ·rintro A x B ys Z H N eA ⟨rw_,d1,v,rfl,rfl,hrw,hin,w,tq,hx⟩ hN;refine⟨trivial,?_⟩;have hA8:A.length<8:=by have:=F_ List.length eA;simp only[a_,j_,t_] at this;omega
  clear eA;have hN':=Box.mk hN;have hin':=Box.mk hin;have g:=w.hd;have ks1':(0:Int)<(ks0.length:Int):=by omega
  clear hN hin w12 tq3 k' hR9;walk_at "";refine⟨d,_,d1,rfl,ks1',w.cl,fun n5 d2 H20 fL f0 f1 hD9=>?_⟩;have fL':=Box.mk fL;clear fL;have w13:=w.drw hD9;have tq4:=tq.drw hD9;have g13:=w13.hd;clear w tq g hD9;obtain⟨z,hz,ez⟩:=pG ks0 n5 f0 f1;have ez':atI (ks0.map T.str) n5=some (T.str z):=by rw[jT,ez];rfl
  have hst:Box ((A++[x]).foldl (rwS ks0) ([],dK)=(rw_++[z],d2)):=⟨by rw[E_,hx.out];show rwS ks0 (rw_,d1) x=_;unfold rwS;dsimp only;rw[fL'.out];dsimp only;rw[ez];rfl⟩;clear ez hx fL';walk_at "";refine⟨by first | omega | (rw[g_];omega),hN'.out _ _ _ ⟨rw_++[z],d2,_,rfl,by rw[B_];rfl,by rw[a_,a_,hrw];rfl,fun y hy=>?_,w13,tq4,hst⟩⟩;rcases v_.mp hy with h | h
  ·exact hin'.out y h
  rw[b_.mp h];exact hz
 rintro ys Z H ⟨rw_,d1,v,rfl,rfl,hrw,hin,w,tq,hx⟩;rw[t_] at hrw;have FB:Box (wkF ds most st=wF8 ws (os'.map (oD ws tv)) prs rw_ (kiF d1 rw_ ks0 tt ws.length)):=⟨by rw[FA.out,hx.out];rfl⟩;clear hx FA;refine⟨trivial,by rw[g_];omega,fun pr hpr=>?_⟩;have w13:=w.new (o:=.lst (rw_.map T.str)) hpr;have tq4:=tq.new (o:=.lst (rw_.map T.str)) hpr;generalize up3 H pr (.lst (rw_.map T.str))=H20 at w13 tq4;clear w tq hpr w12 tq3;have rw1:1<=rw_.length:=by omega
 have rw8:rw_.length<=8:=by omega
 have rws:(rw_.length:Int)<=st:=by omega
 clear hrw;walk_at "n";refine aq fun R10 hR10=>?_;walk_at "";refine⟨d,pr,pk,pb,rw_,ks0,ws.length,H14,as,tt,d1,rfl,(w13.at' _ i_).2,(w13.at' (pk,.lst (ks0.map T.str)) (by simp)).2,w13.hd,rw1,rw8,fun x hx=>hks.nm x (hin x hx),w13.tl.hd,hks,ks8,tq4,ws8,w13.cl,fun kk dM H21 pso fM hkk hkb hD10 hpso=>?_⟩;have FC:Box (wkF ds most st=wF9 ws (os'.map (oD ws tv)) prs rw_ kk (lgF dM ws.length)):=⟨by rw[FB.out,fM];rfl⟩;clear fM FB;have w14:=(w13.drw hD10).new (o:=.lst (kk.map sT)) hpso;generalize up3 H21 pso (.lst (kk.map sT))=H22 at w14;clear w13 tq4 hD10 hpso;walk_at "n";refine aq fun R11 hR11=>?_;walk_at "";refine⟨d,ws.length,dM,rfl,ws8,w14.cl,fun ls dN_ H23 pl_ fN hll hlb hD11 hpl_=>?_⟩;have FD:Box (wkF ds most st=(⟨(List.range ws.length).map (tkD ws ls kk),os'.map (oD ws tv),prs,rw_⟩,dN_)):=⟨by rw[FC.out,fN];rfl⟩;clear fN FC;have w15:=(w14.drw hD11).new (o:=.lst (ls.map T.int)) hpl_;generalize up3 H23 pl_ (.lst (ls.map T.int))=H24 at w15;clear w14 hD11 hpl_;walk_at "n";refine aq fun R12 hR12=>?_;walk_at "";refine⟨by first | trivial | omega,by omega,by omega,?_⟩;rw[dZ];walk_at "c";refine bV (fun (k:Nat)=>T.int (k:Int)) (fun k=>tkT (tkD ws ls kk k)) (List.range ws.length) [some (.ref pn),some (.ref pl_),some (.ref pso)] trivial (by rw[t_];omega) (fun i hi Q' hq=>?_) (fun p hp=>?_)
 ·have hi':=L_.mp hi;have g1:=(w15.at' (pn,.lst (ws.map T.str)) (by simp)).1;have g2:=w15.hd;have g3:=w15.tl.hd;have x1:=getD_at hi';have x2:=Eo (show i<ls.length by omega);have x3:=Nv (show i<kk.length by omega);have hq':=Box.mk hq;clear k' hq hR12;try dsimp only at g1
  walk_at "";exact⟨by decide,hq'.out⟩
 rw[show (List.range ws.length).map (fun k=>tkT (tkD ws ls kk k))=((List.range ws.length).map (tkD ws ls kk)).map tkT by rw[O_];rfl];have w16:=(w15.new (o:=.lst (((List.range ws.length).map (tkD ws ls kk)).map tkT)) hp).tl;generalize up3 H24 p (.lst (((List.range ws.length).map (tkD ws ls kk)).map tkT))=H25 at w16;clear w15 hp;walk_at "n";have gq:H25 q2=some (.lst (os'.map (oT tv))):=(w16.at' (q2,.lst (os'.map (oT tv))) (by simp)).1;have gn:H25 pn=some (.lst (ws.map T.str)):=(w16.at' (pn,.lst (ws.map T.str)) (by simp)).1;have gr:H25 pr=some (.lst (rw_.map T.str)):=w16.tl.tl.hd;walk_at "";walk_at "c";refine pH (fun x:Nat × Nat=>.int ((tv.getD x.1 0:Nat):Int)) (fun x=>.int ((tv.getD x.2 0:Nat):Int)) (fun x=>orT (oD ws tv x)) os' [some (.ref pn)] (.inl gq) (by omega) (fun x hx Q' hq=>?_) (fun p hp=>?_)
 ·have ox:=oin' x hx;have y1:=getD_at (tvm _ (getD_mem (d:=0) (show x.1<tv.length by omega)));have y2:=getD_at (tvm _ (getD_mem (d:=0) (show x.2<tv.length by omega)));have hq':=Box.mk hq;clear k' hq gr gq;walk_at "";exact⟨by decide,hq'.out⟩
 rw[show os'.map (fun x=>orT (oD ws tv x))=(os'.map (oD ws tv)).map orT by rw[O_];rfl];have w17:=w16.new (o:=.lst ((os'.map (oD ws tv)).map orT)) hp;have gr2:up3 H25 p (.lst ((os'.map (oD ws tv)).map orT)) pr=_ := upa gr hp;generalize up3 H25 p (.lst ((os'.map (oD ws tv)).map orT))=H26 at w17 gr2;clear w16 hp gq gn gr;walk_at "";refine⟨by decide,jX w17.cl w17.kp fun H'' hD=>?_⟩;exact k'.out ⟨(List.range ws.length).map (tkD ws ls kk),os'.map (oD ws tv),prs,rw_⟩ dN_ H'' FD.out (Nu hws ws1 ws8 hll hlb hkk hkb tvl tvn tvm ol' ond' oin' p12 pnd pok rw1 rw8 fun x hx=>hks.nm x (hin x hx)) (by show (((List.range ws.length).map (tkD ws ls kk)).length:Int)<=most;rw[g_,t_];exact wsm) rws hD
def clF (ns:List Int):List Int:=if ns=[] then [0] else ns
theorem CK (ns:List Int) (hl:ns.length<=63):∃cs:List Int,cs=clF ns/\1<=cs.length/\cs.length<=63/\cQ (ns.map T.int) none (some 63)++(List.replicate (if decide (ns.map T.int=[])=true then (1:Int) else 0).toNat [T.int 0]).flatten=cs.map T.int:=by
 have e:cQ (ns.map T.int) none (some 63)=ns.map T.int:=by rw[show (63:Int)=((63:Nat):Int) from rfl,xq,Q6 (by rw[g_];exact hl)]
 rw[e];cases ns with
 |nil=>exact⟨[0],rfl,by decide,by decide,rfl⟩
 |cons n r=>exact⟨n::r,rfl,by simp,hl,by simp⟩
def dgS (s:List Int × Int) (_:Nat):List Int × Int:=(s.1++[s.2%10^Int.toNat 12],s.2 / 10^Int.toNat 12)
def dgF (f:List Int) (c:Int):List Int:=((List.range 8).foldl dgS (f,c)).1
def nbS (cs:List Int) (s:List Int × Int) (k:Nat):List Int × Int :=
 let y:=(s.2*s.2+69621*((atI cs ((k:Int)%(cs.length:Int))).getD 0%2147483647)+(k:Int))%2147483629
 (s.1++[y*(y+48271)%2147483587 / 4],y)
def nuF (ns:List Int):List Int:=match clF ns with
 |[]=>[]
 |c0::cr=>if c0%2=0 then (((c0 / 2)::cr).foldl dgF []).reverse else ((List.range 504).foldl (nbS (c0::cr)) ([],c0 / 2%2147483629)).1.reverse
def OD:Sp3:=fun ts H Q=>∃(a:Addr) (ns:List Int),ts=[.ref a]/\H a=some (.rol (ns.map T.int))/\ns.length<=63/\∀(p:Addr) (H':Hp3),Sub3 H H'->H p=none->Ci H' p (nuF ns)->Q (.ref p) H'
abbrev lY:List Str:=["_law_script","_law_cells","_law_found","_law_cell","_law_k","_law_number"]
theorem sc_numbers:FnScope lY ["_law_script"] (aB (top 20)):=bA
theorem rQ {f:Addr}{fd:FuncData}(g:G3 K mg "_law_numbers" (top 20) ["_law_script"] f fd) (B:Bl mg):Cal P w K mg base 1 "_law_numbers" (top 20) ["_law_script"] OD:=by
 refine⟨f,fd,g,?_⟩;refine fn3 g.fn sc_numbers (fun ts H Q h=>?_) (fun cdv A outer s H E ts H3 Q hr h=>?_)
 ·obtain⟨a,ns,rfl,_⟩:=h;rfl
 have hu30:=Room.u30 hr;obtain⟨a,ns,rfl,ha,hl,k⟩:=h;refine⟨_,(ak (aD (i:=1) sc_numbers.nd (aO bx (gw (v3 0) gm (dm au)) (aO HB (bO (aa au aj)) (bD Ak rfl B.int_ GZ (aa (dz (Jq hu30) (v3 0) (bO aj)) aj)))))
   (ak (aD (i:=2) sc_numbers.nd (bO aj))
   (ak (bz (aP (bY hu30) (aO dX (aM ix3 (v3 1) au) au) au) (ak (aU n_ rfl (cz (aO bx (bO (aa (aO gK (aM ix3 (v3 1) au) au) aj)) (gw (v3 1) (dm au) gm))) (aA (i:=3) sc_numbers.nd) (ao (aU n_ rfl (aN rfl B.range_ (aa au aj)) (aA (i:=4) sc_numbers.nd) (ak (b8 (dY I_ Qq Qs bT (v3 2) (aa (aO dX (v3 3) (aO eO au au)) aj)))
      (ao (aD (i:=3) sc_numbers.nd (aO gK (v3 3) (aO eO au au))))))))
    (ao (aK (tU (v3 2) (dm (q9 au)))))) aQ)
   (ak (aD (i:=5) sc_numbers.nd (aO dX (aO gK (aM ix3 (v3 1) au) au) au))
   (ak (aU n_ rfl (aN rfl B.range_ (aa au aj)) (aA (i:=4) sc_numbers.nd) (ak (aD (i:=3) sc_numbers.nd (aO dX (aM ix3 (v3 1) (aO dX (v3 4) (aH bc rfl B.len_ bf (aa (v3 1) aj)))) au))
    (ak (aD (i:=5) sc_numbers.nd (aO dX (aO bx (aO bx (aO jf (v3 5) (v3 5)) (aO jf au (v3 3))) (v3 4)) au))
    (ao (b8 (dY I_ Qq Qs bT (v3 2) (aa (aO gK (aO dX (aO jf (v3 5) (aO bx (v3 5) au)) au) au) aj)))))))
   (ao (aK (tU (v3 2) (dm (q9 au)))))))))),?_⟩
 rw[show aV lY [T.ref a]=[some (T.ref a),none,none,none,none,none] from rfl];have hsz:sizeLine=16777216:=rfl;have k':=Box.mk k;clear k;refine aq fun R0 hR0=>?_;walk_at "";refine fun p1 hp1=>⟨by decide,fun p2 hp2=>⟨by omega,fun p3 hp3=>?_⟩⟩;have h2:=(dq hp2);have h3:=(dq hp3);have h3':=(dq h3.2);have na1:a≠p1:=aY ha hp1;have na2:a≠p2:=aY ha h2.2;have na3:a≠p3:=aY ha h3'.2;have hpl:(ns.map T.int).all (pl 20)=true:=by rw[J_];intro t ht;obtain⟨x,_,rfl⟩:=C_.mp ht;rfl
 have n32:p2≠p3:=Ne.symm h3.1;have n31:p1≠p3:=Ne.symm h3'.1;have n21:p1≠p2:=Ne.symm h2.1;walk_at "";obtain⟨cs,ecl,c1,c63,ecs⟩:=CK ns hl;have ecl':=Box.mk ecl;clear ecl;refine⟨trivial,trivial,rfl,⟨by split <;> decide,by split <;> decide,by split <;> decide⟩,fun p4 hp4=>?_⟩;have h4:=dq hp4;have h4':=dq h4.2;have h4'':=dq h4'.2;rw[aF (Ne.symm h4''.1),aF n31,aF n21,aC,m5,ecs];have hcl:(cQ (ns.map T.int) none (some 63)).length+(List.replicate (if decide (ns.map T.int=[])=true then (1:Int) else 0).toNat [T.int 0]).flatten.length<=16777216:=by have:=F_ List.length ecs;rw[a_,g_] at this;omega
 refine⟨hcl,fun pc hpc=>?_⟩;have hS:Sub3 H3 (up3 (up3 (up3 (up3 H3 p1 (.lst (cQ (ns.map T.int) none (some 63)))) p2 (.lst [T.int 0])) p3 (.lst [])) p4 (.lst (List.replicate (if decide (ns.map T.int=[])=true then (1:Int) else 0).toNat [T.int 0]).flatten)) :=
  (((Sub3.new hp1).trans (Sub3.new hp2)).trans (Sub3.new hp3)).trans (Sub3.new hp4)
 have hS2:=hS.trans (Sub3.new (o:=.lst (cs.map T.int)) hpc);have gc:∀H:Hp3,up3 H pc (.lst (cs.map T.int)) pc=some (.lst (cs.map T.int)):=fun _=>aC;have gc:=gc (up3 (up3 (up3 (up3 H3 p1 (.lst (cQ (ns.map T.int) none (some 63)))) p2 (.lst [T.int 0])) p3 (.lst [])) p4 (.lst (List.replicate (if decide (ns.map T.int=[])=true then (1:Int) else 0).toNat [T.int 0]).flatten));generalize up3 (up3 (up3 (up3 (up3 H3 p1 (.lst (cQ (ns.map T.int) none (some 63)))) p2 (.lst [T.int 0])) p3 (.lst [])) p4 (.lst (List.replicate (if decide (ns.map T.int=[])=true then (1:Int) else 0).toNat [T.int 0]).flatten)) pc (.lst (cs.map T.int))=H5 at hS2 gc;clear hS hcl ecs hpc hp4 h4 h4' h4'' hp3 h3 h3' hp2 h2 hp1 n32 n31 n21 na1 na2 na3 hpl ha hl;walk_at "n";refine aq fun R1 hR1=>?_;walk_at "";refine⟨by omega,fun pf hpf=>?_⟩;have nb:Nb H3 (up3 H5 pf (.lst [])) pc pf cs []:=⟨hS2.trans (Sub3.new hpf),by rw[aF (aY gc hpf)];exact gc,aC,by
  cases e:H3 pf with
  |none=>rfl
  |some o=>exact absurd (hpf.symm.trans (hS2 _ _ e)) (by simp),aY gc hpf⟩
 generalize up3 H5 pf (.lst [])=H6 at nb;clear hS2 gc hpf;walk_at "n";cases cs with
 |nil=>simp at c1
 |cons c0 cr =>
 refine aq fun R2 hR2=>?_;have gc:=nb.c;rw[m_] at gc;walk_at "";refine⟨by decide,?_⟩;by_cases hev:c0%2=0
 ·have hnum:Box (nuF ns=(((c0 / 2)::cr).foldl dgF []).reverse):=⟨by unfold nuF;rw[<- ecl'.out];show (if c0%2=0 then _ else _)=_;rw[if_pos hev]⟩;rw[y_ hev,if_pos rfl];clear hR2 ecl';refine⟨⟨by decide,by decide +kernel⟩,by decide,fun q1 hq1=>?_⟩;have nb1:=nb.new (o:=.lst [T.int (c0 / 2)]) hq1;have gq:up3 H6 q1 (.lst [T.int (c0 / 2)]) q1=some (.lst [T.int (c0 / 2)]):=aC;have gc1:=nb1.c;generalize up3 H6 q1 (.lst [T.int (c0 / 2)])=H7 at nb1 gq gc1;clear nb gc hq1;rw[gc1,Dz];intro q2 hq2;rw[show (1:Int)=((1:Nat):Int) from rfl,iU,m_,List.drop_one,List.tail_cons];have nb2:=nb1.new (o:=.lst (cr.map T.int)) hq2;have gq1:up3 H7 q2 (.lst (cr.map T.int)) q1=_ := upa gq hq2;have gq2:up3 H7 q2 (.lst (cr.map T.int)) q2=some (.lst (cr.map T.int)):=aC;generalize up3 H7 q2 (.lst (cr.map T.int))=H8 at nb2 gq1 gq2;clear nb1 gq gc1 hq2;rw[j_] at c63;rw[xn,gq1,gq2,m5];refine⟨by rw[g_,x_];omega,fun q3 hq3=>?_⟩;have nb3:=nb2.new (o:=.lst ([T.int (c0 / 2)]++cr.map T.int)) hq3;have gq3:up3 H8 q3 (.lst ([T.int (c0 / 2)]++cr.map T.int)) q3=some (.lst ([T.int (c0 / 2)]++cr.map T.int)):=aC;have n3f:q3≠pf:=Ne.symm (aY nb2.f hq3);rw[show [T.int (c0 / 2)]++cr.map T.int=((c0 / 2)::cr).map T.int from rfl] at *;generalize up3 H8 q3 (.lst (((c0 / 2)::cr).map T.int))=H9 at nb3 gq3;clear nb2 gq1 gq2 hq3;have xl:((c0 / 2)::cr).length<=63:=by rw[j_];exact c63
  generalize (c0 / 2)::cr=xs at *;walk_at "";refine aL T.int xs (fun A Z H=>∃(fs:List Int) (v3 v4:Option T),Z=[some (.ref a),some (.ref pc),some (.ref pf),v3,v4,none]/\Nb H3 H pc pf (c0::cr) fs/\H q3=some (.lst (xs.map T.int))/\fs.length=8*A.length/\Box (A.foldl dgF []=fs)) ⟨[],_,_,rfl,nb3,gq3,rfl,⟨rfl⟩⟩ ?_ ?_
  ·rintro Z H ⟨fs,v3,v4,rfl,nb,g3,hf,hx⟩;refine⟨.inl g3,?_⟩;have gf:=nb.f;clear nb3 gq3;walk_at "";refine⟨by first | trivial | rfl,fun p hp=>Fin3.of Sub3.refl (k'.out p _ (nb.sb.trans (Sub3.new hp)) (du nb.sb hp) (by rw[hnum.out,hx.out];show Ci _ p fs.reverse;exact⟨by rw[aC,List.map_reverse],by rw[Sq];omega⟩))⟩
  rintro A c B Z H N e ⟨fs,v3,v4,rfl,nb,g3,hf,hx⟩ hN;refine⟨.inl g3,?_⟩;have hA:A.length+1<=63:=by have:=F_ List.length e;simp only[a_,j_] at this;omega
  have hN':=Box.mk hN;clear hN e nb3 gq3 k';walk_at "";refine⟨trivial,by decide,by decide,?_⟩;rw[show cN 0 (Int.toNat 8)=(List.range 8).map (fun (i:Nat)=>T.int (i:Int)) from dZ 8];have fs0:=fs;refine aL (fun (i:Nat)=>T.int (i:Int)) (List.range 8) (fun A2 Z H=>∃(fs1:List Int) (c1:Int) (v4:Option T),Z=[some (.ref a),some (.ref pc),some (.ref pf),some (.int c1),v4,none]/\Nb H3 H pc pf (c0::cr) fs1/\H q3=some (.lst (xs.map T.int))/\fs1.length=8*A.length+A2.length/\Box (A2.foldl dgS (fs,c)=(fs1,c1))) ⟨fs,c,_,rfl,nb,g3,by rw[Rv];omega,⟨rfl⟩⟩ ?_ ?_
  ·rintro Z H ⟨fs1,c1,v4,rfl,nb,g3,hf2,hx2⟩;rw[t_] at hf2;exact⟨trivial,hN'.out _ _ ⟨fs1,_,_,rfl,nb,g3,by rw[a_,x_];omega,⟨by rw[E_,hx.out];show dgF fs c=fs1;unfold dgF;rw[hx2.out]⟩⟩⟩
  rintro A2 x B2 Z H N2 e2 ⟨fs1,c1,v4,rfl,nb,g3,hf2,hx2⟩ hN2;refine⟨trivial,?_⟩;have hA2:A2.length<8:=by have:=F_ List.length e2;simp only[a_,j_,t_] at this;omega
  clear e2;have hM:=Box.mk hN2;have gf:=nb.f;clear hN2 hN';walk_at "";refine⟨⟨trivial,trivial⟩,⟨by decide,by decide,by decide⟩,by decide,by omega,⟨by decide,by decide,by decide⟩,⟨by decide,by decide +kernel⟩,?_⟩;exact hM.out _ _ ⟨_,_,_,rfl,nb.put _,by rw[aF n3f];exact g3,by rw[a_,a_,x_,x_];omega,⟨by rw[E_,hx2.out];rfl⟩⟩
 have hnum:Box (nuF ns=((List.range 504).foldl (nbS (c0::cr)) ([],c0 / 2%2147483629)).1.reverse):=⟨by unfold nuF;rw[<- ecl'.out];show (if c0%2=0 then _ else _)=_;rw[if_neg hev]⟩;clear ecl';rw[o_ hev,if_neg p_];walk_at "n";refine aq fun R3 hR3=>?_;walk_at "";refine⟨⟨by decide,by decide +kernel⟩,by decide,?_⟩;have m0:=QJ (c0 / 2) (show (2147483629:Int)≠0 by decide);have m1:=QH (c0 / 2) (show (0:Int)<2147483629 by decide);generalize c0 / 2%2147483629=nbr at m0 m1 hnum;walk_at "n";refine aq fun R4 hR4=>?_;walk_at "";refine⟨by first | trivial | decide,by decide,by decide,?_⟩;obtain⟨nbr0,hnb0⟩:∃z,z=nbr:=⟨_,rfl⟩;rw[<- hnb0] at hnum;rw[show cN 0 (Int.toNat 504)=(List.range 504).map (fun (i:Nat)=>T.int (i:Int)) from dZ 504];refine aL (fun (i:Nat)=>T.int (i:Int)) (List.range 504) (fun A Z H=>∃(fs:List Int) (v3 v4:Option T) (nbr:Int),Z=[some (.ref a),some (.ref pc),some (.ref pf),v3,v4,some (.int nbr)]/\Nb H3 H pc pf (c0::cr) fs/\fs.length=A.length/\0<=nbr/\nbr<2147483629/\Box (A.foldl (nbS (c0::cr)) ([],nbr0)=(fs,nbr))) ⟨[],_,_,nbr,rfl,nb,rfl,m0,m1,⟨by rw[hnb0];rfl⟩⟩ ?_ ?_
 ·rintro Z H ⟨fs,v3,v4,nbr,rfl,nb,hf,_,_,hx⟩;refine⟨trivial,?_⟩;rw[t_] at hf;walk_at "n";have gf:=nb.f;walk_at "";refine⟨by first | trivial | rfl,fun p hp=>Fin3.of Sub3.refl (k'.out p _ (nb.sb.trans (Sub3.new hp)) (du nb.sb hp) (by rw[hnum.out,hx.out];show Ci _ p fs.reverse;exact⟨by rw[aC,List.map_reverse],by rw[Sq];omega⟩))⟩
 rintro A c B Z H N e ⟨fs,v3,v4,nbr,rfl,nb,hf,m0,m1,hx⟩ hN;refine⟨trivial,?_⟩;have hA:A.length+1<=504:=by have:=F_ List.length e;simp only[a_,j_,t_] at this;omega
 have hN':=Box.mk hN;have gc:=nb.c;obtain⟨z,_,hz⟩:=pG (c0::cr) ((c:Int)%((c0::cr).length:Int)) (QJ _ (by rw[j_];omega)) (QH _ (by rw[j_];omega));have hz':atI ((c0::cr).map T.int) ((c:Int)%((c0::cr).length:Int))=some (T.int z):=by rw[jT,hz];rfl
 have hz2:Box (z=(atI (c0::cr) ((c:Int)%((c0::cr).length:Int))).getD 0):=⟨by rw[hz];rfl⟩;clear hnum hnb0;generalize c0::cr=cs at *;clear hN e hz hR4 k';refine aq fun R5 hR5=>?_;have cl:(0:Int)<(cs.length:Int):=by omega
 walk_at "";refine⟨by first | trivial | omega,by decide,?_⟩;have z0:=QJ z (show (2147483647:Int)≠0 by decide);have z1:=QH z (show (0:Int)<2147483647 by decide);have hz3:Box ((atI cs ((c:Int)%(cs.length:Int))).getD 0%2147483647=z%2147483647):=⟨by rw[<- hz2.out]⟩;generalize z%2147483647=z' at z0 z1 hz3;walk_at "n";refine aq fun R6 hR6=>?_;walk_at "";refine⟨.inl ⟨by omega,by omega⟩,.inl ⟨by decide,by decide⟩,by decide,?_⟩;have y0:=QJ (nbr*nbr+69621*z'+(c:Int)) (show (2147483629:Int)≠0 by decide);have y1:=QH (nbr*nbr+69621*z'+(c:Int)) (show (0:Int)<2147483629 by decide);have hz4:Box ((nbr*nbr+69621*((atI cs ((c:Int)%(cs.length:Int))).getD 0%2147483647)+(c:Int))%2147483629=(nbr*nbr+69621*z'+(c:Int))%2147483629):=⟨by rw[hz3.out]⟩;generalize (nbr*nbr+69621*z'+(c:Int))%2147483629=y at y0 y1 hz4;walk_at "n";have gf:=nb.f;walk_at "";refine⟨⟨trivial,trivial⟩,.inl ⟨by omega,by omega⟩,by decide,⟨by decide,by decide +kernel⟩,by omega,?_⟩;exact hN'.out _ _ ⟨_,_,_,_,rfl,nb.put _,by rw[a_,a_,x_,x_];omega,y0,y1,⟨by rw[E_,hx.out];show nbS cs (fs,nbr) c=_;unfold nbS;dsimp only;rw[hz4.out]⟩⟩
end
section
variable {P:Program}{w:World}{K:Frag}{mg:Str->Option Value}{base:Heap}
def uC:Sp3:=fun ts H Q=>∃(a:Addr) (ns:List Int),ts=[.ref a]/\H a=some (.rol (ns.map T.int))/\ns.length<=63/\∀H',Q (.bl true) H'
abbrev zc:List Str:=["_law_script","_law_deck","_law_works_here","_law_dealing_here","_law_most","_law_beat_here","_law_due","_law_found","_law_about"]
theorem sc_law:FnScope zc ["_law_script"] (aB (top 42)):=bA
theorem JN {f:Addr}{fd:FuncData}(g:G3 K mg "law" (top 42) ["_law_script"] f fd) (B:Bl mg) (F_numbers:Cal P w K mg base 1 "_law_numbers" (top 20) ["_law_script"] OD) (F_works:Cal P w K mg base 5 "_law_works" (top 31) ["_law_deck","_law_most","_law_stands"] Oz) (F_dealing:Cal P w K mg base 3 "_law_dealing" (top 39) ["_law_deck","_law_works_here"] NB) (F_loads:Cal P w K mg base 1 "_law_loads" (top 40) ["_law_works_here","_law_dealing_here"] NK) (F_beat:Cal P w K mg base 3 "_law_beat" (top 32) ["_law_deck","_law_works_here"] N8) (F_fault:Cal P w K mg base 3 "_law_fault" (top 37) ["_law_works_here","_law_beat_here","_law_dealing_here"] Cr) (F_fault_of:Cal P w K mg base 4 "fault_of" (top 18) ["works","beat","dealing"] Cr) (F_same:Cal P w K mg base 2 "_law_same" (top 41) ["_law_one","_law_other"] (m6 2)):FnOk3 P w K mg base 6 f fd ["_law_script"] uC:=by
 refine fn3 g.fn sc_law (fun ts H Q h=>?_) (fun cdv A outer s H E ts H3 Q hr h=>?_)
 ·obtain⟨a,ns,rfl,_⟩:=h;rfl
 have hu30:=Room.u30 hr;obtain⟨a,ns,rfl,ha,h63,k⟩:=h;refine⟨_,(ak (aD (i:=1) sc_law.nd (aJ F_numbers hr rfl (aa (v3 0) aj)))
   (ak (aD (i:=2) sc_law.nd (aJ F_works hr rfl (aa (v3 1) (aa au (aa au aj)))))
   (ak (aD (i:=3) sc_law.nd (aJ F_dealing hr rfl (aa (v3 1) (aa (v3 2) aj))))
   (ak (aD (i:=4) sc_law.nd (aH (tO rfl) rfl B.max_ jV (aa (aJ F_loads hr rfl (aa (v3 2) (aa (v3 3) aj))) aj)))
   (ak (aU n_ rfl (cz (bO (aa (v3 4) (aa (aH (nA rfl) rfl B.max_ jV (aa au (aa (aO mR (v3 4) au) aj))) (aa (aJ F_beat hr rfl (aa (v3 1) (aa (v3 2) aj))) aj))))) (aA (i:=5) sc_law.nd) (ak (aD (i:=6) sc_law.nd (aJ F_fault hr rfl (aa (v3 2) (aa (v3 5) (aa (v3 3) aj)))))
    (ak (aD (i:=7) sc_law.nd (aJ F_fault_of hr rfl (aa (v3 2) (aa (v3 5) (aa (v3 3) aj)))))
    (ak (bz (fY (cT (aJ F_same hr rfl (aa (v3 6) (aa (v3 7) aj))))) (ao (aK gY)) aQ)
    (ak (aD (i:=8) sc_law.nd (bD cP rfl B.tuple_ cj (aa (bh rfl (bI (n0:=(aB (top 42)).names) (N:=zc) (N':=["_law_stand"]) (nt:=1) (cap:=[]) rfl rfl (by decide +kernel)) (bG (v3 3)) (fun cl pins s H C0 fp=>⟨(aA (i:=0) (show List.Nodup [("_law_stand":Str)] by decide +kernel)),bC,(Bf (v3 0) (dm (q9 au)))⟩)) aj)))
    (ak (bz (fY (cT (aJ F_same hr rfl (aa (aJ F_fault hr rfl (aa (v3 2) (aa (v3 5) (aa (v3 8) aj)))) (aa (aJ F_fault_of hr rfl (aa (v3 2) (aa (v3 5) (aa (v3 8) aj)))) aj))))) (ao (aK gY)) aQ)
    (ak (bz (fY (cT (aJ F_same hr rfl (aa (v3 6) (aa (aJ F_fault_of hr rfl (aa (v3 2) (aa (v3 5) (aa (v3 3) aj)))) aj))))) (ao (aK gY)) aQ)
    (ao (bz (fY (cT (aJ F_same hr rfl (aa (aZ (aa bB (aa (aM ix3 (aM ix3 (aM ix3 (v3 2) au) au) au) aj))) (aa (aJ F_fault_of hr rfl (aa (v3 2) (aa (v3 5) (aa (aZ aj) aj)))) aj))))) (ao (aK gY)) aQ)))))))))
   (ao (aK (dz (bY hu30) (v3 2) (aJ F_works hr rfl (aa (aJ F_numbers hr rfl (aa (v3 0) aj)) (aa au (aa au aj)))))))))))),?_⟩
 rw[show aV zc [T.ref a]=[some (T.ref a),none,none,none,none,none,none,none,none] from rfl];have hsz:sizeLine=16777216:=rfl;have k':=Box.mk k;clear k;refine aq fun R0 hR0=>?_;walk_at "";refine⟨a,ns,rfl,ha,h63,fun d H4 hsub hd hC=>?_⟩;have w0:Wi d (nuF ns) H4 H4 []:=⟨hC,Kep.refl,(fun _ h=>nomatch h)⟩;have ga:=hsub a _ ha;have nad:a≠d:=fun z=>by rw[z,hd] at ha;cases ha
 clear hC hsub hd ha;walk_at "n";refine aq fun R1 hR1=>?_;walk_at "";refine⟨d,6,4,nuF ns,rfl,by decide,by decide,by decide,by decide,w0.cl,fun W dw H5 eW hW _ _ hD=>?_⟩;have eW':=Box.mk eW;have w1:=(w0.drw hD).wk;clear w0 hD eW;walk_at "n";refine aq fun R2 hR2=>?_;walk_at "";refine⟨d,W,rfl,hW,w1.cl,fun xs f m H6 hp m1 mr hf hD=>?_⟩;have w2:=w1.drw hD;clear w1 hD;have hok:=vG hW hp mr hf;have d1:1<=(g8 xs f m).length:=by rw[lW];exact m1
 generalize g8 xs f m=D0 at *;clear hp hf m1 mr xs f;have d8:D0.length<=8:=N_ hok.rw hW.r8;have t8:W.tasks.length<=8:=hW.t8;have fl:=hok.len hW;have hin:∀s∈D0,s.length<=8/\∀n∈s,n∈W.tasks.map (·.1):=fun s hs=>by have q:=hok.in hs;refine⟨?_,q.2⟩;have:=yH q.1 q.2;rw[g_] at this;omega
 obtain⟨t0,tr,et⟩:∃t r,W.tasks=t::r:=by
  have:=hW.t1;cases e:W.tasks with
  |nil=>rw[e] at this;exact absurd this (by decide)
  |cons t r=>exact⟨t,r,rfl⟩
 have et':=Box.mk et;have at0':atI (W.tasks.map tkT) 0=some (.tup [.str t0.1,.int t0.2.1,sT t0.2.2]):=by rw[et,m_,at0];rfl
 have hW':=Box.mk hW;have hin':=Box.mk hin;clear hW hok hin et;walk_at "n";refine aq fun R3 hR3=>?_;walk_at "";refine⟨W,D0,rfl,hW'.out,d8,hin'.out,fun p hp=>?_⟩;have w3:=w2.new (o:=.lst ((D0.map (smL W.tasks)).map T.int)) hp;have g3:=w3.hd;have ei:=cV (D0.map (smL W.tasks));generalize up3 H6 p (.lst ((D0.map (smL W.tasks)).map T.int))=H7 at w3 g3 ⊢;clear w2 hp;have hne:D0.map (smL W.tasks)≠[]:=fun e=>by have:=F_ List.length e;rw[g_] at this;simp at this;rw[this] at d1;cases d1
 generalize D0.map (smL W.tasks)=lo at *;have hne':=Box.mk hne;clear hne;walk_at "";refine⟨hne'.out,fun most hm _=>?_⟩;clear hne' hm g3 ei;have w4:=w3.tl;clear w3;walk_at "n";refine aq fun R4 hR4=>?_;walk_at "";refine⟨d,W,rfl,hW'.out,w4.cl,fun bt H8 hD=>?_⟩;have w5:=w4.drw hD;clear w4 hD;try dsimp only
 refine⟨by decide,fun q hq=>?_⟩;have hfl3:D0.flatten.length<=1000:=by omega
 obtain⟨L,hL⟩:∃L:List Int,[T.int most,T.int (if 0<most - 1 then most - 1 else 0),T.int bt]=L.map T.int:=⟨[most,if 0<most - 1 then most - 1 else 0,bt],rfl⟩;first | rw[hL] | (rw[show ∀z:Int,(if z>0 then z else 0)=(if 0<z then z else 0) from fun _=>rfl,hL])
 have w6:=w5.new (o:=.lst (L.map T.int)) hq;generalize up3 H8 q (.lst (L.map T.int))=H9 at w6 ⊢;have gL:=w6.hd;clear w5 hq hL;refine aL T.int L (fun A Z H=>∃(v5 v6 v7 v8:Option T),Z=[some (.ref a),some (.ref d),some W.enc,some (.tup (D0.map sT)),some (.int most),v5,v6,v7,v8]/\Wt d H4 H [(q,.lst (L.map T.int))]) ⟨_,_,_,_,rfl,w6⟩ ?_ ?_
 ·rintro Z H ⟨v5,v6,v7,v8,rfl,w⟩;refine⟨.inl w.hd,?_⟩;have ga2:=w.kp a _ ga nad;walk_at "n";walk_at "";refine⟨a,ns,rfl,ga2,h63,fun d2 H10 hs2 hd2 hC2=>?_⟩;refine⟨d2,6,4,nuF ns,rfl,by decide,by decide,by decide,by decide,hC2,fun W2 dw2 H11 eW2 _ _ _ _=>?_⟩;have e2:W2=W:=by have:=eW'.out;rw[eW2] at this;exact (Prod.mk.inj this).1
  subst e2;exact JL W2 H11 _ (Fin3.of Sub3.refl (k'.out _))
 rintro A b B Z H N e ⟨v5,v6,v7,v8,rfl,w⟩ hN;refine⟨.inl w.hd,?_⟩;have hN':=Box.mk hN;have isf:=fun D=>(Ck W b D).shn;have isf':=Box.mk isf;clear hN e k' hR4 w6 isf;refine aq fun R5 hR5=>?_;walk_at "";refine⟨W,b,D0,rfl,hW'.out,hfl3,by omega,?_⟩;walk_at "n";refine aq fun R6 hR6=>?_;walk_at "";refine⟨W,b,D0,rfl,hW'.out,hfl3,by omega,?_⟩;walk_at "n";refine aq fun R7 hR7=>?_;walk_at "";refine⟨_,by decide,rfl,isf'.out D0,?_⟩;simp only[xm,Sy,QW,Q4];walk_at "n";refine aq fun R8 hR8=>?_;walk_at "";walk_at "c";refine bV sT (fun s=>sT s.reverse) D0 [] trivial (by omega) ?c1 ?c2
 case c1 =>
  intro s hs Q' hq
  have hq':=Box.mk hq
  clear hq hN' hR8 isf'
  simp only[sT,List.map_reverse] at hq' ⊢
  walk_at ""
  first | exact hq'.out | exact⟨trivial,hq'.out⟩
 intro p1 hp1;have w7:=(w.new (o:=.lst (D0.map fun s=>sT s.reverse)) hp1).tl;have e7:D0.map (fun s=>sT s.reverse)=(D0.map List.reverse).map sT:=by rw[O_];rfl
 rw[e7] at w7 ⊢;generalize up3 H p1 (.lst ((D0.map List.reverse).map sT))=H7 at w7 ⊢;have f1:(D0.map List.reverse).flatten.length<=1000:=by
  have:∀L:List (List Str),(L.map List.reverse).flatten.length=L.flatten.length:=fun L=>by
   induction L with
   |nil=>rfl
   |cons x r ih=>rw[m_,QQ,QQ,a_,a_,ih,Sq]
  rw[this];exact hfl3
 have f2:(D0.map List.reverse).length<=1000:=by rw[g_];omega
 generalize D0.map List.reverse=D1 at *;clear w hp1 e7;walk_at "n";refine aq fun R9 hR9=>?_;walk_at "";refine⟨W,b,D1,rfl,hW'.out,f1,f2,W,b,D1,rfl,hW'.out,f1,f2,_,by decide,rfl,isf'.out D1,?_⟩;simp only[xm,Sy,QW,Q4];walk_at "n";refine aq fun R10 hR10=>?_;walk_at "";refine⟨W,b,D0,rfl,hW'.out,hfl3,by omega,_,by decide,rfl,isf'.out D0,?_⟩;simp only[xm,Sy,QW,Q4];walk_at "n";have hlost:=Cw (beat:=b) et'.out;walk_at "";refine⟨by decide,by decide,W,b,[],rfl,hW'.out,by decide,by decide,?_⟩;rw[hlost];refine⟨_,by decide,rfl,rfl,?_⟩;simp only[xm,Sy,QW,Q4];exact hN'.out _ _ ⟨_,_,_,_,rfl,w7⟩
abbrev jZ:List Str:=["_law_deck","_law_most"]
theorem CN:FnScope jZ jZ (aB (top 21)):=bA
theorem CP {f:Addr}{fd:FuncData}(g:G3 K mg "_law_draw" (top 21) jZ f fd) (B:Bl mg):Cal P w K mg base 1 "_law_draw" (top 21) jZ kO:=by
 refine⟨f,fd,g,?_⟩;refine fn3 g.fn CN (fun ts H Q h=>?_) (fun cdv A outer s H E ts H3 Q hr h=>?_)
 ·obtain⟨d,m,ns,rfl,_⟩:=h;rfl
 have hu30:=Room.u30 hr;obtain⟨d,m,ns,rfl,hm,hC,k⟩:=h;refine⟨_,(ak (bz (aP (bY hu30) (v3 0) (bO aj)) (ao (aK au)) aQ)
   (ao (aK (aO dX (HD I_ PySem.F.slot_list_pop PySem.F.type_list_pop Jp (v3 0)) (v3 1))))),?_⟩
 rw[show aV jZ [T.ref d,T.int m]=[some (T.ref d),some (T.int m)] from rfl];have hsz:sizeLine=16777216:=rfl;have hd:=hC.at_;have hl:=hC.le;walk_at "";refine⟨by omega,fun p hp=>?_⟩;have npd:d≠p:=aY hd hp;have hpl:(ns.map T.int).all (pl 20)=true:=by rw[J_];intro t ht;obtain⟨x,_,rfl⟩:=C_.mp ht;rfl
 have k':=Box.mk k;clear k;walk_at "";refine⟨by first | trivial | exact npd,by first | trivial | exact hpl,by first | trivial | rfl,?_⟩;rcases List.eq_nil_or_concat ns with rfl | ⟨r,n,rfl⟩
 ·simp only[Rg,tM,if_true];exact jX (a:=d) (H:=H3) (hC.new (Ne.symm npd)) (Kep.refl.new hp) fun H'' hD=>k'.out 0 [] H'' rfl (Int.le_refl _) hm hD
 rw[o_ (by simp),if_neg p_];rw[List.concat_eq_append] at *;have e1:=yC r n;have e2:=vB r n;have hd2:up3 H3 p (.lst []) d=some (.lst ((r++[n]).map T.int)):=by rw[aF npd];exact hd
 generalize hg:up3 H3 p (.lst [])=H4 at hd2;clear hpl;walk_at "";refine⟨⟨trivial,trivial⟩,?_⟩;rw[show (List.map T.int (r++[n]))[(r++[n]).length - 1]?=some (T.int n) by simp,gU];walk_at "";refine⟨by first | trivial | exact hm,jX (a:=d) (H:=H3) ⟨aC,by rw[a_,x_] at hl;omega⟩ (fun b o hb h1=>?_) fun H'' hD=>k'.out _ r H'' (yF r n m) (QJ _ (by omega)) (QH _ hm) hD⟩;rw[aF h1,<- hg,aF (aY hb hp)];exact hb
abbrev uD:List Str:=["_law_deck","_law_most","_law_total","_law_k"]
theorem sc_great:FnScope uD ["_law_deck","_law_most"] (aB (top 22)):=bA
theorem zf {f:Addr}{fd:FuncData}(g:G3 K mg "_law_great" (top 22) ["_law_deck","_law_most"] f fd) (B:Bl mg) (F_draw:Cal P w K mg base 1 "_law_draw" (top 21) ["_law_deck","_law_most"] kO):Cal P w K mg base 2 "_law_great" (top 22) ["_law_deck","_law_most"] Jy:=by
 refine⟨f,fd,g,?_⟩;refine fn3 g.fn sc_great (fun ts H Q h=>?_) (fun cdv A outer s H E ts H3 Q hr h=>?_)
 ·obtain⟨d,m,ds,rfl,_⟩:=h;rfl
 obtain⟨d,m,ds,rfl,hm,hC,k⟩:=h;refine⟨_,(ak (aD (i:=2) sc_great.nd au)
   (ak (aU n_ rfl (aN rfl B.range_ (aa au aj)) (aA (i:=3) sc_great.nd) (ao (aD (i:=2) sc_great.nd (aO bx (aO jf (v3 2) (aO eO au au)) (aJ F_draw hr rfl (aa (v3 0) (aa (aO eO au au) aj)))))))
   (ao (aK (aO dX (v3 2) (v3 1)))))),?_⟩
 rw[show aV uD [T.ref d,T.int m]=[some (T.ref d),some (T.int m),none,none] from rfl];have k':=Box.mk k;clear k;refine aq fun R0 hR0=>?_;walk_at "";walk_at "n";refine aq fun R1 hR1=>?_;walk_at "";refine⟨by first | trivial | decide,by decide,by decide,?_⟩;rw[show cN 0 (Int.toNat 6)=(List.range 6).map (fun (i:Nat)=>T.int (i:Int)) from dZ 6];refine aL (fun (i:Nat)=>T.int (i:Int)) (List.range 6) (fun A Z H=>∃(t:Int) (d1:List Int) (v3:Option T),Z=[some (.ref d),some (.int m),some (.int t),v3]/\Box (A.foldl grS (0,ds)=(t,d1))/\Ci H d d1/\Kep d H3 H) ⟨_,_,_,rfl,⟨rfl⟩,hC,Kep.refl⟩ ?_ ?_
 ·rintro Z H ⟨t,d1,v3,rfl,he,hc,hk⟩;refine⟨trivial,?_⟩;walk_at "n";walk_at "";refine⟨by first | trivial | exact hm,jX hc hk fun H'' hD=>k'.out _ d1 H'' (by unfold grF;rw[he.out]) (QJ _ (by omega)) (QH _ hm) hD⟩
 rintro A x B Z H N e ⟨t,d1,v3,rfl,he,hc,hk⟩ hN;refine⟨trivial,?_⟩;have hN':=Box.mk hN;clear hN hR1 k' e;walk_at "";refine⟨⟨by decide,by decide,by decide⟩,.inr ⟨by decide,by decide⟩,⟨by decide,by decide,by decide⟩,d,10^Int.toNat 12,d1,rfl,by decide,hc,fun n d2 H5 e2 n0 n1 hD=>?_⟩;exact hN'.out _ _ ⟨_,d2,_,rfl,⟨by rw[E_,he.out];show grS (t,d1) x=_;unfold grS;rw[show drF (t,d1).2 (10^12)=(n,d2) from e2];rfl⟩,hD.cl,hk.di hD⟩
abbrev zg:List Str:=["_law_deck","_law_things","_law_left","_law_found"]
theorem sc_turn:FnScope zg ["_law_deck","_law_things"] (aB (top 25)):=bA
theorem CQ {f:Addr}{fd:FuncData}(g:G3 K mg "_law_turn" (top 25) ["_law_deck","_law_things"] f fd) (B:Bl mg) (F_draw:Cal P w K mg base 1 "_law_draw" (top 21) ["_law_deck","_law_most"] kO):Cal P w K mg base 2 "_law_turn" (top 25) ["_law_deck","_law_things"] yG:=by
 refine⟨f,fd,g,?_⟩;refine fn3 g.fn sc_turn (fun ts H Q h=>?_) (fun cdv A outer s H E ts H3 Q hr h=>?_)
 ·obtain⟨d,a,xs,ds,rfl,_⟩:=h;rfl
 have hu30:=Room.u30 hr;obtain⟨d,a,xs,ds,rfl,nad,ha,hp20,hl,hC,k⟩:=h;refine⟨_,(ak (aD (i:=2) sc_turn.nd (bD mX rfl B.list_ jF (aa (v3 1) aj)))
   (ak (aD (i:=3) sc_turn.nd (bO aj))
   (ak (o7 n_ (aP (jr hu30) (v3 2) (bO aj)) (ao (b8 (dY I_ Qq Qs bT (v3 3) (aa (dY I_ PySem.F.slot_list_pop PySem.F.type_list_pop wZ (v3 2) (aa (aJ F_draw hr rfl (aa (v3 0) (aa (aH bc rfl B.len_ bf (aa (v3 2) aj)) aj))) aj)) aj)))))
   (ao (aK (v3 3)))))),?_⟩
 rw[show aV zg [T.ref d,T.ref a]=[some (T.ref d),some (T.ref a),none,none] from rfl];have hsz:sizeLine=16777216:=rfl;have k':=Box.mk k;clear k;have w0:Wi d ds H3 H3 []:=⟨hC,Kep.refl,(fun _ h=>nomatch h)⟩;refine aq fun R0 hR0=>?_;walk_at "";intro pl_ hpl_;have l0:=w0.fresh hpl_;have w1:=w0.new (o:=.lst xs) hpl_;generalize up3 H3 pl_ (.lst xs)=H4 at w1;clear w0 hpl_;walk_at "n";refine aq fun R1 hR1=>?_;walk_at "";refine⟨by omega,fun pf hpf=>?_⟩;have f0:=w1.fresh hpf;have nfl:pf≠pl_:=Ne.symm (aY w1.hd hpf);have w2:=w1.new (o:=.lst []) hpf;generalize up3 H4 pf (.lst [])=H5 at w2;clear w1 hpf;walk_at "n";refine aq fun R2 hR2=>?_;show jE _ _ _ _ _;refine lU (fun m Z H=>∃(ls fs:List T) (d1:List Int) (c:Nat),m=ls.length/\Z=[some (.ref d),some (.ref a),some (.ref pl_),some (.ref pf)]/\Wi d d1 H3 H [(pf,.lst fs),(pl_,.lst ls)]/\(fs++ls).Perm xs/\ls.all (pl 20)=true/\ls.length<=c/\Box (tuF 60 ds xs []=tuF c d1 ls fs)) ⟨_,xs,[],ds,60,rfl,rfl,w2,List.Perm.refl _,hp20,hl,⟨rfl⟩⟩ ?_;intro m Z H hI WI TB NX hWI hTB hNX;obtain⟨ls,fs,d1,c,rfl,rfl,w,hperm,hls,hc,hx⟩:=hI;have hlen:=hperm.length_eq;rw[a_] at hlen;have gl:=w.tl.hd;have gf:=w.hd;clear w2;walk_at "";refine⟨by omega,fun pe hpe=>?_⟩;have w3:=w.new (o:=.lst []) hpe;have gl3:=w3.tl.tl.hd;have nle:pl_≠pe:=aY gl hpe;walk_at "";refine⟨trivial,trivial,rfl,?_⟩;have npd:pf≠d:=(w.at' _ i_).2;have gf3:=w3.tl.hd;generalize up3 H pe (.lst [])=H6 at w3 gl3 gf3;clear w gl gf hpe nle;cases ls with
 |nil=>rw[if_neg (by simp)];clear hTB hWI;obtain⟨hNX⟩:=hNX;subst hNX;walk_at "n";walk_at "";rw[Qv] at hperm;exact gO w3.cl w3.kp gf3 f0 npd fun H1 hD h1=>k'.out fs d1 H1 pf (by rw[hx.out];cases c <;> rfl) hperm hD h1
 |cons t r =>
 rw[if_pos (by simp)];clear hNX hR2 k';obtain⟨hTB⟩:=hTB;subst hTB;have w3':=w3.tl;clear w3;walk_at "";refine⟨⟨trivial,trivial⟩,⟨trivial,trivial⟩,d,_,d1,rfl,by omega,w3'.cl,fun n d2 H7 e2 n0 n1 hD=>?_⟩;have w4:=w3'.drw hD;have gl4:=w4.tl.hd;have gf4:=w4.hd;clear w3' gl3 gf3 hD;obtain⟨j,rfl⟩:∃j:Nat,n=(j:Int):=⟨n.toNat,by omega⟩;have hj:j<(t::r).length:=by rw[j_];omega
 have ej:=jG hj;have ex:=d_ hj;obtain⟨c,rfl⟩:∃c',c=c'+1:=⟨c - 1,by rw[j_] at hc;omega⟩;have hx2:Box (tuF 60 ds xs []=tuF c d2 ((t::r).eraseIdx j) (fs++[(t::r)[j]])):=⟨by
  rw[hx.out]
  rw[tuF,if_neg (by simp),show drF d1 ((t::r).length:Int)=((j:Int),d2) by rw[<- e2];first | rfl | simp]
  simp only[Q0]
  rw[A_,ex]
  rfl⟩
 have e2':=Box.mk e2;clear e2 hx;have pe:=BV hj;have le:=List.length_eraseIdx_of_lt hj;generalize (t::r)[j]=x at ex pe hx2;have hal:=Js hls j;have w5:=(w4.swap.set l0 (fun q hq=>by rw[b_.mp hq];exact nfl) (.lst ((t::r).eraseIdx j))).swap.set f0 (fun q hq=>by rw[b_.mp hq];exact Ne.symm nfl) (.lst (fs++[x]));have hfl:fs.length<60:=by rw[j_] at hlen;omega
 have nfl':=Ne.symm nfl;have hpm:(fs++[x]++(t::r).eraseIdx j).Perm xs:=by refine List.Perm.trans ?_ hperm;rw[QC];exact (List.Perm.refl fs).append pe
 have hlr:=Box.mk (show (t::r).length=r.length+1 from rfl);have le':=Box.mk le;generalize hls':(t::r)=ls at *;clear w4 hls hperm pe hls' le;walk_at "";exact⟨by omega,(ls.eraseIdx j).length,by have:=hlr.out;have:=le'.out;omega,by rw[hWI.out];exact⟨_,fs++[x],d2,c,rfl,rfl,w5,hpm,hal,by have:=hlr.out;have:=le'.out;omega,hx2⟩⟩
abbrev lZ:List Str:=["_law_works_here","_law_at_here","_law_more","_law_one","_law_other","_law_word"]
theorem sc_settled:FnScope lZ ["_law_works_here","_law_at_here"] (aB (top 38)):=bA
theorem rR {f:Addr}{fd:FuncData}(g:G3 K mg "_law_settled" (top 38) ["_law_works_here","_law_at_here"] f fd) (B:Bl mg):Cal P w K mg base 1 "_law_settled" (top 38) ["_law_works_here","_law_at_here"] Nz:=by
 refine⟨f,fd,g,?_⟩;refine fn3 g.fn sc_settled (fun ts H Q h=>?_) (fun cdv A outer s H E ts H3 Q hr h=>?_)
 ·obtain⟨W,a,f,m,rfl,_⟩:=h;rfl
 have hu30:=Room.u30 hr;have hu1:=Room.u1 hr;obtain⟨⟨tk,ors,prs,row⟩,a,f,m,rfl,hW,ha,hf,k⟩:=h;refine⟨_,(ak (aD (i:=2) sc_settled.nd gY)
   (ao (o7 n_ (cT (v3 2)) (ak (aD (i:=2) sc_settled.nd gY)
    (ak (aU n_ rfl (bG (aM ix3 (v3 0) au)) (bZ (n:=2) rfl (aG (aA (i:=3) sc_settled.nd) (aG (aA (i:=4) sc_settled.nd) bL))) (ao (bz (aP gZ (bu hu1 (v3 1) (v3 3)) (bu hu1 (v3 1) (v3 4))) (ak (c7 hu1 (v3 1) (v3 4) (bu hu1 (v3 1) (v3 3)))
      (ao (aD (i:=2) sc_settled.nd gY))) aQ)))
    (ao (aU n_ rfl (bG (aM ix3 (v3 0) au)) (bZ (n:=3) rfl (aG (aA (i:=5) sc_settled.nd) (aG (aA (i:=3) sc_settled.nd) (aG (aA (i:=4) sc_settled.nd) bL)))) (ao (bz (PW3.pt (cU (aP (bY hu30) (v3 5) bB) (cZ (aP (jr hu30) (bu hu1 (v3 1) (v3 3)) (bu hu1 (v3 1) (v3 4)))))) (ak (c7 hu1 (v3 1) (v3 3) (aH (nA rfl) rfl B.max_ jV (aa (bu hu1 (v3 1) (v3 3)) (aa (bu hu1 (v3 1) (v3 4)) aj))))
      (ak (c7 hu1 (v3 1) (v3 4) (bu hu1 (v3 1) (v3 3)))
      (ao (aD (i:=2) sc_settled.nd gY)))) aQ))))))))),?_⟩
 rw[show aV lZ [Wk.enc ⟨tk,ors,prs,row⟩,T.ref a]=[some (T.tup [T.tup (tk.map tkT),T.tup (ors.map orT),T.tup (prs.map prT),T.tup (row.map T.str)]),some (T.ref a),none,none,none,none] from rfl];have hsz:sizeLine=16777216:=rfl;have k':=Box.mk k;clear k;have hnl:(tk.map (·.1)).length<=8:=by rw[g_];exact hW.t8
 have hoo:Box (∀o∈ors,o.1∈tk.map (·.1)/\o.2∈tk.map (·.1)):=⟨fun o ho=>(hW.oo o ho).2⟩;have hpp:Box (∀p∈prs,p.2.1∈tk.map (·.1)/\p.2.2∈tk.map (·.1)):=⟨fun o ho=>(hW.pp o ho).2.2⟩;have hol:ors.length<=28:=hW.os;have hpl:prs.length<=12:=hW.ps;have hf':=Box.mk hf;clear hf hW;try dsimp only at ha k'
 generalize tk.map (·.1)=ns at *;refine aq fun R0 hR0=>?_;walk_at "";walk_at "n";show jE _ _ _ _ _;refine lU (fun M Z H=>∃(g:Str->Nat) (b:Bool) (v3 v4 v5:Option T),M=mu m ns g+b.toNat/\Z=[some (T.tup [T.tup (tk.map tkT),T.tup (ors.map orT),T.tup (prs.map prT),T.tup (row.map T.str)]),some (.ref a),some (.bl b),v3,v4,v5]/\H=up3 H3 a (.dct (dN ns g))/\Box (∀n,g n<m)) ⟨_,f,true,none,none,none,rfl,rfl,(Jz ha).symm,hf'⟩ ?_;intro M Z H hI WI TB NX hWI hTB hNX;obtain⟨g,b,v3,v4,v5,rfl,rfl,rfl,hg⟩:=hI;clear ha hf';walk_at "";cases b with
 |false=>obtain⟨hNX⟩:=hNX;subst hNX;walk_at "";exact Fin3.of Sub3.refl (k'.out g hg.out)
 |true =>
 clear hNX k';obtain⟨hTB⟩:=hTB;subst hTB;rw[if_pos rfl];refine aq fun R1 hR1=>?_;walk_at "";walk_at "n";refine aq fun R2 hR2=>?_;walk_at "";refine aL orT ors (fun A Z H=>∃(g1:Str->Nat) (b:Bool) (v3 v4 v5:Option T),mu m ns g1+b.toNat<=mu m ns g/\Z=[some (T.tup [T.tup (tk.map tkT),T.tup (ors.map orT),T.tup (prs.map prT),T.tup (row.map T.str)]),some (.ref a),some (.bl b),v3,v4,v5]/\H=up3 H3 a (.dct (dN ns g1))/\Box (∀n,g1 n<m)) ⟨g,false,_,_,_,u_ _,rfl,rfl,hg⟩ ?_ ?_;rotate_left
 ·rintro A ⟨x,y⟩ B Z H N e ⟨g1,b,v3,v4,v5,hmu,rfl,rfl,hg1⟩ hN;have hm:=hoo.out (x,y) (by rw[e];simp);have l1:=bR (f:=g1) hm.1;have l2:=bR (f:=g1) hm.2;have p1:=nJ (f:=g1) (v:=g1 x) hm.2;have hl:=ji ns g1;have hdn:g1 y<g1 x->mu m ns (fu g1 y (g1 x))+1<=mu m ns g1:=fun h=>ud (yJ (Rf h)) (by rw[ue];exact h) (hg1.out y) hm.2;have hdn':=Box.mk hdn;have hN':=Box.mk hN;have hmu':=Box.mk hmu;clear hN e hR2 hWI hm hdn hmu;refine⟨trivial,?_⟩;dsimp only at l1 l2 p1;simp only[orT];walk_at "";refine⟨trivial,?_⟩;split
  ·refine⟨by omega,hN'.out _ _ ⟨fu g1 y (g1 x),true,_,_,_,?_,rfl,rfl,⟨uf hg1.out (hg1.out x)⟩⟩⟩;rename_i hc;have:=hdn'.out (by simp only[decide_eq_true_eq] at hc;omega);have:=hmu'.out;show _+1<=_;omega
  exact hN'.out _ _ ⟨g1,b,_,_,_,hmu'.out,rfl,rfl,hg1⟩
 rintro Z H ⟨g1,b,v3,v4,v5,hmu,rfl,rfl,hg1⟩;refine⟨trivial,?_⟩;walk_at "n";walk_at "";refine aL prT prs (fun A Z H=>∃(g1:Str->Nat) (b:Bool) (v3 v4 v5:Option T),mu m ns g1+b.toNat<=mu m ns g/\Z=[some (T.tup [T.tup (tk.map tkT),T.tup (ors.map orT),T.tup (prs.map prT),T.tup (row.map T.str)]),some (.ref a),some (.bl b),v3,v4,v5]/\H=up3 H3 a (.dct (dN ns g1))/\Box (∀n,g1 n<m)) ⟨g1,b,_,_,_,hmu,rfl,rfl,hg1⟩ ?_ ?_;rotate_left
 ·rintro A ⟨wd,x,y⟩ B Z H N e ⟨g1,b,v3,v4,v5,hmu,rfl,rfl,hg1⟩ hN;have hm:=hpp.out (wd,x,y) (by rw[e];simp);have l1:=bR (f:=g1) hm.1;have l2:=bR (f:=g1) hm.2;have emx:(if ((g1 y:Nat):Int)>((g1 x:Nat):Int) then ((g1 y:Nat):Int) else ((g1 x:Nat):Int))=((max (g1 x) (g1 y):Nat):Int):=by split <;> omega
  have p1:=nJ (f:=g1) (v:=max (g1 x) (g1 y)) hm.1;have l3:=bR (f:=fu g1 x (max (g1 x) (g1 y))) hm.1;rw[ue] at l3;have p2:=nJ (f:=fu g1 x (max (g1 x) (g1 y))) (v:=max (g1 x) (g1 y)) hm.2;have hl:=ji ns g1;have hl2:=ji ns (fu g1 x (max (g1 x) (g1 y)));have hdn:g1 x≠g1 y->mu m ns (fu (fu g1 x (max (g1 x) (g1 y))) y (max (g1 x) (g1 y)))+1<=mu m ns g1:=fun h=>by
   have up:∀n,g1 n<=fu (fu g1 x (max (g1 x) (g1 y))) y (max (g1 x) (g1 y)) n:=fun n=>N_ (yJ (f:=g1) (n:=x) (Nat.le_max_left _ _) n) (yJ (by
    by_cases e:y=x
    ·
     subst e;rw[ue];exact u_ _
    ·
     unfold fu;rw[if_neg e];exact Nat.le_max_right _ _) n)
   by_cases c:g1 y<g1 x
   ·exact ud (x:=y) up (by rw[ue];omega) (hg1.out y) hm.2
   refine ud (x:=x) up ?_ (hg1.out x) hm.1;have:x≠y:=fun e=>h (by rw[e]);unfold fu;rw[if_neg this,if_pos rfl];omega
  have hdn':=Box.mk hdn;have hN':=Box.mk hN;have hmu':=Box.mk hmu;have hmx:max (g1 x) (g1 y)<m:=by have:=hg1.out x;have:=hg1.out y;omega
  clear hN e hWI hm hdn hmu;refine⟨trivial,?_⟩;dsimp only at l1 l2 l3 p1 p2;simp only[prT];walk_at "";refine⟨trivial,?_⟩;by_cases hw:wd="with"
  ·walk_at "";by_cases hne:g1 x=g1 y
   ·walk_at "";exact hN'.out _ _ ⟨g1,b,_,_,_,hmu'.out,rfl,rfl,hg1⟩
   walk_at "";rw[if_pos (by rw[o_ (by omega)];rfl)];refine⟨by omega,by omega,hN'.out _ _ ⟨_,true,_,_,_,?_,rfl,rfl,⟨uf (uf hg1.out hmx) hmx⟩⟩⟩;have:=hdn'.out hne;have:=hmu'.out;show _+1<=_;omega
  walk_at "";exact hN'.out _ _ ⟨g1,b,_,_,_,hmu'.out,rfl,rfl,hg1⟩
 rintro Z H ⟨g1,b,v3,v4,v5,hmu,rfl,rfl,hg1⟩;refine⟨trivial,?_⟩;walk_at "";exact⟨_,Nat.lt_succ_of_le hmu,by rw[hWI.out];exact⟨g1,b,_,_,_,rfl,rfl,rfl,hg1⟩⟩
abbrev gQ:List Str:=["_law_deck","_law_works_here","_law_many","_law_names_here","_law_at_here","_law_name"]
theorem sc_dealing:FnScope gQ ["_law_deck","_law_works_here"] (aB (top 39)):=bA
theorem rT {f:Addr}{fd:FuncData}(g:G3 K mg "_law_dealing" (top 39) ["_law_deck","_law_works_here"] f fd) (B:Bl mg) (F_draw:Cal P w K mg base 1 "_law_draw" (top 21) ["_law_deck","_law_most"] Jr) (F_settled:Cal P w K mg base 1 "_law_settled" (top 38) ["_law_works_here","_law_at_here"] Nz) (F_turn:Cal P w K mg base 2 "_law_turn" (top 25) ["_law_deck","_law_things"] Nq):Cal P w K mg base 3 "_law_dealing" (top 39) ["_law_deck","_law_works_here"] NB:=by
 refine⟨f,fd,g,?_⟩;refine fn3 g.fn sc_dealing (fun ts H Q h=>?_) (fun cdv A outer s H E ts H3 Q hr h=>?_)
 ·obtain⟨d,W,rfl,_⟩:=h;rfl
 have hu30:=Room.u30 hr;have hu1:=Room.u1 hr;obtain⟨d,⟨tk,ors,prs,row⟩,rfl,hW,hC,k⟩:=h;refine⟨_,(ak (aD (i:=2) sc_dealing.nd (aO bx au (aJ F_draw hr rfl (aa (v3 0) (aa (aH bc rfl B.len_ bf (aa (aM ix3 (v3 1) au) aj)) aj)))))
   (ak (aD (i:=3) sc_dealing.nd (bh rfl (bI (n0:=(aB (top 39)).names) (N:=gQ) (N':=["_law_name","_law_length","_law_kinds_here"]) (nt:=3) (cap:=[]) rfl rfl (by decide +kernel)) (bG (aM ix3 (v3 1) au)) (fun cl pins s H C0 fp=>⟨(bZ (n:=3) rfl (aG (aA (i:=0) (show List.Nodup [("_law_name":Str),("_law_length":Str),("_law_kinds_here":Str)] by decide +kernel)) (aG (aA (i:=1) (show List.Nodup [("_law_name":Str),("_law_length":Str),("_law_kinds_here":Str)] by decide +kernel)) (aG (aA (i:=2) (show List.Nodup [("_law_name":Str),("_law_length":Str),("_law_kinds_here":Str)] by decide +kernel)) bL)))),bC,(v3 0)⟩)))
   (ak (aD (i:=4) sc_dealing.nd eQ)
   (ak (aU n_ rfl (cz (v3 3)) (aA (i:=5) sc_dealing.nd) (ao (c7 hu1 (v3 4) (v3 5) (aJ F_draw hr rfl (aa (v3 0) (aa (v3 2) aj))))))
   (ak (bz (aP gZ (aJ F_draw hr rfl (aa (v3 0) (aa au aj))) au) (ao (b8 (aJ F_settled hr rfl (aa (v3 1) (aa (v3 4) aj))))) aQ)
   (ak (bz (aP (bY hu30) (aJ F_draw hr rfl (aa (v3 0) (aa au aj))) au) (ao (aD (i:=3) sc_dealing.nd (aJ F_turn hr rfl (aa (v3 0) (aa (v3 3) aj))))) aQ)
   (ao (aK (bD cP rfl B.tuple_ cj (aa (bh rfl (bI (n0:=(aB (top 39)).names) (N:=gQ) (N':=["_law_k","_law_names_here","_law_at_here"]) (nt:=1) (cap:=[3,4]) rfl rfl (by decide +kernel)) (aN rfl B.range_ (aa (v3 2) aj)) (fun cl pins s H C0 fp=>⟨(aA (i:=0) (show List.Nodup [("_law_k":Str),("_law_names_here":Str),("_law_at_here":Str)] by decide +kernel)),bC,(bD cP rfl B.tuple_ cj (aa (bh rfl (mZ (n00:=(aB (top 39)).names) (N:=["_law_k","_law_names_here","_law_at_here"]) (N':=["_law_name","_law_k","_law_at_here"]) (nt:=1) (cap:=[0,2]) rfl rfl rfl (by decide +kernel)) (cz (v3 1)) (fun cl pins s H C0 fp=>⟨(aA (i:=0) (show List.Nodup [("_law_name":Str),("_law_k":Str),("_law_at_here":Str)] by decide +kernel)),(gJ (aP (bY hu30) (bu hu1 (v3 2) (v3 0)) (v3 1))),(v3 0)⟩)) aj))⟩)) aj)))))))))),?_⟩
 rw[show aV gQ [T.ref d,Wk.enc ⟨tk,ors,prs,row⟩]=[some (T.ref d),some (T.tup [T.tup (tk.map tkT),T.tup (ors.map orT),T.tup (prs.map prT),T.tup (row.map T.str)]),none,none,none,none] from rfl];have hsz:sizeLine=16777216:=rfl;have k':=Box.mk k;clear k;have w0:Wt d H3 H3 []:=⟨hC,Kep.refl,(fun _ h=>nomatch h)⟩;clear hC;have r1:1<=row.length:=hW.r1;have r8:row.length<=8:=hW.r8;have t8:tk.length<=8:=hW.t8;have nd:Box ((tk.map (·.1)).Nodup):=⟨hW.nd⟩;have hW':=Box.mk hW;clear hW;refine aq fun R0 hR0=>?_;walk_at "";refine⟨d,row.length,rfl,by omega,w0.cl,fun n0 H4 a0 a1 hD0=>?_⟩;have w1:=w0.drw hD0;clear w0 hD0;walk_at "";obtain⟨m,hm⟩:∃m:Nat,1+n0=(m:Int):=⟨(1+n0).toNat,by rw[Rm (by omega)]⟩;rw[hm];have m1:1<=m:=by omega
 have mr:m<=row.length:=by omega
 clear hm a0 a1 n0;walk_at "n";refine aq fun R1 hR1=>?_;walk_at "";walk_at "c";refine gB (fun t:Str × Int × List Str=>.str t.1) (fun t=>.int t.2.1) (fun t=>.tup (t.2.2.map T.str)) (fun t=>T.str t.1) (fun _=>true) tk [] trivial (by omega) (fun t ht Q' hq=>hq) (fun t ht _ Q' hq=>?_) (fun pn hpn=>?_)
 ·clear k';walk_at ""
 rw[Ss.mpr (fun _ _=>rfl),show tk.map (fun t=>T.str t.1)=(tk.map (·.1)).map T.str by rw[O_];rfl];have k2:Box (∀(ns:List Str) (f:Str->Nat) (m:Nat) (H':Hp3),ns.Perm (tk.map (·.1))->1<=m->m<=row.length->(∀n,f n<m)->Drw d H3 H'->Q (.tup ((g8 ns f m).map sT)) H'):=⟨k'.out⟩;have nl:(tk.map (·.1)).length<=8:=by rw[g_];exact t8
 have hT:Box (Wk.tasks ⟨tk,ors,prs,row⟩=tk):=⟨rfl⟩;generalize hns:tk.map (·.1)=ns at *;have hns':=Box.mk hns;clear hns k';have w2:=w1.new (o:=.lst (ns.map T.str)) hpn;generalize up3 H4 pn (.lst (ns.map T.str))=H5 at w2;clear w1 hpn;walk_at "n";refine aq fun R2 hR2=>?_;walk_at "";intro pd hpd;have pd0:=w2.fresh hpd;have npd:pn≠pd:=aY w2.hd hpd;have w3:=w2.new (o:=.dct []) hpd;generalize up3 H5 pd (.dct [])=H6 at w3;clear w2 hpd;walk_at "n";refine aq fun R3 hR3=>?_;have gn:=w3.tl.hd;walk_at "";refine aL T.str ns (fun A Z H=>∃(f:Str->Nat) (v:Option T),Z=[some (.ref d),some (T.tup [T.tup (tk.map tkT),T.tup (ors.map orT),T.tup (prs.map prT),T.tup (row.map T.str)]),some (.int (m:Int)),some (.ref pn),some (.ref pd),v]/\Wt d H3 H [(pd,.dct (dN A f)),(pn,.lst (ns.map T.str))]/\Box (∀n,f n<m)) ⟨fun _=>0,_,rfl,w3,⟨fun _=>H_ Nat.zero_lt_one m1⟩⟩ ?_ ?_;rotate_left
 ·rintro A x B Z H N e ⟨f,v,rfl,w,hf⟩ hN;have g1:=w.tl.hd;have hx:x∉A:=fun h=>by have:=nd.out;rw[e,Q9] at this;exact this.2.2 x h x i_ rfl
  have hl:A.length<8:=by have:=F_ List.length e;simp only[a_,j_] at this;omega
  have hN':=Box.mk hN;clear hN e w3 gn k2 hR3 hns';refine⟨by first | exact .inl g1 | exact g1,?_⟩;walk_at "";refine⟨d,m,rfl,by omega,w.cl,fun n H7 b0 b1 hD=>?_⟩;have w4:=w.drw hD;clear w hD g1;obtain⟨j,rfl⟩:∃j:Nat,n=(j:Int):=⟨n.toNat,by omega⟩;have gd:=w4.hd;have p1:=yI (f:=f) (v:=j) hx;have hl2:=ji A f;walk_at "";refine⟨by omega,hN'.out _ _ ⟨fu f x j,_,rfl,w4.set pd0 (fun q hq=>by rw[b_.mp hq];exact npd) _,⟨uf hf.out (by omega)⟩⟩⟩
 rintro Z H ⟨f,v,rfl,w,hf⟩;have g1:=w.tl.hd;refine⟨by first | exact .inl g1 | exact g1,?_⟩;clear w3 gn g1;walk_at "n";refine aq fun R4 hR4=>?_;have key:∀(f:Str->Nat) (H:Hp3),Wt d H3 H [(pd,.dct (dN ns f)),(pn,.lst (ns.map T.str))]->Box (∀n,f n<m)->R4 { nx:=fun _ H'=>Fin3 Q .non H',rt:=Fin3 Q} [some (.ref d),some (T.tup [T.tup (tk.map tkT),T.tup (ors.map orT),T.tup (prs.map prT),T.tup (row.map T.str)]),some (.int (m:Int)),some (.ref pn),some (.ref pd),v] H:=by
  clear w hf f H;intro f H w hf;walk_at "n";refine aq fun R5 hR5=>?_;have key2:∀(pn1:Addr) (ns1:List Str) (H:Hp3),ns1.Perm ns->Wt d H3 H [(pd,.dct (dN ns f)),(pn1,.lst (ns1.map T.str))]->R5 { nx:=fun _ H'=>Fin3 Q .non H',rt:=Fin3 Q} [some (.ref d),some (T.tup [T.tup (tk.map tkT),T.tup (ors.map orT),T.tup (prs.map prT),T.tup (row.map T.str)]),some (.int (m:Int)),some (.ref pn1),some (.ref pd),v] H:=by
   clear w H;intro pn1 ns1 H hp w;walk_at "n";have hp':=Box.mk hp;have hl1:=hp.length_eq;clear hp;walk_at "";refine⟨by first | trivial | omega,by omega,by omega,?_⟩;rw[dZ];walk_at "c";refine cW (fun (k:Nat)=>T.int (k:Int)) (List.range m) (fun A ys Z H=>∃(v:Option T),Z=[v,some (.ref pn1),some (.ref pd)]/\ys=A.map (fun k=>sT (ns1.filter fun n=>decide (f n=k)))/\Wt d H3 H [(pd,.dct (dN ns f)),(pn1,.lst (ns1.map T.str))]) ⟨_,rfl,rfl,w⟩ ?_ ?_
   ·rintro ys Z H ⟨v,rfl,rfl,w⟩;refine⟨trivial,by rw[g_,t_];omega,fun pc hpc=>?_⟩;have w5:=w.new (o:=.lst ((List.range m).map (fun k=>sT (ns1.filter fun n=>decide (f n=k))))) hpc;generalize up3 H pc (.lst ((List.range m).map (fun k=>sT (ns1.filter fun n=>decide (f n=k)))))=H9 at w5;have g5:=w5.hd;clear w hpc;walk_at "";refine t6 w5.cl w5.kp fun H'' hD=>?_;have:=k2.out ns1 f m H'' hp'.out m1 mr hf.out hD;unfold g8 at this;rw[O_] at this;exact this
   rintro A i B ys Z H N e ⟨v,rfl,rfl,w⟩ hN;have hi:A.length<8:=by have:=F_ List.length e;simp only[a_,j_,t_] at this;omega
   have hN':=Box.mk hN;clear hN e k2;refine⟨trivial,?_⟩;have g1:=w.hd;have g2:=w.tl.hd;walk_at "";walk_at "c";refine eV T.str T.str (fun n=>decide (f n=i)) ns1 [some (.int (i:Int)),some (.ref pd)] (by first | exact .inl g2 | exact g2) (by omega) (fun n hn Q' hq=>?_) (fun n hn hpt Q' hq=>?_) (fun pc hpc=>?_)
   ·have l1:=bR (f:=f) (hp'.out.mem_iff.mp hn);have hq':=Box.mk hq;clear hq hN';walk_at "";have e2:decide (((f n:Nat):Int)=(i:Int))=decide (f n=i):=by rw[decide_eq_decide];omega
    rw[e2];exact hq'.out
   ·walk_at ""
   have w5:=w.new (o:=.lst ((ns1.filter fun n=>decide (f n=i)).map T.str)) hpc;generalize up3 H pc (.lst ((ns1.filter fun n=>decide (f n=i)).map T.str))=H9 at w5;have g5:=w5.hd;clear w hpc g1 g2;walk_at "";refine⟨by first | omega | (rw[g_];omega),hN'.out _ _ _ ⟨_,rfl,by rw[B_];rfl,w5.tl⟩⟩
  clear k2;walk_at "";refine⟨d,2,rfl,by decide,w.cl,fun n H7 b0 b1 hD=>?_⟩;have w4:=w.drw hD;clear w hD;have g2:=w4.tl.hd;have key':=Box.mk key2;clear key2;walk_at "";split
  ·refine⟨d,pn,ns.map T.str,rfl,(w4.tl.at' _ i_).2,g2,dh ns,by rw[g_];omega,w4.cl,fun ys H8 q2 hperm hD4 hq2=>?_⟩;obtain⟨ns1,hp1,rfl⟩:=gD hperm _ rfl;have w5:=((w4.drw hD4).new (o:=.lst (ns1.map T.str)) hq2).swap3;generalize up3 H8 q2 (.lst (ns1.map T.str))=H9 at w5;walk_at "";exact key'.out q2 ns1 _ hp1 w5
  exact key'.out pn ns _ (List.Perm.refl _) w4
 clear k2 hR4;walk_at "";refine⟨d,5,rfl,by decide,w.cl,fun n H7 b0 b1 hD=>?_⟩;have w4:=w.drw hD;clear w hD;have key':=Box.mk key;clear key;have g1:=w4.hd;walk_at "";split
 ·refine⟨⟨tk,ors,prs,row⟩,pd,f,m,rfl,hW'.out,by rw[hT.out,hns'.out];exact g1,hf.out,fun g hg=>?_⟩;rw[hT.out,hns'.out];walk_at "";exact key'.out g _ (w4.set pd0 (fun q hq=>by rw[b_.mp hq];exact npd) _) ⟨hg⟩
 exact key'.out f _ w4 hf
abbrev oA:List Str:=["_law_works_here","_law_dealing_here","_law_lengths_here","_law_name","_law_length","_law_kinds_here"]
theorem sc_loads:FnScope oA ["_law_works_here","_law_dealing_here"] (aB (top 40)):=bA
theorem zj {f:Addr}{fd:FuncData}(g:G3 K mg "_law_loads" (top 40) ["_law_works_here","_law_dealing_here"] f fd) (B:Bl mg):Cal P w K mg base 1 "_law_loads" (top 40) ["_law_works_here","_law_dealing_here"] NK:=by
 refine⟨f,fd,g,?_⟩;refine fn3 g.fn sc_loads (fun ts H Q h=>?_) (fun cdv A outer s H E ts H3 Q hr h=>?_)
 ·obtain⟨W,D,rfl,_⟩:=h;rfl
 have hu1:=Room.u1 hr;obtain⟨⟨tk,ors,prs,row⟩,D,rfl,hW,d8,hd,k⟩:=h;refine⟨_,(ak (aD (i:=2) sc_loads.nd eQ)
   (ak (aU n_ rfl (bG (aM ix3 (v3 0) au)) (bZ (n:=3) rfl (aG (aA (i:=3) sc_loads.nd) (aG (aA (i:=4) sc_loads.nd) (aG (aA (i:=5) sc_loads.nd) bL)))) (ao (c7 hu1 (v3 2) (v3 3) (v3 4))))
   (ao (aK (bh rfl (bI (n0:=(aB (top 40)).names) (N:=oA) (N':=["_law_stand","_law_lengths_here"]) (nt:=1) (cap:=[2]) rfl rfl (by decide +kernel)) (bG (v3 1)) (fun cl pins s H C0 fp=>⟨(aA (i:=0) (show List.Nodup [("_law_stand":Str),("_law_lengths_here":Str)] by decide +kernel)),bC,(aH (jO rfl) rfl B.sum_ jR (aa (bh rfl (mZ (n00:=(aB (top 40)).names) (N:=["_law_stand","_law_lengths_here"]) (N':=["_law_task","_law_lengths_here"]) (nt:=1) (cap:=[1]) rfl rfl rfl (by decide +kernel)) (bG (v3 0)) (fun cl pins s H C0 fp=>⟨(aA (i:=0) (show List.Nodup [("_law_task":Str),("_law_lengths_here":Str)] by decide +kernel)),bC,(bu hu1 (v3 1) (v3 0))⟩)) aj))⟩)))))),?_⟩
 rw[show aV oA [Wk.enc ⟨tk,ors,prs,row⟩,T.tup (D.map sT)]=[some (T.tup [T.tup (tk.map tkT),T.tup (ors.map orT),T.tup (prs.map prT),T.tup (row.map T.str)]),some (T.tup (D.map sT)),none,none,none,none] from rfl];have hsz:sizeLine=16777216:=rfl;have k':=Box.mk k;clear k;have t8:tk.length<=8:=hW.t8;have nd:Box ((tk.map (·.1)).Nodup):=⟨hW.nd⟩;have hd':Box (∀ns∈D,ns.length<=8/\∀n∈ns,n∈tk.map (·.1)):=⟨hd⟩;clear hW hd;refine aq fun R0 hR0=>?_;walk_at "";intro pd hpd;walk_at "n";refine aq fun R1 hR1=>?_;walk_at "";refine aL tkT tk (fun A Z H=>∃(v3 v4 v5:Option T),Z=[some (T.tup [T.tup (tk.map tkT),T.tup (ors.map orT),T.tup (prs.map prT),T.tup (row.map T.str)]),some (.tup (D.map sT)),some (.ref pd),v3,v4,v5]/\H=up3 H3 pd (.dct (iN A))) ⟨_,_,_,rfl,rfl⟩ ?_ ?_;rotate_left
 ·rintro A t B Z H N e ⟨v3,v4,v5,rfl,rfl⟩ hN;have hx:t.1∉A.map (·.1):=fun h=>by have:=nd.out;rw[e,B_,Q9] at this;exact this.2.2 _ h _ (by rw[m_];exact i_) rfl
  have p1:=yK hx;have hl:A.length<8:=by have:=F_ List.length e;simp only[a_,j_] at this;omega
  have hl2:=yL A;have hN':=Box.mk hN;clear hN e k' hR1;refine⟨trivial,?_⟩;simp only[tkT];walk_at "";exact⟨trivial,by omega,hN'.out _ _ ⟨_,_,_,rfl,rfl⟩⟩
 rintro Z H ⟨v3,v4,v5,rfl,rfl⟩;refine⟨trivial,?_⟩;walk_at "n";walk_at "";walk_at "c";refine cW sT D (fun A ys Z H=>∃(v:Option T),Z=[v,some (.ref pd)]/\ys=A.map (fun ns=>T.int (smL tk ns))/\H pd=some (.dct (iN tk))/\Sub3 H3 H) ⟨_,rfl,rfl,aC,Sub3.new hpd⟩ ?_ ?_
 ·rintro ys Z H ⟨v,rfl,rfl,g,sb⟩;refine⟨trivial,by rw[g_];omega,fun pc hpc=>?_⟩;have hk:=k'.out pc (du sb hpc);rw[O_] at hk;refine⟨_,fun b o e=>?_,hk⟩;by_cases eb:b=pc
  ·subst eb;rw[aC] at e ⊢;exact e
  rw[aF eb] at e ⊢;exact sb b o e
 rintro A ns B ys Z H N e ⟨v,rfl,rfl,g,sb⟩ hN;have hm:=hd'.out ns (by rw[e];simp);have hA:A.length<8:=by have:=F_ List.length e;simp only[a_,j_] at this;omega
 have hN':=Box.mk hN;have hm2:=Box.mk hm.2;have hm1:=hm.1;clear hN e k' hm;refine⟨trivial,?_⟩;simp only[sT];walk_at "";walk_at "c";refine bV T.str (fun n=>.int (lnOf tk n)) ns [some (.ref pd)] trivial (by omega) (fun n hn Q' hq=>?_) (fun pc hpc=>?_)
 ·have l1:=nM (hm2.out n hn);have hq':=Box.mk hq;clear hq hN';walk_at "";exact hq'.out
 have e:ints3 (ns.map (fun n=>T.int (lnOf tk n)))=some (ns.map (lnOf tk)):=by rw[<- cV,O_];rfl
 rw[e,gU];refine⟨by first | omega | (rw[g_];omega),hN'.out _ _ _ ⟨_,rfl,by rw[B_];rfl,by rw[aF (aY g hpc)];exact g,sb.trans (Sub3.new hpc)⟩⟩
variable {d:Nat}
abbrev iM:List Str:=["_law_one","_law_other"]
theorem CT:FnScope iM iM (aB (top 41)):=bA
theorem uE {f:Addr}{fd:FuncData}(g:G3 K mg "_law_same" (top 41) iM f fd) (B:Bl mg) (F_same:Cal P w K mg base d "_law_same" (top 41) iM (m6 d)):Cal P w K mg base (d+1) "_law_same" (top 41) iM (m6 (d+1)):=by
 refine⟨f,fd,g,?_⟩;refine fn3 g.fn CT (fun ts H Q h=>?_) (fun cdv A outer s H E ts H3 Q hr h=>?_)
 ·obtain⟨t,_,rfl,_⟩:=h;rfl
 have hu30:=Room.u30 hr;obtain⟨t,_,rfl,hs,k⟩:=h;replace hs:shn d t=true:=hs;refine⟨_,(ak (bz (cT (aH jQ rfl B.isinstance_ cD (aa (v3 0) (aa (pC rfl B.tuple_ cj) aj)))) (ak (bz (PW3.pt (sJ (fY (cT (aH jQ rfl B.isinstance_ cD (aa (v3 1) (aa (pC rfl B.tuple_ cj) aj))))) (mK (aP (jr hu30) (aH bc rfl B.len_ bf (aa (v3 0) aj)) (aH bc rfl B.len_ bf (aa (v3 1) aj)))))) (ao (aK gY)) aQ)
    (ao (aK (dz (bY hu30) (bh rfl (bI (n0:=(aB (top 41)).names) (N:=iM) (N':=["_law_k","_law_one","_law_other"]) (nt:=1) (cap:=[0,1]) rfl rfl (by decide +kernel)) (aN rfl B.range_ (aa (aH bc rfl B.len_ bf (aa (v3 0) aj)) aj)) (fun cl pins s H C0 fp=>⟨(aA (i:=0) (show List.Nodup [("_law_k":Str),("_law_one":Str),("_law_other":Str)] by decide +kernel)),(gJ (fY (cT (xF F_same (hr.mono (u_ _)) rfl (aa (aM ix3 (v3 1) (v3 0)) (aa (aM ix3 (v3 2) (v3 0)) aj)))))),(v3 0)⟩)) (bO aj))))) aQ)
   (ak (bz (PW3.pt (sJ (aP pW (v3 0) cL) (mK (aP pW (v3 1) cL)))) (ao (aK (mL (dz pW (v3 0) cL) (iz (dz pW (v3 1) cL))))) aQ)
   (ao (aK (mL (dz (bY hu30) (aH jQ rfl B.isinstance_ cD (aa (v3 0) (aa (pC rfl B.str_ xj) aj))) (aH jQ rfl B.isinstance_ cD (aa (v3 1) (aa (pC rfl B.str_ xj) aj)))) (mL (GD (aH jQ rfl B.isinstance_ cD (aa (v3 1) (aa (pC rfl B.bool_ Al) aj)))) (iz (dz (bY hu30) (v3 0) (v3 1))))))))),?_⟩
 rw[show aV iM [t,t]=[some (t),some (t)] from rfl];have hsz:sizeLine=16777216:=rfl;cases t with
 |str x=>walk_at "";exact Fin3.of Sub3.refl k
 |int i=>walk_at "";exact Fin3.of Sub3.refl k
 |non=>walk_at "";exact Fin3.of Sub3.refl k
 |tup us =>
  cases d with
  |zero=>cases hs
  |succ d =>
   have hs':(decide (us.length<=sizeLine)&&us.all (shn d))=true:=hs
   rw[RL,Qw,J_] at hs'
   obtain⟨hl,hs'⟩:=hs'
   have hs2:=Box.mk hs'
   have k':=Box.mk k
   clear hs hs' k
   walk_at ""
   refine⟨by first | trivial | omega,by omega,by omega,?_⟩
   rw[dZ]
   rw[show mO 1 [0,1] [some (T.tup us),some (T.tup us)]=[none,some (T.tup us),some (T.tup us)] from rfl]
   refine eV (fun (i:Nat)=>T.int (i:Int)) (fun (i:Nat)=>T.int (i:Int)) (fun _=>false) (List.range us.length) [some (T.tup us),some (T.tup us)] trivial (by rw[t_];omega) (fun i hi Q' hq=>?_) (fun i hi hpt Q' hq=>nomatch hpt) (fun p hp=>?_)
   ·
    have hi':=L_.mp hi
    have x1:atI us (i:Int)=some us[i]:=JB hi'
    clear k'
    walk_at ""
    exact⟨us[i],by simp,rfl,hs2.out _ (Qx hi'),hq⟩
   ·
    rw[List.filter_eq_nil_iff.mpr (fun _ _ h=>(by cases h)),Rg]
    refine⟨by omega,fun p2 hp2=>?_⟩
    have n2:p≠p2:=aY aC hp2
    have hk:=k'.out
    have h2:H3 p2=none:=by rw[aF (Ne.symm n2)] at hp2;exact hp2
    clear k' hs2
    walk_at ""
    have hb:up3 H3 p (.lst []) p2=none:=by rw[aF (Ne.symm n2)];exact h2
    exact⟨trivial,rfl,rfl,Fin3.of (Sub3.trans (Sub3.new hp) (Sub3.new hb)) hk⟩
 |bl b=>cases d <;> cases hs
 |ref a=>cases d <;> cases hs
 |ty n=>cases d <;> cases hs
abbrev oF:List Str:=["_law_deck","_law_works_here","_law_lengths_here","_law_bits","_law_some","_law_total"]
theorem sc_beat:FnScope oF ["_law_deck","_law_works_here"] (aB (top 32)):=bA
theorem CV {f:Addr}{fd:FuncData}(g:G3 K mg "_law_beat" (top 32) ["_law_deck","_law_works_here"] f fd) (B:Bl mg) (F_draw:Cal P w K mg base 1 "_law_draw" (top 21) ["_law_deck","_law_most"] Jr) (F_great:Cal P w K mg base 2 "_law_great" (top 22) ["_law_deck","_law_most"] Np):Cal P w K mg base 3 "_law_beat" (top 32) ["_law_deck","_law_works_here"] N8:=by
 refine⟨f,fd,g,?_⟩;refine fn3 g.fn sc_beat (fun ts H Q h=>?_) (fun cdv A outer s H E ts H3 Q hr h=>?_)
 ·obtain⟨d,W,rfl,_⟩:=h;rfl
 have hu30:=Room.u30 hr;obtain⟨d,⟨tk,ors,prs,row⟩,rfl,hW,hC,k⟩:=h;refine⟨_,(ak (aD (i:=2) sc_beat.nd (bh rfl (bI (n0:=(aB (top 32)).names) (N:=oF) (N':=["_law_name","_law_length","_law_kinds_here"]) (nt:=3) (cap:=[]) rfl rfl (by decide +kernel)) (bG (aM ix3 (v3 1) au)) (fun cl pins s H C0 fp=>⟨(bZ (n:=3) rfl (aG (aA (i:=0) (show List.Nodup [("_law_name":Str),("_law_length":Str),("_law_kinds_here":Str)] by decide +kernel)) (aG (aA (i:=1) (show List.Nodup [("_law_name":Str),("_law_length":Str),("_law_kinds_here":Str)] by decide +kernel)) (aG (aA (i:=2) (show List.Nodup [("_law_name":Str),("_law_length":Str),("_law_kinds_here":Str)] by decide +kernel)) bL)))),bC,(v3 1)⟩)))
   (ak (aD (i:=3) sc_beat.nd (aJ F_draw hr rfl (aa (v3 0) (aa (aO Ib au (aH bc rfl B.len_ bf (aa (v3 2) aj))) aj))))
   (ak (aD (i:=4) sc_beat.nd (aH (jO rfl) rfl B.sum_ jR (aa (bh rfl (bI (n0:=(aB (top 32)).names) (N:=oF) (N':=["_law_k","_law_lengths_here","_law_bits"]) (nt:=1) (cap:=[2,3]) rfl rfl (by decide +kernel)) (aN rfl B.range_ (aa (aH bc rfl B.len_ bf (aa (v3 2) aj)) aj)) (fun cl pins s H C0 fp=>⟨(aA (i:=0) (show List.Nodup [("_law_k":Str),("_law_lengths_here":Str),("_law_bits":Str)] by decide +kernel)),(gJ (aP (bY hu30) (aO Im (aO IK (v3 2) (v3 0)) au) au)),(aM ix3 (v3 1) (v3 0))⟩)) aj)))
   (ak (aD (i:=5) sc_beat.nd (aH (jO rfl) rfl B.sum_ jR (aa (v3 2) aj)))
   (ao (aK (aM ix3 (bO (aa (v3 4) (aa (aH (nA rfl) rfl B.max_ jV (aa au (aa (aO mR (v3 4) au) aj))) (aa (aO bx (v3 4) au) (aa (v3 5) (aa (aH (tO rfl) rfl B.max_ jV (aa (v3 2) aj)) (aa (aJ F_great hr rfl (aa (v3 0) (aa (aO eO au au) aj))) aj))))))) (aJ F_draw hr rfl (aa (v3 0) (aa au aj)))))))))),?_⟩
 rw[show aV oF [T.ref d,Wk.enc ⟨tk,ors,prs,row⟩]=[some (T.ref d),some (T.tup [T.tup (tk.map tkT),T.tup (ors.map orT),T.tup (prs.map prT),T.tup (row.map T.str)]),none,none,none,none] from rfl];have hsz:sizeLine=16777216:=rfl;have k':=Box.mk k;clear k;have t8:tk.length<=8:=hW.t8;have t1:1<=tk.length:=hW.t1;have w0:Wt d H3 H3 []:=⟨hC,Kep.refl,(fun _ h=>nomatch h)⟩;clear hC hW;refine aq fun R0 hR0=>?_;walk_at "";walk_at "c";refine gB (fun t:Str × Int × List Str=>.str t.1) (fun t=>.int t.2.1) (fun t=>.tup (t.2.2.map T.str)) (fun t=>T.int t.2.1) (fun _=>true) tk [] trivial (by omega) (fun t ht Q' hq=>hq) (fun t ht _ Q' hq=>?_) (fun pl hpl=>?_)
 ·clear k' hR0;walk_at "";try exact hq
 rw[Ss.mpr (fun _ _=>rfl)];have en:tk.map (fun t=>T.int t.2.1)=(tk.map (·.2.1)).map T.int:=by rw[O_];rfl
 rw[en];have hll:(tk.map (·.2.1)).length=tk.length:=g_ _;generalize tk.map (·.2.1)=ls at *;have l8:ls.length<=8:=by omega
 have l1:1<=ls.length:=by omega
 clear en hll;have w1:=w0.new (o:=.lst (ls.map T.int)) hpl;generalize up3 H3 pl (.lst (ls.map T.int))=H4 at w1 ⊢;clear w0 hpl;walk_at "n";have g1:=w1.hd;refine aq fun R1 hR1=>?_;walk_at "";refine⟨⟨by omega,by omega,by decide⟩,d,_,rfl,by rw[Int.one_mul];exact Int.pow_pos (by decide),w1.cl,fun bits H5 _ _ hD=>?_⟩;have w2:=w1.drw hD;clear w1 hD g1;walk_at "n";have g1:=w2.hd;refine aq fun R2 hR2=>?_;walk_at "";refine⟨by first | trivial | omega,by omega,by omega,?_⟩;rw[dZ];walk_at "c";refine eV (fun (i:Nat)=>T.int (i:Int)) (fun i=>T.int (ls.getD i 0)) (fun i=>decide (Builtin.bitAnd (bits / 2^i) 1=1)) (List.range ls.length) [some (.ref pl),some (.int bits)] (still:=cg) (H:=H5) trivial (by rw[t_];omega) (fun i hi Q' hq=>?_) (fun i hi hpt Q' hq=>?_) ?_
 ·have hq':=Box.mk hq;clear hq k' hR2;walk_at "";exact⟨by omega,hq'.out⟩
 ·have hq':=Box.mk hq;have x1:=Eo (L_.mp hi);clear hq k' hR2;walk_at "";exact hq'.out
 intro pc hpc;have ei:ints3 (((List.range ls.length).filter (fun i=>decide (Builtin.bitAnd (bits / 2^i) 1=1))).map fun i=>T.int (ls.getD i 0))=some (((List.range ls.length).filter (fun i=>decide (Builtin.bitAnd (bits / 2^i) 1=1))).map fun i=>ls.getD i 0):=by rw[<- cV,O_];rfl
 rw[ei,gU];generalize (((List.range ls.length).filter (fun i=>decide (Builtin.bitAnd (bits / 2^i) 1=1))).map fun i=>ls.getD i 0).sum=sm;have w3:=(w2.new (o:=.lst (((List.range ls.length).filter (fun i=>decide (Builtin.bitAnd (bits / 2^i) 1=1))).map fun i=>T.int (ls.getD i 0))) hpc).tl;generalize up3 H5 pc _=H6 at w3 ⊢;clear w2 hpc ei g1;walk_at "n";have g1:=w3.hd;have ei:=cV ls;refine aq fun R3 hR3=>?_;walk_at "";walk_at "n";generalize ls.sum=tot;walk_at "";refine⟨by intro e;rw[e] at l1;simp at l1,fun mx hm _=>?_⟩;generalize (if sm - 1>0 then sm - 1 else 0)=mz;clear hm g1 ei;refine⟨⟨by decide,by decide,by decide⟩,d,_,rfl,by decide,w3.cl,fun gr H7 _ _ hD=>?_⟩;have w4:=w3.drw hD;clear w3 hD;refine⟨by decide,fun p hp=>?_⟩;have w5:=w4.new (o:=.lst [T.int sm,T.int mz,T.int (sm+1),T.int tot,T.int mx,T.int gr]) hp;generalize up3 H7 p _=H8 at w5 ⊢;clear w4 hp;refine⟨d,6,rfl,by decide,w5.cl,fun n H9 n0 n1 hD=>?_⟩;have w6:=w5.drw hD;have g2:=w6.hd;clear w5 hD;obtain⟨b,hbm,hb'⟩:=pG ([sm,mz,sm+1,tot,mx,gr]:List Int) n (by omega) (by show n<6;omega);have hb2:atI [T.int sm,T.int mz,T.int (sm+1),T.int tot,T.int mx,T.int gr] n=some (T.int b):=by have:=jT T.int ([sm,mz,sm+1,tot,mx,gr]:List Int) n;rw[hb'] at this;exact this
 walk_at "";exact t6 w6.cl w6.kp fun H'' hD=>k'.out _ H'' hD
abbrev j0:List Str:=["dealing","texts","tasks"]
theorem sc_texts_of:FnScope j0 ["dealing"] (aB (top 7)):=bA
theorem qj {f:Addr}{fd:FuncData}(g:G3 K mg "texts_of" (top 7) ["dealing"] f fd) (B:Bl mg):Cal P w K mg base 1 "texts_of" (top 7) ["dealing"] yR:=by
 refine⟨f,fd,g,?_⟩;refine fn3 g.fn sc_texts_of (fun ts H Q h=>?_) (fun cdv A outer s H E ts H3 Q hr h=>?_)
 ·obtain⟨D,rfl,_⟩:=h;rfl
 obtain⟨D,rfl,hl,k⟩:=h;refine⟨_,(ak (aD (i:=1) sc_texts_of.nd (bO aj))
   (ak (aU n_ rfl (bG (v3 0)) (aA (i:=2) sc_texts_of.nd) (ao (b8 (dY I_ PySem.F.slot_list_extend PySem.F.type_list_extend rC (v3 1) (aa (v3 2) aj)))))
   (ao (aK (v3 1))))),?_⟩
 rw[show aV j0 [T.tup (D.map sT)]=[some (T.tup (D.map sT)),none,none] from rfl];have hsz:sizeLine=16777216:=rfl;have k':=Box.mk k;clear k;refine aq fun R0 hR0=>?_;walk_at "";refine⟨by decide,fun p hp=>?_⟩;walk_at "n";refine aq fun R1 hR1=>?_;walk_at "";refine aL sT D (fun A Z H=>∃v:Option T,Z=[some (.tup (D.map sT)),some (.ref p),v]/\H=up3 H3 p (.lst (A.flatten.map T.str))) ⟨_,rfl,rfl⟩ ?_ ?_
 ·rintro Z H ⟨v,rfl,rfl⟩;refine⟨trivial,?_⟩;walk_at "n";walk_at "";exact Fin3.of Sub3.refl (k'.out p hp)
 rintro A s B Z H N e ⟨v,rfl,rfl⟩ hN;have hs:A.flatten.length+s.length<=1000:=by have:=F_ (fun x=>x.flatten.length) e;simp only[gG,a_] at this;omega
 have ef:(A++[s]).flatten.map T.str=A.flatten.map T.str++s.map T.str:=by simp
 have hN':=Box.mk hN;clear hN e k' hR1;refine⟨trivial,?_⟩;simp only[sT];walk_at "";refine⟨by first | trivial | exact⟨trivial,trivial⟩,?_⟩;exact⟨by omega,hN'.out _ _ ⟨_,rfl,by rw[ef]⟩⟩
abbrev jx:List Str:=["dealing","stands","stand","tasks","task"]
theorem sc_stands_of:FnScope jx ["dealing"] (aB (top 8)):=bA
theorem oG {f:Addr}{fd:FuncData}(g:G3 K mg "stands_of" (top 8) ["dealing"] f fd) (B:Bl mg):Cal P w K mg base 1 "stands_of" (top 8) ["dealing"] Cq:=by
 refine⟨f,fd,g,?_⟩;refine fn3 g.fn sc_stands_of (fun ts H Q h=>?_) (fun cdv A outer s H E ts H3 Q hr h=>?_)
 ·obtain⟨D,rfl,_⟩:=h;rfl
 have hu1:=Room.u1 hr;obtain⟨D,rfl,hl,k⟩:=h;refine⟨_,(ak (aD (i:=1) sc_stands_of.nd eQ)
   (ak (aU n_ rfl (jU rfl B.enumerate_ (v3 0)) (bZ (n:=2) rfl (aG (aA (i:=2) sc_stands_of.nd) (aG (aA (i:=3) sc_stands_of.nd) bL))) (ao (aU n_ rfl (bG (v3 3)) (aA (i:=4) sc_stands_of.nd) (ao (c7 hu1 (v3 1) (v3 4) (v3 2))))))
   (ao (aK (v3 1))))),?_⟩
 rw[show aV jx [T.tup (D.map sT)]=[some (T.tup (D.map sT)),none,none,none,none] from rfl];have hsz:sizeLine=16777216:=rfl;have k':=Box.mk k;clear k;refine aq fun R0 hR0=>?_;walk_at "";intro p hp;walk_at "n";refine aq fun R1 hR1=>?_;walk_at "";refine jk sT D (fun A Z H=>∃(v2 v3 v4:Option T),Z=[some (.tup (D.map sT)),some (.ref p),v2,v3,v4]/\H=up3 H3 p (.dct (dN (kD A) (fD A)))) ⟨_,_,_,rfl,rfl⟩ ?_ ?_
 ·rintro Z H ⟨v2,v3,v4,rfl,rfl⟩;refine⟨trivial,?_⟩;walk_at "n";walk_at "";exact Fin3.of Sub3.refl (k'.out p hp)
 rintro A s B Z H N e ⟨v2,v3,v4,rfl,rfl⟩ hN;have hs:A.flatten.length+s.length<=1000:=by have:=F_ (fun x=>x.flatten.length) e;simp only[gG,a_] at this;omega
 have ek:=uh A s;have ef:=ul A s;have kl:=yN A;have hN':=Box.mk hN;have ek':=Box.mk ek;have ef':=Box.mk ef;clear hN e k' hR1 ek ef;refine⟨trivial,?_⟩;simp only[sT];walk_at "";try refine⟨trivial,?_⟩
 refine aL T.str s (fun C Z H=>∃(v4:Option T),Z=[some (.tup (D.map sT)),some (.ref p),some (.int (A.length:Int)),some (.tup (s.map T.str)),v4]/\H=up3 H3 p (.dct (dN (kst (kD A) C) (jY A.length (fD A) C)))) ⟨_,rfl,rfl⟩ ?_ ?_
 ·rintro Z H ⟨v4,rfl,rfl⟩;exact⟨trivial,hN'.out _ _ ⟨_,_,_,rfl,by rw[ek'.out,ef'.out]⟩⟩
 rintro C n E' Z H N2 e2 ⟨v4,rfl,rfl⟩ hN2;have hc:C.length<s.length:=by have:=F_ List.length e2;simp only[a_,j_] at this;omega
 have p1:=um (kst (kD A) C) (jY A.length (fD A) C) n A.length;rw[<- qd,<- qe] at p1;have l1:=ji (kst (kD A) C) (jY A.length (fD A) C);have l2:=kst_len C (kD A);have hN2':=Box.mk hN2;clear hN2 hN' e2 ek' ef';refine⟨trivial,?_⟩;walk_at "";exact⟨by omega,hN2'.out _ _ ⟨_,rfl,rfl⟩⟩
theorem ql:FnScope ["tasks"] ["tasks"] (aB (top 3)):=bA
theorem qm {f:Addr}{fd:FuncData}(g:G3 K mg "names_of" (top 3) ["tasks"] f fd) (B:Bl mg):Cal P w K mg base 1 "names_of" (top 3) ["tasks"] JK:=by
 refine⟨f,fd,g,?_⟩;refine fn3 g.fn ql (fun ts H Q h=>?_) (fun cdv A outer s H E ts H3 Q hr h=>?_)
 ·obtain⟨tk,rfl,_⟩:=h;rfl
 obtain⟨tk,rfl,t8,k⟩:=h;refine⟨_,(ao (aK (bh rfl (bI (n0:=(aB (top 3)).names) (N:=["tasks"]) (N':=["task"]) (nt:=1) (cap:=[]) rfl rfl (by decide +kernel)) (bG (v3 0)) (fun cl pins s H C0 fp=>⟨(aA (i:=0) (show List.Nodup [("task":Str)] by decide +kernel)),bC,(aM ix3 (v3 0) au)⟩)))),?_⟩;rw[show aV ["tasks"] [T.tup (tk.map tkT)]=[some (T.tup (tk.map tkT))] from rfl];have hsz:sizeLine=16777216:=rfl;have k':=Box.mk k;clear k;walk_at "";walk_at "c";refine bV tkT (fun t=>T.str t.1) tk [] trivial (by omega) (fun t ht Q' hq=>?_) (fun pc hpc=>?_)
 ·clear k';simp only[tkT];walk_at "";try exact hq
 have:=k'.out pc hpc;rw[O_] at this;exact Fin3.of Sub3.refl this
abbrev cG:List Str:=["kinds","kind"]
theorem j4:FnScope cG cG (aB (top 1)):=bA
theorem j5 {f:Addr}{fd:FuncData}(g:G3 K mg "may_be_done" (top 1) cG f fd) (B:Bl mg):Cal P w K mg base 1 "may_be_done" (top 1) cG Ob:=by
 refine⟨f,fd,g,?_⟩;refine fn3 g.fn j4 (fun ts H Q h=>?_) (fun cdv A outer s H E ts H3 Q hr h=>?_)
 ·obtain⟨ks,k,rfl,_⟩:=h;rfl
 have hu30:=Room.u30 hr;have hu31:=Room.u31 hr;obtain⟨ks,kd,rfl,k⟩:=h;refine⟨_,(ao (aK (Dh (dz (bY hu30) (aH bc rfl B.len_ bf (aa (v3 0) aj)) au) (iz (dz (tD hu31) (v3 1) (v3 0) rfl))))),?_⟩;rw[show aV cG [sT ks,T.str kd]=[some (T.tup (ks.map T.str)),some (T.str kd)] from rfl];have i1:pl 20 (T.str kd)=true:=rfl;have i2:=dh ks;have e1:cC false (T.str kd) (ks.map T.str)=decide (kd∈ks):=by unfold cC;have:(T.str kd∈ks.map T.str)↔kd∈ks:=gC eU;simp only[this];simp
 walk_at "";unfold okK at k;cases ks with
 |nil=>simp only[decide_true,Bool.true_or,Rv,if_true] at k ⊢;exact Fin3.of Sub3.refl k
 |cons y r =>
  have:¬(((r.length+1:Nat)):Int)=0:=by omega
  simp only[j_,this,decide_false,QW,Q4] at k ⊢
  exact⟨trivial,trivial,Fin3.of Sub3.refl (by simpa using k)⟩
abbrev cu:List Str:=["works","dealing"]
theorem jC:FnScope cu cu (aB (top 9)):=bA
theorem jD {f:Addr}{fd:FuncData}(g:G3 K mg "number_fault" (top 9) cu f fd) (B:Bl mg):Cal P w K mg base 1 "number_fault" (top 9) cu Oc:=by
 refine⟨f,fd,g,?_⟩;refine fn3 g.fn jC (fun ts H Q h=>?_) (fun cdv A outer s H E ts H3 Q hr h=>?_)
 ·obtain⟨W,D,rfl,_⟩:=h;rfl
 obtain⟨⟨tk,ors,prs,row⟩,D,rfl,k⟩:=h;refine⟨_,(ak (bz (aP gZ (aH bc rfl B.len_ bf (aa (v3 1) aj)) (aH bc rfl B.len_ bf (aa (aM ix3 (v3 0) au) aj))) (ao (aK (aZ (aa bB (aa (aH bc rfl B.len_ bf (aa (v3 1) aj)) aj))))) aQ)
   (ao (aK cL))),?_⟩
 rw[show aV cu [Wk.enc ⟨tk,ors,prs,row⟩,T.tup (D.map sT)]=[some (T.tup [T.tup (tk.map tkT),T.tup (ors.map orT),T.tup (prs.map prT),T.tup (row.map T.str)]),some (T.tup (D.map sT))] from rfl];have hsz:sizeLine=16777216:=rfl;have k':=Box.mk k;clear k;walk_at "";unfold gW at k';by_cases c:D.length>row.length
 ·rw[if_pos (by simpa using c)];walk_at "";refine⟨by decide,Fin3.of Sub3.refl ?_⟩;have:=k'.out;rw[if_pos c] at this;exact this
 rw[if_neg (by simpa using c)];have:=k'.out;rw[if_neg c] at this;exact Fin3.of Sub3.refl this
abbrev fj:List Str:=["works","dealing","names","text"]
theorem sc_strange_fault:FnScope fj ["works","dealing"] (aB (top 10)):=bA
theorem jm {f:Addr}{fd:FuncData}(g:G3 K mg "strange_fault" (top 10) ["works","dealing"] f fd) (B:Bl mg) (F_names_of:Cal P w K mg base 1 "names_of" (top 3) ["tasks"] JK) (F_texts_of:Cal P w K mg base 1 "texts_of" (top 7) ["dealing"] yR):Cal P w K mg base 2 "strange_fault" (top 10) ["works","dealing"] Od:=by
 refine⟨f,fd,g,?_⟩;refine fn3 g.fn sc_strange_fault (fun ts H Q h=>?_) (fun cdv A outer s H E ts H3 Q hr h=>?_)
 ·obtain⟨W,D,rfl,_⟩:=h;rfl
 have hu31:=Room.u31 hr;obtain⟨⟨tk,ors,prs,row⟩,D,rfl,hW,hl,k⟩:=h;refine⟨_,(ak (aD (i:=2) sc_strange_fault.nd (aJ F_names_of hr rfl (aa (aM ix3 (v3 0) au) aj)))
   (ak (aU n_ rfl (cz (aJ F_texts_of hr rfl (aa (v3 1) aj))) (aA (i:=3) sc_strange_fault.nd) (ao (bz (aP (gh hu31) (v3 3) (v3 2) rfl) (ao (aK (aZ (aa bB (aa (v3 3) aj))))) aQ)))
   (ao (aK cL)))),?_⟩
 rw[show aV fj [Wk.enc ⟨tk,ors,prs,row⟩,T.tup (D.map sT)]=[some (T.tup [T.tup (tk.map tkT),T.tup (ors.map orT),T.tup (prs.map prT),T.tup (row.map T.str)]),some (T.tup (D.map sT)),none,none] from rfl];have hsz:sizeLine=16777216:=rfl;have k':=Box.mk k;clear k;have t8:tk.length<=8:=hW.t8;clear hW;replace k':Box (Q (oE (fP (tk.map (·.1)) D.flatten)) H3):=k';generalize hns:tk.map (·.1)=ns at k';refine aq fun R0 hR0=>?_;walk_at "";refine⟨tk,rfl,t8,fun p hp=>?_⟩;rw[hns];walk_at "n";refine aq fun R1 hR1=>?_;walk_at "";refine⟨D,rfl,hl,fun q hq=>?_⟩;have npq:p≠q:=aY aC hq;generalize hH:up3 (up3 H3 p (.lst (ns.map T.str))) q (.lst (D.flatten.map T.str))=H4;have g1:H4 p=some (.lst (ns.map T.str)):=by rw[<- hH,aF npq,aC]
 have g2:H4 q=some (.lst (D.flatten.map T.str)):=by rw[<- hH,aC]
 have sb:Sub3 H3 H4:=by rw[<- hH];exact (Sub3.new hp).trans (Sub3.new hq)
 clear hH hq hp hl hns;have hR1':=Box.mk hR1;clear hR1;walk_at "";refine aL T.str D.flatten (fun A Z H=>(∃v:Option T,Z=[some (T.tup [T.tup (tk.map tkT),T.tup (ors.map orT),T.tup (prs.map prT),T.tup (row.map T.str)]),some (.tup (D.map sT)),some (.ref p),v])/\H=H4/\Box (∀a∈A,a∈ns)) ⟨⟨_,rfl⟩,rfl,⟨fun _ h=>(nomatch h)⟩⟩ ?_ ?_
 ·rintro Z H ⟨⟨v,rfl⟩,rfl,ha⟩;refine⟨.inl g2,?_⟩;obtain⟨⟨hR1⟩⟩:=hR1';subst hR1;walk_at "";have e:fP ns D.flatten=none:=by unfold fP;rw[dj (fun a h=>by rw[y_ (ha.out a h)];rfl)];rfl
  have:=k'.out;rw[e] at this;exact Fin3.of sb this
 rintro A x B Z H N e ⟨⟨v,rfl⟩,rfl,ha⟩ hN;have pls:=dh ns;have hN':=Box.mk hN;have e':=Box.mk e;clear hN e hR1';refine⟨.inl g2,?_⟩;walk_at "";refine⟨rfl,trivial,?_⟩;rw[Cp];by_cases c:x∈ns
 ·rw[if_neg (by simp [c])];exact hN'.out _ _ ⟨⟨_,rfl⟩,rfl,⟨fun a h=>(v_.mp h).elim (ha.out a) fun z=>by rw[b_.mp z];exact c⟩⟩
 rw[if_pos (by simp [c])];refine⟨by decide,?_⟩;have e:fP ns D.flatten=some (.tup [.str "strange",.str x]):=by unfold fP;rw[e'.out,cF (fun a h=>by rw[y_ (ha.out a h)];rfl) (by simp [c])];rfl
 have:=k'.out;rw[e] at this;exact Fin3.of sb this
abbrev ie:List Str:=["dealing","ahead","task"]
theorem sc_twice_fault:FnScope ie ["dealing"] (aB (top 11)):=bA
theorem j6 {f:Addr}{fd:FuncData}(g:G3 K mg "twice_fault" (top 11) ["dealing"] f fd) (B:Bl mg) (F_texts_of:Cal P w K mg base 1 "texts_of" (top 7) ["dealing"] yR):Cal P w K mg base 2 "twice_fault" (top 11) ["dealing"] Oe:=by
 refine⟨f,fd,g,?_⟩;refine fn3 g.fn sc_twice_fault (fun ts H Q h=>?_) (fun cdv A outer s H E ts H3 Q hr h=>?_)
 ·obtain⟨D,rfl,_⟩:=h;rfl
 have hu1:=Room.u1 hr;obtain⟨D,rfl,hl,k⟩:=h;refine⟨_,(ak (aD (i:=1) sc_twice_fault.nd eQ)
   (ak (aU n_ rfl (cz (aJ F_texts_of hr rfl (aa (v3 0) aj))) (aA (i:=2) sc_twice_fault.nd) (ak (bz (Ir hu1 (v3 2) (v3 1)) (ao (aK (aZ (aa bB (aa (v3 2) aj))))) aQ)
    (ao (c7 hu1 (v3 1) (v3 2) gY))))
   (ao (aK cL)))),?_⟩
 rw[show aV ie [T.tup (D.map sT)]=[some (T.tup (D.map sT)),none,none] from rfl];have hsz:sizeLine=16777216:=rfl;have k':=Box.mk k;clear k;refine aq fun R0 hR0=>?_;walk_at "";intro p hp;walk_at "n";refine aq fun R1 hR1=>?_;walk_at "";refine⟨D,rfl,hl,fun q hq=>?_⟩;have npq:p≠q:=aY aC hq;generalize hxs:D.flatten=xs at *;generalize hH:up3 H3 p (.dct [])=H5 at *;have hH':=Box.mk hH;clear hH;have g5:H5 p=some (.dct (dB [])):=by rw[<- hH'.out];exact aC
 have sb:Sub3 H3 H5:=by rw[<- hH'.out];exact Sub3.new hp
 have hq5:Box (H5 q=none):=⟨hq⟩;have hR1':=Box.mk hR1;have g2:up3 H5 q (.lst (xs.map T.str)) q=some (.lst (xs.map T.str)):=aC;clear hR1 hq;walk_at "";refine aL T.str xs (fun A Z H=>(∃v:Option T,Z=[some (.tup (D.map sT)),some (.ref p),v])/\H=up3 (up3 H5 q (.lst (xs.map T.str))) p (.dct (dB A))/\Box A.Nodup) ⟨⟨_,rfl⟩,?_,⟨RP⟩⟩ ?_ ?_
 ·funext b;by_cases hb:b=p
  ·subst hb;rw[aC,aF npq];exact g5
  rw[aF hb]
 ·rintro Z H ⟨⟨v,rfl⟩,rfl,ha⟩;refine⟨.inl (by rw[aF (Ne.symm npq),aC]),?_⟩;obtain⟨⟨hR1⟩⟩:=hR1';subst hR1;walk_at "";have e:twF xs=none:=by unfold twF;rw[rM (by simpa using ha.out)];rfl
  have:=k'.out;rw[e] at this;refine Fin3.of (fun b o hb=>?_) this;rw[aF (aY hb hp),aF (aY (sb b o hb) hq5.out)];exact sb b o hb
 rintro A x B Z H N e ⟨⟨v,rfl⟩,rfl,ha⟩ hN;have hN':=Box.mk hN;have e':=Box.mk e;have hlA:A.length<1000:=by have:=F_ List.length e;simp only[a_,j_] at this;omega
 have d1:=Eu x A;have d2:=JG A;clear hN e hR1' hxs g5 hH';refine⟨.inl (by rw[aF (Ne.symm npq),aC]),?_⟩;walk_at "";by_cases c:x∈A
 ·rw[if_pos (by simp [c])];refine⟨by decide,?_⟩;have e:twF xs=some (.tup [.str "twice",.str x]):=by unfold twF;rw[e'.out,nR (sn:=[]) (by simpa using ha.out) (by simpa using c)];rfl
  have:=k'.out;rw[e] at this;refine Fin3.of (fun b o hb=>?_) this;rw[aF (aY hb hp),aF (aY (sb b o hb) hq5.out)];exact sb b o hb
 rw[if_neg (by simp [c])];refine⟨by omega,hN'.out _ _ ⟨⟨_,rfl⟩,?_,⟨iR ha.out c⟩⟩⟩;rw[JF c]
abbrev jb:List Str:=["works","dealing","stands","name"]
theorem sc_lost_fault:FnScope jb ["works","dealing"] (aB (top 12)):=bA
theorem kZ {f:Addr}{fd:FuncData}(g:G3 K mg "lost_fault" (top 12) ["works","dealing"] f fd) (B:Bl mg) (F_stands_of:Cal P w K mg base 1 "stands_of" (top 8) ["dealing"] Cq) (F_names_of:Cal P w K mg base 1 "names_of" (top 3) ["tasks"] JK):Cal P w K mg base 2 "lost_fault" (top 12) ["works","dealing"] Og:=by
 refine⟨f,fd,g,?_⟩;refine fn3 g.fn sc_lost_fault (fun ts H Q h=>?_) (fun cdv A outer s H E ts H3 Q hr h=>?_)
 ·obtain⟨W,D,rfl,_⟩:=h;rfl
 have hu1:=Room.u1 hr;obtain⟨⟨tk,ors,prs,row⟩,D,rfl,hW,hl,k⟩:=h;refine⟨_,(ak (aD (i:=2) sc_lost_fault.nd (aJ F_stands_of hr rfl (aa (v3 1) aj)))
   (ak (aU n_ rfl (cz (aJ F_names_of hr rfl (aa (aM ix3 (v3 0) au) aj))) (aA (i:=3) sc_lost_fault.nd) (ao (bz (vo hu1 (v3 3) (v3 2)) (ao (aK (aZ (aa bB (aa (v3 3) aj))))) aQ)))
   (ao (aK cL)))),?_⟩
 rw[show aV jb [Wk.enc ⟨tk,ors,prs,row⟩,T.tup (D.map sT)]=[some (T.tup [T.tup (tk.map tkT),T.tup (ors.map orT),T.tup (prs.map prT),T.tup (row.map T.str)]),some (T.tup (D.map sT)),none,none] from rfl];have hsz:sizeLine=16777216:=rfl;have k':=Box.mk k;clear k;have t8:tk.length<=8:=hW.t8;clear hW;replace k':Box (Q (oE (fQ (tk.map (·.1)) D.flatten)) H3):=k';generalize hns:tk.map (·.1)=ns at k';refine aq fun R0 hR0=>?_;walk_at "";refine⟨D,rfl,hl,fun p hp=>?_⟩;walk_at "n";refine aq fun R1 hR1=>?_;walk_at "";refine⟨tk,rfl,t8,fun q hq=>?_⟩;rw[hns];have npq:p≠q:=aY aC hq;generalize hH:up3 (up3 H3 p (.dct (dN (kD D) (fD D)))) q (.lst (ns.map T.str))=H4;have g1:H4 p=some (.dct (dN (kD D) (fD D))):=by rw[<- hH,aF npq,aC]
 have g2:H4 q=some (.lst (ns.map T.str)):=by rw[<- hH,aC]
 have sb:Sub3 H3 H4:=by rw[<- hH];exact (Sub3.new hp).trans (Sub3.new hq)
 clear hH hq hp hl hns;have hR1':=Box.mk hR1;clear hR1;walk_at "";refine aL T.str ns (fun A Z H=>(∃v:Option T,Z=[some (T.tup [T.tup (tk.map tkT),T.tup (ors.map orT),T.tup (prs.map prT),T.tup (row.map T.str)]),some (.tup (D.map sT)),some (.ref p),v])/\H=H4/\Box (∀a∈A,a∈D.flatten)) ⟨⟨_,rfl⟩,rfl,⟨fun _ h=>(nomatch h)⟩⟩ ?_ ?_
 ·rintro Z H ⟨⟨v,rfl⟩,rfl,ha⟩;refine⟨.inl g2,?_⟩;obtain⟨⟨hR1⟩⟩:=hR1';subst hR1;walk_at "";have e:fQ ns D.flatten=none:=by unfold fQ;rw[dj (fun a h=>by rw[y_ (ha.out a h)];rfl)];rfl
  have:=k'.out;rw[e] at this;exact Fin3.of sb this
 rintro A x B Z H N e ⟨⟨v,rfl⟩,rfl,ha⟩ hN;have d1:=NZ (kD D) (fD D) x;have d2:(x∈kD D)=(x∈D.flatten):=propext mem_kD;simp only[d2] at d1;have hN':=Box.mk hN;have e':=Box.mk e;clear hN e hR1' d2;refine⟨.inl g2,?_⟩;walk_at "";by_cases c:x∈D.flatten
 ·rw[if_neg (by simp [c])];exact hN'.out _ _ ⟨⟨_,rfl⟩,rfl,⟨fun a h=>(v_.mp h).elim (ha.out a) fun z=>by rw[b_.mp z];exact c⟩⟩
 rw[if_pos (by simp [c])];refine⟨by decide,?_⟩;have e:fQ ns D.flatten=some (.tup [.str "lost",.str x]):=by unfold fQ;rw[e'.out,cF (fun a h=>by rw[y_ (ha.out a h)];rfl) (by simp [c])];rfl
 have:=k'.out;rw[e] at this;exact Fin3.of sb this
abbrev ig:List Str:=["works","dealing","stands","one","other"]
theorem sc_order_fault:FnScope ig ["works","dealing"] (aB (top 13)):=bA
theorem j7 {f:Addr}{fd:FuncData}(g:G3 K mg "order_fault" (top 13) ["works","dealing"] f fd) (B:Bl mg) (F_stands_of:Cal P w K mg base 1 "stands_of" (top 8) ["dealing"] Cq):Cal P w K mg base 2 "order_fault" (top 13) ["works","dealing"] Oh:=by
 refine⟨f,fd,g,?_⟩;refine fn3 g.fn sc_order_fault (fun ts H Q h=>?_) (fun cdv A outer s H E ts H3 Q hr h=>?_)
 ·obtain⟨W,D,rfl,_⟩:=h;rfl
 have hu1:=Room.u1 hr;obtain⟨⟨tk,ors,prs,row⟩,D,rfl,hW,hl,hd,k⟩:=h;refine⟨_,(ak (aD (i:=2) sc_order_fault.nd (aJ F_stands_of hr rfl (aa (v3 1) aj)))
   (ak (aU n_ rfl (bG (aM ix3 (v3 0) au)) (bZ (n:=2) rfl (aG (aA (i:=3) sc_order_fault.nd) (aG (aA (i:=4) sc_order_fault.nd) bL))) (ao (bz (aP gZ (bu hu1 (v3 2) (v3 3)) (bu hu1 (v3 2) (v3 4))) (ao (aK (aZ (aa bB (aa (v3 3) (aa (v3 4) aj)))))) aQ)))
   (ao (aK cL)))),?_⟩
 rw[show aV ig [Wk.enc ⟨tk,ors,prs,row⟩,T.tup (D.map sT)]=[some (T.tup [T.tup (tk.map tkT),T.tup (ors.map orT),T.tup (prs.map prT),T.tup (row.map T.str)]),some (T.tup (D.map sT)),none,none,none] from rfl];have hsz:sizeLine=16777216:=rfl;have k':=Box.mk k;clear k;have hnm:Box (∀o∈ors,o.1∈tk.map (·.1)/\o.2∈tk.map (·.1)):=⟨fun o ho=>(hW.oo o ho).2⟩;replace k':Box (Q (oE (iW (fD D) ors)) H3):=k';have hd2:=Box.mk (fun x=>(mem_kD (x:=x) (D:=D)).mpr);have hall:=Box.mk hd.al;clear hd hW;refine aq fun R0 hR0=>?_;walk_at "";refine⟨D,rfl,hl,fun p hp=>?_⟩;have g1:up3 H3 p (.dct (dN (kD D) (fD D))) p=some (.dct (dN (kD D) (fD D))):=aC;have sb:Sub3 H3 (up3 H3 p (.dct (dN (kD D) (fD D)))):=Sub3.new hp;generalize up3 H3 p (.dct (dN (kD D) (fD D)))=H4 at *;clear hp hl;walk_at "n";refine aq fun R1 hR1=>?_;walk_at "";refine aL orT ors (fun A Z H=>(∃v3 v4:Option T,Z=[some (T.tup [T.tup (tk.map tkT),T.tup (ors.map orT),T.tup (prs.map prT),T.tup (row.map T.str)]),some (.tup (D.map sT)),some (.ref p),v3,v4])/\H=H4/\Box (∀a∈A,(fun o:Str × Str=>decide (fD D o.2<fD D o.1)) a=false)) ⟨⟨_,_,rfl⟩,rfl,⟨fun _ h=>(nomatch h)⟩⟩ ?_ ?_
 ·rintro Z H ⟨⟨v3,v4,rfl⟩,rfl,ha⟩;refine⟨trivial,?_⟩;walk_at "n";walk_at "";have e:iW (fD D) ors=none:=by unfold iW;rw[dj ha.out];rfl
  have:=k'.out;rw[e] at this;exact Fin3.of sb this
 rintro A ⟨x,y⟩ B Z H N e ⟨⟨v3,v4,rfl⟩,rfl,ha⟩ hN;have hm:=hnm.out (x,y) (by rw[e];simp);have l1:=bR (f:=fD D) (hd2.out _ (hall.out _ hm.1));have l2:=bR (f:=fD D) (hd2.out _ (hall.out _ hm.2));dsimp only at l1 l2;have hN':=Box.mk hN;have e':=Box.mk e;have nx:(fun o:Str × Str=>decide (fD D o.2<fD D o.1)) (x,y)=false->N [some (T.tup [T.tup (tk.map tkT),T.tup (ors.map orT),T.tup (prs.map prT),T.tup (row.map T.str)]),some (.tup (D.map sT)),some (.ref p),some (.str x),some (.str y)] H:=fun c=>hN'.out _ _ ⟨⟨_,_,rfl⟩,rfl,⟨fun a h=>(v_.mp h).elim (ha.out a) fun z=>by rw[b_.mp z];exact c⟩⟩;have rt:(fun o:Str × Str=>decide (fD D o.2<fD D o.1)) (x,y)=true->Fin3 Q (.tup [.str "order",.str x,.str y]) H:=fun c=>by
  have e:iW (fD D) ors=some (.tup [.str "order",.str x,.str y]):=by unfold iW;rw[e'.out,cF ha.out c];rfl
  have:=k'.out;rw[e] at this;exact Fin3.of sb this
 have nx':=Box.mk nx;have rt':=Box.mk rt;clear hN e hR1 hm nx rt hN' e' ha k';refine⟨trivial,?_⟩;simp only[orT];walk_at "";refine⟨trivial,?_⟩;by_cases c:fD D y<fD D x
 ·rw[if_pos (by rw[Qw];omega)];exact⟨by decide,rt'.out (y_ c)⟩
 rw[if_neg (by rw[Qw];omega)];exact nx'.out (o_ c)
abbrev jc:List Str:=["works","dealing","stands","word","one","other"]
theorem sc_pair_fault:FnScope jc ["works","dealing"] (aB (top 14)):=bA
theorem lg {f:Addr}{fd:FuncData}(g:G3 K mg "pair_fault" (top 14) ["works","dealing"] f fd) (B:Bl mg) (F_stands_of:Cal P w K mg base 1 "stands_of" (top 8) ["dealing"] Cq):Cal P w K mg base 2 "pair_fault" (top 14) ["works","dealing"] Oi:=by
 refine⟨f,fd,g,?_⟩;refine fn3 g.fn sc_pair_fault (fun ts H Q h=>?_) (fun cdv A outer s H E ts H3 Q hr h=>?_)
 ·obtain⟨W,D,rfl,_⟩:=h;rfl
 have hu30:=Room.u30 hr;have hu1:=Room.u1 hr;obtain⟨⟨tk,ors,prs,row⟩,D,rfl,hW,hl,hd,k⟩:=h;refine⟨_,(ak (aD (i:=2) sc_pair_fault.nd (aJ F_stands_of hr rfl (aa (v3 1) aj)))
   (ak (aU n_ rfl (bG (aM ix3 (v3 0) au)) (bZ (n:=3) rfl (aG (aA (i:=3) sc_pair_fault.nd) (aG (aA (i:=4) sc_pair_fault.nd) (aG (aA (i:=5) sc_pair_fault.nd) bL)))) (ao (bz (aP (jr hu30) (dz (bY hu30) (bu hu1 (v3 2) (v3 4)) (bu hu1 (v3 2) (v3 5))) (dz (bY hu30) (v3 3) bB)) (ao (aK (aZ (aa (v3 3) (aa (v3 4) (aa (v3 5) aj)))))) aQ)))
   (ao (aK cL)))),?_⟩
 rw[show aV jc [Wk.enc ⟨tk,ors,prs,row⟩,T.tup (D.map sT)]=[some (T.tup [T.tup (tk.map tkT),T.tup (ors.map orT),T.tup (prs.map prT),T.tup (row.map T.str)]),some (T.tup (D.map sT)),none,none,none,none] from rfl];have hsz:sizeLine=16777216:=rfl;have k':=Box.mk k;clear k;have hnm:Box (∀o∈prs,o.2.1∈tk.map (·.1)/\o.2.2∈tk.map (·.1)):=⟨fun o ho=>(hW.pp o ho).2.2⟩;replace k':Box (Q (oE (iJ (fD D) prs)) H3):=k';have hd2:=Box.mk (fun x=>(mem_kD (x:=x) (D:=D)).mpr);have hall:=Box.mk hd.al;clear hd hW;refine aq fun R0 hR0=>?_;walk_at "";refine⟨D,rfl,hl,fun p hp=>?_⟩;have g1:up3 H3 p (.dct (dN (kD D) (fD D))) p=some (.dct (dN (kD D) (fD D))):=aC;have sb:Sub3 H3 (up3 H3 p (.dct (dN (kD D) (fD D)))):=Sub3.new hp;generalize up3 H3 p (.dct (dN (kD D) (fD D)))=H4 at *;clear hp hl;walk_at "n";refine aq fun R1 hR1=>?_;walk_at "";refine aL prT prs (fun A Z H=>(∃v3 v4 v5:Option T,Z=[some (T.tup [T.tup (tk.map tkT),T.tup (ors.map orT),T.tup (prs.map prT),T.tup (row.map T.str)]),some (.tup (D.map sT)),some (.ref p),v3,v4,v5])/\H=H4/\Box (∀a∈A,(fun p:Str × Str × Str=>decide (fD D p.2.1=fD D p.2.2) != decide (p.1=("with":Str))) a=false)) ⟨⟨_,_,_,rfl⟩,rfl,⟨fun _ h=>(nomatch h)⟩⟩ ?_ ?_
 ·rintro Z H ⟨⟨v3,v4,v5,rfl⟩,rfl,ha⟩;refine⟨trivial,?_⟩;walk_at "n";walk_at "";have e:iJ (fD D) prs=none:=by unfold iJ;rw[dj ha.out];rfl
  have:=k'.out;rw[e] at this;exact Fin3.of sb this
 rintro A ⟨z,x,y⟩ B Z H N e ⟨⟨v3,v4,v5,rfl⟩,rfl,ha⟩ hN;have hm:=hnm.out (z,x,y) (by rw[e];simp);have l1:=bR (f:=fD D) (hd2.out _ (hall.out _ hm.1));have l2:=bR (f:=fD D) (hd2.out _ (hall.out _ hm.2));dsimp only at l1 l2;have hN':=Box.mk hN;have e':=Box.mk e;have nx:(fun p:Str × Str × Str=>decide (fD D p.2.1=fD D p.2.2) != decide (p.1=("with":Str))) (z,x,y)=false->N [some (T.tup [T.tup (tk.map tkT),T.tup (ors.map orT),T.tup (prs.map prT),T.tup (row.map T.str)]),some (.tup (D.map sT)),some (.ref p),some (.str z),some (.str x),some (.str y)] H:=fun c=>hN'.out _ _ ⟨⟨_,_,_,rfl⟩,rfl,⟨fun a h=>(v_.mp h).elim (ha.out a) fun z=>by rw[b_.mp z];exact c⟩⟩;have rt:(fun p:Str × Str × Str=>decide (fD D p.2.1=fD D p.2.2) != decide (p.1=("with":Str))) (z,x,y)=true->Fin3 Q (.tup [.str z,.str x,.str y]) H:=fun c=>by
  have e:iJ (fD D) prs=some (.tup [.str z,.str x,.str y]):=by unfold iJ;rw[e'.out,cF ha.out c];rfl
  have:=k'.out;rw[e] at this;exact Fin3.of sb this
 have nx':=Box.mk nx;have rt':=Box.mk rt;clear hN e hR1 hm nx rt hN' e' ha k';refine⟨trivial,?_⟩;simp only[prT];walk_at "";refine⟨trivial,?_⟩;have ed:decide (((fD D x:Nat):Int)=((fD D y:Nat):Int))=decide (fD D x=fD D y):=by rw[decide_eq_decide];omega
 rw[ed];have nx2:=nx'.out;have rt2:=rt'.out;clear nx' rt';dsimp only at nx2 rt2;generalize decide (fD D x=fD D y)=b1 at *;generalize decide (z=("with":Str))=b2 at *;cases b1 <;> cases b2
 ·rw[if_neg (by decide)];exact nx2 rfl
 ·rw[if_pos (by decide)];exact⟨by decide,rt2 rfl⟩
 ·rw[if_pos (by decide)];exact⟨by decide,rt2 rfl⟩
 rw[if_neg (by decide)];exact nx2 rfl
abbrev dR:List Str:=["works","tasks"]
theorem rW:FnScope dR dR (aB (top 5)):=bA
theorem rY {f:Addr}{fd:FuncData}(g:G3 K mg "load_of" (top 5) dR f fd) (B:Bl mg):Cal P w K mg base 1 "load_of" (top 5) dR NP:=by
 refine⟨f,fd,g,?_⟩;refine fn3 g.fn rW (fun ts H Q h=>?_) (fun cdv A outer s H E ts H3 Q hr h=>?_)
 ·obtain⟨W,ns,rfl,_⟩:=h;rfl
 have hu31:=Room.u31 hr;obtain⟨⟨tk,ors,prs,row⟩,ns,rfl,t8,k⟩:=h;refine⟨_,(ao (aK (aH (jO rfl) rfl B.sum_ jR (aa (bh rfl (bI (n0:=(aB (top 5)).names) (N:=dR) (N':=["name","length","kinds","tasks"]) (nt:=3) (cap:=[1]) rfl rfl (by decide +kernel)) (bG (aM ix3 (v3 0) au)) (fun cl pins s H C0 fp=>⟨(bZ (n:=3) rfl (aG (aA (i:=0) (show List.Nodup [("name":Str),("length":Str),("kinds":Str),("tasks":Str)] by decide +kernel)) (aG (aA (i:=1) (show List.Nodup [("name":Str),("length":Str),("kinds":Str),("tasks":Str)] by decide +kernel)) (aG (aA (i:=2) (show List.Nodup [("name":Str),("length":Str),("kinds":Str),("tasks":Str)] by decide +kernel)) bL)))),(gJ (aP (tD hu31) (v3 0) (v3 3) rfl)),(v3 1)⟩)) aj)))),?_⟩;rw[show aV dR [Wk.enc ⟨tk,ors,prs,row⟩,T.tup (ns.map T.str)]=[some (T.tup [T.tup (tk.map tkT),T.tup (ors.map orT),T.tup (prs.map prT),T.tup (row.map T.str)]),some (T.tup (ns.map T.str))] from rfl];have hsz:sizeLine=16777216:=rfl;have k':Q (.int (ld tk ns)) H3:=k;clear k;replace t8:tk.length<=8:=t8;walk_at "";walk_at "c";refine gB (fun t:Str × Int × List Str=>.str t.1) (fun t=>.int t.2.1) (fun t=>.tup (t.2.2.map T.str)) (fun t=>.int t.2.1) (fun t=>cC false (.str t.1) (ns.map T.str)) tk [some (.tup (ns.map T.str))] trivial (by omega) (fun t ht Q' hq=>?_) (fun t ht _ Q' hq=>hq) ?_
 ·clear k';walk_at "";exact⟨rfl,dh ns,by first | trivial | exact hq⟩
 intro p hp;have e:ints3 ((tk.filter (fun t=>cC false (.str t.1) (ns.map T.str))).map (fun t=>T.int t.2.1))=some ((tk.filter (fun t=>cC false (.str t.1) (ns.map T.str))).map (·.2.1)):=by rw[<- cV,O_];rfl
 rw[e,gU];exact Fin3.of (Sub3.new hp) k'
abbrev cX:List Str:=["works","dealing"]
theorem qp:FnScope cX cX (aB (top 6)):=bA
theorem qt {f:Addr}{fd:FuncData}(g:G3 K mg "loads_of" (top 6) cX f fd) (B:Bl mg) (F_load_of:Cal P w K mg base 1 "load_of" (top 5) ["works","tasks"] NP):Cal P w K mg base 2 "loads_of" (top 6) cX NQ:=by
 refine⟨f,fd,g,?_⟩;refine fn3 g.fn qp (fun ts H Q h=>?_) (fun cdv A outer s H E ts H3 Q hr h=>?_)
 ·obtain⟨W,D,rfl,_⟩:=h;rfl
 obtain⟨⟨tk,ors,prs,row⟩,D,rfl,t8,d8,k⟩:=h;refine⟨_,(ao (aK (bD cP rfl B.tuple_ cj (aa (bh rfl (bI (n0:=(aB (top 6)).names) (N:=cX) (N':=["tasks","works"]) (nt:=1) (cap:=[0]) rfl rfl (by decide +kernel)) (bG (v3 1)) (fun cl pins s H C0 fp=>⟨(aA (i:=0) (show List.Nodup [("tasks":Str),("works":Str)] by decide +kernel)),bC,(aJ F_load_of hr rfl (aa (v3 1) (aa (v3 0) aj)))⟩)) aj)))),?_⟩;rw[show aV cX [Wk.enc ⟨tk,ors,prs,row⟩,T.tup (D.map sT)]=[some (T.tup [T.tup (tk.map tkT),T.tup (ors.map orT),T.tup (prs.map prT),T.tup (row.map T.str)]),some (T.tup (D.map sT))] from rfl];have hsz:sizeLine=16777216:=rfl;have k':Q (.tup ((D.map (ld tk)).map T.int)) H3:=k;clear k;replace t8:tk.length<=8:=t8;walk_at "";walk_at "c";refine bV sT (fun ns=>.int (ld tk ns)) D [some (T.tup [T.tup (tk.map tkT),T.tup (ors.map orT),T.tup (prs.map prT),T.tup (row.map T.str)])] trivial (by omega) (fun ns hn Q' hq=>?_) (fun pc hpc=>?_)
 ·exact⟨⟨tk,ors,prs,row⟩,ns,rfl,t8,hq⟩
 walk_at "";rw[O_] at k';exact Fin3.of (Sub3.new hpc) k'
abbrev jd:List Str:=["works","beat","dealing","stand","load"]
theorem sc_beat_fault:FnScope jd ["works","beat","dealing"] (aB (top 16)):=bA
theorem lq {f:Addr}{fd:FuncData}(g:G3 K mg "beat_fault" (top 16) ["works","beat","dealing"] f fd) (B:Bl mg) (F_loads_of:Cal P w K mg base 2 "loads_of" (top 6) ["works","dealing"] NQ):Cal P w K mg base 3 "beat_fault" (top 16) ["works","beat","dealing"] Ol:=by
 refine⟨f,fd,g,?_⟩;refine fn3 g.fn sc_beat_fault (fun ts H Q h=>?_) (fun cdv A outer s H E ts H3 Q hr h=>?_)
 ·obtain⟨W,b,D,rfl,_⟩:=h;rfl
 obtain⟨⟨tk,ors,prs,row⟩,beat,D,rfl,hW,hd,k⟩:=h;refine⟨_,(ak (aU n_ rfl (jU rfl B.enumerate_ (aJ F_loads_of hr rfl (aa (v3 0) (aa (v3 2) aj)))) (bZ (n:=2) rfl (aG (aA (i:=3) sc_beat_fault.nd) (aG (aA (i:=4) sc_beat_fault.nd) bL))) (ao (bz (aP gZ (v3 4) (v3 1)) (ao (aK (aZ (aa bB (aa (v3 3) aj))))) aQ)))
   (ao (aK cL))),?_⟩
 rw[show aV jd [Wk.enc ⟨tk,ors,prs,row⟩,T.int beat,T.tup (D.map sT)]=[some (T.tup [T.tup (tk.map tkT),T.tup (ors.map orT),T.tup (prs.map prT),T.tup (row.map T.str)]),some (T.int beat),some (T.tup (D.map sT)),none,none] from rfl];have hsz:sizeLine=16777216:=rfl;have k':=Box.mk k;clear k;have t8:tk.length<=8:=hW.t8;have d8:D.length<=8:=N_ hd.rw hW.r8;replace k':Box (Q (oE (d7 (ld tk) beat 0 D)) H3):=k';clear hd hW;refine aq fun R0 hR0=>?_;walk_at "";refine⟨⟨tk,ors,prs,row⟩,D,rfl,t8,d8,?_⟩;walk_at "";rw[O_];refine jk (T.int ∘ ld tk) D (fun A Z H=>(∃v3 v4:Option T,Z=[some (T.tup [T.tup (tk.map tkT),T.tup (ors.map orT),T.tup (prs.map prT),T.tup (row.map T.str)]),some (.int beat),some (.tup (D.map sT)),v3,v4])/\H=H3/\Box (∀s'∈A,ld tk s'<=beat)) ⟨⟨_,_,rfl⟩,rfl,⟨fun _ h=>(nomatch h)⟩⟩ ?_ ?_
 ·rintro Z H ⟨⟨v3,v4,rfl⟩,rfl,ha⟩;refine⟨trivial,?_⟩;walk_at "n";walk_at "";have:=k'.out;rw[rN ha.out] at this;exact Fin3.of Sub3.refl this
 rintro A s B Z H N e ⟨⟨v3,v4,rfl⟩,rfl,ha⟩ hN;have hN':=Box.mk hN;have e':=Box.mk e;clear hN e hR0;refine⟨trivial,?_⟩;simp only[Function.comp];walk_at "";try refine⟨trivial,?_⟩
 by_cases c:ld tk s>beat
 ·rw[if_pos (by simpa using c)];refine⟨by decide,?_⟩;have:=k'.out;rw[e'.out,nU ha.out c,Q8] at this;exact Fin3.of Sub3.refl this
 rw[if_neg (by simpa using c)];exact hN'.out _ _ ⟨⟨_,_,rfl⟩,rfl,⟨fun a h=>(v_.mp h).elim (ha.out a) fun z=>by rw[b_.mp z];omega⟩⟩
abbrev eZ:List Str:=["works","dealing","kinds","stand","tasks","task"]
theorem sc_kind_fault:FnScope eZ ["works","dealing"] (aB (top 15)):=bA
theorem lr {f:Addr}{fd:FuncData}(g:G3 K mg "kind_fault" (top 15) ["works","dealing"] f fd) (B:Bl mg) (F_may_be_done:Cal P w K mg base 1 "may_be_done" (top 1) ["kinds","kind"] Ob):Cal P w K mg base 2 "kind_fault" (top 15) ["works","dealing"] Oj:=by
 refine⟨f,fd,g,?_⟩;refine fn3 g.fn sc_kind_fault (fun ts H Q h=>?_) (fun cdv A outer s H E ts H3 Q hr h=>?_)
 ·obtain⟨W,D,rfl,_⟩:=h;rfl
 have hu1:=Room.u1 hr;obtain⟨⟨tk,ors,prs,row⟩,D,rfl,hW,hl,hd,k⟩:=h;refine⟨_,(ak (aD (i:=2) sc_kind_fault.nd (bD (Bq rfl) rfl B.dict_ Ce (aa (bh rfl (bI (n0:=(aB (top 15)).names) (N:=eZ) (N':=["task"]) (nt:=1) (cap:=[]) rfl rfl (by decide +kernel)) (bG (aM ix3 (v3 0) au)) (fun cl pins s H C0 fp=>⟨(aA (i:=0) (show List.Nodup [("task":Str)] by decide +kernel)),bC,(aZ (aa (aM ix3 (v3 0) au) (aa (aM ix3 (v3 0) au) aj)))⟩)) aj)))
   (ak (aU n_ rfl (jU rfl B.enumerate_ (v3 1)) (bZ (n:=2) rfl (aG (aA (i:=3) sc_kind_fault.nd) (aG (aA (i:=4) sc_kind_fault.nd) bL))) (ao (aU n_ rfl (bG (v3 4)) (aA (i:=5) sc_kind_fault.nd) (ao (bz (fY (cT (aJ F_may_be_done hr rfl (aa (bu hu1 (v3 2) (v3 5)) (aa (aM ix3 (aM ix3 (v3 0) au) (v3 3)) aj))))) (ao (aK (aZ (aa bB (aa (v3 5) (aa (v3 3) aj)))))) aQ)))))
   (ao (aK cL)))),?_⟩
 rw[show aV eZ [Wk.enc ⟨tk,ors,prs,row⟩,T.tup (D.map sT)]=[some (T.tup [T.tup (tk.map tkT),T.tup (ors.map orT),T.tup (prs.map prT),T.tup (row.map T.str)]),some (T.tup (D.map sT)),none,none,none,none] from rfl];have hsz:sizeLine=16777216:=rfl;have k':=Box.mk k;clear k;have t8:tk.length<=8:=hW.t8;have r8:row.length<=8:=hW.r8;have hnd:(tk.map (·.1)).Nodup:=hW.nd;have hdr:D.length<=row.length:=hd.rw;have hin:Box (∀s∈D,∀n∈s,n∈tk.map (·.1)):=⟨fun s hs=>(hd.in hs).2⟩;replace k':Box (Q (oE (gF (kdOf tk) row 0 D)) H3):=k';clear hd hW;have hnd':=Box.mk hnd;clear hnd;refine aq fun R0 hR0=>?_;walk_at "";walk_at "c";refine bV tkT (fun t=>T.tup [.str t.1,sT t.2.2]) tk [] trivial (by omega) (fun t ht Q' hq=>?_) (fun pc hpc=>?_)
 ·have hq':=Box.mk hq;clear hq k' hR0;simp only[tkT];walk_at "";exact⟨by decide,hq'.out⟩
 have hpr:nF (tk.map fun t=>T.tup [.str t.1,sT t.2.2])=some (kN tk):=pX (fun t:Str × Int × List Str=>(t.1,sT t.2.2)) tk;walk_at "";refine⟨by unfold kN;rw[O_];exact hnd'.out,fun p hp=>?_⟩;have hp0:H3 p=none:=(dq hp).2;have npc:p≠pc:=fun e=>by rw[e,aC] at hp;cases hp
 generalize hH:up3 (up3 H3 pc _) p (.dct (kN tk))=H4;have g1:H4 p=some (.dct (kN tk)):=by rw[<- hH];exact aC
 have sb:Sub3 H3 H4:=by rw[<- hH];exact (Sub3.new hpc).trans (Sub3.new hp)
 clear hH hp hpr hpc hp0;walk_at "n";refine aq fun R1 hR1=>?_;walk_at "";refine jk sT D (fun A Z H=>(∃v3 v4 v5:Option T,Z=[some (T.tup [T.tup (tk.map tkT),T.tup (ors.map orT),T.tup (prs.map prT),T.tup (row.map T.str)]),some (.tup (D.map sT)),some (.ref p),v3,v4,v5])/\H=H4/\Box (∀(j:Nat) (s':List Str),A[j]?=some s'->∀n∈s',okK (kdOf tk n) (row.getD (0+j) "")=true)) ⟨⟨_,_,_,rfl⟩,rfl,⟨fun j s' h=>by simp at h⟩⟩ ?_ ?_
 ·rintro Z H ⟨⟨v3,v4,v5,rfl⟩,rfl,ha⟩;refine⟨trivial,?_⟩;walk_at "n";walk_at "";have:=k'.out;rw[kin_no ha.out] at this;exact Fin3.of sb this
 rintro A s B Z H N e ⟨⟨v3,v4,v5,rfl⟩,rfl,ha⟩ hN;have hA:A.length<row.length:=by have:=F_ List.length e;simp only[a_,j_] at this;omega
 have hs:Box (∀n∈s,n∈tk.map (·.1)):=⟨hin.out s (by rw[e];simp)⟩;have x1:=getD_at hA;have hN':=Box.mk hN;have e':=Box.mk e;clear hN e hR1;refine⟨trivial,?_⟩;simp only[sT];walk_at "";try refine⟨trivial,?_⟩
 refine aL T.str s (fun C Z H'=>(∃v5:Option T,Z=[some (T.tup [T.tup (tk.map tkT),T.tup (ors.map orT),T.tup (prs.map prT),T.tup (row.map T.str)]),some (.tup (D.map sT)),some (.ref p),some (.int (A.length:Int)),some (.tup (s.map T.str)),v5])/\H'=H/\Box (∀n∈C,okK (kdOf tk n) (row.getD A.length "")=true)) ⟨⟨_,rfl⟩,rfl,⟨fun _ h=>(nomatch h)⟩⟩ ?_ ?_
 ·rintro Z H ⟨⟨v5,rfl⟩,rfl,hc⟩;refine⟨trivial,hN'.out _ _ ⟨⟨_,_,_,rfl⟩,rfl,⟨fun j s' hj n hn=>?_⟩⟩⟩;rw[Q8];rcases Nat.lt_or_ge j A.length with h | h
  ·rw[Qy h] at hj;have:=ha.out j s' hj n hn
   rwa [Q8] at this
  rw[Qp h] at hj;have ej:j - A.length=0:=by
   cases q:j - A.length with
   |zero=>rfl
   |succ z=>rw[q] at hj;simp at hj
  rw[ej] at hj;simp only[QF,S9] at hj;subst hj;rw[show j=A.length by omega];exact hc.out n hn
 rintro C n E' Z H N2 e2 ⟨⟨v5,rfl⟩,rfl,hc⟩ hN2;have l1:=nO (hs.out n (by rw[e2];simp));have hN2':=Box.mk hN2;have e2':=Box.mk e2;clear hN2 e2;refine⟨trivial,?_⟩;have hN3:=Box.mk hN';clear hN';walk_at "";refine⟨kdOf tk n,row.getD A.length "",rfl,?_⟩;cases c:okK (kdOf tk n) (row.getD A.length "") with
 |true=>walk_at "";exact hN2'.out _ _ ⟨⟨_,rfl⟩,rfl,⟨fun a h=>(v_.mp h).elim (hc.out a) fun z=>by rw[b_.mp z];exact c⟩⟩
 |false =>
 walk_at "";refine⟨by decide,?_⟩;have:=k'.out;rw[e'.out,nT (A:=A) (k:=0) ha.out (n:=n) (by
  rw[Q8,e2'.out]
  exact cF (fun a h=>by rw[hc.out a h];rfl) (by rw[c];rfl)),Q8] at this
 exact Fin3.of sb this
abbrev bK:List Str:=["works","dealing"]
theorem j8:FnScope bK bK (aB (top 17)):=bA
theorem j9 {f:Addr}{fd:FuncData}(g:G3 K mg "tasks_fault" (top 17) bK f fd) (B:Bl mg) (F_number_fault:Cal P w K mg base 1 "number_fault" (top 9) bK Oc) (F_strange_fault:Cal P w K mg base 2 "strange_fault" (top 10) bK Od) (F_twice_fault:Cal P w K mg base 2 "twice_fault" (top 11) ["dealing"] Oe) (F_lost_fault:Cal P w K mg base 2 "lost_fault" (top 12) bK Og):Cal P w K mg base 3 "tasks_fault" (top 17) bK Om:=by
 refine⟨f,fd,g,?_⟩;refine fn3 g.fn j8 (fun ts H Q h=>?_) (fun cdv A outer s H E ts H3 Q hr h=>?_)
 ·obtain⟨W,D,rfl,_⟩:=h;rfl
 obtain⟨⟨tk,ors,prs,row⟩,D,rfl,hW,hl,k⟩:=h;refine⟨_,(ao (aK (iI (aJ F_number_fault hr rfl (aa (v3 0) (aa (v3 1) aj))) (iI (aJ F_strange_fault hr rfl (aa (v3 0) (aa (v3 1) aj))) (iI (aJ F_twice_fault hr rfl (aa (v3 1) aj)) (iz (aJ F_lost_fault hr rfl (aa (v3 0) (aa (v3 1) aj))))))))),?_⟩;rw[show aV bK [Wk.enc ⟨tk,ors,prs,row⟩,T.tup (D.map sT)]=[some (T.tup [T.tup (tk.map tkT),T.tup (ors.map orT),T.tup (prs.map prT),T.tup (row.map T.str)]),some (T.tup (D.map sT))] from rfl];have hsz:sizeLine=16777216:=rfl;have k':=Box.mk k;clear k;have hW':=Box.mk hW;clear hW;replace k':Box (Q (oE ((gW row D).or ((fP (tk.map (·.1)) D.flatten).or ((twF D.flatten).or (fQ (tk.map (·.1)) D.flatten))))) H3):=k';walk_at "";refine⟨⟨tk,ors,prs,row⟩,D,rfl,?_⟩;refine eX (uq row D) (Q:=fun t=>Fin3 Q t H3) (fun h1=>?_) (fun t e=>by have:=k'.out;rw[e] at this;exact Fin3.of Sub3.refl this);rw[h1] at k';clear h1;refine⟨⟨tk,ors,prs,row⟩,D,rfl,hW'.out,hl,?_⟩;refine eX (nP _ _) (Q:=fun t=>Fin3 Q t H3) (fun h1=>?_) (fun t e=>by have:=k'.out;(try dsimp only at e);rw[e] at this;exact Fin3.of Sub3.refl this);try dsimp only at h1
 rw[h1] at k';clear h1;refine⟨D,rfl,hl,?_⟩;refine eX (rK _) (Q:=fun t=>Fin3 Q t H3) (fun h1=>?_) (fun t e=>by have:=k'.out;rw[e] at this;exact Fin3.of Sub3.refl this);rw[h1] at k';exact⟨⟨tk,ors,prs,row⟩,D,rfl,hW'.out,hl,Fin3.of Sub3.refl k'.out⟩
abbrev cY:List Str:=["works","beat","dealing"]
theorem qu:FnScope cY cY (aB (top 18)):=bA
theorem qw {f:Addr}{fd:FuncData}(g:G3 K mg "fault_of" (top 18) cY f fd) (B:Bl mg) (F_tasks_fault:Cal P w K mg base 3 "tasks_fault" (top 17) ["works","dealing"] Om) (F_order_fault:Cal P w K mg base 2 "order_fault" (top 13) ["works","dealing"] Oh) (F_pair_fault:Cal P w K mg base 2 "pair_fault" (top 14) ["works","dealing"] Oi) (F_kind_fault:Cal P w K mg base 2 "kind_fault" (top 15) ["works","dealing"] Oj) (F_beat_fault:Cal P w K mg base 3 "beat_fault" (top 16) cY Ol):Cal P w K mg base 4 "fault_of" (top 18) cY Cr:=by
 refine⟨f,fd,g,?_⟩;refine fn3 g.fn qu (fun ts H Q h=>?_) (fun cdv A outer s H E ts H3 Q hr h=>?_)
 ·obtain⟨W,b,D,rfl,_⟩:=h;rfl
 obtain⟨⟨tk,ors,prs,row⟩,beat,D,rfl,hW,hl,hD,k⟩:=h;refine⟨_,(ao (aK (iI (aJ F_tasks_fault hr rfl (aa (v3 0) (aa (v3 2) aj))) (iI (aJ F_order_fault hr rfl (aa (v3 0) (aa (v3 2) aj))) (iI (aJ F_pair_fault hr rfl (aa (v3 0) (aa (v3 2) aj))) (iI (aJ F_kind_fault hr rfl (aa (v3 0) (aa (v3 2) aj))) (iz (aJ F_beat_fault hr rfl (aa (v3 0) (aa (v3 1) (aa (v3 2) aj))))))))))),?_⟩;rw[show aV cY [Wk.enc ⟨tk,ors,prs,row⟩,T.int beat,T.tup (D.map sT)]=[some (T.tup [T.tup (tk.map tkT),T.tup (ors.map orT),T.tup (prs.map prT),T.tup (row.map T.str)]),some (T.int beat),some (T.tup (D.map sT))] from rfl];have hsz:sizeLine=16777216:=rfl;have k':=Box.mk k;clear k;have hW':=Box.mk hW;clear hW;replace k':Box (Q (oE ((vC ⟨tk,ors,prs,row⟩ D).or ((iW (fD D) ors).or ((iJ (fD D) prs).or ((gF (kdOf tk) row 0 D).or (d7 (ld tk) beat 0 D)))))) H3):=k';walk_at "";refine⟨⟨tk,ors,prs,row⟩,D,rfl,hW'.out,hl,?_⟩;refine eX (uA _ D) (Q:=fun t=>Fin3 Q t H3) (fun h1=>?_) (fun t e=>by have:=k'.out;rw[e] at this;exact Fin3.of Sub3.refl this);have hd:=Box.mk (Dok.of h1);rw[h1] at k';clear h1;refine⟨⟨tk,ors,prs,row⟩,D,rfl,hW'.out,hl,hd.out,?_⟩;refine eX (uv _ _) (Q:=fun t=>Fin3 Q t H3) (fun h1=>?_) (fun t e=>by have:=k'.out;(try dsimp only at e);rw[e] at this;exact Fin3.of Sub3.refl this);try dsimp only at h1
 rw[h1] at k';clear h1;refine⟨⟨tk,ors,prs,row⟩,D,rfl,hW'.out,hl,hd.out,?_⟩;refine eX (uw _ _) (Q:=fun t=>Fin3 Q t H3) (fun h1=>?_) (fun t e=>by have:=k'.out;(try dsimp only at e);rw[e] at this;exact Fin3.of Sub3.refl this);try dsimp only at h1
 rw[h1] at k';clear h1;refine⟨⟨tk,ors,prs,row⟩,D,rfl,hW'.out,hl,hd.out,?_⟩;refine eX (nQ _ _ _ _) (Q:=fun t=>Fin3 Q t H3) (fun h1=>?_) (fun t e=>by have:=k'.out;(try dsimp only at e);rw[e] at this;exact Fin3.of Sub3.refl this);try dsimp only at h1
 rw[h1] at k';exact⟨⟨tk,ors,prs,row⟩,beat,D,rfl,hW'.out,hd.out,Fin3.of Sub3.refl k'.out⟩
abbrev zm:List Str:=["_law_dealing_here","_law_found","_law_stand"]
theorem sc_flat:FnScope zm ["_law_dealing_here"] (aB (top 33)):=bA
theorem CW {f:Addr}{fd:FuncData}(g:G3 K mg "_law_flat" (top 33) ["_law_dealing_here"] f fd) (B:Bl mg):Cal P w K mg base 1 "_law_flat" (top 33) ["_law_dealing_here"] yR:=by
 refine⟨f,fd,g,?_⟩;refine fn3 g.fn sc_flat (fun ts H Q h=>?_) (fun cdv A outer s H E ts H3 Q hr h=>?_)
 ·obtain⟨D,rfl,_⟩:=h;rfl
 obtain⟨D,rfl,hl,k⟩:=h;refine⟨_,(ak (aD (i:=1) sc_flat.nd (bO aj))
   (ak (aU n_ rfl (bG (v3 0)) (aA (i:=2) sc_flat.nd) (ao (aD (i:=1) sc_flat.nd (aO bx (v3 1) (bD mX rfl B.list_ jF (aa (v3 2) aj))))))
   (ao (aK (v3 1))))),?_⟩
 rw[show aV zm [T.tup (D.map sT)]=[some (T.tup (D.map sT)),none,none] from rfl];have hsz:sizeLine=16777216:=rfl;have k':=Box.mk k;clear k;refine aq fun R0 hR0=>?_;walk_at "";refine⟨by decide,fun p hp=>?_⟩;walk_at "n";refine aq fun R1 hR1=>?_;walk_at "";refine aL sT D (fun A Z H=>∃(v:Option T) (q:Addr),Z=[some (.tup (D.map sT)),some (.ref q),v]/\H q=some (.lst (A.flatten.map T.str))/\H3 q=none/\Sub3 H3 H) ⟨_,p,rfl,aC,hp,Sub3.new hp⟩ ?_ ?_
 ·rintro Z H ⟨v,q,rfl,g,hq,sb⟩;refine⟨trivial,?_⟩;walk_at "n";walk_at "";refine Fin3.of (fun b o e=>?_) (k'.out q hq);by_cases eb:b=q
  ·subst eb;rw[aC] at e;rw[g];exact e
  rw[aF eb] at e;exact sb b o e
 rintro A s B Z H N e ⟨v,q,rfl,g,hq,sb⟩ hN;have hs:A.flatten.length+s.length<=1000:=by have:=F_ (fun x=>x.flatten.length) e;simp only[gG,a_] at this;omega
 have ef:(A++[s]).flatten.map T.str=A.flatten.map T.str++s.map T.str:=by simp
 have hN':=Box.mk hN;have ef':=Box.mk ef;clear hN e k' hR1 ef;refine⟨trivial,?_⟩;simp only[sT];walk_at "";intro p1 hp1;have n1:q≠p1:=aY g hp1;walk_at "";refine⟨by omega,fun p2 hp2=>?_⟩;have h2:=dq hp2;refine hN'.out _ _ ⟨_,p2,rfl,by rw[aC,ef'.out],du sb h2.2,(sb.trans (Sub3.new hp1)).trans (Sub3.new hp2)⟩
abbrev ik:List Str:=["_law_names_here","_law_flat_here","_law_task","_law_k","_law_name"]
theorem sc_names_fault:FnScope ik ["_law_names_here","_law_flat_here"] (aB (top 34)):=bA
theorem kh {f:Addr}{fd:FuncData}(g:G3 K mg "_law_names_fault" (top 34) ["_law_names_here","_law_flat_here"] f fd) (B:Bl mg):Cal P w K mg base 1 "_law_names_fault" (top 34) ["_law_names_here","_law_flat_here"] N6:=by
 refine⟨f,fd,g,?_⟩;refine fn3 g.fn sc_names_fault (fun ts H Q h=>?_) (fun cdv A outer s H E ts H3 Q hr h=>?_)
 ·obtain⟨a,b,ns,xs,rfl,_⟩:=h;rfl
 have hu31:=Room.u31 hr;obtain⟨a,b,ns,xs,rfl,ha,hb,ln,lx,k⟩:=h;refine⟨_,(ak (aU n_ rfl (cz (v3 1)) (aA (i:=2) sc_names_fault.nd) (ao (bz (aP (gh hu31) (v3 2) (v3 0) rfl) (ao (aK (aZ (aa bB (aa (v3 2) aj))))) aQ)))
   (ak (aU n_ rfl (aN rfl B.range_ (aa (aH bc rfl B.len_ bf (aa (v3 1) aj)) aj)) (aA (i:=3) sc_names_fault.nd) (ao (bz (aP (tD hu31) (aM ix3 (v3 1) (v3 3)) (gw (v3 1) gm (dm (v3 3))) rfl) (ao (aK (aZ (aa bB (aa (aM ix3 (v3 1) (v3 3)) aj))))) aQ)))
   (ak (aU n_ rfl (cz (v3 0)) (aA (i:=4) sc_names_fault.nd) (ao (bz (aP (gh hu31) (v3 4) (v3 1) rfl) (ao (aK (aZ (aa bB (aa (v3 4) aj))))) aQ)))
   (ao (aK cL))))),?_⟩
 rw[show aV ik [T.ref a,T.ref b]=[some (T.ref a),some (T.ref b),none,none,none] from rfl];have hsz:sizeLine=16777216:=rfl;have k':=Box.mk k;clear k;have pn:=dh ns;have px:=dh xs;replace k':Box (Q (oE ((fP ns xs).or ((twF xs).or (fQ ns xs)))) H3):=k';refine aq fun R0 hR0=>?_;have hR0':=Box.mk hR0;clear hR0;walk_at "";refine aL T.str xs (fun A Z H=>(∃v:Option T,Z=[some (.ref a),some (.ref b),v,none,none])/\H=H3/\Box (∀z∈A,z∈ns)) ⟨⟨_,rfl⟩,rfl,⟨fun _ h=>(nomatch h)⟩⟩ ?_ ?_;rotate_left
 ·rintro A x B Z H N e ⟨⟨v,rfl⟩,rfl,hA⟩ hN;have hN':=Box.mk hN;have e':=Box.mk e;clear hN e hR0';refine⟨.inl hb,?_⟩;walk_at "";refine⟨rfl,trivial,?_⟩;rw[Cp];by_cases c:x∈ns
  ·rw[if_neg (by simp [c])];exact hN'.out _ _ ⟨⟨_,rfl⟩,rfl,⟨fun a h=>(v_.mp h).elim (hA.out a) fun z=>by rw[b_.mp z];exact c⟩⟩
  rw[if_pos (by simp [c])];refine⟨by decide,?_⟩;have e:fP ns xs=some (.tup [.str "strange",.str x]):=by unfold fP;rw[e'.out,cF (fun a h=>by rw[y_ (hA.out a h)];rfl) (by simp [c])];rfl
  have:=k'.out;rw[e] at this;exact Fin3.of Sub3.refl this
 rintro Z H ⟨⟨v,rfl⟩,rfl,hA⟩;refine⟨.inl hb,?_⟩;have e:fP ns xs=none:=by unfold fP;rw[dj (fun a h=>by rw[y_ (hA.out a h)];rfl)];rfl
 rw[e] at k';clear hA e;obtain⟨⟨hR0⟩⟩:=hR0';subst hR0;try dsimp only
 refine aq fun R1 hR1=>?_;have hR1':=Box.mk hR1;clear hR1;walk_at "";refine⟨by first | trivial | omega,by omega,by omega,?_⟩;refine iY xs (fun A Z H'=>(∃u:Option T,Z=[some (.ref a),some (.ref b),v,u,none])/\H' a=some (.lst (ns.map T.str))/\H' b=some (.lst (xs.map T.str))/\Sub3 H H'/\Box A.Nodup) ⟨⟨_,rfl⟩,ha,hb,Sub3.refl,⟨RP⟩⟩ ?_ ?_;rotate_left
 ·rintro A x B Z H' N e ⟨⟨w3,rfl⟩,ha,hb,sb,hA⟩ hN;have x1:atI (xs.map T.str) (A.length:Int)=some (.str x):=by rw[e];exact nY T.str
  have x2:cQ (xs.map T.str) none (some (A.length:Int))=A.map T.str:=by rw[xq,e,B_,List.take_left' (by rw[g_])]
  have hlA:A.length<=1000:=by have:=F_ List.length e;simp only[a_,j_] at this;omega
  have pA:=dh A;have hN':=Box.mk hN;have e':=Box.mk e;clear hN e hR1';refine⟨trivial,?_⟩;walk_at "";intro p hp;have n1:a≠p:=aY ha hp;have n2:b≠p:=aY hb hp;walk_at "";refine⟨rfl,by first | trivial | exact pA,?_⟩;rw[N5];by_cases c:x∈A
  ·rw[if_pos (by simp [c])];walk_at "";refine⟨by decide,?_⟩;have e:twF xs=some (.tup [.str "twice",.str x]):=by unfold twF;rw[e'.out,nR (sn:=[]) (by simpa using hA.out) (by simpa using c)];rfl
   have:=k'.out;rw[e] at this;exact Fin3.of (sb.trans (Sub3.new hp)) this
  rw[if_neg (by simp [c])];exact hN'.out _ _ ⟨⟨_,rfl⟩,by rw[aF n1];exact ha,by rw[aF n2];exact hb,sb.trans (Sub3.new hp),⟨iR hA.out c⟩⟩
 rintro Z H' ⟨⟨w3,rfl⟩,ha,hb,sb,hA⟩;refine⟨trivial,?_⟩;have e:twF xs=none:=by unfold twF;rw[rM (by simpa using hA.out)];rfl
 rw[e] at k';clear hA e;obtain⟨⟨hR1⟩⟩:=hR1';subst hR1;try dsimp only
 refine aq fun R2 hR2=>?_;have hR2':=Box.mk hR2;clear hR2;walk_at "";refine aL T.str ns (fun A Z H=>(∃u:Option T,Z=[some (.ref a),some (.ref b),v,w3,u])/\H=H'/\Box (∀z∈A,z∈xs)) ⟨⟨_,rfl⟩,rfl,⟨fun _ h=>(nomatch h)⟩⟩ ?_ ?_
 ·rintro Z H2 ⟨⟨w4,rfl⟩,rfl,hA⟩;refine⟨.inl ha,?_⟩;obtain⟨⟨hR2⟩⟩:=hR2';subst hR2;walk_at "";have e:fQ ns xs=none:=by unfold fQ;rw[dj (fun a h=>by rw[y_ (hA.out a h)];rfl)];rfl
  rw[e] at k';exact Fin3.of sb k'.out
 rintro A x B Z H2 N e ⟨⟨w4,rfl⟩,rfl,hA⟩ hN;have hN':=Box.mk hN;have e':=Box.mk e;clear hN e hR2';refine⟨.inl ha,?_⟩;walk_at "";refine⟨rfl,trivial,?_⟩;rw[Cp];by_cases c:x∈xs
 ·rw[if_neg (by simp [c])];exact hN'.out _ _ ⟨⟨_,rfl⟩,rfl,⟨fun a h=>(v_.mp h).elim (hA.out a) fun z=>by rw[b_.mp z];exact c⟩⟩
 rw[if_pos (by simp [c])];refine⟨by decide,?_⟩;have e:fQ ns xs=some (.tup [.str "lost",.str x]):=by unfold fQ;rw[e'.out,cF (fun a h=>by rw[y_ (hA.out a h)];rfl) (by simp [c])];rfl
 have:=k'.out;rw[e] at this;exact Fin3.of sb this
abbrev OJ:List Str:=["_law_dealing_here","_law_found","_law_k","_law_task"]
theorem sc_at:FnScope OJ ["_law_dealing_here"] (aB (top 35)):=bA
theorem O1 {f:Addr}{fd:FuncData}(g:G3 K mg "_law_at" (top 35) ["_law_dealing_here"] f fd) (B:Bl mg):Cal P w K mg base 1 "_law_at" (top 35) ["_law_dealing_here"] Oa:=by
 refine⟨f,fd,g,?_⟩;refine fn3 g.fn sc_at (fun ts H Q h=>?_) (fun cdv A outer s H E ts H3 Q hr h=>?_)
 ·obtain⟨D,rfl,_⟩:=h;rfl
 have hu1:=Room.u1 hr;obtain⟨D,rfl,hl,hD,k⟩:=h;refine⟨_,(ak (aD (i:=1) sc_at.nd eQ)
   (ak (aU n_ rfl (aN rfl B.range_ (aa (aH bc rfl B.len_ bf (aa (v3 0) aj)) aj)) (aA (i:=2) sc_at.nd) (ao (aU n_ rfl (bG (aM ix3 (v3 0) (v3 2))) (aA (i:=3) sc_at.nd) (ao (c7 hu1 (v3 1) (v3 3) (v3 2))))))
   (ao (aK (v3 1))))),?_⟩
 rw[show aV OJ [T.tup (D.map sT)]=[some (T.tup (D.map sT)),none,none,none] from rfl];have hsz:sizeLine=16777216:=rfl;have k':=Box.mk k;clear k;refine aq fun R0 hR0=>?_;walk_at "";intro p hp;walk_at "n";refine aq fun R1 hR1=>?_;walk_at "";refine⟨by first | trivial | omega,by omega,by omega,?_⟩;refine iY D (fun A Z H=>∃(v2 v3:Option T),Z=[some (.tup (D.map sT)),some (.ref p),v2,v3]/\H=up3 H3 p (.dct (dN (kD A) (fD A)))) ⟨_,_,rfl,rfl⟩ ?_ ?_
 ·rintro Z H ⟨v2,v3,rfl,rfl⟩;refine⟨trivial,?_⟩;walk_at "n";walk_at "";exact Fin3.of Sub3.refl (k'.out p hp)
 rintro A s B Z H N e ⟨v2,v3,rfl,rfl⟩ hN;have hs:A.flatten.length+s.length<=1000:=by have:=F_ (fun x=>x.flatten.length) e;simp only[gG,a_] at this;omega
 have x1:atI (D.map sT) (A.length:Int)=some (.tup (s.map T.str)):=by rw[e];exact nY sT
 have ek':=Box.mk (uh A s);have ef':=Box.mk (ul A s);have kl:=yN A;have hN':=Box.mk hN;clear hN e k' hR1;refine⟨trivial,?_⟩;walk_at "";refine aL T.str s (fun C Z H=>∃(v4:Option T),Z=[some (.tup (D.map sT)),some (.ref p),some (.int (A.length:Int)),v4]/\H=up3 H3 p (.dct (dN (kst (kD A) C) (jY A.length (fD A) C)))) ⟨_,rfl,rfl⟩ ?_ ?_
 ·rintro Z H ⟨v4,rfl,rfl⟩;exact⟨trivial,hN'.out _ _ ⟨_,_,rfl,by rw[ek'.out,ef'.out]⟩⟩
 rintro C n E' Z H N2 e2 ⟨v4,rfl,rfl⟩ hN2;have hc:C.length<s.length:=by have:=F_ List.length e2;simp only[a_,j_] at this;omega
 have p1:=um (kst (kD A) C) (jY A.length (fD A) C) n A.length;rw[<- qd,<- qe] at p1;have l1:=ji (kst (kD A) C) (jY A.length (fD A) C);have l2:=kst_len C (kD A);have hN2':=Box.mk hN2;clear hN2 hN' e2 ek' ef' x1;refine⟨trivial,?_⟩;walk_at "";exact⟨by omega,hN2'.out _ _ ⟨_,rfl,rfl⟩⟩
abbrev fc:List Str:=["_law_works_here","_law_beat_here","_law_dealing_here","_law_at_here","_law_one","_law_other","_law_word","_law_lengths_here","_law_kinds_here","_law_name","_law_length","_law_some","_law_k","_law_task"]
theorem sc_laid_fault:FnScope fc ["_law_works_here","_law_beat_here","_law_dealing_here"] (aB (top 36)):=bA
theorem lu {f:Addr}{fd:FuncData}(g:G3 K mg "_law_laid_fault" (top 36) ["_law_works_here","_law_beat_here","_law_dealing_here"] f fd) (B:Bl mg) (F_at:Cal P w K mg base 1 "_law_at" (top 35) ["_law_dealing_here"] Oa):Cal P w K mg base 2 "_law_laid_fault" (top 36) ["_law_works_here","_law_beat_here","_law_dealing_here"] N7:=by
 refine⟨f,fd,g,?_⟩;refine fn3 g.fn sc_laid_fault (fun ts H Q h=>?_) (fun cdv A outer s H E ts H3 Q hr h=>?_)
 ·obtain⟨W,b,D,rfl,_⟩:=h;rfl
 have hu30:=Room.u30 hr;have hu31:=Room.u31 hr;have hu1:=Room.u1 hr;obtain⟨⟨tk,ors,prs,row⟩,beat,D,rfl,hW,hl,hd,k⟩:=h;refine⟨_,(ak (aD (i:=3) sc_laid_fault.nd (aJ F_at hr rfl (aa (v3 2) aj)))
   (ak (aU n_ rfl (bG (aM ix3 (v3 0) au)) (bZ (n:=2) rfl (aG (aA (i:=4) sc_laid_fault.nd) (aG (aA (i:=5) sc_laid_fault.nd) bL))) (ao (bz (aP gZ (bu hu1 (v3 3) (v3 4)) (bu hu1 (v3 3) (v3 5))) (ao (aK (aZ (aa bB (aa (v3 4) (aa (v3 5) aj)))))) aQ)))
   (ak (aU n_ rfl (bG (aM ix3 (v3 0) au)) (bZ (n:=3) rfl (aG (aA (i:=6) sc_laid_fault.nd) (aG (aA (i:=4) sc_laid_fault.nd) (aG (aA (i:=5) sc_laid_fault.nd) bL)))) (ao (bz (PW3.pt (sJ (PW3.pt (cU (aP (bY hu30) (v3 6) bB) (cZ (aP (jr hu30) (bu hu1 (v3 3) (v3 4)) (bu hu1 (v3 3) (v3 5)))))) (mK (PW3.pt (cU (aP (bY hu30) (v3 6) bB) (cZ (aP (bY hu30) (bu hu1 (v3 3) (v3 4)) (bu hu1 (v3 3) (v3 5))))))))) (ao (aK (aZ (aa (v3 6) (aa (v3 4) (aa (v3 5) aj)))))) aQ)))
   (ak (aD (i:=7) sc_laid_fault.nd eQ)
   (ak (aD (i:=8) sc_laid_fault.nd eQ)
   (ak (aU n_ rfl (bG (aM ix3 (v3 0) au)) (bZ (n:=3) rfl (aG (aA (i:=9) sc_laid_fault.nd) (aG (aA (i:=10) sc_laid_fault.nd) (aG (aA (i:=11) sc_laid_fault.nd) bL)))) (ak (c7 hu1 (v3 7) (v3 9) (v3 10))
    (ao (c7 hu1 (v3 8) (v3 9) (v3 11)))))
   (ak (aU n_ rfl (aN rfl B.range_ (aa (aH bc rfl B.len_ bf (aa (v3 2) aj)) aj)) (aA (i:=12) sc_laid_fault.nd) (ao (aU n_ rfl (bG (aM ix3 (v3 2) (v3 12))) (aA (i:=13) sc_laid_fault.nd) (ao (bz (PW3.pt (cU (aP gZ (aH bc rfl B.len_ bf (aa (bu hu1 (v3 8) (v3 13)) aj)) au) (cZ (aP (gh hu31) (aM ix3 (aM ix3 (v3 0) au) (v3 12)) (bu hu1 (v3 8) (v3 13)) rfl)))) (ao (aK (aZ (aa bB (aa (v3 13) (aa (v3 12) aj)))))) aQ)))))
   (ak (aU n_ rfl (aN rfl B.range_ (aa (aH bc rfl B.len_ bf (aa (v3 2) aj)) aj)) (aA (i:=12) sc_laid_fault.nd) (ao (bz (aP gZ (aH (jO rfl) rfl B.sum_ jR (aa (bh rfl (bI (n0:=(aB (top 36)).names) (N:=fc) (N':=["_law_task","_law_lengths_here"]) (nt:=1) (cap:=[7]) rfl rfl (by decide +kernel)) (bG (aM ix3 (v3 2) (v3 12))) (fun cl pins s H C0 fp=>⟨(aA (i:=0) (show List.Nodup [("_law_task":Str),("_law_lengths_here":Str)] by decide +kernel)),bC,(bu hu1 (v3 1) (v3 0))⟩)) aj)) (v3 1)) (ao (aK (aZ (aa bB (aa (v3 12) aj))))) aQ)))
   (ao (aK cL)))))))))),?_⟩
 rw[show aV fc [Wk.enc ⟨tk,ors,prs,row⟩,T.int beat,T.tup (D.map sT)]=[some (T.tup [T.tup (tk.map tkT),T.tup (ors.map orT),T.tup (prs.map prT),T.tup (row.map T.str)]),some (T.int beat),some (T.tup (D.map sT)),none,none,none,none,none,none,none,none,none,none,none] from rfl];have hsz:sizeLine=16777216:=rfl;have k':=Box.mk k;clear k;have hoo:Box (∀o∈ors,o.1∈tk.map (·.1)/\o.2∈tk.map (·.1)):=⟨fun o ho=>(hW.oo o ho).2⟩;have hpp:Box (∀o∈prs,(o.1=("with":Str)\/o.1=("apart":Str))/\o.2.1∈tk.map (·.1)/\o.2.2∈tk.map (·.1)):=⟨fun o ho=>⟨(hW.pp o ho).1,(hW.pp o ho).2.2⟩⟩;have t8:tk.length<=8:=hW.t8;have r8:row.length<=8:=hW.r8;have hdr:D.length<=row.length:=hd.rw;have hnd':Box ((tk.map (·.1)).Nodup):=⟨hW.nd⟩;have hin:Box (∀s∈D,s.Nodup/\∀n∈s,n∈tk.map (·.1)):=⟨fun s hs=>hd.in hs⟩;have hd2:Box (∀n∈tk.map (·.1),n∈kD D):=⟨fun n h=>mem_kD.mpr (hd.al n h)⟩;replace k':Box (Q (oE ((iW (fD D) ors).or ((iJ (fD D) prs).or ((gF (kdOf tk) row 0 D).or (d7 (ld tk) beat 0 D))))) H3):=k';clear hd hW;refine aq fun R0 hR0=>?_;walk_at "";refine⟨D,rfl,hl,by omega,fun p hp=>?_⟩;have g1:up3 H3 p (.dct (dN (kD D) (fD D))) p=some (.dct (dN (kD D) (fD D))):=aC;have sb:Sub3 H3 (up3 H3 p (.dct (dN (kD D) (fD D)))):=Sub3.new hp;generalize up3 H3 p (.dct (dN (kD D) (fD D)))=H4 at *;clear hp;walk_at "n";refine aq fun R1 hR1=>?_;walk_at "";refine aL orT ors (fun A Z H=>(∃v4 v5:Option T,Z=[some (T.tup [T.tup (tk.map tkT),T.tup (ors.map orT),T.tup (prs.map prT),T.tup (row.map T.str)]),some (.int beat),some (.tup (D.map sT)),some (.ref p),v4,v5,none,none,none,none,none,none,none,none])/\H=H4/\Box (∀a∈A,(fun o:Str × Str=>decide (fD D o.2<fD D o.1)) a=false)) ⟨⟨_,_,rfl⟩,rfl,⟨fun _ h=>(nomatch h)⟩⟩ ?_ ?_;rotate_left
 ·rintro A ⟨x,y⟩ B Z H N e ⟨⟨v4,v5,rfl⟩,rfl,ha⟩ hN;have hm:=hoo.out (x,y) (by rw[e];simp);have l1:=bR (f:=fD D) (hd2.out _ hm.1);have l2:=bR (f:=fD D) (hd2.out _ hm.2);dsimp only at l1 l2;have hN':=Box.mk hN;have e':=Box.mk e;clear hN e hR1 hm;refine⟨trivial,?_⟩;simp only[orT];walk_at "";refine⟨trivial,?_⟩;by_cases c:fD D y<fD D x
  ·rw[if_pos (by rw[Qw];omega)];refine⟨by decide,?_⟩;have e:iW (fD D) ors=some (.tup [.str "order",.str x,.str y]):=by unfold iW;rw[e'.out,cF ha.out (y_ c)];rfl
   have:=k'.out;rw[e] at this;exact Fin3.of sb this
  rw[if_neg (by rw[Qw];omega)];exact hN'.out _ _ ⟨⟨_,_,rfl⟩,rfl,⟨fun a h=>(v_.mp h).elim (ha.out a) fun z=>by rw[b_.mp z];exact o_ c⟩⟩
 rintro Z H ⟨⟨v4,v5,rfl⟩,rfl,ha⟩;refine⟨trivial,?_⟩;have e:iW (fD D) ors=none:=by unfold iW;rw[dj ha.out];rfl
 rw[e] at k';replace k':Box (Q (oE ((iJ (fD D) prs).or ((gF (kdOf tk) row 0 D).or (d7 (ld tk) beat 0 D)))) H3):=k';clear e ha hoo;walk_at "n";refine aq fun R2 hR2=>?_;walk_at "";refine aL prT prs (fun A Z H'=>(∃v4 v5 v6:Option T,Z=[some (T.tup [T.tup (tk.map tkT),T.tup (ors.map orT),T.tup (prs.map prT),T.tup (row.map T.str)]),some (.int beat),some (.tup (D.map sT)),some (.ref p),v4,v5,v6,none,none,none,none,none,none,none])/\H'=H/\Box (∀a∈A,(fun p:Str × Str × Str=>decide (fD D p.2.1=fD D p.2.2) != decide (p.1=("with":Str))) a=false)) ⟨⟨_,_,_,rfl⟩,rfl,⟨fun _ h=>(nomatch h)⟩⟩ ?_ ?_;rotate_left
 ·rintro A ⟨wd,x,y⟩ B Z H' N e ⟨⟨v4,v5,v6,rfl⟩,rfl,ha⟩ hN;have hm:=hpp.out (wd,x,y) (by rw[e];simp);have l1:=bR (f:=fD D) (hd2.out _ hm.2.1);have l2:=bR (f:=fD D) (hd2.out _ hm.2.2);have hw:wd=("with":Str)\/wd=("apart":Str):=hm.1;dsimp only at l1 l2;have ed:decide (((fD D x:Nat):Int)=((fD D y:Nat):Int))=decide (fD D x=fD D y):=by rw[decide_eq_decide];omega
  have nx:Box ((decide (fD D x=fD D y) != decide (wd=("with":Str)))=false->N [some (T.tup [T.tup (tk.map tkT),T.tup (ors.map orT),T.tup (prs.map prT),T.tup (row.map T.str)]),some (.int beat),some (.tup (D.map sT)),some (.ref p),some (.str x),some (.str y),some (.str wd),none,none,none,none,none,none,none] H'):=⟨fun c=>hN _ _ ⟨⟨_,_,_,rfl⟩,rfl,⟨fun a h=>(v_.mp h).elim (ha.out a) fun z=>by rw[b_.mp z];exact c⟩⟩⟩;have rt:Box ((decide (fD D x=fD D y) != decide (wd=("with":Str)))=true->Fin3 Q (.tup [.str wd,.str x,.str y]) H'):=⟨fun c=>by
   have e:iJ (fD D) prs=some (.tup [.str wd,.str x,.str y]):=by unfold iJ;rw[e,cF ha.out c];rfl
   have:=k'.out
   rw[e] at this
   exact Fin3.of sb this⟩
  clear hN e hR2 hm ha;refine⟨trivial,?_⟩;simp only[prT];have hw':=Box.mk hw;clear hw;walk_at "";refine⟨trivial,?_⟩;have w1:(("apart":Str)=("with":Str))=False:=by simp;decide
  have w2:(("with":Str)=("apart":Str))=False:=by simp;decide
  have nx2:=nx.out;have rt2:=rt.out;clear nx rt;generalize decide (fD D x=fD D y)=b1 at *;rcases hw'.out with rfl | rfl
  ·clear hw';cases b1
   ·walk_at "";exact⟨by decide,rt2 (by rw[y_ rfl];rfl)⟩
   walk_at "";exact nx2 (by rw[y_ rfl];rfl)
  clear hw';cases b1
  ·walk_at "";exact nx2 (by rw[o_ (by rw[w1];exact id)];rfl)
  walk_at "";exact⟨by decide,rt2 (by rw[o_ (by rw[w1];exact id)];rfl)⟩
 rintro Z H' ⟨⟨v4,v5,v6,rfl⟩,rfl,ha⟩;refine⟨trivial,?_⟩;have e:iJ (fD D) prs=none:=by unfold iJ;rw[dj ha.out];rfl
 rw[e] at k';replace k':Box (Q (oE ((gF (kdOf tk) row 0 D).or (d7 (ld tk) beat 0 D))) H3):=k';clear e ha hpp hd2 g1;walk_at "n";refine aq fun R3 hR3=>?_;walk_at "";intro pa hpa;walk_at "n";refine aq fun R4 hR4=>?_;walk_at "";intro pb hpb;have nab:pa≠pb:=aY aC hpb;have sb2:Sub3 H3 (up3 (up3 H' pa (.dct [])) pb (.dct [])):=(sb.trans (Sub3.new hpa)).trans (Sub3.new hpb);have ga:up3 (up3 H' pa (.dct [])) pb (.dct []) pa=some (.dct (iN [])):=by rw[aF nab];exact aC
 have gb:up3 (up3 H' pa (.dct [])) pb (.dct []) pb=some (.dct (kN [])):=aC;have fa:H3 pa=none:=du sb hpa;have fb:H3 pb=none:=du (sb.trans (Sub3.new hpa)) hpb;generalize up3 (up3 H' pa (.dct [])) pb (.dct [])=H5 at *;clear hpa hpb sb;walk_at "n";refine aq fun R5 hR5=>?_;walk_at "";refine aL tkT tk (fun A Z H=>(∃v9 v10 v11:Option T,Z=[some (T.tup [T.tup (tk.map tkT),T.tup (ors.map orT),T.tup (prs.map prT),T.tup (row.map T.str)]),some (.int beat),some (.tup (D.map sT)),some (.ref p),v4,v5,v6,some (.ref pa),some (.ref pb),v9,v10,v11,none,none])/\H pa=some (.dct (iN A))/\H pb=some (.dct (kN A))/\Sub3 H3 H) ⟨⟨_,_,_,rfl⟩,ga,gb,sb2⟩ ?_ ?_;rotate_left
 ·rintro A t B Z H N e ⟨⟨v9,v10,v11,rfl⟩,ga,gb,sb⟩ hN;have hx:t.1∉A.map (·.1):=fun h=>by have:=hnd'.out;rw[e,B_,Q9] at this;exact this.2.2 _ h _ (by rw[m_];exact i_) rfl
  have p1:=yK hx;have p2:=JC hx;have hlA:A.length<8:=by have:=F_ List.length e;simp only[a_,j_] at this;omega
  have hl2:=yL A;have hl3:=JD A;have hN':=Box.mk hN;have nba:pb≠pa:=Ne.symm nab;unfold sT at p2;clear hN e k' hR5 hx;refine⟨trivial,?_⟩;simp only[tkT,sT];walk_at "";refine⟨trivial,by omega,?_⟩;walk_at "";refine⟨by omega,?_⟩;refine hN'.out _ _ ⟨⟨_,_,_,rfl⟩,by rw[aF nab,aC],aC,fun b o e=>?_⟩;rw[aF (aY e fb),aF (aY e fa)];exact sb b o e
 rintro Z H ⟨⟨v9,v10,v11,rfl⟩,ga,gb,sb⟩;refine⟨trivial,?_⟩;clear sb2;have hnd2:=hnd';walk_at "n";refine aq fun R6 hR6=>?_;walk_at "";refine⟨by first | trivial | omega,by omega,by omega,?_⟩;refine iY D (fun A Z H'=>(∃v12 v13:Option T,Z=[some (T.tup [T.tup (tk.map tkT),T.tup (ors.map orT),T.tup (prs.map prT),T.tup (row.map T.str)]),some (.int beat),some (.tup (D.map sT)),some (.ref p),v4,v5,v6,some (.ref pa),some (.ref pb),v9,v10,v11,v12,v13])/\H'=H/\Box (∀(j:Nat) (s':List Str),A[j]?=some s'->∀n∈s',okK (kdOf tk n) (row.getD (0+j) "")=true)) ⟨⟨_,_,rfl⟩,rfl,⟨fun j s' h=>by simp at h⟩⟩ ?_ ?_;rotate_left
 ·rintro A s B Z H' N e ⟨⟨v12,v13,rfl⟩,rfl,ha⟩ hN;have hA:A.length<row.length:=by have:=F_ List.length e;simp only[a_,j_] at this;omega
  have hs:Box (∀n∈s,n∈tk.map (·.1)):=⟨(hin.out s (by rw[e];simp)).2⟩;have x1:=getD_at hA;have x2:atI (D.map sT) (A.length:Int)=some (.tup (s.map T.str)):=by rw[e];exact nY sT
  have hN':=Box.mk hN;have e':=Box.mk e;clear hN e hR6;refine⟨trivial,?_⟩;walk_at "";refine aL T.str s (fun C Z H2=>(∃v13:Option T,Z=[some (T.tup [T.tup (tk.map tkT),T.tup (ors.map orT),T.tup (prs.map prT),T.tup (row.map T.str)]),some (.int beat),some (.tup (D.map sT)),some (.ref p),v4,v5,v6,some (.ref pa),some (.ref pb),v9,v10,v11,some (.int (A.length:Int)),v13])/\H2=H'/\Box (∀n∈C,okK (kdOf tk n) (row.getD A.length "")=true)) ⟨⟨_,rfl⟩,rfl,⟨fun _ h=>(nomatch h)⟩⟩ ?_ ?_
  ·rintro Z H2 ⟨⟨v5',rfl⟩,rfl,hc⟩;refine⟨trivial,hN'.out _ _ ⟨⟨_,_,rfl⟩,rfl,⟨fun j s' hj n hn=>?_⟩⟩⟩;rw[Q8];rcases Nat.lt_or_ge j A.length with h | h
   ·rw[Qy h] at hj;have:=ha.out j s' hj n hn
    rwa [Q8] at this
   rw[Qp h] at hj;have ej:j - A.length=0:=by
    cases q:j - A.length with
    |zero=>rfl
    |succ z=>rw[q] at hj;simp at hj
   rw[ej] at hj;simp only[QF,S9] at hj;subst hj;rw[show j=A.length by omega];exact hc.out n hn
  rintro C n E' Z H2 N2 e2 ⟨⟨v5',rfl⟩,rfl,hc⟩ hN2;have l1:=nO (hs.out n (by rw[e2];simp));unfold sT at l1;have i1:=dh (kdOf tk n);have nx:Box (okK (kdOf tk n) (row.getD A.length "")=true->N2 [some (T.tup [T.tup (tk.map tkT),T.tup (ors.map orT),T.tup (prs.map prT),T.tup (row.map T.str)]),some (.int beat),some (.tup (D.map sT)),some (.ref p),v4,v5,v6,some (.ref pa),some (.ref pb),v9,v10,v11,some (.int (A.length:Int)),some (.str n)] H2):=⟨fun c=>hN2 _ _ ⟨⟨_,rfl⟩,rfl,⟨fun a h=>(v_.mp h).elim (hc.out a) fun z=>by rw[b_.mp z];exact c⟩⟩⟩;have rt:Box (okK (kdOf tk n) (row.getD A.length "")=false->Fin3 Q (.tup [.str "kind",.str n,.int (A.length:Int)]) H2):=⟨fun c=>by
   have:=k'.out
   rw[e'.out,nT (A:=A) (k:=0) ha.out (n:=n) (by
    rw[Q8,e2]
    exact cF (fun a h=>by rw[hc.out a h];rfl) (by rw[c];rfl)),Q8] at this
   exact Fin3.of sb this⟩
  clear hN2 e2 hN' k' ha hc e';refine⟨trivial,?_⟩;walk_at "";by_cases c:kdOf tk n=[]
  ·rw[c];walk_at "";exact nx.out (by unfold okK;rw[c];rfl)
  rw[if_pos (by rw[Qw];have:=List.length_pos_iff.mpr c;omega)];walk_at "";refine⟨by first | trivial | rfl,by first | trivial | exact i1,?_⟩;rw[Cp];by_cases c2:row.getD A.length ""∈kdOf tk n
  ·rw[if_neg (by simpa using c2)];exact nx.out (by unfold okK;rw[y_ c2,Bool.or_true])
  rw[if_pos (by simpa using c2)];exact⟨by decide,rt.out (by unfold okK;rw[o_ c2,o_ c];rfl)⟩
 rintro Z H' ⟨⟨v12,v13,rfl⟩,rfl,ha⟩;refine⟨trivial,?_⟩;rw[kin_no ha.out,show ((none:Option T).or (d7 (ld tk) beat 0 D))=d7 (smL tk) beat 0 D from lX fun s hs=>(NT hnd2.out (hin.out s hs).1 (hin.out s hs).2).symm] at k';clear ha gb;walk_at "n";refine aq fun R7 hR7=>?_;walk_at "";refine⟨by first | trivial | omega,by omega,by omega,?_⟩;refine iY D (fun A Z H=>(∃v12:Option T,Z=[some (T.tup [T.tup (tk.map tkT),T.tup (ors.map orT),T.tup (prs.map prT),T.tup (row.map T.str)]),some (.int beat),some (.tup (D.map sT)),some (.ref p),v4,v5,v6,some (.ref pa),some (.ref pb),v9,v10,v11,v12,v13])/\H pa=some (.dct (iN tk))/\Sub3 H3 H/\Box (∀s'∈A,smL tk s'<=beat)) ⟨⟨_,rfl⟩,ga,sb,⟨fun _ h=>(nomatch h)⟩⟩ ?_ ?_
 ·rintro Z H ⟨⟨v12,rfl⟩,ga,sb,hc⟩;refine⟨trivial,?_⟩;walk_at "n";walk_at "";have:=k'.out;rw[rN hc.out] at this;exact Fin3.of sb this
 rintro A s B Z H N e ⟨⟨v12,rfl⟩,ga,sb,hc⟩ hN;have hs:Box (∀n∈s,n∈tk.map (·.1)):=⟨(hin.out s (by rw[e];simp)).2⟩;have ls:s.length<=1000:=by have:=F_ (fun x=>x.flatten.length) e;simp only[gG,a_] at this;omega
 have x2:atI (D.map sT) (A.length:Int)=some (.tup (s.map T.str)):=by rw[e];exact nY sT
 have hN':=Box.mk hN;have e':=Box.mk e;clear hN e hR7;refine⟨trivial,?_⟩;walk_at "";walk_at "c";refine bV T.str (fun n=>.int (lnOf tk n)) s [some (.ref pa)] trivial (by omega) (fun n hn Q' hq=>?_) (fun pc hpc=>?_)
 ·have l1:=nM (hs.out n hn);have hq':=Box.mk hq;clear hq hN' k';walk_at "";exact hq'.out
 have ei:ints3 (s.map (fun n=>T.int (lnOf tk n)))=some (s.map (lnOf tk)):=by rw[<- cV,O_];rfl
 rw[ei,gU];have sb2:=sb.trans (Sub3.new (o:=.lst (s.map (fun n=>T.int (lnOf tk n)))) hpc);have ga2:up3 H pc (.lst (s.map (fun n=>T.int (lnOf tk n)))) pa=_ := upa ga hpc;generalize up3 H pc (.lst (s.map (fun n=>T.int (lnOf tk n))))=H6 at *;walk_at "";rw[show (s.map (lnOf tk)).sum=smL tk s from rfl];by_cases c:smL tk s>beat
 ·rw[if_pos (by simpa using c)];refine⟨by decide,?_⟩;have:=k'.out;rw[e'.out,nU hc.out c,Q8] at this;exact Fin3.of sb2 this
 rw[if_neg (by simpa using c)];exact hN'.out _ _ ⟨⟨_,rfl⟩,ga2,sb2,⟨fun a h=>(v_.mp h).elim (hc.out a) fun z=>by rw[b_.mp z];omega⟩⟩
abbrev oH:List Str:=["_law_works_here","_law_beat_here","_law_dealing_here","_law_fault_here"]
theorem sc_fault:FnScope oH ["_law_works_here","_law_beat_here","_law_dealing_here"] (aB (top 37)):=bA
theorem zp {f:Addr}{fd:FuncData}(g:G3 K mg "_law_fault" (top 37) ["_law_works_here","_law_beat_here","_law_dealing_here"] f fd) (B:Bl mg) (F_names_fault:Cal P w K mg base 1 "_law_names_fault" (top 34) ["_law_names_here","_law_flat_here"] N6) (F_flat:Cal P w K mg base 1 "_law_flat" (top 33) ["_law_dealing_here"] yR) (F_laid_fault:Cal P w K mg base 2 "_law_laid_fault" (top 36) ["_law_works_here","_law_beat_here","_law_dealing_here"] N7):Cal P w K mg base 3 "_law_fault" (top 37) ["_law_works_here","_law_beat_here","_law_dealing_here"] Cr:=by
 refine⟨f,fd,g,?_⟩;refine fn3 g.fn sc_fault (fun ts H Q h=>?_) (fun cdv A outer s H E ts H3 Q hr h=>?_)
 ·obtain⟨W,b,D,rfl,_⟩:=h;rfl
 obtain⟨⟨tk,ors,prs,row⟩,beat,D,rfl,hW,hl,hD,k⟩:=h;refine⟨_,(ak (bz (aP gZ (aH bc rfl B.len_ bf (aa (v3 2) aj)) (aH bc rfl B.len_ bf (aa (aM ix3 (v3 0) au) aj))) (ao (aK (aZ (aa bB (aa (aH bc rfl B.len_ bf (aa (v3 2) aj)) aj))))) aQ)
   (ak (aD (i:=3) sc_fault.nd (aJ F_names_fault hr rfl (aa (bh rfl (bI (n0:=(aB (top 37)).names) (N:=oH) (N':=["_law_name","_law_length","_law_kinds_here"]) (nt:=3) (cap:=[]) rfl rfl (by decide +kernel)) (bG (aM ix3 (v3 0) au)) (fun cl pins s H C0 fp=>⟨(bZ (n:=3) rfl (aG (aA (i:=0) (show List.Nodup [("_law_name":Str),("_law_length":Str),("_law_kinds_here":Str)] by decide +kernel)) (aG (aA (i:=1) (show List.Nodup [("_law_name":Str),("_law_length":Str),("_law_kinds_here":Str)] by decide +kernel)) (aG (aA (i:=2) (show List.Nodup [("_law_name":Str),("_law_length":Str),("_law_kinds_here":Str)] by decide +kernel)) bL)))),bC,(v3 0)⟩)) (aa (aJ F_flat hr rfl (aa (v3 2) aj)) aj))))
   (ak (bz (aP pW (v3 3) cL) (ao (aD (i:=3) sc_fault.nd (aJ F_laid_fault hr rfl (aa (v3 0) (aa (v3 1) (aa (v3 2) aj)))))) aQ)
   (ao (aK (v3 3)))))),?_⟩
 rw[show aV oH [Wk.enc ⟨tk,ors,prs,row⟩,T.int beat,T.tup (D.map sT)]=[some (T.tup [T.tup (tk.map tkT),T.tup (ors.map orT),T.tup (prs.map prT),T.tup (row.map T.str)]),some (T.int beat),some (T.tup (D.map sT)),none] from rfl];have hsz:sizeLine=16777216:=rfl;have k':=Box.mk k;clear k;have hW':=Box.mk hW;have t8:tk.length<=8:=hW.t8;clear hW;replace k':Box (Q (oE (((gW row D).or (qg (tk.map (·.1)) D.flatten)).or (vD ⟨tk,ors,prs,row⟩ beat D))) H3):=k';have hdk:Box (gW row D=none->qg (tk.map (·.1)) D.flatten=none->Dok ⟨tk,ors,prs,row⟩ D):=⟨fun h1 h2=>Dok.of (by show (gW row D).or (qg (tk.map (·.1)) D.flatten)=none;rw[h1,h2];rfl)⟩;refine aq fun R0 hR0=>?_;have hR0':=Box.mk hR0;clear hR0;walk_at "";by_cases c:D.length>row.length
 ·rw[if_pos (by rw[Qw];omega)];walk_at "";refine⟨by decide,Fin3.of Sub3.refl ?_⟩;have e:gW row D=some (.tup [.str "stands",.int (D.length:Int)]):=by unfold gW;rw[if_pos c]
  have:=k'.out;rw[e] at this;exact this
 rw[if_neg (by rw[Qw];omega)];have e:gW row D=none:=by unfold gW;rw[if_neg c]
 rw[e] at k';replace k':Box (Q (oE ((qg (tk.map (·.1)) D.flatten).or (vD ⟨tk,ors,prs,row⟩ beat D))) H3):=k';have hdk2:Box (qg (tk.map (·.1)) D.flatten=none->Dok ⟨tk,ors,prs,row⟩ D):=⟨hdk.out e⟩;clear e hdk;obtain⟨⟨hR0⟩⟩:=hR0';subst hR0;try dsimp only
 generalize hns:tk.map (·.1)=ns at *;have ln:ns.length<=8:=by rw[<- hns,g_];exact t8
 have hns':=Box.mk hns;clear hns;refine aq fun R1 hR1=>?_;have hR1':=Box.mk hR1;clear hR1;walk_at "";walk_at "c";refine gB (fun t:Str × Int × List Str=>.str t.1) (fun t=>.int t.2.1) (fun t=>.tup (t.2.2.map T.str)) (fun t=>T.str t.1) (fun _=>true) tk [] trivial (by omega) (fun t ht Q' hq=>hq) (fun t ht _ Q' hq=>?_) (fun pn hpn=>?_)
 ·clear k' hdk2 hR1';walk_at "";try exact hq
 rw[Ss.mpr (fun _ _=>rfl)];have en:tk.map (fun t=>T.str t.1)=ns.map T.str:=by rw[<- hns'.out,O_];rfl
 rw[en];clear en;refine⟨D,rfl,hl,fun q hq=>?_⟩;have npq:pn≠q:=aY aC hq;refine⟨pn,q,ns,D.flatten,rfl,by rw[aF npq,aC],aC,by omega,hl,?_⟩;have sb:Sub3 H3 (up3 (up3 H3 pn (.lst (ns.map T.str))) q (.lst (D.flatten.map T.str))):=(Sub3.new hpn).trans (Sub3.new hq);generalize up3 (up3 H3 pn (.lst (ns.map T.str))) q (.lst (D.flatten.map T.str))=H4 at sb ⊢;clear hpn hq npq;obtain⟨⟨hR1⟩⟩:=hR1';subst hR1;try dsimp only
 cases e:qg ns D.flatten with
 |none=>rw[e] at k';replace k':Box (Q (oE (vD ⟨tk,ors,prs,row⟩ beat D)) H3):=k';have hd:=Box.mk (hdk2.out e);clear hdk2 e;rw[show oE none=T.non from rfl];walk_at "";exact⟨⟨tk,ors,prs,row⟩,beat,D,rfl,hW'.out,hl,hd.out,Fin3.of sb k'.out⟩
 |some t =>
 rw[e] at k';obtain⟨_,x,r,et⟩:=Cg ns D.flatten t e;subst et;clear e hdk2;rw[show oE (some (T.tup (x::r)))=T.tup (x::r) from rfl];walk_at "";exact Fin3.of sb k'.out
end
def zq (K:Frag):Bool:=K.all fun p=>!(p.2.cls==.type "list")
theorem zr {K:Frag}{a:Addr}{o:Obj}(e:K.lookup a=some o):(a,o)∈K:=by
 induction K with
 |nil=>cases e
 |cons p r ih =>
 obtain⟨b,u⟩:=p;rw[Rp] at e;split at e
 ·rename_i h;rw[eq_of_beq h,Qu e];exact i_
 exact q_ _ (ih e)
theorem vH {K:Frag}(h:zq K=true) {a:Addr}{o:Obj}(e:K.lookup a=some o):o.cls≠.type "list":=fun z=>by
 have hm:(a,o)∈K:=zr e;have q:=J_.mp h (a,o) hm;rw[z] at q;simp at q
theorem uc {n:Nat}{us:List Value}(h:us.length=n+1):∃(a:Value) (r:List Value),us=a::r/\r.length=n:=by
 cases us with
 |nil=>exact nomatch h
 |cons a r=>exact⟨a,r,rfl,Nat.succ.inj h⟩
theorem uz {us:List Value}(h:us.length=0):us=[]:=RQ h
theorem ub1 {fd:FuncData}{x0:Str}(h:∀a0:Value,bindArgs fd ⟨[a0],[]⟩=pure ([x0].zip [a0])) (us:List Value) (e:us.length=1):bindArgs fd ⟨us,[]⟩=pure ([x0].zip us):=by
 obtain⟨a0,r0,q0,e0⟩:=uc e;rw[q0,uz e0];exact h a0
theorem ub2 {fd:FuncData}{x0 x1:Str}(h:∀a0 a1:Value,bindArgs fd ⟨[a0,a1],[]⟩=pure ([x0,x1].zip [a0,a1])) (us:List Value) (e:us.length=2):bindArgs fd ⟨us,[]⟩=pure ([x0,x1].zip us):=by
 obtain⟨a0,r0,q0,e0⟩:=uc e;obtain⟨a1,r1,q1,e1⟩:=uc e0;rw[q0,q1,uz e1];exact h a0 a1
theorem ub3 {fd:FuncData}{x0 x1 x2:Str}(h:∀a0 a1 a2:Value,bindArgs fd ⟨[a0,a1,a2],[]⟩=pure ([x0,x1,x2].zip [a0,a1,a2])) (us:List Value) (e:us.length=3):bindArgs fd ⟨us,[]⟩=pure ([x0,x1,x2].zip us):=by
 obtain⟨a0,r0,q0,e0⟩:=uc e;obtain⟨a1,r1,q1,e1⟩:=uc e0;obtain⟨a2,r2,q2,e2⟩:=uc e1;rw[q0,q1,q2,uz e2];exact h a0 a1 a2
theorem ub4 {fd:FuncData}{x0 x1 x2 x3:Str}(h:∀a0 a1 a2 a3:Value,bindArgs fd ⟨[a0,a1,a2,a3],[]⟩=pure ([x0,x1,x2,x3].zip [a0,a1,a2,a3])) (us:List Value) (e:us.length=4):bindArgs fd ⟨us,[]⟩=pure ([x0,x1,x2,x3].zip us):=by
 obtain⟨a0,r0,q0,e0⟩:=uc e;obtain⟨a1,r1,q1,e1⟩:=uc e0;obtain⟨a2,r2,q2,e2⟩:=uc e1;obtain⟨a3,r3,q3,e3⟩:=uc e2;rw[q0,q1,q2,q3,uz e3];exact h a0 a1 a2 a3
theorem Qo {K:Frag}{h:Heap}{mg:Str->Option Value}{x:Str}{st:Stmt}{ps:List Str}{f:Addr}{oc:Value}{od an:Option Addr}{osl:Array (Option Value)}{kV doc pm cdv ct:Value}(X:K.In h) (G:h.Ns mainGlobals mg)
  (a:nsIn K mainGlobals x=some (some (.ref f))) (l:K.lookup f=some ⟨oc,od,.func (fnOf x x (cH st) (b7 st) (aB st) .none kV doc pm an cdv ct),osl⟩) (c:codeIn K cdv x=true) (k:keepIn K (.ref f)=true)
  (hb:∀(kV doc pm:Value) (an:Option Addr) (cdv ct:Value) (us:List Value),us.length=ps.length->bindArgs (fnOf x x (cH st) (b7 st) (aB st) .none kV doc pm an cdv ct) ⟨us,[]⟩=pure (ps.zip us)) :
  G3 K mg x st ps f (fnOf x x (cH st) (b7 st) (aB st) .none kV doc pm an cdv ct) :=
 have F:=Gz (st:=st) l c k
 ⟨F,F.binds hb,mg_of X G a⟩
theorem bW (i:Nat) (ps:List Str) (x:Str) (f:Addr) (m:Str) (t c:Nat) {K:Frag}{h:Heap}{mg:Str->Option Value}(X:K.In h) (G:h.Ns mainGlobals mg)
  (hb:∀(kV doc pm:Value) (an:Option Addr) (cdv ct:Value) (us:List Value),us.length=ps.length->bindArgs (fnOf x x (cH (top i)) (b7 (top i)) (aB (top i)) .none kV doc pm an cdv ct) ⟨us,[]⟩=pure (ps.zip us))
  (a:nsIn K mainGlobals x=some (some (.ref f)):=by kernel_rfl) (l:K.lookup f=some (fO i x m t c):=by kernel_rfl) (e:codeIn K (.ref c) x=true:=by kernel_rfl) (k:keepIn K (.ref f)=true:=by kernel_rfl) :
  G3 K mg x (top i) ps f (fnOf x x (cH (top i)) (b7 (top i)) (aB (top i)) .none .none .none (.str m t) none (.ref c) .none) :=
 Qo X G a l e k hb
def O2:Stmt->Pos->Pos
 |.FunctionDef _ _ _ _ _ _ _ _ _ p,_=>p
 |_,p=>p
def dv:DefRec:=⟨"law",cH (top 42),b7 (top 42),aB (top 42),O2 (top 42) default⟩
theorem all_ok {l:PySem.W.OpenLaw}{w:World}{h:Heap}{mg:Str->Option Value}{fa:Addr}(X:(KK w.params).In h) (G:h.Ns mainGlobals mg) (hfa:mg "law"=some (.ref fa)) :
  ∃fd:FuncData,(∀(s:Shared) (v:Value),BindsTo s fd ⟨[v],[]⟩ [("_law_script",v)])/\∀base:Heap,(KK w.params).In base->base.Ns mainGlobals mg->FnOk3 l.prog w (KK w.params) mg base 6 fa fd ["_law_script"] uC:=by
 have at_:∀{n:Str} {v:Value},nsIn (KK w.params) mainGlobals n=some (some v)->mg n=some v:=fun e=>mg_of X G e;have no_:∀{n:Str},nsIn (KK w.params) mainGlobals n=some none->mg n=none:=fun e=>PySem.W.mg_none_of X G e;have e:=hfa.symm.trans (at_ (v:=.ref 251) (by kernel_rfl));cases e;have B:Bl mg:=⟨no_ (by kernel_rfl),no_ (by kernel_rfl),no_ (by kernel_rfl),no_ (by kernel_rfl),no_ (by kernel_rfl),no_ (by kernel_rfl),no_ (by kernel_rfl),no_ (by kernel_rfl),no_ (by kernel_rfl),no_ (by kernel_rfl),no_ (by kernel_rfl),no_ (by kernel_rfl),no_ (by kernel_rfl),no_ (by kernel_rfl),no_ (by kernel_rfl),no_ (by kernel_rfl),no_ (by kernel_rfl),no_ (by kernel_rfl),no_ (by kernel_rfl),no_ (by kernel_rfl)⟩;have g_may_be_done:=bW 1 ["kinds","kind"] "may_be_done" 21 "stationrow.checks" 187 20 X G fun _ _ _ _ _ _=>ub2 fun _ _=>rfl;have g_names_of:=bW 3 ["tasks"] "names_of" 26 "stationrow.texts" 197 25 X G fun _ _ _ _ _ _=>ub1 fun _=>rfl;have g_load_of:=bW 5 ["works","tasks"] "load_of" 31 "stationrow.dealings" 205 30 X G fun _ _ _ _ _ _=>ub2 fun _ _=>rfl;have g_loads_of:=bW 6 ["works","dealing"] "loads_of" 36 "stationrow.dealings" 205 35 X G fun _ _ _ _ _ _=>ub2 fun _ _=>rfl;have g_texts_of:=bW 7 ["dealing"] "texts_of" 43 "stationrow.dealings" 205 42 X G fun _ _ _ _ _ _=>ub1 fun _=>rfl;have g_stands_of:=bW 8 ["dealing"] "stands_of" 50 "stationrow.dealings" 205 49 X G fun _ _ _ _ _ _=>ub1 fun _=>rfl;have g_number_fault:=bW 9 ["works","dealing"] "number_fault" 57 "stationrow.dealings" 205 56 X G fun _ _ _ _ _ _=>ub2 fun _ _=>rfl;have g_strange_fault:=bW 10 ["works","dealing"] "strange_fault" 64 "stationrow.dealings" 205 63 X G fun _ _ _ _ _ _=>ub2 fun _ _=>rfl;have g_twice_fault:=bW 11 ["dealing"] "twice_fault" 71 "stationrow.dealings" 205 70 X G fun _ _ _ _ _ _=>ub1 fun _=>rfl;have g_lost_fault:=bW 12 ["works","dealing"] "lost_fault" 78 "stationrow.dealings" 205 77 X G fun _ _ _ _ _ _=>ub2 fun _ _=>rfl;have g_order_fault:=bW 13 ["works","dealing"] "order_fault" 85 "stationrow.dealings" 205 84 X G fun _ _ _ _ _ _=>ub2 fun _ _=>rfl;have g_pair_fault:=bW 14 ["works","dealing"] "pair_fault" 92 "stationrow.dealings" 205 91 X G fun _ _ _ _ _ _=>ub2 fun _ _=>rfl;have g_kind_fault:=bW 15 ["works","dealing"] "kind_fault" 97 "stationrow.dealings" 205 96 X G fun _ _ _ _ _ _=>ub2 fun _ _=>rfl;have g_beat_fault:=bW 16 ["works","beat","dealing"] "beat_fault" 104 "stationrow.dealings" 205 103 X G fun _ _ _ _ _ _=>ub3 fun _ _ _=>rfl;have g_tasks_fault:=bW 17 ["works","dealing"] "tasks_fault" 111 "stationrow.dealings" 205 110 X G fun _ _ _ _ _ _=>ub2 fun _ _=>rfl;have g_fault_of:=bW 18 ["works","beat","dealing"] "fault_of" 118 "stationrow.dealings" 205 117 X G fun _ _ _ _ _ _=>ub3 fun _ _ _=>rfl;have g_numbers:=bW 20 ["_law_script"] "_law_numbers" 125 mlw 333 124 X G fun _ _ _ _ _ _=>ub1 fun _=>rfl;have g_draw:=bW 21 ["_law_deck","_law_most"] "_law_draw" 132 mlw 333 131 X G fun _ _ _ _ _ _=>ub2 fun _ _=>rfl;have g_great:=bW 22 ["_law_deck","_law_most"] "_law_great" 139 mlw 333 138 X G fun _ _ _ _ _ _=>ub2 fun _ _=>rfl;have g_free_name:=bW 23 ["_law_size","_law_number","_law_names_here"] "_law_free_name" 146 mlw 333 145 X G fun _ _ _ _ _ _=>ub3 fun _ _ _=>rfl;have g_names:=bW 24 ["_law_deck","_law_many"] "_law_names" 151 mlw 333 150 X G fun _ _ _ _ _ _=>ub2 fun _ _=>rfl;have g_turn:=bW 25 ["_law_deck","_law_things"] "_law_turn" 158 mlw 333 157 X G fun _ _ _ _ _ _=>ub2 fun _ _=>rfl;have g_lengths:=bW 26 ["_law_deck","_law_many"] "_law_lengths" 163 mlw 333 162 X G fun _ _ _ _ _ _=>ub2 fun _ _=>rfl;have g_chained:=bW 27 ["_law_many","_law_edges"] "_law_chained" 168 mlw 333 167 X G fun _ _ _ _ _ _=>ub2 fun _ _=>rfl;have g_pairs:=bW 28 ["_law_deck","_law_names_here","_law_orders","_law_lots"] "_law_pairs" 173 mlw 333 172 X G fun _ _ _ _ _ _=>ub4 fun _ _ _ _=>rfl;have g_some_kinds:=bW 29 ["_law_deck","_law_common","_law_names_here"] "_law_some_kinds" 178 mlw 333 177 X G fun _ _ _ _ _ _=>ub3 fun _ _ _=>rfl;have g_kinds:=bW 30 ["_law_deck","_law_row","_law_names_here","_law_table"] "_law_kinds" 183 mlw 333 182 X G fun _ _ _ _ _ _=>ub4 fun _ _ _ _=>rfl;have g_works:=bW 31 ["_law_deck","_law_most","_law_stands"] "_law_works" 188 mlw 333 187 X G fun _ _ _ _ _ _=>ub3 fun _ _ _=>rfl;have g_beat:=bW 32 ["_law_deck","_law_works_here"] "_law_beat" 193 mlw 333 192 X G fun _ _ _ _ _ _=>ub2 fun _ _=>rfl;have g_flat:=bW 33 ["_law_dealing_here"] "_law_flat" 200 mlw 333 199 X G fun _ _ _ _ _ _=>ub1 fun _=>rfl;have g_names_fault:=bW 34 ["_law_names_here","_law_flat_here"] "_law_names_fault" 207 mlw 333 206 X G fun _ _ _ _ _ _=>ub2 fun _ _=>rfl;have g_at:=bW 35 ["_law_dealing_here"] "_law_at" 214 mlw 333 213 X G fun _ _ _ _ _ _=>ub1 fun _=>rfl;have g_laid_fault:=bW 36 ["_law_works_here","_law_beat_here","_law_dealing_here"] "_law_laid_fault" 219 mlw 333 218 X G fun _ _ _ _ _ _=>ub3 fun _ _ _=>rfl;have g_fault:=bW 37 ["_law_works_here","_law_beat_here","_law_dealing_here"] "_law_fault" 224 mlw 333 223 X G fun _ _ _ _ _ _=>ub3 fun _ _ _=>rfl;have g_settled:=bW 38 ["_law_works_here","_law_at_here"] "_law_settled" 231 mlw 333 230 X G fun _ _ _ _ _ _=>ub2 fun _ _=>rfl;have g_dealing:=bW 39 ["_law_deck","_law_works_here"] "_law_dealing" 236 mlw 333 235 X G fun _ _ _ _ _ _=>ub2 fun _ _=>rfl;have g_loads:=bW 40 ["_law_works_here","_law_dealing_here"] "_law_loads" 241 mlw 333 240 X G fun _ _ _ _ _ _=>ub2 fun _ _=>rfl;have g_same:=bW 41 ["_law_one","_law_other"] "_law_same" 246 mlw 333 245 X G fun _ _ _ _ _ _=>ub2 fun _ _=>rfl;have g_law:=bW 42 ["_law_script"] "law" 251 mlw 333 250 X G fun _ _ _ _ _ _=>ub1 fun _=>rfl;refine⟨fnOf "law" "law" (cH (top 42)) (b7 (top 42)) (aB (top 42)) .none .none .none (.str mlw 333) none (.ref 250) .none,fun s v=>.of_eq rfl,fun base _ _=>?_⟩;have F_numbers:=rQ (P:=l.prog) (w:=w) (base:=base) g_numbers B;have F_draw:=CP (P:=l.prog) (w:=w) (base:=base) g_draw B;have F_free_name:=oh (P:=l.prog) (w:=w) (base:=base) g_free_name B;have F_names:=za g_names B F_draw F_free_name;have F_turn:=CQ g_turn B F_draw;have F_chained:=rO (P:=l.prog) (w:=w) (base:=base) g_chained B;have F_pairs:=yX g_pairs B F_turn F_draw F_chained;have F_some_kinds:=kY g_some_kinds B F_turn F_draw;have F_kinds:=yZ g_kinds B F_draw F_some_kinds;have F_great:=zf g_great B F_draw;have F_lengths:=rP g_lengths B F_draw F_great
 have F_works:=zb g_works B F_names F_draw F_turn F_pairs F_kinds F_lengths;have F_settled:=rR (P:=l.prog) (w:=w) (base:=base) g_settled B;have F_dealing:=rT g_dealing B (uB F_draw) F_settled (Cu F_turn);have F_loads:=zj (P:=l.prog) (w:=w) (base:=base) g_loads B;have F_beat:=CV g_beat B (uB F_draw) (yS F_great);have F_names_fault:=kh (P:=l.prog) (w:=w) (base:=base) g_names_fault B;have F_flat:=CW (P:=l.prog) (w:=w) (base:=base) g_flat B;have F_at:=O1 (P:=l.prog) (w:=w) (base:=base) g_at B;have F_laid_fault:=lu g_laid_fault B F_at
 have F_fault:=zp g_fault B F_names_fault F_flat F_laid_fault;have F_number_fault:=jD (P:=l.prog) (w:=w) (base:=base) g_number_fault B;have F_names_of:=qm (P:=l.prog) (w:=w) (base:=base) g_names_of B;have F_texts_of:=qj (P:=l.prog) (w:=w) (base:=base) g_texts_of B;have F_strange_fault:=jm g_strange_fault B F_names_of F_texts_of;have F_twice_fault:=j6 g_twice_fault B F_texts_of;have F_stands_of:=oG (P:=l.prog) (w:=w) (base:=base) g_stands_of B;have F_lost_fault:=kZ g_lost_fault B F_stands_of F_names_of;have F_tasks_fault:=j9 g_tasks_fault B F_number_fault F_strange_fault F_twice_fault F_lost_fault;have F_order_fault:=j7 g_order_fault B F_stands_of;have F_pair_fault:=lg g_pair_fault B F_stands_of;have F_may_be_done:=j5 (P:=l.prog) (w:=w) (base:=base) g_may_be_done B;have F_kind_fault:=lr g_kind_fault B F_may_be_done;have F_load_of:=rY (P:=l.prog) (w:=w) (base:=base) g_load_of B;have F_loads_of:=qt g_loads_of B F_load_of;have F_beat_fault:=lq g_beat_fault B F_loads_of;have F_fault_of:=qw g_fault_of B F_tasks_fault F_order_fault F_pair_fault F_kind_fault F_beat_fault;have S1:=uE (P:=l.prog) (w:=w) (base:=base) (d:=0) g_same B ⟨_,_,g_same,pI fun ts H Q ⟨t,h,_⟩=>h rfl⟩;have F_same:=uE g_same B S1;exact JN g_law B F_numbers F_works F_dealing F_loads F_beat F_fault F_fault_of F_same
theorem walk {l:PySem.W.OpenLaw}{q:Program}{loose:List Str}{XP:(Str->Option Value)->Heap->Prop}{YP:World->Heap->Prop}{d:DefRec}{K:Params->Frag}(hn:l.most=some 63) (hdf:d.params.defaults=[])
  (hY:∀(w:World) (h:Heap),YP w h->(K w.params).In h) (hNL:∀w:World,zq (K w.params)=true)
  (F:∀(w:World) (mg:Str->Option Value) (fa:Addr) (h:Heap),(K w.params).In h->h.Ns mainGlobals mg->mg d.name=some (.ref fa) ->
   ∃fd:FuncData,(∀(s:Shared) (u:Value),BindsTo s fd ⟨[u],[]⟩ [("_law_script",u)])/\∀base:Heap,(K w.params).In base->base.Ns mainGlobals mg->FnOk3 l.prog w (K w.params) mg base 6 fa fd ["_law_script"] uC) :
  PySem.W.WalkO q loose XP YP l.row.toRowW d [] (fun f vs=>PySem.call f vs):=by
 refine L2.walk_of (n:=63) (k:=6) (x:="_law_script") (CX:=fun _=>CX0) (sp:=fun w=>wM (K w.params) uC) hn (by decide) hdf ⟨rfl,by decide,by decide,rfl⟩ hY F (fun w H a ns hl hO hS=>?_) fun _ _ _ _ _ z=>z;refine⟨[.ref a],fun b=>if b=a then some (.rol (ns.map T.int)) else none,fun t _=>t=.bl true,.cons .ofRef .nil,fun b o e=>?_,⟨a,ns,rfl,if_pos rfl,hl,fun _=>rfl⟩,fun v H' t H3' _ _ r q=>?_⟩
 ·dsimp only at e;by_cases hb:b=a
  ·rw[if_pos hb] at e;cases e;subst hb;rcases hS with hS | ⟨o,its,n,hk,hc,_⟩
   ·refine⟨_,hS,?_⟩;have:∀ms:List Int,Reps (K w.params) H (ms.map T.int) (ms.map V.int):=fun ms=>by
     induction ms with
     |nil=>exact .nil
     |cons m r ih=>exact .cons .ofInt ih
    exact this ns
   exact absurd hc (vH (hNL w) hk)
  rw[if_neg hb] at e;cases e
 subst q;exact r.bl
end M
open PySem PySem.W PyProof.Rows
set_option maxRecDepth 100000 in
set_option maxHeartbeats 0 in
theorem PySem.Challenge.cw_stationrow_k30_dealings_right_or_not_holds : PySem.Challenge.rw_stationrow_k30_dealings_right_or_not.Holds := by
 refine holds_law (by kernel_rfl) fun said=>?_;refine holds_open (d:=M.dv) (kwd:=[]) (q:=M.qv) (loose:=[]) (Xt:=fun s=>xlAt M.qv [] s&&recOk (RowW.records (OpenLaw.row PySem.Challenge.rw_stationrow_k30_dealings_right_or_not).toRowW) s) (XP:=XL M.qv []) (Yf:=Hook.obs M.HK) (Ya:=Hook.val M.HK) (YP:=Hook.says M.HK) (N:=2484) M.left (Hook.of M.HK) (Hook.keeps M.HK) (fun s e=>xl_of s (Bool.and_eq_true_iff.mp e).1) XL.keeps (by kernel_rfl) (by kernel_rfl) (by kernel_rfl) (fun s e=>recFacts_of (Bool.and_eq_true_iff.mp e).2) (by kernel_rfl) (by first | assumption | kernel_rfl) (by kernel_rfl) ⟨rfl,rfl,rfl,rfl,rfl,by decide +kernel⟩ ?hw ?hc
 case hw=>w_witness2
 case hc=>exact M.walk (l:=PySem.Challenge.rw_stationrow_k30_dealings_right_or_not) rfl rfl (fun w h Y=>kIn_of Y) (fun w=>by kernel_rfl) fun w mg fa h KX G hmg=>M.all_ok KX G hmg
#print axioms PySem.Challenge.cw_stationrow_k30_dealings_right_or_not_holds
