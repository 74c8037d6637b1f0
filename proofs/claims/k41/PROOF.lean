import PyProof.Rows.All
import PyProof.EqAt
import PyProof.EqKinds
import PyProof.TupleCall
import PyProof.NeKinds
import PyProof.StrWalks
import PyProof.Rows.SetFrom
import PyProof.WalksMore
import KE.KIntText
import PyProof.EnumMake
import PyProof.WalkInts
import PyProof.ReprRoads
import PyProof.ReprLen
import KE.KRevIter
import KE.KRevSl
import PyProof.StrCalls
import PyProof.Rows.StrFit
import KE.KDictOf
import PyProof.AttrMissHeap
import PyProof.DictItems
import KE.KDictLaws
import KE.KSortTup
import KE.KDictList
import PyProof.StrLawsTight
import PyProof.StrLawsNeg
import Wide.Line
import OpenK.KOwn
import KE.KFromBytes
import KE.KItem
import KE.KIsAll
import PySem.Challenge.RW_stationrow_k41_a_dealing_that_is_there
open PySem.W (Frag InstAt LeftO callWith_K cellsFrom_some codeIn emptyDict findIn fnOf handedIn hasDictIn instObj isFn kHook keepIn kia_one kitOne kitx_dict kitx_list kitx_tuple lookIn makesIn methodObj mg_of mroIn nsIn plainGet plainGet_of plainOver recOk takerIn typeIn xlAt)
noncomputable section
open PySem PySem.Spec PyProof.Rows
set_option Elab.async false
set_option linter.all false
set_option maxRecDepth 100000
namespace L2
def bM (s:Stmt):Arguments:=match s with
 |.FunctionDef _ a _ _ _ _ _ _ _ _=>a
 |_=>{ posonlyargs:=[],args:=[],vararg:=none,kwonlyargs:=[],kw_defaults:=[],kwarg:=none,defaults:=[]}
def bB (s:Stmt):List Stmt:=match s with
 |.FunctionDef _ _ b _ _ _ _ _ _ _=>b
 |_=>[]
def aA (s:Stmt):Scope:=match s with
 |.FunctionDef _ _ _ _ _ _ sc _ _ _=>sc
 |_=>{ kind:=.function,names:=[],isGenerator:=false,isCoroutine:=false}
end L2
namespace M
open L2
def dealt (ns:List Str) (f:Str->Nat) (m:Nat):List (List Str):=(List.range m).map fun k=>ns.filter fun n=>decide (f n=k)
def top (i:Nat):Stmt:=PySem.Challenge.pw_stationrow_k41_a_dealing_that_is_there.main.body.getD i (.Pass ⟨0,0,0,0⟩)
def Hi:Stmt->List Stmt
 |.ClassDef _ _ _ body _ _ _ _ _ _ _=>body
 |_=>[]
def topm (i j:Nat):Stmt:=(Hi (top i)).getD j (.Pass ⟨0,0,0,0⟩)
def qv:Program:={ PySem.Challenge.pw_stationrow_k41_a_dealing_that_is_there with main:={ PySem.Challenge.pw_stationrow_k41_a_dealing_that_is_there.main with body:=([0,2,3,4,5,6,7,8,9,11,13,15,16,18,19,20,21,22,24,25,27,28,30,31,32,33,34,35,36,37,38,39,40,41,42]:List Nat).map top}}
def en (P:Params) (n:Str) (t:Nat) (v:Value):DictEntry:=⟨PyData.keyHash P n,.str n t,v⟩
def cO (n:Str) (c:Nat) (b:Bool) (a j l k:Nat):Obj:=⟨.type "code",none,.fields #[.str n a,.str n (a+1),.str "/claim/cut.py" (a+2),.int l 0,.int k 0,.int 0 0,.int 0 0,.int 3 0,.ref (c - (bif b then 5 else 3)),.bool true,.int 181 0,.ref (c - (bif b then 4 else 2)),.none,bif b then .ref (c - 3) else .none,bif b then .ref (c - 2) else .none,.ref (c - 1),.int j 0,.int l 0,.str "/claim/cut.py" (j+1)],#[]⟩
def fO (i:Nat) (n m:Str) (t c:Nat):Obj:=⟨.type "function",none,.func (fnOf n n (bM (top i)) (bB (top i)) (aA (top i)) .none .none .none (.str m t) none (.ref c) .none),#[]⟩
abbrev mlw:Str := "law_stationrow_k41_a_dealing_that_is_there"
def fx (i:Nat) (n m:Str) (t c:Nat) (b:Bool) (a j l k:Nat):(Params->DictEntry) × Frag:=(fun P=>en P n (j+2) (.ref (c+1)),[(c,cO n c b a j l k),(c+1,fO i n m t c)])
def TB:List ((Params->DictEntry) × Frag):=[fx 0 "_wall" "__main__" 164 20 true 187 191 1 1,
 fx 2 "links_of" "stationrow.chains" 194 27 true 196 204 5 1,
 fx 3 "reached" "stationrow.chains" 194 34 true 207 216 12 2,
 fx 4 "led_to" "stationrow.chains" 194 41 true 219 224 22 2,
 fx 5 "led_from" "stationrow.chains" 194 46 false 227 230 24 2,
 fx 6 "in_both" "stationrow.chains" 194 51 false 233 236 26 3,
 fx 7 "in_first_alone" "stationrow.chains" 194 56 false 239 242 28 3,
 fx 8 "group_of" "stationrow.chains" 194 63 true 245 250 30 2,
 fx 9 "ahead_of" "stationrow.chains" 194 70 true 253 258 32 2,
 fx 11 "may_be_done" "stationrow.checks" 261 77 true 263 268 35 2,
 fx 13 "names_of" "stationrow.texts" 271 82 false 273 276 38 1,
 fx 15 "number_of" "stationrow.sets" 279 89 true 281 289 41 2,
 fx 16 "tasks_of" "stationrow.sets" 279 96 true 292 300 49 2,
 fx 18 "apart_from" "stationrow.fillings" 303 101 false 305 308 58 2,
 fx 19 "rules_of" "stationrow.fillings" 303 108 true 311 323 60 1,
 fx 20 "has_all" "stationrow.fillings" 303 115 true 326 331 69 2,
 fx 21 "is_filling_number" "stationrow.fillings" 303 122 true 334 349 71 5,
 fx 22 "greatest_numbers" "stationrow.fillings" 303 127 false 352 355 83 1,
 fx 24 "parts_of" "stationrow.walks" 358 132 false 360 363 90 1,
 (fun P=>en P "Walk" 427 (.ref 174),[]),
 fx 27 "ways_behind" "stationrow.dealt" 428 184 true 430 440 122 3,
 fx 28 "dealing_to" "stationrow.dealt" 428 191 true 443 452 128 3,
 fx 30 "_law_cell" mlw 455 198 true 457 467 137 2,
 fx 31 "_law_word" mlw 455 205 true 470 478 149 1,
 fx 32 "_law_unlike" mlw 455 212 true 481 488 157 1,
 fx 33 "_law_pool" mlw 455 219 true 491 497 165 1,
 fx 34 "_law_task" mlw 455 226 true 500 516 171 4,
 fx 35 "_law_links" mlw 455 231 false 519 522 190 3,
 fx 36 "_law_works" mlw 455 236 false 525 528 215 3,
 fx 37 "_law_loads" mlw 455 243 true 531 539 232 2,
 fx 38 "_law_beat" mlw 455 248 false 542 545 237 3,
 fx 39 "_law_drawn" mlw 455 255 true 548 556 244 3,
 fx 40 "_law_right" mlw 455 260 false 559 562 247 3,
 fx 41 "_law_is_dealing" mlw 455 265 false 565 568 268 4,
 fx 42 "law" mlw 455 272 true 571 584 278 1]
def wcO (C N t u:Nat):Obj:=⟨.type "type",none,.cls { name:="Walk",bases:=[.type "object"],mro:=[.ref C,.type "object"],ns:=N,qualname:="Walk"},#[none,none,some (.str "Walk" t),some (.str "Walk" u),some (.builtin "object.__new__"),some (.bool true)]⟩
def nsO (P:Params) (es:List (Str × Nat × Value)) (k:Nat):Obj:=⟨.type "dict",none,.dict (es.map fun e=>en P e.1 e.2.1 e.2.2).toArray k,#[]⟩
def cQ (n q:Str) (c:Nat) (b:Bool) (a j l k:Nat):Obj:=⟨.type "code",none,.fields #[.str n a,.str q (a+1),.str "/claim/cut.py" (a+2),.int l 0,.int k 0,.int 0 0,.int 0 0,.int 3 0,.ref (c - (bif b then 5 else 3)),.bool true,.int 181 0,.ref (c - (bif b then 4 else 2)),.none,bif b then .ref (c - 3) else .none,bif b then .ref (c - 2) else .none,.ref (c - 1),.int j 0,.int l 0,.str "/claim/cut.py" (j+1)],#[]⟩
def fQ (st:Stmt) (n q m:Str) (t c:Nat):Obj:=⟨.type "function",none,.func (fnOf n q (bM st) (bB st) (aA st) .none .none .none (.str m t) none (.ref c) .none),#[]⟩
def KC (P:Params):Frag:=[(146,cQ "__init__" "Walk.__init__" 146 true 378 384 100 3),
 (147,fQ (topm 25 0) "__init__" "Walk.__init__" "stationrow.walks" 358 146),
 (151,cQ "fillings_at" "Walk.fillings_at" 151 false 387 390 106 3),
 (152,fQ (topm 25 1) "fillings_at" "Walk.fillings_at" "stationrow.walks" 358 151),
 (158,cQ "greatest_at" "Walk.greatest_at" 158 true 393 399 113 3),
 (159,fQ (topm 25 2) "greatest_at" "Walk.greatest_at" "stationrow.walks" 358 158),
 (170,cQ "dealing_of" "Walk.dealing_of" 170 false 410 413 119 2),
 (171,fQ (topm 25 4) "dealing_of" "Walk.dealing_of" "stationrow.walks" 358 170),
 (173,nsO P [("__module__",373,.str "stationrow.walks" 358),("__firstlineno__",377,.int 98 376),("__init__",386,.ref 147),("fillings_at",392,.ref 152),("greatest_at",401,.ref 159),("load_at",409,.ref 166),("dealing_of",415,.ref 171),("__static_attributes__",420,.ref 172),("__dict__",422,.ref 175),("__weakref__",424,.ref 176),("__doc__",425,.none)] 4),
 (174,wcO 174 173 366 374)]
def KK (P:Params):Frag:=(3,⟨.type "dict",none,.dict ([en P "__name__" 165 (.str mlw 455),
 en P "__doc__" 166 .none,
 en P "__package__" 167 .none,
 en P "__loader__" 168 (.builtin "__main__.__loader__#opaque"),
 en P "__spec__" 169 .none,
 en P "__annotations__" 170 (.ref 6),
 en P "__builtins__" 171 (.ref 4),
 en P "__file__" 173 (.str "/claim/cut.py" 172),
 en P "__cached__" 174 .none]++TB.map fun r=>r.1 P).toArray 44,#[]⟩)::(TB.map fun r=>r.2).flatten++KC P
def HK:PySem.W.Hook:=kHook KK [3,20,21,27,28,34,35,41,42,46,47,51,52,56,57,63,64,70,71,77,78,82,83,89,90,96,97,101,102,108,109,115,116,122,123,127,128,132,133,184,185,191,192,198,199,205,206,212,213,219,220,226,227,231,232,236,237,243,244,248,249,255,256,260,261,265,266,272,273,146,147,151,152,158,159,170,171,173,174] (fun _=>by kernel_rfl)
theorem left:LeftO (PySem.W.OpenLaw.row PySem.Challenge.rw_stationrow_k41_a_dealing_that_is_there).prog qv [] (fun s=>xlAt qv [] s&&recOk (PySem.W.RowW.records (PySem.W.OpenLaw.row PySem.Challenge.rw_stationrow_k41_a_dealing_that_is_there).toRowW) s) (PySem.W.Hook.obs HK) (PySem.W.Hook.val HK) 3056:=by
 intro w;kernel_rfl
end M
namespace L2
abbrev Key:=Sum Int Str
def my:Key->Value->Bool
 |.inl k,v=>Value.isInt k v
 |.inr x,v=>Value.isStrOf x v
def T8 (w:World):Key->Int
 |.inl k=>hashInt k
 |.inr x=>hashStr w x
theorem bz:∀{k:Key}{v:Value},my k v=true->(∃i t,k=Sum.inl i/\v=Value.int i t)\/(∃x t,k=Sum.inr x/\v=Value.str x t)
 |.inl i,v,h=>by
  obtain⟨t,e⟩:=Value.isInt_shape (k:=i) (v:=v) h
  exact .inl ⟨i,t,rfl,e⟩
 |.inr x,v,h=>by
  obtain⟨t,e⟩:=Value.isStrOf_shape (x:=x) (v:=v) h
  exact .inr ⟨x,t,rfl,e⟩
theorem wB (i:Int) (t:Tok):my (.inl i) (.int i t)=true:=by simp [my,Value.isInt]
theorem wC (x:Str) (t:Tok):my (.inr x) (.str x t)=true:=by simp [my,Value.isStrOf]
theorem Jp (a b:Int):decide ((Sum.inl a:Key)=Sum.inl b)=(a==b):=by
 by_cases e:a=b
 ·subst e;simp
 have h:¬(Sum.inl a:Key)=Sum.inl b:=fun q=>e (Sum.inl.inj q);rw[decide_eq_false h];exact (beq_eq_false_iff_ne.mpr e).symm
theorem Jq (a b:Str):decide ((Sum.inr a:Key)=Sum.inr b)=decide (a=b):=by
 by_cases e:a=b
 ·subst e;simp
 have h:¬(Sum.inr a:Key)=Sum.inr b:=fun q=>e (Sum.inr.inj q);rw[decide_eq_false h,decide_eq_false e]
theorem Jr (a:Int) (b:Str):decide ((Sum.inl a:Key)=Sum.inr b)=false:=decide_eq_false (fun q=>nomatch q)
theorem Js (a:Str) (b:Int):decide ((Sum.inr a:Key)=Sum.inl b)=false:=decide_eq_false (fun q=>nomatch q)
def bj (prog:Program) (w:World):PySem.KeyKind prog w Key where
 is:=my
 hash:=T8 w
 inj:=fun v a b ha hb=>by
  rcases bz ha with ⟨i,t,rfl,rfl⟩ | ⟨x,t,rfl,rfl⟩
  ·
   rcases bz hb with ⟨j,u,rfl,e⟩ | ⟨y,u,rfl,e⟩
   ·
    injection e with e1 _;rw[e1]
   ·
    exact nomatch e
  ·
   rcases bz hb with ⟨j,u,rfl,e⟩ | ⟨y,u,rfl,e⟩
   ·
    exact nomatch e
   ·
    injection e with e1 _;rw[e1]
 byValue:=fun k v h=>by
  rcases bz h with ⟨i,t,rfl,rfl⟩ | ⟨x,t,rfl,rfl⟩ <;> rfl
 pyHash:=fun hv h=>by
  rcases bz hv with ⟨i,t,rfl,rfl⟩ | ⟨x,t,rfl,rfl⟩
  ·
   exact wpAny_pyHash_int h
  ·
   exact wpAny_pyHash_str h
 eqBool:=fun hu hv h=>by
  rcases bz hu with ⟨i,t,rfl,rfl⟩ | ⟨x,t,rfl,rfl⟩
  ·
   rcases bz hv with ⟨j,u,rfl,rfl⟩ | ⟨y,u,rfl,rfl⟩
   ·
    rw[Jp] at h;exact wpAny_eqBool_int h
   ·
    rw[Jr] at h;exact SeqAt.EqAt.int_str i t y u _ _ _ _ h
  ·
   rcases bz hv with ⟨j,u,rfl,rfl⟩ | ⟨y,u,rfl,rfl⟩
   ·
    rw[Js] at h;exact SeqAt.EqAt.str_int x t j u _ _ _ _ h
   ·
    rw[Jq] at h;exact wpAny_eqBool_str h
 «strs»:=fun k x t v h=>by
  rcases bz h with ⟨i,u,rfl,e⟩ | ⟨y,u,rfl,e⟩
  ·
   exact nomatch e
  ·
   injection e with e1 _
   subst e1
   cases v <;> rfl
theorem pH (prog:Program) (w:World) (i:Int) (t:Tok):(bj prog w).is (.inl i) (.int i t)=true:=wB i t
theorem pI (prog:Program) (w:World) (x:Str) (t:Tok):(bj prog w).is (.inr x) (.str x t)=true:=wC x t
inductive V where
 |non | bl (b:Bool) | int (i:Int) | str (x:Str) | byt (b:Array UInt8) | flt (b:UInt64) | ref (a:Addr) | ty (n:String)
 deriving DecidableEq
def RelV:V->Value->Prop
 |.non,u=>u=Value.none
 |.bl b,u=>u=Value.bool b
 |.int i,u=>∃t,u=Value.int i t
 |.str x,u=>∃t,u=Value.str x t
 |.byt b,u=>∃t,u=Value.bytes b t
 |.flt b,u=>∃t,u=Value.float b t
 |.ref a,u=>u=Value.ref a
 |.ty n,u=>u=Value.type n
abbrev Vals:List V->List Value->Prop:=Paired RelV
theorem Vals.length {xs:List V}{us:List Value}(r:Vals xs us):xs.length=us.length:=Paired.length r
theorem Vals.get:∀{xs:List V}{us:List Value}{i:Nat}{x:V},Vals xs us->xs[i]?=some x->∃u,us[i]?=some u/\RelV x u
 |_,_,_,_,.nil,e=>by simp at e
 |_,_,0,_,.cons r _,e=>by simp at e;subst e;exact⟨_,rfl,r⟩
 |_,_,i+1,x,.cons _ t,e=>by
  obtain⟨u,h1,h2⟩:=Vals.get (i:=i) (x:=x) t (by simpa using e)
  exact⟨u,by simpa using h1,h2⟩
theorem Vals.set {x:V}{u:Value}(r:RelV x u):∀{xs:List V}{us:List Value}(i:Nat),Vals xs us->Vals (xs.set i x) (us.set i u)
 |_,_,_,.nil=>.nil
 |_,_,0,.cons _ t=>.cons r t
 |_,_,i+1,.cons q t=>.cons q (Vals.set r i t)
theorem Vals.append:∀{xs ys:List V}{us ws:List Value},Vals xs us->Vals ys ws->Vals (xs++ys) (us++ws)
 |_,_,_,_,.nil,s=>s
 |_,_,_,_,.cons r t,s=>.cons r (Vals.append t s)
theorem Vals.take:∀{xs:List V}{us:List Value}(n:Nat),Vals xs us->Vals (xs.take n) (us.take n)
 |_,_,0,_=>.nil
 |_,_,_+1,.nil=>.nil
 |_,_,n+1,.cons r t=>.cons r (Vals.take n t)
theorem Vals.drop:∀{xs:List V}{us:List Value}(n:Nat),Vals xs us->Vals (xs.drop n) (us.drop n)
 |_,_,0,r=>r
 |_,_,_+1,.nil=>.nil
 |_,_,n+1,.cons _ t=>Vals.drop n t
theorem Vals.none_of:∀{xs:List V}{us:List Value}{i:Nat},Vals xs us->xs[i]?=none->us[i]?=none:=fun {xs us i} r e=>by
 have h1:=r.length;have h2:xs.length<=i:=List.getElem?_eq_none_iff.mp e;exact List.getElem?_eq_none_iff.mpr (by omega)
def RelO:Option V->Option Value->Prop
 |some v,some u=>RelV v u
 |none,none=>True
 |_,_=>False
def KV {κ:Type}:List (κ × V)->List (κ × Value)->Prop:=Paired fun (p:κ × V) (q:κ × Value)=>p.1=q.1/\RelV p.2 q.2
def kV:Key->V
 |.inl i=>.int i
 |.inr x=>.str x
inductive HO where
 |lst (xs:List V)
 |tup (xs:List V)
 |dK (kvs:List (Key × V)) | dT (kvs:List (List Key × V))
 |set (S:Int->Bool) (n:Nat)
 |ins (C dx:Addr) (fs:List (Str × V))
 |own (x:Addr)
 |xd (fs:List (Str × V))
 |met (f x:Addr)
 |rng (lo hi:Int)
 |frz (o:Obj) (u:HO)
 |tbl (ps:Array Value)
 |ext (φ:Heap->Prop)
abbrev Hp:=Addr->Option HO
def upd (H:Hp) (a:Addr) (o:HO):Hp:=fun b=>if b=a then some o else H b
theorem bJ {H:Hp}{a:Addr}{o:HO}:upd H a o a=some o:=by unfold upd;rw[if_pos rfl]
theorem aN {H:Hp}{a b:Addr}{o:HO}(h:b≠a):upd H a o b=H b:=by unfold upd;rw[if_neg h]
theorem O2 {H:Hp}{a b:Addr}{o u:HO}(h:H a=some o) (h':H b=some u) (d:o≠u):a≠b:=by
 intro e;subst e;rw[h] at h';exact d (Option.some.inj h')
theorem bR {H:Hp}{a b:Addr}{o:HO}(h:H a=some o) (h':H b=none):a≠b:=by
 intro e;subst e;rw[h] at h';cases h'
def Tup0 (h:Heap) (a:Addr) (items:Array Value):Prop:=∃o,h.get? a=some o/\o.cls=.type "tuple"/\∃n,o.data=.seq items n/\o.dict=none
theorem Tup0.is {h:Heap}{a:Addr}{items:Array Value}(x:Tup0 h a items):IsTup h a items:=by
 obtain⟨o,ho,hc,n,hd,_⟩:=x;exact⟨o,ho,hc,n,hd⟩
theorem Tup0.new (h:Heap) (items:Array Value):Tup0 (h.push { cls:=.type "tuple",data:=.seq items}) h.objs.size items:=⟨_,Heap.get?_push_size _ rfl,rfl,_,rfl,rfl⟩
section
variable (P:Program) (w:World)
def ObjOk (H:Hp) (h:Heap) (a:Addr):HO->Prop
 |.lst xs=>xs.length<=sizeLine/\∃(its:List Value) (n:Nat),Vals xs its/\h.get? a=some { cls:=.type "list",data:=.seq its.toArray n}
 |.tup xs=>xs.length<=sizeLine/\∃its:List Value,Vals xs its/\Tup0 h a its.toArray
 |.dK kvs=>kvs.length<=sizeLine/\(a==sysModules)=false/\∃vs,KV kvs vs/\h.DictOf (bj P w) a vs
 |.dT kvs=>kvs.length<=sizeLine/\(a==sysModules)=false/\∃xs:List (List Key × Addr × Value),
   Paired (fun (p:List Key × V) (q:List Key × Addr × Value)=>p.1=q.1/\H q.2.1=some (.tup (p.1.map kV))/\RelV p.2 q.2.2) kvs xs /\
   ∃o es ep,h.get? a=some o/\o.ExactDict/\o.data=.dict es ep/\es.toList=xs.map (entryOfKey (tupleKind (bj P w)))/\(xs.map (·.1)).Nodup
 |.set S n=>h.SetOf (intKind P w) a S n
 |.ins C dx fs=>H dx=some (.own a)/\fs.length<=1000/\dx≠a/\h.get? a=some (instObj C dx) /\
   ∃mA,h.Ns1 dx mA/\(∀f,RelO (fs.lookup f) (mA f))/\PySem.Within mA (fs.map (·.1))
 |.own _=>∃o,h.get? a=some o
 |.xd fs=>∃mA,h.Ns1 a mA/\∀f,RelO (fs.lookup f) (mA f)
 |.rng lo hi=>∃t u v,h.get? a=some { cls:=.type "range",data:=.fields #[.int lo t,.int hi u,.int 1 v]}
 |.frz o u=>h.get? a=some o/\ObjOk H h a u
 |.tbl ps=>h.get? a=some { cls:=.none,data:=.fields ps}
 |.met f x=>h.get? a=some (methodObj (.ref f) (.ref x))
 |.ext φ=>φ h/\(∃o,h.get? a=some o)/\∀h1 h2:Heap,φ h1->(∀o,h1.get? a=some o->h2.get? a=some o)->φ h2
def HOk (H:Hp) (h:Heap):Prop:=∀a o,H a=some o->ObjOk P w H h a o
end
section
variable {P:Program}{w:World}{H H':Hp}{h h':Heap}{a:Addr}{o:HO}
theorem ObjOk.lt (x:ObjOk P w H h a o):a<h.objs.size:=by
 cases o with
 |lst xs=>obtain⟨_,_,_,_,e⟩:=x;exact Heap.lt_size e
 |tup xs=>obtain⟨_,_,_,p⟩:=x;exact p.is.lt
 |dK kvs=>obtain⟨_,_,_,_,o,_,_,e,_⟩:=x;exact Heap.lt_size e
 |dT kvs=>obtain⟨_,_,_,_,o,_,_,e,_⟩:=x;exact Heap.lt_size e
 |set S n=>obtain⟨o,_,_,_,e,_⟩:=x;exact Heap.lt_size e
 |ins C dx fs=>obtain⟨_,_,_,e,_⟩:=x;exact Heap.lt_size e
 |own y=>obtain⟨_,e⟩:=x;exact Heap.lt_size e
 |xd fs=>obtain⟨_,⟨_,_,_,e,_⟩,_⟩:=x;exact Heap.lt_size e
 |rng lo hi=>obtain⟨_,_,_,e⟩:=x;exact Heap.lt_size e
 |frz ob u=>obtain⟨e,_⟩:=x;exact Heap.lt_size e
 |tbl ps=>exact Heap.lt_size (show h.get? a=some _ from x)
 |met f y=>exact Heap.lt_size (show h.get? a=some _ from x)
 |ext φ=>obtain⟨_,⟨_,e⟩,_⟩:=x;exact Heap.lt_size e
theorem Paired.mapP {α β:Type}{F G:α->β->Prop}:∀{l₁:List α}{l₂:List β},Paired F l₁ l₂->(∀a b,F a b->G a b)->Paired G l₁ l₂
 |_,_,.nil,_=>.nil
 |_,_,.cons r t,f=>.cons (f _ _ r) (Paired.mapP t f)
theorem ObjOk.stay (x:ObjOk P w H h a o) (k:∀b u,(b=a\/H b=some (.own a))->h.get? b=some u->h'.get? b=some u)
  (ho:∀b,H b=some (.own a)->H' b=some (.own a)) (ht:∀b xs,H b=some (.tup xs)->H' b=some (.tup xs)):ObjOk P w H' h' a o:=by
 induction o with
 |lst xs=>obtain⟨z,its,n,r,e⟩:=x;exact⟨z,its,n,r,k _ _ (.inl rfl) e⟩
 |tup xs=>obtain⟨z,its,r,ob,e,c⟩:=x;exact⟨z,its,r,ob,k _ _ (.inl rfl) e,c⟩
 |dK kvs=>obtain⟨z,y,vs,r,ob,es,ep,e,c⟩:=x;exact⟨z,y,vs,r,ob,es,ep,k _ _ (.inl rfl) e,c⟩
 |dT kvs=>obtain⟨z,y,xs,r,ob,es,ep,e,c⟩:=x;exact⟨z,y,xs,Paired.mapP r fun p q z=>⟨z.1,ht _ _ z.2.1,z.2.2⟩,ob,es,ep,k _ _ (.inl rfl) e,c⟩
 |set S n=>obtain⟨ob,es,ep,t,e,c⟩:=x;exact⟨ob,es,ep,t,k _ _ (.inl rfl) e,c⟩
 |ins C dx fs=>obtain⟨d,z,ne,e,mA,⟨od,es,ep,e2,c⟩,r⟩:=x;exact⟨ho _ d,z,ne,k _ _ (.inl rfl) e,mA,⟨od,es,ep,k _ _ (.inr d) e2,c⟩,r⟩
 |own y=>obtain⟨ob,e⟩:=x;exact⟨ob,k _ _ (.inl rfl) e⟩
 |xd fs=>obtain⟨mA,⟨od,es,ep,e,c⟩,r⟩:=x;exact⟨mA,⟨od,es,ep,k _ _ (.inl rfl) e,c⟩,r⟩
 |rng lo hi=>obtain⟨t,u,v,e⟩:=x;exact⟨t,u,v,k _ _ (.inl rfl) e⟩
 |frz ob u ih=>obtain⟨e,q⟩:=x;exact⟨k _ _ (.inl rfl) e,ih q⟩
 |tbl ps =>
  have e:h.get? a=some { cls:=.none,data:=.fields ps}:=x
  show h'.get? a=some { cls:=.none,data:=.fields ps}
  exact k a _ (.inl rfl) e
 |met f y =>
  have e:h.get? a=some (methodObj (.ref f) (.ref y)):=x
  show h'.get? a=some (methodObj (.ref f) (.ref y))
  exact k a _ (.inl rfl) e
 |ext φ=>obtain⟨p,⟨o,e⟩,st⟩:=x;exact⟨st _ _ p fun o q=>k _ _ (.inl rfl) q,⟨o,k _ _ (.inl rfl) e⟩,st⟩
theorem HOk.lt (x:HOk P w H h) (e:H a=some o):a<h.objs.size:=(x a o e).lt
theorem HOk.fresh (x:HOk P w H h) (e:h.objs.size<=a):H a=none:=by
 cases q:H a with
 |none=>rfl
 |some u=>exact absurd (Nat.lt_of_lt_of_le (x.lt q) e) (Nat.lt_irrefl _)
theorem HOk.kept (x:HOk P w H h) (k:∀b u,h.get? b=some u->h'.get? b=some u):HOk P w H h':=fun a o e =>
 (x a o e).stay (fun b u _ q=>k b u q) (fun _ q=>q) fun _ _ q=>q
theorem HOk.laid (x:HOk P w H h) (k:∀b u,h.get? b=some u->h'.get? b=some u) (hp:h.objs.size<=a) (new:ObjOk P w (upd H a o) h' a o):HOk P w (upd H a o) h':=fun b u e=>by
 have hn:=x.fresh hp;by_cases hb:b=a
 ·subst hb;rw[bJ] at e;cases e;exact new
 rw[aN hb] at e;exact (x b u e).stay (fun c v _ q=>k c v q) (fun c q=>by rw[aN (bR q hn)];exact q) fun c xs q=>by rw[aN (bR q hn)];exact q
end
def Rd (H:Hp) (a:Addr) (u:HO):Prop:=H a=some u\/∃o,H a=some (.frz o u)
theorem Rd.of {H:Hp}{a:Addr}{u:HO}(h:H a=some u):Rd H a u:=.inl h
theorem Rd.ok {P:Program}{w:World}{H:Hp}{h:Heap}{a:Addr}{u:HO}(r:Rd H a u) (x:HOk P w H h):ObjOk P w H h a u:=by
 rcases r with r | ⟨o,r⟩
 ·exact x a u r
 obtain⟨_,q⟩:=x a _ r;exact q
def Mut:Option HO->Prop
 |some (.lst _)=>True
 |some (.dK _)=>True
 |some (.dT _)=>True
 |some (.set _ _)=>True
 |some (.ins _ _ _)=>True
 |some (.ext _)=>True
 |_=>False
section
variable {P:Program}{w:World}{H:Hp}{h h':Heap}{x e:Addr}{o':HO}
theorem HOk.write (ok:HOk P w H h) (mu:Mut (H x)) (he:e=x\/H e=some (.own x)) (k:∀b u,b≠e->h.get? b=some u->h'.get? b=some u) (heo:∃u,h'.get? e=some u)
  (new:ObjOk P w (upd H x o') h' x o'):HOk P w (upd H x o') h':=fun b u q=>by
 have nown:∀c y,H c=some (.own y)->c≠x:=fun c y r z=>by subst z;rw[r] at mu;exact mu
 have ntup:∀c xs,H c=some (.tup xs)->c≠x:=fun c xs r z=>by subst z;rw[r] at mu;exact mu
 by_cases hb:b=x
 ·subst hb;rw[bJ] at q;cases q;exact new
 rw[aN hb] at q;by_cases hbe:b=e
 ·have q':H b=some (.own x):=by
   rcases he with z | z
   ·exact absurd (hbe.trans z) hb
   rw[hbe];exact z
  rw[q] at q';cases q';obtain⟨v,hv⟩:=heo;exact⟨v,by rw[hbe];exact hv⟩
 refine (ok b u q).stay (fun c v hc r=>k c v ?_ r) (fun c r=>by rw[aN (nown c b r)];exact r) fun c xs r=>by rw[aN (ntup c xs r)];exact r
 rcases hc with rfl | hc
 ·exact hbe
 rintro rfl;rcases he with z | z
 ·exact nown c b hc z
 rw[hc] at z;cases z;exact hb rfl
end
structure Un (fs ex:List Addr) (H H':Hp) (h h':Heap):Prop where
 keep:∀b o,h.get? b=some o->H b=none->b∉fs->b∉ex->h'.get? b=some o
 slot:∀b o,h.get? b=some o->H b=none->b∈fs->b∉ex->∃sl,h'.get? b=some { o with slots:=sl}
 free:∀b o,h.get? b=some o->H b=none->b∉ex->H' b=none
 there:∀b o,h.get? b=some o->b∉ex->∃o',h'.get? b=some o'
 tups:∀b xs,H b=some (.tup xs)->H' b=some (.tup xs)
 frzs:∀b o u,H b=some (.frz o u)->H' b=some (.frz o u)
 tbls:∀b ps,H b=some (.tbl ps)->∃more,H' b=some (.tbl (ps++more))
section
variable {fs fs' ex ex':List Addr}{H H1 H2:Hp}{h h1 h2 h':Heap}{a x e:Addr}{o:HO}
theorem Un.any (u:Un fs ex H H1 h h1) {b:Addr}{ob:Obj}(q:h.get? b=some ob) (n:H b=none) (hx:b∉ex):∃sl,h1.get? b=some { ob with slots:=sl}:=by
 by_cases hb:b∈fs
 ·exact u.slot b ob q n hb hx
 exact⟨ob.slots,u.keep b ob q n hb hx⟩
theorem Un.trans (a:Un fs ex H H1 h h1) (b:Un fs ex H1 H2 h1 h2):Un fs ex H H2 h h2 where
 keep:=fun c ob q n hc hx=>b.keep c ob (a.keep c ob q n hc hx) (a.free c ob q n hx) hc hx
 slot:=fun c ob q n hc hx=>by
  obtain⟨sl,e1⟩:=a.slot c ob q n hc hx
  obtain⟨sl',e2⟩:=b.slot c _ e1 (a.free c ob q n hx) hc hx
  exact⟨sl',e2⟩
 free:=fun c ob q n hx=>by
  obtain⟨o',e1⟩:=a.there c ob q hx
  exact b.free c o' e1 (a.free c ob q n hx) hx
 there:=fun c ob q hx=>by
  obtain⟨o',e1⟩:=a.there c ob q hx
  exact b.there c o' e1 hx
 tups:=fun c xs q=>b.tups c xs (a.tups c xs q)
 frzs:=fun c ob xs q=>b.frzs c ob xs (a.frzs c ob xs q)
 tbls:=fun c ps q=>by
  obtain⟨m1,e1⟩:=a.tbls c ps q
  obtain⟨m2,e2⟩:=b.tbls c _ e1
  exact⟨m1++m2,by rw[e2,Array.append_assoc]⟩
theorem Un.kept (k:∀b u,h.get? b=some u->h'.get? b=some u):Un fs ex H H h h' :=
 ⟨fun b ob q _ _ _=>k b ob q,fun b ob q _ _ _=>⟨ob.slots,k b ob q⟩,fun _ _ _ n _=>n,fun b ob q _=>⟨ob,k b ob q⟩,fun _ _ q=>q,fun _ _ _ q=>q,fun _ ps q=>⟨#[],by rw[q];simp⟩⟩
theorem Un.refl:Un fs ex H H h h:=Un.kept fun _ _ q=>q
theorem Un.laid (k:∀b u,h.get? b=some u->h'.get? b=some u) (hp:h.objs.size<=a) (hn:H a=none):Un fs ex H (upd H a o) h h' where
 keep:=fun b u q _ _ _=>k b u q
 slot:=fun b u q _ _ _=>⟨u.slots,k b u q⟩
 free:=fun b u q n _=>by rw[aN (Nat.ne_of_lt (Nat.lt_of_lt_of_le (Heap.lt_size q) hp))];exact n
 there:=fun b u q _=>⟨u,k b u q⟩
 tups:=fun b xs q=>by rw[aN (bR q hn)];exact q
 frzs:=fun b u xs q=>by rw[aN (bR q hn)];exact q
 tbls:=fun b ps q=>⟨#[],by rw[aN (bR q hn),q];simp⟩
theorem Un.write (mu:Mut (H x)) (he:e=x\/H e=some (.own x)) (k:∀b u,b≠e->h.get? b=some u->h'.get? b=some u) (heo:∃u,h'.get? e=some u):Un fs ex H (upd H x o) h h':=by
 have hx:∀b,H b=none->b≠x:=fun b n z=>by subst z;rw[n] at mu;exact mu
 have hb:∀b,H b=none->b≠e:=fun b n z=>by
  subst z;rcases he with r | r
  ·exact hx b n r
  rw[n] at r;cases r
 have hm:∀b u,H b=some u->¬Mut (some u)->b≠x:=fun b u q nm z=>by subst z;rw[q] at mu;exact nm mu
 refine⟨fun b u q n _ _=>k b u (hb b n) q,fun b u q n _ _=>⟨u.slots,k b u (hb b n) q⟩,fun b u q n _=>by rw[aN (hx b n)];exact n,fun b u q _=>?_,
  fun b xs q=>by rw[aN (hm b _ q fun z=>z)];exact q,fun b u xs q=>by rw[aN (hm b _ q fun z=>z)];exact q,fun b ps q=>⟨#[],by rw[aN (hm b _ q fun z=>z),q];simp⟩⟩
 by_cases hbe:b=e
 ·subst hbe;exact heo
 exact⟨u,k b u hbe q⟩
theorem Un.mono (u:Un fs ex H H1 h h1) (hs:∀b∈fs,b∈fs') (hx:∀b∈ex,b∈ex'):Un fs' ex' H H1 h h1 :=
 ⟨fun b ob q n hb he=>u.keep b ob q n (fun z=>hb (hs b z)) fun z=>he (hx b z),fun _ _ q n _ he=>u.any q n fun z=>he (hx _ z),fun b ob q n he=>u.free b ob q n fun z=>he (hx b z),fun b ob q he=>u.there b ob q fun z=>he (hx b z),u.tups,u.frzs,u.tbls⟩
end
def trk (h:Heap) (H:Hp):List Addr:=(List.range h.objs.size).filter fun a=>(H a).isSome
def nH (h:Heap) (H:Hp):Heap:=PySem.W.hideAll h (trk h H)
theorem wD (h:Heap) (H:Hp):(nH h H).objs.size=h.objs.size:=PySem.W.hideAll_size _ _
theorem xX {h:Heap}{H:Hp}{b:Addr}{o:Obj}(e:h.get? b=some o) (n:H b=none):(nH h H).get? b=some o :=
 PySem.W.hideAll_get _ e fun hm=>by
  have q:(H b).isSome=true:=(List.mem_filter.mp hm).2;rw[n] at q;simp at q
theorem CP {h:Heap}{H:Hp}{b:Addr}{o:Obj}(e:(nH h H).get? b=some o):h.get? b=some o/\H b=none:=by
 have e':h.get? b=some o:=PySem.W.of_hideAll (trk h H) e;refine⟨e',?_⟩;cases q:H b with
 |none=>rfl
 |some x =>
  have hm:b∈trk h H:=List.mem_filter.mpr ⟨List.mem_range.mpr (Heap.lt_size e'),by simp [q]⟩
  have z:(nH h H).get? b=none:=PySem.W.hideAll_none (trk h H) hm
  rw[z] at e;cases e
def CQ (g h : Heap) (L : Addr) : List (Addr × Obj):=(List.range h.objs.size).filterMap fun a => if a = L \/ (g.get? a).isSome = true then none else (h.get? a).map fun o => (a,o)
def rest (g h:Heap) (L d:Addr):List (Addr × Obj):=(CQ g h L).filter fun p=>decide (p.1≠d)
structure Mod (K:Frag) (mg:Str->Option Value) (base:Heap):Prop where
 kin:K.In base
 glob:base.Ns mainGlobals mg
 blt:∃mb,base.Ns builtinsNs mb/\∀x:Str,x≠"__name__"->mb x=bootBuiltins x
 nolimit:base.NoLimit
structure Cx where
 prog:Program
 w:World
 K:Frag
 mg:Str->Option Value
 base:Heap
 A:Around
 N:List Str
 s₀:Shared
 H₀:Hp
 env:Env
 outer:List Env
 stack:List Env
 ex:List Addr
 fn:Str->Bool
 calm:Bool
 pn:List (Addr × Obj)
 xe:Value->Shared->Prop
def frs (l : List Env) : List Addr:=l.filterMap (·.frame)
abbrev Cx.fs (X:Cx):List Addr:=frs X.outer
def Vis (sc:Scope) (x:Str):Prop:=sc.names.lookup x=some .local\/sc.names.lookup x=some .cell\/sc.names.lookup x=some .free
def Loc (sc:Scope) (x:Str):Prop:=sc.names.lookup x=some .local\/sc.names.lookup x=some .cell
def Look (env:Env) (h:Heap) (m:Str->Option Value) (x:Str) (u:Value):Prop :=
 (env.kindOf x=some .local/\m x=some u)\/((env.kindOf x=some .cell\/env.kindOf x=some .free)/\∃c,env.cells.lookup x=some c/\h.IsCell c (some u))
structure Cx.Ok (X:Cx):Prop where
 mod:Mod X.K X.mg X.base
 kind:X.env.scope.kind=.function
 glob:X.env.globals=mainGlobals
 blt:X.env.builtins=builtinsNs
 above:X.s₀.heap.objs.size<=X.env.locals
 inj:∀x y c,X.env.cells.lookup x=some c->X.env.cells.lookup y=some c->x=y
 has:∀x,(X.env.kindOf x=some .cell\/X.env.kindOf x=some .free)->∃c,X.env.cells.lookup x=some c
 cab:∀x c,X.fn x=true->X.env.cells.lookup x=some c->X.s₀.heap.objs.size<=c
 hd:X.calm=true->X.A.handled=none
 frames:X.A.frames=some X.stack
 stk:X.stack=X.outer\/(X.stack=X.env::X.outer/\X.env.frame=some X.env.locals)
 exf:∀b∈X.ex,b≠X.env.locals/\∀x c,X.env.cells.lookup x=some c->c≠b
 bs:∀b o,X.base.get? b=some o->X.s₀.heap.get? b=some o/\X.H₀ b=none
 bsz:X.base.objs.size<=X.s₀.heap.objs.size
 noex:∀b o,X.base.get? b=some o->b∉X.ex
 exfs:∀b∈X.ex,b∉X.fs
 funs:X.s₀.heap.FunFrames X.base X.outer
 frf:∀b∈X.fs,X.H₀ b=none
structure Inv (X:Cx) (pins:List (Addr × Obj)) (Z:List (Option V)) (H:Hp) (s:Shared):Prop where
 ok:X.Ok
 os:s.os=X.s₀.os
 bare:AllBare s.gens
 base:Un X.fs X.ex X.H₀ H X.s₀.heap s.heap
 loc:∃m,s.heap.Ns X.env.locals m/\∀(i:Nat) (x:Str) (v:V),X.N[i]?=some x->Z[i]?=some (some v)->Vis X.env.scope x->∃u,RelV v u/\Look X.env s.heap m x u
 cell:∀x c,X.env.cells.lookup x=some c->∃v,s.heap.IsCell c v
 free:H X.env.locals=none
 freeC:∀x c,X.env.cells.lookup x=some c->H c=none
 pin:∀p∈X.pn++pins,s.heap.get? p.1=some p.2/\H p.1=none/\p.1≠X.env.locals/\p.1∉X.fs/\∀v,p.2.data≠.cell v
 hok:HOk X.prog X.w H s.heap
 len:Z.length=X.N.length
section
variable {X:Cx}{pins:List (Addr × Obj)}{Z:List (Option V)}{H H':Hp}{s:Shared}{h':Heap}
theorem Cx.Ok.nofr (ok:X.Ok) {b:Addr}{o:Obj}(e:X.base.get? b=some o):b∉X.fs:=fun hb=>by
 have:=(ok.funs.mem hb).1;rw[e] at this;cases this
theorem Inv.bs (I:Inv X pins Z H s):∀b o,X.base.get? b=some o->s.heap.get? b=some o/\H b=none:=fun b o e =>
 ⟨I.base.keep b o (I.ok.bs b o e).1 (I.ok.bs b o e).2 (I.ok.nofr e) (I.ok.noex b o e),I.base.free b o (I.ok.bs b o e).1 (I.ok.bs b o e).2 (I.ok.noex b o e)⟩
theorem Inv.bk (I:Inv X pins Z H s):∀b o,X.base.get? b=some o->s.heap.get? b=some o:=fun b o e=>(I.bs b o e).1
theorem Inv.mod (I:Inv X pins Z H s):Mod X.K X.mg X.base:=I.ok.mod
theorem Inv.kIn (I:Inv X pins Z H s):X.K.In s.heap:=I.ok.mod.kin.keeps I.bk
theorem Inv.nolimit (I:Inv X pins Z H s):s.heap.NoLimit:=I.ok.mod.nolimit.keeps I.bk
theorem Inv.fr (I:Inv X pins Z H s):∃m,Fr X.base X.env.locals s.heap m :=
 let ⟨m,hn,_⟩:=I.loc
 ⟨m,hn,I.bk,Nat.le_trans I.ok.bsz I.ok.above⟩
theorem Inv.lt (I:Inv X pins Z H s):X.env.locals<s.heap.objs.size:=let ⟨_,hn,_⟩:=I.loc;hn.lt
theorem Inv.sz (I:Inv X pins Z H s):X.s₀.heap.objs.size<=s.heap.objs.size:=Nat.le_trans I.ok.above (Nat.le_of_lt I.lt)
theorem Inv.nofs (I:Inv X pins Z H s) {a:Addr}(h:s.heap.objs.size<=a):a∉X.fs:=fun hb=>by
 obtain⟨_,o,ho,_⟩:=I.ok.funs.mem hb;exact absurd (Nat.lt_of_lt_of_le (Heap.lt_size ho) (Nat.le_trans I.sz h)) (Nat.lt_irrefl _)
theorem Inv.cne (I:Inv X pins Z H s):∀x c,X.env.cells.lookup x=some c->c≠X.env.locals:=fun x c e z=>by
 obtain⟨v,o,ho,hd⟩:=I.cell x c e;obtain⟨m,⟨o',es,ep,ho',hd',_⟩,_⟩:=I.loc;rw[z,ho'] at ho;cases ho;rw[hd'] at hd;cases hd
theorem Inv.funs (I:Inv X pins Z H s):s.heap.FunFrames X.base X.outer:=by
 have all:∀(l:List Env),(∀b∈frs l,b∈X.fs)->X.s₀.heap.FunFrames X.base l->s.heap.FunFrames X.base l:=by
  intro l;induction l with
  |nil=>intro _ _;trivial
  |cons env r ih =>
  intro hs hl;obtain ⟨hk,⟨L,o,hf,hn,ho,hd⟩,hr⟩:=hl;have hL : L ∈ X.fs:=hs L (by unfold frs; rw [List.filterMap_cons,hf]; exact List.mem_cons_self);obtain ⟨sl,e⟩:=I.base.slot L o ho (I.ok.frf L hL) hL fun z => I.ok.exfs L z hL;exact ⟨hk,⟨L,_,hf,hn,e,hd⟩,ih (fun b hb => hs b (by unfold frs; rw [List.filterMap_cons,hf]; exact List.mem_cons_of_mem _ hb)) hr⟩
 exact all X.outer (fun _ hb=>hb) I.ok.funs
theorem Inv.stack (I:Inv X pins Z H s):s.heap.FunFrames X.base X.stack:=by
 rcases I.ok.stk with e | ⟨e,hf⟩
 ·rw[e];exact I.funs
 rw[e];obtain⟨m,hn,_⟩:=I.loc;refine .cons (by rw[I.ok.kind];decide) hf hn ?_ I.funs;exact Heap.get?_none_of_le (Nat.le_trans I.ok.bsz I.ok.above)
theorem Inv.stkSub (I:Inv X pins Z H s):∀b∈frs X.stack,b∈X.env.locals::X.fs:=fun b hb=>by
 rcases I.ok.stk with e | ⟨e,hf⟩
 ·rw[e] at hb;exact List.mem_cons_of_mem _ hb
 rw [e] at hb;unfold frs at hb;rw [List.filterMap_cons,hf] at hb;exact hb
theorem Inv.stkFree (I:Inv X pins Z H s):∀b∈frs X.stack,H b=none:=fun b hb=>by
 rcases List.mem_cons.mp (I.stkSub b hb) with e | hb
 ·rw[e];exact I.free
 obtain⟨_,o,ho,_⟩:=I.ok.funs.mem hb;exact I.base.free b o ho (I.ok.frf b hb) fun z=>I.ok.exfs b z hb
theorem Inv.step {g':Array GenState}{t':Nat}{d':Drawn}{ch:List Addr}(I:Inv X pins Z H s)
  (hch:∀b∈ch,(b∈X.ex\/X.s₀.heap.objs.size<=b)/\b≠X.env.locals/\(∀x c,X.env.cells.lookup x=some c->c≠b)/\∀p∈X.pn++pins,p.1≠b)
  (keep:∀b o,b≠X.env.locals->b∉X.fs->b∉ch->s.heap.get? b=some o->H b=none->h'.get? b=some o)
  (slot:∀b o,b≠X.env.locals->b∈X.fs->b∉ch->s.heap.get? b=some o->H b=none->∃sl,h'.get? b=some { o with slots:=sl}) (free:∀b o,b∉ch->s.heap.get? b=some o->H b=none->H' b=none)
  (there:∀b o,b∉ch->s.heap.get? b=some o->∃o',h'.get? b=some o')
  (tups:∀b xs,H b=some (.tup xs)->H' b=some (.tup xs)) (frzs:∀b o u,H b=some (.frz o u)->H' b=some (.frz o u)) (tbls:∀b ps,H b=some (.tbl ps)->∃more,H' b=some (.tbl (ps++more)))
  (ns:∀m,s.heap.Ns X.env.locals m->h'.Ns X.env.locals m) (hok:HOk X.prog X.w H' h') (hg:AllBare g') :
  Inv X pins Z H' { s with heap:=h',gens:=g',drawn:=d',toks:=t'}:=by
 have neL:∀b o,X.s₀.heap.get? b=some o->b≠X.env.locals:=fun b o e=>Nat.ne_of_lt (Nat.lt_of_lt_of_le (Heap.lt_size e) I.ok.above);have neC:∀b o,X.s₀.heap.get? b=some o->b∉X.ex->b∉ch:=fun b o e hx hb=>by
  rcases (hch b hb).1 with z | z
  ·exact hx z
  exact absurd (Nat.lt_of_lt_of_le (Heap.lt_size e) z) (Nat.lt_irrefl _)
 have cellK:∀x c,X.env.cells.lookup x=some c->∀v,s.heap.IsCell c v->h'.IsCell c v:=fun x c e v ⟨o,ho,hd⟩=>by
  have nch:c∉ch:=fun z=>(hch c z).2.2.1 x c e rfl;by_cases hc:c∈X.fs
  ·obtain⟨sl,q⟩:=slot c o (I.cne x c e) hc nch ho (I.freeC x c e);exact⟨_,q,hd⟩
  exact⟨o,keep c o (I.cne x c e) hc nch ho (I.freeC x c e),hd⟩
 refine⟨I.ok,I.os,hg,⟨fun b o e n hb hx=>?_,fun b o e n hb hx=>?_,fun b o e n hx=>?_,fun b o e hx=>?_,fun b xs e=>tups b xs (I.base.tups b xs e),fun b o xs e=>frzs b o xs (I.base.frzs b o xs e),fun b ps e=>?_⟩,?_,fun x c e=>?_,?_,fun x c e=>?_,fun p hp=>?_,hok,I.len⟩
 ·exact keep b o (neL b o e) hb (neC b o e hx) (I.base.keep b o e n hb hx) (I.base.free b o e n hx)
 ·obtain⟨sl,e1⟩:=I.base.slot b o e n hb hx;obtain⟨sl',e2⟩:=slot b _ (neL b o e) hb (neC b o e hx) e1 (I.base.free b o e n hx);exact⟨sl',e2⟩
 ·obtain⟨o',e1⟩:=I.base.there b o e hx;exact free b o' (neC b o e hx) e1 (I.base.free b o e n hx)
 ·obtain⟨o',e1⟩:=I.base.there b o e hx;exact there b o' (neC b o e hx) e1
 ·obtain⟨m1,e1⟩:=I.base.tbls b ps e;obtain⟨m2,e2⟩:=tbls b _ e1;exact⟨m1++m2,by rw[e2,Array.append_assoc]⟩
 ·obtain⟨m,hn,hl⟩:=I.loc;refine⟨m,ns m hn,fun i x v e1 e2 e3=>?_⟩;obtain⟨u,r,l⟩:=hl i x v e1 e2 e3;refine⟨u,r,?_⟩;rcases l with l | ⟨k,c,e,z⟩
  ·exact .inl l
  exact .inr ⟨k,c,e,cellK x c e _ z⟩
 ·obtain⟨v,z⟩:=I.cell x c e;exact⟨v,cellK x c e v z⟩
 ·obtain⟨m,⟨o,_,_,ho,_⟩,_⟩:=I.loc;exact free _ o (fun z=>(hch _ z).2.1 rfl) ho I.free
 ·obtain⟨v,o,ho,hd⟩:=I.cell x c e;exact free c o (fun z=>(hch c z).2.2.1 x c e rfl) ho (I.freeC x c e)
 obtain⟨e,n,ne,nf,d⟩:=I.pin p hp;have nch:p.1∉ch:=fun z=>(hch p.1 z).2.2.2 p hp rfl;exact⟨keep p.1 p.2 ne nf nch e n,free p.1 p.2 nch e n,ne,nf,d⟩
theorem Inv.un {t':Nat}(I:Inv X pins Z H s) (u:Un X.fs [] H H' s.heap h') (hok:HOk X.prog X.w H' h'):Inv X pins Z H' { s with heap:=h',toks:=t'}:=by
 obtain⟨m,⟨o,es,ep,ho,r⟩,_⟩:=id I.loc;obtain⟨sl,hL⟩:=u.any ho I.free (by simp);exact I.step (g':=s.gens) (d':=s.drawn) (ch:=[]) (fun _ z=>nomatch z) (fun b o _ hb _ e n=>u.keep b o e n hb (by simp)) (fun b o _ hb _ e n=>u.slot b o e n hb (by simp)) (fun b o _ e n=>u.free b o e n (by simp)) (fun b o _ e=>u.there b o e (by simp)) u.tups u.frzs u.tbls (fun m' hm=>by
  obtain⟨o',es',ep',ho',r'⟩:=hm
  rw[ho] at ho';cases ho'
  exact⟨_,es',ep',hL,r'⟩) hok I.bare
theorem Inv.call {g':Array GenState}{t':Nat}{d':Drawn}{ch:List Addr}(I:Inv X pins Z H s) (u:Un (frs X.stack) ch H H' s.heap h') (hok:HOk X.prog X.w H' h') (hg:AllBare g')
  (hch:∀b∈ch,(b∈X.ex\/X.s₀.heap.objs.size<=b)/\b≠X.env.locals/\(∀x c,X.env.cells.lookup x=some c->c≠b)/\∀p∈X.pn++pins,p.1≠b) :
  Inv X pins Z H' { s with heap:=h',gens:=g',drawn:=d',toks:=t'}:=by
 obtain⟨m,⟨o,es,ep,ho,r⟩,_⟩:=id I.loc;obtain⟨sl,hL⟩:=u.any ho I.free fun z=>(hch _ z).2.1 rfl;exact I.step (ch:=ch) hch (fun b o hL hb hc e n=>u.keep b o e n (fun z=>(List.mem_cons.mp (I.stkSub b z)).elim hL hb) hc) (fun b o _ _ hc e n=>u.any e n hc) (fun b o hc e n=>u.free b o e n hc) (fun b o hc e=>u.there b o e hc) u.tups u.frzs u.tbls (fun m' hm=>by
  obtain⟨o',es',ep',ho',r'⟩:=hm
  rw[ho] at ho';cases ho'
  exact⟨_,es',ep',hL,r'⟩) hok hg
theorem Inv.turned {t':Nat}{it:Addr}(I:Inv X pins Z H s) (k:∀b o,b≠it->s.heap.get? b=some o->h'.get? b=some o) (hn:H it=none) (hL:it≠X.env.locals)
  (h1:it∈X.ex\/X.s₀.heap.objs.size<=it) (h2:∀x c,X.env.cells.lookup x=some c->c≠it) (h3:∀p∈X.pn++pins,p.1≠it):Inv X pins Z H { s with heap:=h',toks:=t'}:=by
 have nit:∀b u,H b=some u->b≠it:=fun b u e z=>by rw[z,hn] at e;cases e
 refine I.step (g':=s.gens) (d':=s.drawn) (ch:=[it]) (fun b hb=>?_) (fun b o _ _ hc e _=>k b o (fun z=>hc (by simp [z])) e) (fun b o _ _ hc e _=>⟨o.slots,k b o (fun z=>hc (by simp [z])) e⟩) (fun _ _ _ _ n=>n)
  (fun b o hc e=>⟨o,k b o (fun z=>hc (by simp [z])) e⟩) (fun _ _ e=>e) (fun _ _ _ e=>e) (fun b ps e=>⟨#[],by rw[e];simp⟩) (fun m hm=>?_) (fun b u e=>?_) I.bare
 ·have e:b=it:=by simpa using hb
  subst e;exact⟨h1,hL,h2,h3⟩
 ·obtain⟨o,es,ep,ho,r⟩:=hm;exact⟨o,es,ep,k _ o (Ne.symm hL) ho,r⟩
 refine (I.hok b u e).stay (fun c v hc q=>k c v ?_ q) (fun _ q=>q) fun _ _ q=>q;rcases hc with z | z
 ·rw[z];exact nit b u e
 exact nit c _ z
theorem Inv.tok (I:Inv X pins Z H s) (t:Nat):Inv X pins Z H { s with toks:=t}:=I.un (h':=s.heap) (t':=t) Un.refl I.hok
theorem Inv.kept {t':Nat}(I:Inv X pins Z H s) (k:∀b u,s.heap.get? b=some u->h'.get? b=some u):Inv X pins Z H { s with heap:=h',toks:=t'}:=I.un (Un.kept k) (I.hok.kept k)
theorem Inv.laid {a:Addr}{o:HO}{t':Nat}(I:Inv X pins Z H s) (k:∀b u,s.heap.get? b=some u->h'.get? b=some u) (hp:s.heap.objs.size<=a) (new:ObjOk X.prog X.w (upd H a o) h' a o) :
  Inv X pins Z (upd H a o) { s with heap:=h',toks:=t'}:=I.un (Un.laid k hp (I.hok.fresh hp)) (I.hok.laid k hp new)
theorem Inv.write {x e:Addr}{o:HO}{t':Nat}(I:Inv X pins Z H s) (mu:Mut (H x)) (he:e=x\/H e=some (.own x)) (k:∀b u,b≠e->s.heap.get? b=some u->h'.get? b=some u) (heo:∃u,h'.get? e=some u)
  (new:ObjOk X.prog X.w (upd H x o) h' x o):Inv X pins Z (upd H x o) { s with heap:=h',toks:=t'}:=I.un (Un.write mu he k heo) (I.hok.write mu he k heo new)
theorem Inv.pins_of {pins':List (Addr × Obj)}(I:Inv X pins Z H s) (h:∀p∈pins',s.heap.get? p.1=some p.2/\H p.1=none/\p.1≠X.env.locals/\p.1∉X.fs/\∀v,p.2.data≠.cell v):Inv X pins' Z H s :=
 ⟨I.ok,I.os,I.bare,I.base,I.loc,I.cell,I.free,I.freeC,fun p hp=>(List.mem_append.mp hp).elim (fun z=>I.pin p (List.mem_append_left _ z)) (h p),I.hok,I.len⟩
theorem pJ {N:List Str}(hN:N.Nodup) {i j:Nat}{x:Str}(a:N[i]?=some x) (b:N[j]?=some x):i=j:=by
 obtain⟨h1,e1⟩:=List.getElem?_eq_some_iff.mp a;obtain⟨h2,e2⟩:=List.getElem?_eq_some_iff.mp b;exact (List.getElem_inj hN).mp (e1.trans e2.symm)
theorem mz {M:Model}{A:Around}{E:Value->Shared->Prop}{i:Nat}{x:Str}{v:V}{u:Value}{Q:Unit->Shared->Prop}(I:Inv X pins Z H s) (hN:X.N.Nodup) (hi:X.N[i]?=some x) (hx:Loc X.env.scope x) (r:RelV v u)
  (h:∀s',Inv X pins (Z.set i (some v)) H s'->(∃a,Heap.SameBut a s.heap s'.heap/\(a=X.env.locals\/X.env.cells.lookup x=some a))->Q () s') (hf:X.fn x=true\/X.env.scope.names.lookup x=some .local:=by first | exact .inl rfl | exact .inr rfl | assumption):wpAny M A (storeName X.env x u) Q E s:=by
 obtain⟨m,hn,hl⟩:=id I.loc;have hcls:(X.env.scope.kind==.class||(X.env.scope.kind==.module&&X.env.locals != X.env.globals))=false:=by rw[I.ok.kind];rfl
 have hiZ:i<Z.length:=by rw[I.len];exact (List.getElem?_eq_some_iff.mp hi).1
 have cne:=I.cne;have tracked:∀{a:Addr} {h':Heap},(∃o,s.heap.get? a=some o/\H a=none)->Heap.SameBut a s.heap h'->HOk X.prog X.w H h':=fun {a h'} ha hs b ob e=>by
  obtain⟨_,_,hfree⟩:=ha;refine (I.hok b ob e).stay (fun c w' hc q=>(hs.2 c ?_).trans q) (fun _ q=>q) fun _ _ q=>q;rintro rfl;rcases hc with rfl | hc
  ·rw[hfree] at e;cases e
  rw[hfree] at hc;cases hc
 rcases hx with hk | hk
 ·refine wpAny_storeName_local hk hn (fun h' hn' hs=>?_) hcls;obtain⟨oL,_,_,hoL,_⟩:=id hn;refine h _ ⟨I.ok,I.os,I.bare,⟨fun b o e n hb hx=>?_,fun b o e n hb hx=>?_,I.base.free,fun b o e hx=>?_,I.base.tups,I.base.frzs,I.base.tbls⟩,⟨_,hn',fun j y v' e1 e2 e3=>?_⟩,fun y c e=>?_,I.free,I.freeC,fun p hp=>?_,tracked ⟨oL,hoL,I.free⟩ hs,by simpa using I.len⟩ ⟨_,hs,.inl rfl⟩
  ·exact (hs.2 b (Nat.ne_of_lt (Nat.lt_of_lt_of_le (Heap.lt_size e) I.ok.above))).trans (I.base.keep b o e n hb hx)
  ·obtain⟨sl,e1⟩:=I.base.slot b o e n hb hx;exact⟨sl,(hs.2 b (Nat.ne_of_lt (Nat.lt_of_lt_of_le (Heap.lt_size e) I.ok.above))).trans e1⟩
  ·obtain⟨o',e1⟩:=I.base.there b o e hx;exact⟨o',(hs.2 b (Nat.ne_of_lt (Nat.lt_of_lt_of_le (Heap.lt_size e) I.ok.above))).trans e1⟩
  ·by_cases hj:j=i
   ·subst hj;rw[hi] at e1;cases e1;rw[List.getElem?_set_self hiZ] at e2;cases e2;exact⟨u,r,.inl ⟨hk,by simp⟩⟩
   rw[List.getElem?_set_ne (Ne.symm hj)] at e2;obtain⟨u',r',q⟩:=hl j y v' e1 e2 e3;refine⟨u',r',?_⟩;rcases q with ⟨k,e⟩ | ⟨k,c,e,z⟩
   ·refine .inl ⟨k,?_⟩;have:y≠x:=fun e=>hj (pJ hN e1 (e▸hi));simp [this,e]
   exact .inr ⟨k,c,e,z.sameBut hs (cne y c e)⟩
  ·obtain⟨w',z⟩:=I.cell y c e;exact⟨w',z.sameBut hs (cne y c e)⟩
  obtain⟨e,n,ne,nf,d⟩:=I.pin p hp;exact⟨(hs.2 p.1 ne).trans e,n,ne,nf,d⟩
 have hfn:X.fn x=true:=by
  rcases hf with z | z
  ·exact z
  rw[z] at hk;cases hk
 obtain⟨c,hc⟩:=I.ok.has x (.inl hk);obtain⟨w',z⟩:=I.cell x c hc;refine wpAny_storeName_cell I.ok.kind hk hc z (fun h' hc' hs=>?_);obtain⟨oc,hoc,hocd⟩:=id z;refine h { s with heap:=h'} ⟨I.ok,I.os,I.bare,⟨fun b o e n hb hx=>?_,fun b o e n hb hx=>?_,I.base.free,fun b o e hx=>?_,I.base.tups,I.base.frzs,I.base.tbls⟩,⟨m,hn.sameBut hs (Ne.symm (cne x c hc)),fun j y v' e1 e2 e3=>?_⟩,fun y c' e=>?_,I.free,I.freeC,fun p hp=>?_,tracked ⟨oc,hoc,I.freeC x c hc⟩ hs,by simpa using I.len⟩ ⟨c,hs,.inr hc⟩
 ·exact (hs.2 b (Nat.ne_of_lt (Nat.lt_of_lt_of_le (Heap.lt_size e) (I.ok.cab x c hfn hc)))).trans (I.base.keep b o e n hb hx)
 ·obtain⟨sl,e1⟩:=I.base.slot b o e n hb hx;exact⟨sl,(hs.2 b (Nat.ne_of_lt (Nat.lt_of_lt_of_le (Heap.lt_size e) (I.ok.cab x c hfn hc)))).trans e1⟩
 ·obtain⟨o',e1⟩:=I.base.there b o e hx;exact⟨o',(hs.2 b (Nat.ne_of_lt (Nat.lt_of_lt_of_le (Heap.lt_size e) (I.ok.cab x c hfn hc)))).trans e1⟩
 ·by_cases hj:j=i
  ·subst hj;rw[hi] at e1;cases e1;rw[List.getElem?_set_self hiZ] at e2;cases e2;exact⟨u,r,.inr ⟨.inl hk,c,hc,hc'⟩⟩
  rw[List.getElem?_set_ne (Ne.symm hj)] at e2;obtain⟨u',r',q⟩:=hl j y v' e1 e2 e3;refine⟨u',r',?_⟩;rcases q with q | ⟨k,c',e,z'⟩
  ·exact .inl q
  refine .inr ⟨k,c',e,z'.sameBut hs ?_⟩;rintro rfl;exact hj (pJ hN e1 (I.ok.inj _ _ _ e hc▸hi))
 ·by_cases hcc:c'=c
  ·subst hcc;exact⟨_,hc'⟩
  obtain⟨w2,z2⟩:=I.cell y c' e;exact⟨w2,z2.sameBut hs hcc⟩
 obtain⟨e,n,ne,nf,d⟩:=I.pin p hp;refine⟨(hs.2 p.1 ?_).trans e,n,ne,nf,d⟩;intro q;rw[q,hoc] at e;have q':oc=p.2:=Option.some.inj e;exact d w' (by rw[<- q'];exact hocd)
theorem pK {M:Model}{A:Around}{E:Value->Shared->Prop}{i:Nat}{x:Str}{v:V}{u:Value}{Q:Unit->Shared->Prop}(I:Inv X pins Z H s) (hN:X.N.Nodup) (hi:X.N[i]?=some x) (hx:Loc X.env.scope x) (r:RelV v u)
  (h:∀s',Inv X pins (Z.set i (some v)) H s'->Q () s') (hf:X.fn x=true\/X.env.scope.names.lookup x=some .local:=by first | exact .inl rfl | exact .inr rfl | assumption):wpAny M A (storeName X.env x u) Q E s :=
 mz I hN hi hx r (fun s' I' _=>h s' I') hf
theorem Inv.call' {s':Shared}{ch:List Addr}(I:Inv X pins Z H s) (ho:s'.os=s.os) (u:Un (frs X.stack) ch H H' s.heap s'.heap) (hok:HOk X.prog X.w H' s'.heap) (hg:AllBare s'.gens)
  (hch:∀b∈ch,(b∈X.ex\/X.s₀.heap.objs.size<=b)/\b≠X.env.locals/\(∀x c,X.env.cells.lookup x=some c->c≠b)/\∀p∈X.pn++pins,p.1≠b):Inv X pins Z H' s':=by
 obtain⟨h',g',d',t',o'⟩:=s';have e:o'=s.os:=ho;subst e;exact I.call (g':=g') (t':=t') (d':=d') u hok hg hch
end
abbrev XK:=Value->Option Addr->Hp->Prop
abbrev St:=List (Option V)
abbrev VK:=V->Hp->Prop
abbrev TE:=St->Hp->VK->Prop
abbrev TT:=St->Hp->(Bool->Hp->Prop)->Prop
abbrev TA:=St->Hp->(List V->Hp->Prop)->Prop
structure Ends where
 nx:St->Hp->Prop
 rt:VK
 bk:St->Hp->Prop:=fun _ _=>False
 ct:St->Hp->Prop:=fun _ _=>False
abbrev TS:=Ends->St->Hp->Prop
def EP (X:Cx) (pins:List (Addr × Obj)) (Z:St) (Q:VK) (u:Value) (s':Shared):Prop:=∃v H',Inv X pins Z H' s'/\RelV v u/\Q v H'
def TP (X:Cx) (pins:List (Addr × Obj)) (Z:St) (Q:Bool->Hp->Prop) (b:Bool) (s':Shared):Prop:=∃H',Inv X pins Z H' s'/\Q b H'
def AP (X:Cx) (pins:List (Addr × Obj)) (Z:St) (Q:List V->Hp->Prop) (us:List Value) (s':Shared):Prop:=∃vs H',Inv X pins Z H' s'/\Vals vs us/\Q vs H'
def SP (X:Cx) (pins:List (Addr × Obj)) (D:Ends) (f:Flow) (s':Shared):Prop :=
 match f with
 |.next=>∃Z' H',Inv X pins Z' H' s'/\D.nx Z' H'
 |.brk=>∃Z' H',Inv X pins Z' H' s'/\D.bk Z' H'
 |.cont=>∃Z' H',Inv X pins Z' H' s'/\D.ct Z' H'
 |.ret u=>∃v Z' H',Inv X pins Z' H' s'/\RelV v u/\D.rt v H'
def PE (X:Cx) (e:Expr) (t:TE):Prop :=
 ∀(pins:List (Addr × Obj)) (s:Shared) (Z:St) (H:Hp) (Q:VK),Inv X pins Z H s->t Z H Q->wpAny (model X.prog X.w) X.A (eval e X.env) (EP X pins Z Q) X.xe s
def PT (X:Cx) (e:Expr) (t:TT):Prop :=
 ∀(pins:List (Addr × Obj)) (s:Shared) (Z:St) (H:Hp) (Q:Bool->Hp->Prop),Inv X pins Z H s->t Z H Q->wpAny (model X.prog X.w) X.A (isTrue e X.env (eval e X.env)) (TP X pins Z Q) X.xe s
def PW (X:Cx) (e:Expr) (t:TT):Prop :=
 ∀(whole:Sem Value) (pins:List (Addr × Obj)) (s:Shared) (Z:St) (H:Hp) (Q:Bool->Hp->Prop),Inv X pins Z H s->t Z H Q->wpAny (model X.prog X.w) X.A (isTrue e X.env whole) (TP X pins Z Q) X.xe s
theorem PW.pt {X:Cx}{e:Expr}{t:TT}(h:PW X e t):PT X e t:=h _
def PA (X:Cx) (es:List Expr) (t:TA):Prop :=
 ∀(pos:Pos) (pins:List (Addr × Obj)) (s:Shared) (Z:St) (H:Hp) (Q:List V->Hp->Prop),Inv X pins Z H s->t Z H Q->wpAny (model X.prog X.w) X.A (spliced (backTo pos (starEach es X.env))) (AP X pins Z Q) X.xe s
def PS (X:Cx) (st:Stmt) (t:TS):Prop :=
 ∀(pins:List (Addr × Obj)) (s:Shared) (Z:St) (H:Hp) (D:Ends),Inv X pins Z H s->t D Z H->wpAny (model X.prog X.w) X.A (exec st X.env) (SP X pins D) X.xe s
def PSs (X:Cx) (st:List Stmt) (t:TS):Prop :=
 ∀(pins:List (Addr × Obj)) (s:Shared) (Z:St) (H:Hp) (D:Ends),Inv X pins Z H s->t D Z H->wpAny (model X.prog X.w) X.A (execs st X.env) (SP X pins D) X.xe s
theorem thn {α:Type}{t:Sem α}{Q Q':α->Shared->Prop}{M:Model}{A:Around}{E:Value->Shared->Prop}{s:Shared}(h:wpAny M A t Q E s) (hQ:∀a s,Q a s->Q' a s):wpAny M A t Q' E s:=wpAny_mono h hQ fun _ _ x=>x
section
variable {X:Cx}
def O4 (i:Nat):TE:=fun Z H Q=>∃v,Z[i]?=some (some v)/\Q v H
def tC (v:V):TE:=fun _ H Q=>Q v H
theorem Jt {i:Nat}{x:Str}{pos:Pos}(hN:X.N[i]?=some x) (hv:Vis X.env.scope x) (hd:(x==("__debug__":Str))=false:=by decide) (hcd:(x==("__classdict__":Str))=false:=by decide):PE X (.Name x pos) (O4 i):=by
 intro pins s Z H Q I h;obtain⟨v,e,h⟩:=h;obtain⟨m,hn,hl⟩:=I.loc;obtain⟨u,r,l⟩:=hl i x v hN e hv;have fin:EP X pins Z Q u s:=⟨v,H,I,r,h⟩;rcases l with ⟨hk,hm⟩ | ⟨hk,c,hc,hcell⟩
 ·exact wpAny_Name (wpAny_loadName_local I.ok.kind hk hn hm fin) hd
 rcases hk with hk | hk
 ·exact wpAny_Name (wpAny_loadName_cell I.ok.kind hk hc hcell fin) hd
 exact wpAny_Name (wpAny_loadName_free I.ok.kind hk hc hcell fin hcd) hd
theorem Ju {i j pos}:PE X (.Constant (.int i) j pos) (tC (.int i)):=fun _ _ _ H _ I h=>wpAny_Constant_int ⟨.int i,H,I.tok _,⟨_,rfl⟩,h⟩
theorem O5 {b j pos}:PE X (.Constant (.bool b) j pos) (tC (.bl b)):=fun _ _ _ H _ I h=>Constant_bool ⟨.bl b,H,I,rfl,h⟩
theorem Jv {j pos}:PE X (.Constant .none j pos) (tC .non):=fun _ _ _ H _ I h=>Constant_none ⟨.non,H,I,rfl,h⟩
theorem Jw {x j pos}:PE X (.Constant (.str x) j pos) (tC (.str x)):=fun _ _ _ H _ I h=>Calls.Constant_str ⟨.str x,H,I.tok _,⟨_,rfl⟩,h⟩
def Gl (X:Cx) (x:Str):Prop:=X.env.kindOf x=some .globalImplicit
theorem nJ {E:Value->Shared->Prop}{pins:List (Addr × Obj)}{s:Shared}{Z:St}{H:Hp}{x:Str}{u:Value}{pos:Pos}{Q:Value->Shared->Prop}(I:Inv X pins Z H s) (hg:Gl X x) (hm:X.mg x=some u) (h:Q u s)
  (hd:(x==("__debug__":Str))=false:=by decide):wpAny (model X.prog X.w) X.A (eval (.Name x pos) X.env) Q E s :=
 Calls.Name_function_global I.ok.kind hg (Calls.loadGlobal_global (by rw[I.ok.glob];exact I.mod.glob.keeps I.bk) hm h) hd
theorem dU {E:Value->Shared->Prop}{pins:List (Addr × Obj)}{s:Shared}{Z:St}{H:Hp}{x:Str}{u:Value}{pos:Pos}{Q:Value->Shared->Prop}(I:Inv X pins Z H s) (hg:Gl X x) (hm:X.mg x=none) (hv:bootBuiltins x=some u) (h:Q u s)
  (hn:x≠"__name__":=by decide) (hd:(x==("__debug__":Str))=false:=by decide):wpAny (model X.prog X.w) X.A (eval (.Name x pos) X.env) Q E s:=by
 obtain⟨mb,h1,h2⟩:=I.mod.blt;exact Calls.Name_function_global I.ok.kind hg (Calls.loadGlobal_builtin (by rw[I.ok.glob];exact I.mod.glob.keeps I.bk) hm (by rw[I.ok.blt];exact h1.keeps I.bk) ((h2 x hn).trans hv) h) hd
theorem CT {x:Str}{v:V}{u:Value}{pos:Pos}(hg:Gl X x) (hm:X.mg x=some u) (r:RelV v u) (hd:(x==("__debug__":Str))=false:=by decide):PE X (.Name x pos) (tC v) :=
 fun _ _ _ H _ I h=>nJ I hg hm ⟨v,H,I,r,h⟩ hd
theorem CV {x:Str}{v:V}{u:Value}{pos:Pos}(hg:Gl X x) (hm:X.mg x=none) (hv:bootBuiltins x=some u) (r:RelV v u) (hn:x≠"__name__":=by decide) (hd:(x==("__debug__":Str))=false:=by decide):PE X (.Name x pos) (tC v) :=
 fun _ _ _ H _ I h=>dU I hg hm hv ⟨v,H,I,r,h⟩ hn hd
variable {a b:Expr}{ta tb:TE}{pos:Pos}
def PC (X:Cx) (op:CmpOp) (a b:Expr) (t:TE):Prop :=
 ∀(pins:List (Addr × Obj)) (s:Shared) (Z:St) (H:Hp) (Q:VK),Inv X pins Z H s->t Z H Q ->
  wpAny (model X.prog X.w) X.A (eval a X.env) (fun v s₁=>wpAny (model X.prog X.w) X.A (eval b X.env) (fun u s₂=>wpAny (model X.prog X.w) X.A (compareOp op v u) (EP X pins Z Q) X.xe s₂) X.xe s₁) X.xe s
theorem xY (b:Expr) {op:CmpOp}(h:op≠.In) (h2:op≠.NotIn):behindInMarks op b=false:=by
 have e1:(op==CmpOp.In)=false:=by cases op <;> first | rfl | exact absurd rfl h
 have e2:(op==CmpOp.NotIn)=false:=by cases op <;> first | rfl | exact absurd rfl h2
 cases b <;> simp [behindInMarks,e1,e2]
def tB (t:TE):TT:=fun Z H Q=>t Z H fun x H1=>∃c,x=.bl c/\Q c H1
theorem rY {op:CmpOp}{t:TE}(h:PC X op a b t) (h1:behindInMarks op b=false:=by first | exact xY _ (by decide) (by decide) | rfl):PT X (.Compare a [op] [b] pos) (tB t):=by
 intro pins s Z H Q I hw;refine wpAny_isTrue_Compare1 (thn (h pins s Z H _ I hw) fun v s1 h1=>thn h1 fun u s2 h2=>thn h2 fun c s3 ⟨x,H1,I1,r1,q1⟩=>?_) h1;obtain⟨d,rfl,q⟩:=q1;cases r1;exact wpAny_truthy_bool ⟨H1,I1,q⟩
theorem Jx {e:Expr}{t:TE}(h:PE X e t) (he:∀whole,isTrue e X.env whole=(do let v <- whole;standAt e.pos;holding [v] (truthy v)):=by intro _;rfl):PT X e (tB t):=by
 intro pins s Z H Q I hw;refine isTrue_plain (thn (h pins s Z H _ I hw) fun v s1 ⟨x,H1,I1,r1,q1⟩=>?_) (he _);obtain⟨d,rfl,q⟩:=q1;cases r1;exact wpAny_truthy_bool ⟨H1,I1,q⟩
variable {tA tB':TT}{rest:List Expr}
def T9 (t u:TT):TT:=fun Z H Q=>t Z H fun c H1=>if c=true then u Z H1 Q else Q false H1
def tOr (t u:TT):TT:=fun Z H Q=>t Z H fun c H1=>if c=true then Q true H1 else u Z H1 Q
def Ua (t:TT):TT:=fun Z H Q=>t Z H fun c H1=>Q (!c) H1
theorem CW (ha:PT X a tA):PW X (.BoolOp .And [a] pos) tA:=by
 intro wh pins s Z H Q I h;refine isTrue_and (thn (ha pins s Z H Q I h) fun c s1 e=>?_);cases c with
 |true=>exact isTrue_and_nil e
 |false=>exact e
theorem Jy (ha:PT X a tA):PW X (.BoolOp .Or [a] pos) tA:=by
 intro wh pins s Z H Q I h;refine isTrue_or (thn (ha pins s Z H Q I h) fun c s1 e=>?_);cases c with
 |false=>exact isTrue_or_nil e
 |true=>exact e
theorem Jz (ha:PT X a tA) (hb:PW X (.BoolOp .And (b::rest) pos) tB'):PW X (.BoolOp .And (a::b::rest) pos) (T9 tA tB'):=by
 intro wh pins s Z H Q I h;refine isTrue_and (thn (ha pins s Z H _ I h) fun c s1 ⟨H1,I1,q1⟩=>?_);cases c with
 |true=>exact hb wh pins s1 Z H1 Q I1 q1
 |false=>exact⟨H1,I1,q1⟩
theorem O6 (ha:PT X a tA) (hb:PW X (.BoolOp .Or (b::rest) pos) tB'):PW X (.BoolOp .Or (a::b::rest) pos) (tOr tA tB'):=by
 intro wh pins s Z H Q I h;refine isTrue_or (thn (ha pins s Z H _ I h) fun c s1 ⟨H1,I1,q1⟩=>?_);cases c with
 |true=>exact⟨H1,I1,q1⟩
 |false=>exact hb wh pins s1 Z H1 Q I1 q1
theorem JB (ha:PT X a tA):PT X (.UnaryOp .Not a pos) (Ua tA):=by
 intro pins s Z H Q I h;exact isTrue_not (ha pins s Z H (fun c H1=>Q (!c) H1) I h)
def Ub (ta tb:TE):TE:=fun Z H Q=>ta Z H fun x H1=>∃c,x=.bl c/\if c=true then Q (.bl true) H1 else tb Z H1 Q
theorem JC {op}{t:TE}(h:PE X a t):PE X (.BoolOp op [a] pos) t:=fun pins s Z H Q I hw=>BoolOp_one (h pins s Z H Q I hw)
theorem O7 (ha:PE X a ta) (hb:PE X (.BoolOp .Or (b::rest) pos) tb):PE X (.BoolOp .Or (a::b::rest) pos) (Ub ta tb):=by
 intro pins s Z H Q I h;refine BoolOp_or (thn (ha pins s Z H _ I h) fun v s1 ⟨x,H1,I1,r1,q1⟩=>?_);obtain⟨c,rfl,q1⟩:=q1;cases r1;refine wpAny_truthy_bool ?_;cases c with
 |false=>exact hb pins s1 Z H1 Q I1 q1
 |true=>exact⟨.bl true,H1,I1,rfl,q1⟩
end
def SqL (K:Frag) (H:Hp) (a:Addr) (xs:List V):Prop :=
 Rd H a (.lst xs) \/
  ∃(o:Obj) (its:Array Value) (n:Nat),K.lookup a=some o/\o.cls=.type "list"/\o.dict=none/\o.data=.seq its n/\its.size<=sizeLine/\Vals xs its.toList
def SqT (K:Frag) (H:Hp) (a:Addr) (xs:List V):Prop :=
 Rd H a (.tup xs) \/
  ∃(o:Obj) (its:Array Value) (n:Nat),K.lookup a=some o/\o.cls=.type "tuple"/\o.dict=none/\o.data=.seq its n/\its.size<=sizeLine/\Vals xs its.toList
def Uc:Value->Option V
 |.none=>some .non
 |.bool b=>some (.bl b)
 |.int i _=>some (.int i)
 |.str x _=>some (.str x)
 |.bytes b _=>some (.byt b)
 |.float b _=>some (.flt b)
 |.ref a=>some (.ref a)
 |.type n=>some (.ty n)
 |_=>none
theorem RelV.abs {x:V}{u:Value}(r:RelV x u):Uc u=some x:=by
 cases x with
 |non=>cases r;rfl
 |bl _=>cases r;rfl
 |int _=>obtain⟨t,rfl⟩:=r;rfl
 |str _=>obtain⟨t,rfl⟩:=r;rfl
 |byt _=>obtain⟨t,rfl⟩:=r;rfl
 |flt _=>obtain⟨t,rfl⟩:=r;rfl
 |ref _=>cases r;rfl
 |ty _=>cases r;rfl
theorem RelV.inj {x y:V}{u:Value}(r:RelV x u) (q:RelV y u):x=y:=Option.some.inj (r.abs.symm.trans q.abs)
theorem Vals.inj {xs ys:List V}{us:List Value}(h:Vals xs us) (h':Vals ys us):xs=ys:=by
 induction h generalizing ys with
 |nil=>cases h';rfl
 |cons r t ih =>
 cases h' with
 |cons r' t'=>rw[r.inj r',ih t']
section
variable {X:Cx}{pins:List (Addr × Obj)}{Z:St}{H:Hp}{s:Shared}{a:Addr}{xs ys:List V}
theorem SqL.of {K:Frag}(h:H a=some (.lst xs)):SqL K H a xs:=.inl (.inl h)
theorem SqT.of {K:Frag}(h:H a=some (.tup xs)):SqT K H a xs:=.inl (.inl h)
theorem Inv.list (I:Inv X pins Z H s) (h:SqL X.K H a xs):∃its:List Value,Vals xs its/\PlainL s.heap a its.toArray/\xs.length<=sizeLine:=by
 rcases h with h | ⟨o,its,n,hk,hc,hd,hs,hz,r⟩
 ·obtain⟨z,its,n,r,e⟩:=h.ok I.hok;exact⟨its,r,⟨_,n,e,rfl,rfl,rfl⟩,z⟩
 refine⟨its.toList,r,⟨o,n,I.kIn a o hk,hc,hd,by simpa using hs⟩,?_⟩;have e:=r.length;simp only[Array.length_toList] at e;omega
theorem Inv.tuple (I:Inv X pins Z H s) (h:SqT X.K H a xs):∃its:List Value,Vals xs its/\IsTup s.heap a its.toArray/\xs.length<=sizeLine:=by
 rcases h with h | ⟨o,its,n,hk,hc,_,hs,hz,r⟩
 ·obtain⟨z,its,r,p⟩:=h.ok I.hok;exact⟨its,r,p.is,z⟩
 refine⟨its.toList,r,⟨o,I.kIn a o hk,hc,n,by simpa using hs⟩,?_⟩;have e:=r.length;simp only[Array.length_toList] at e;omega
theorem Inv.list_inj (I:Inv X pins Z H s) (h:SqL X.K H a xs) (h':SqL X.K H a ys):xs=ys:=by
 obtain⟨its,r,⟨o,n,e,_,_,d⟩,_⟩:=I.list h;obtain⟨its',r',⟨o',n',e',_,_,d'⟩,_⟩:=I.list h';rw[e] at e';cases e';rw[d] at d';injection d' with d1 _;have:its=its':=by simpa using congrArg Array.toList d1
 subst this;exact r.inj r'
theorem Inv.tuple_inj (I:Inv X pins Z H s) (h:SqT X.K H a xs) (h':SqT X.K H a ys):xs=ys:=by
 obtain⟨its,r,⟨o,e,_,n,d⟩,_⟩:=I.tuple h;obtain⟨its',r',⟨o',e',_,n',d'⟩,_⟩:=I.tuple h';rw[e] at e';cases e';rw[d] at d';injection d' with d1 _;have:its=its':=by simpa using congrArg Array.toList d1
 subst this;exact r.inj r'
end
abbrev Cx.wish (X:Cx) (E:Value->Shared->Prop):Cx:={ X with xe:=E}
abbrev Cx.nox (X:Cx):Cx:=X.wish fun _ _=>False
theorem Cx.Ok.wish {X:Cx}(ok:X.Ok) (E:Value->Shared->Prop):(X.wish E).Ok :=
 ⟨ok.mod,ok.kind,ok.glob,ok.blt,ok.above,ok.inj,ok.has,ok.cab,ok.hd,ok.frames,ok.stk,ok.exf,ok.bs,ok.bsz,ok.noex,ok.exfs,ok.funs,ok.frf⟩
theorem Cx.Ok.unwish {X:Cx}{E:Value->Shared->Prop}(ok:(X.wish E).Ok):X.Ok :=
 ⟨ok.mod,ok.kind,ok.glob,ok.blt,ok.above,ok.inj,ok.has,ok.cab,ok.hd,ok.frames,ok.stk,ok.exf,ok.bs,ok.bsz,ok.noex,ok.exfs,ok.funs,ok.frf⟩
section
variable {X:Cx}{pins:List (Addr × Obj)}{Z:St}{H:Hp}{s:Shared}{E:Value->Shared->Prop}
theorem Inv.wish (I:Inv X pins Z H s) (E:Value->Shared->Prop):Inv (X.wish E) pins Z H s:=⟨I.ok.wish E,I.os,I.bare,I.base,I.loc,I.cell,I.free,I.freeC,I.pin,I.hok,I.len⟩
theorem Inv.unwish (I:Inv (X.wish E) pins Z H s):Inv X pins Z H s:=⟨I.ok.unwish,I.os,I.bare,I.base,I.loc,I.cell,I.free,I.freeC,I.pin,I.hok,I.len⟩
theorem SP.unwish {D:Ends}{f:Flow}{s':Shared}(h:SP (X.wish E) pins D f s'):SP X pins D f s':=by
 cases f with
 |next=>obtain⟨Z',H',I,q⟩:=h;exact⟨Z',H',I.unwish,q⟩
 |brk=>obtain⟨Z',H',I,q⟩:=h;exact⟨Z',H',I.unwish,q⟩
 |cont=>obtain⟨Z',H',I,q⟩:=h;exact⟨Z',H',I.unwish,q⟩
 |ret u=>obtain⟨v,Z',H',I,r,q⟩:=h;exact⟨v,Z',H',I.unwish,r,q⟩
theorem PE.nox {e:Expr}{t:TE}(h:PE X.nox e t):PE X e t:=fun pins s Z H Q I hw =>
 wpAny_mono (h pins s Z H Q (I.wish _) hw) (fun _ _ ⟨v,H',I',r,q⟩=>⟨v,H',I'.unwish,r,q⟩) fun _ _ z=>False.elim z
theorem PT.nox {e:Expr}{t:TT}(h:PT X.nox e t):PT X e t:=fun pins s Z H Q I hw =>
 wpAny_mono (h pins s Z H Q (I.wish _) hw) (fun _ _ ⟨H',I',q⟩=>⟨H',I'.unwish,q⟩) fun _ _ z=>False.elim z
theorem PSs.nox {st:List Stmt}{t:TS}(h:PSs X.nox st t):PSs X st t:=fun pins s Z H D I hw =>
 wpAny_mono (h pins s Z H D (I.wish _) hw) (fun _ _ q=>q.unwish) fun _ _ z=>False.elim z
variable {st:Stmt}{rest:List Stmt}{t u:TS}{e:Expr}{te:TE}{pos:Pos}
def O8:TS:=fun D Z H=>D.nx Z H
def Ud (t u:TS):TS:=fun D Z H=>t { D with nx:=u D} Z H
theorem CZ:PSs X [] O8:=fun _ _ Z H _ I h=>wpAny_execs_nil ⟨Z,H,I,h⟩
theorem xZ (h1:PS X st t) (h2:PSs X rest u):PSs X (st::rest) (Ud t u):=by
 intro pins s Z H D I h;refine wpAny_execs_cons (thn (h1 pins s Z H { D with nx:=u D} I h) fun f s1 q=>?_);cases f with
 |next=>obtain⟨Z',H',I',q⟩:=q;exact h2 pins s1 Z' H' D I' q
 |ret v=>exact q
 |brk=>exact q
 |cont=>exact q
theorem Dc (h1:PS X st t):PSs X [st] t:=by
 intro pins s Z H D I h;refine wpAny_execs_cons (thn (h1 pins s Z H D I h) fun f s1 q=>?_);cases f with
 |next=>exact wpAny_execs_nil q
 |ret v=>exact q
 |brk=>exact q
 |cont=>exact q
theorem Inv.quiet {pins:List (Addr × Obj)}{Z:St}{H:Hp}{s:Shared}(I:Inv X pins Z H s):interactive X.env=false:=by simp [interactive,I.ok.kind]
def O9 (te:TE):TS:=fun D Z H=>te Z H fun _ H1=>D.nx Z H1
theorem Dd (he:PE X e te) (hs:swapsWith e none pos.line X.env=pure false:=by rfl):PS X (.Expr e pos) (O9 te):=by
 intro pins s Z H D I h;exact wpAny_Expr_any (thn (he pins s Z H _ I h) fun v s1 ⟨x,H1,I1,r1,q1⟩=>⟨Z,H1,I1,q1⟩) I.quiet hs
def Ue (te:TE):TS:=fun D Z H=>te Z H D.rt
theorem JD (he:PE X e te):PS X (.Return (some e) pos) (Ue te):=by
 intro pins s Z H D I h;exact wpAny_Return_some (thn (he pins s Z H _ I h) fun v s1 ⟨x,H1,I1,r1,q1⟩=>⟨x,Z,H1,I1,r1,q1⟩)
def Ug (c:TT) (t u:TS):TS:=fun D Z H=>c Z H fun b H1=>if b=true then t D Z H1 else u D Z H1
theorem Pa {c:Expr}{a b:List Stmt}{tc:TT}(hc:PT X c tc) (ha:PSs X a t) (hb:PSs X b u):PS X (.If c a b pos) (Ug tc t u):=by
 intro pins s Z H D I h;refine wpAny_If (thn (hc pins s Z H _ I h) fun d s1 ⟨H1,I1,q1⟩=>?_);cases d with
 |true=>exact ha pins s1 Z H1 D I1 q1
 |false=>exact hb pins s1 Z H1 D I1 q1
end
abbrev TG:=V->St->Hp->(St->Hp->Prop)->Prop
abbrev TGs:=List V->St->Hp->(St->Hp->Prop)->Prop
def PG (X:Cx) (target:Expr) (t:TG):Prop :=
 ∀(pins:List (Addr × Obj)) (s:Shared) (Z:St) (H:Hp) (v:V) (u:Value) (Q:St->Hp->Prop),Inv X pins Z H s->RelV v u->t v Z H Q ->
  wpAny (model X.prog X.w) X.A (assign target X.env u) (fun _ s'=>∃Z' H',Inv X pins Z' H' s'/\Q Z' H') X.xe s
def PGs (X:Cx) (ts:List Expr) (t:TGs):Prop :=
 ∀(pins:List (Addr × Obj)) (s:Shared) (Z:St) (H:Hp) (vs:List V) (us:List Value) (Q:St->Hp->Prop),Inv X pins Z H s->Vals vs us->t vs Z H Q ->
  wpAny (model X.prog X.w) X.A (assignInOrder ((assignEach ts X.env).map (·.2)) us) (fun _ s'=>∃Z' H',Inv X pins Z' H' s'/\Q Z' H') X.xe s
abbrev yc:=V->V->V->Hp->(Hp->Prop)->Prop
def PSet (X:Cx) (t:yc):Prop :=
 ∀(pins:List (Addr × Obj)) (s:Shared) (Z:St) (H:Hp) (o i v:V) (ov iv u:Value) (Q:Hp->Prop),Inv X pins Z H s->RelV o ov->RelV i iv->RelV v u->t o i v H Q ->
  wpAny (model X.prog X.w) X.A (setItem ov iv u) (fun _ s'=>∃H',Inv X pins Z H' s'/\Q H') X.xe s
section
variable {X:Cx}{pos:Pos}
def Hl (i:Nat):TG:=fun v Z H Q=>Q (Z.set i (some v)) H
theorem De {i:Nat}{x:Str}(hN:X.N.Nodup) (hi:X.N[i]?=some x) (hx:Loc X.env.scope x) (hf:X.fn x=true\/X.env.scope.names.lookup x=some .local:=by first | exact .inl rfl | exact .inr rfl | assumption):PG X (.Name x pos) (Hl i):=by
 intro pins s Z H v u Q I r h;exact wpAny_assign_Name (pK I hN hi hx r (fun s' I'=>⟨_,H,I',h⟩) hf)
def Uh:TGs:=fun vs Z H Q=>vs=[]/\Q Z H
def Pb (t:TG) (u:TGs):TGs:=fun vs Z H Q=>∃v r,vs=v::r/\t v Z H fun Z' H'=>u r Z' H' Q
theorem Df:PGs X [] Uh:=by
 intro pins s Z H vs us Q I r h;obtain⟨e,h⟩:=h;subst e;cases r;exact assignInOrder_nil ⟨Z,H,I,h⟩
theorem yd {e:Expr}{es:List Expr}{t:TG}{u:TGs}(h1:PG X e t) (h2:PGs X es u)
  (hs:(assignEach (e::es) X.env).map (·.2)=assign e X.env::(assignEach es X.env).map (·.2):=by rfl):PGs X (e::es) (Pb t u):=by
 intro pins s Z H vs us Q I r h;obtain⟨v,vr,e1,h⟩:=h;subst e1;cases r with
 |cons r rr =>
 rw[hs];refine assignInOrder_cons (thn (h1 pins s Z H _ _ _ I r h) fun _ s1 ⟨Z1,H1,I1,q1⟩=>?_);exact h2 pins s1 Z1 H1 _ _ Q I1 rr q1
def Ui (K:Frag) (n:Nat) (t:TGs):TG:=fun v Z H Q=>∃a xs,v=.ref a/\SqT K H a xs/\xs.length=n/\t xs Z H Q
theorem JF {es:List Expr}{k:Nat}{t:TGs}{n:Nat}(hc:X.calm=true) (h:PGs X es t)
  (hn:(assignEach es X.env).length=n:=by rfl) (hst:(assignEach es X.env).findIdx? (·.1)=none:=by rfl):PG X (.Tuple es k pos) (Ui X.K n t):=by
 intro pins s Z H v u Q I r hw;obtain⟨a,xs,e1,hq,hl,hw⟩:=hw;subst e1;cases r;obtain⟨its,rv,ht,hz⟩:=I.tuple hq;refine assign_Tuple_tuple (I.ok.hd hc) ht (by simp [hn,<- hl,rv.length]) hst fun h' hx=>?_;have I1:Inv X pins Z H { s with heap:=h'}:=I.kept (t':=s.toks) fun b o e=>hx b o (Nat.ne_of_lt (Heap.lt_size e)) e;exact h pins _ Z H xs _ Q I1 (by simpa using rv) hw
def Uj (to ti:TE) (t:yc):TG:=fun v Z H Q=>to Z H fun o H1=>ti Z H1 fun i H2=>t o i v H2 fun H3=>Q Z H3
theorem JG {o i:Expr}{to ti:TE}{t:yc}(ho:PE X o to) (hi:PE X i ti) (hs:PSet X t)
  (ha:∀v,assign (.Subscript o i pos) X.env v=(do
   let ov <- holding [v] (eval o X.env)
   let iv <- holding [v,ov] (eval i X.env)
   standAt pos
   holding [v,ov,iv] (setItem ov iv v)
   release [v,ov,iv] []):=by intro _;rfl):PG X (.Subscript o i pos) (Uj to ti t):=by
 intro pins s Z H v u Q I r h;rw[ha];refine wpAny_bind (wpAny_holding (thn (ho pins s Z H _ I h) fun ov s1 ⟨x,H1,I1,r1,q1⟩=>?_));refine wpAny_bind (wpAny_holding (thn (hi pins s1 Z H1 _ I1 q1) fun iv s2 ⟨y,H2,I2,r2,q2⟩=>?_));refine wpAny_bind (wpAny_standAt (wpAny_bind (wpAny_holding (thn (hs pins s2 Z H2 x y v ov iv u _ I2 r1 r2 r q2) fun _ s3 ⟨H3,I3,q3⟩=>?_))));exact wpAny_release ⟨Z,H3,I3,q3⟩
def Pg (te:TE) (g:TG):TS:=fun D Z H=>te Z H fun x H1=>g x Z H1 D.nx
theorem JH {tg e:Expr}{te:TE}{g:TG}(he:PE X e te) (hg:PG X tg g) (hs:swapsWithSole [tg] e pos.line X.env=pure false:=by rfl) (hw:swappedStores [tg] e X.env=pure none:=by rfl)
  (h1:(assignEach [tg] X.env).map (·.2)=[assign tg X.env]:=by rfl):PS X (.Assign [tg] e pos) (Pg te g):=by
 intro pins s Z H D I h;refine wpAny_Assign_stores (thn (he pins s Z H _ I h) fun v s1 ⟨x,H1,I1,r1,q1⟩=>?_) hs hw;rw[h1];exact thn (hg pins s1 Z H1 x v _ I1 r1 q1) fun _ s2 q=>q
theorem JK {i:Nat}{x:Str}{e:Expr}{te:TE}{pos':Pos}(hN:X.N.Nodup) (hi:X.N[i]?=some x) (hx:Loc X.env.scope x) (he:PE X e te) (hs:swapsWith e (some (.Name x pos')) pos.line X.env=pure false:=by rfl) (hf:X.fn x=true\/X.env.scope.names.lookup x=some .local:=by first | exact .inl rfl | exact .inr rfl | assumption) :
  PS X (.Assign [.Name x pos'] e pos) (Pg te (Hl i)):=by
 intro pins s Z H D I h;refine wpAny_Assign_Name (thn (he pins s Z H _ I h) fun v s1 ⟨y,H1,I1,r1,q1⟩=>?_) hs;exact pK I1 hN hi hx r1 (fun s2 I2=>⟨_,H1,I2,q1⟩) hf
def JL (c:TT) (tb:TS):TS:=fun D Z H=>∃W:Nat->St->Hp->Prop,(∃m,W m Z H)/\∀m Z H,W m Z H ->
 c Z H fun b H1=>if b=true then ∃N:St->Hp->Prop,(∀Z' H',N Z' H'->∃m',m'<m/\W m' Z' H')/\tb { D with nx:=N,ct:=N,bk:=D.nx} Z H1 else D.nx Z H1
theorem ye {c:Expr}{body:List Stmt}{tc:TT}{tb:TS}(hp:PassesOwn (model X.prog X.w) X.A X.env X.xe) (hc:PT X c tc) (hb:PSs X body tb):PS X (.While c body [] pos) (JL tc tb):=by
 intro pins s Z H D I h;obtain⟨W,⟨m0,w0⟩,turn⟩:=h;refine wpAny_While (codeAny_whileLoop (fun n s'=>∃Z' H',Inv X pins Z' H' s'/\W n Z' H') ?_ m0 ⟨Z,H,I,w0⟩);rintro n s1 ⟨Z1,H1,I1,w1⟩;refine wpAny_passesOwn hp (thn (hc pins s1 Z1 H1 _ I1 (turn n Z1 H1 w1)) fun b s2 ⟨H2,I2,q2⟩=>?_);cases b with
 |true =>
  obtain⟨N,hN,q2⟩:=q2;rw[if_pos rfl];refine wpAny_passesOwn hp (thn (hb pins s2 Z1 H2 _ I2 q2) fun f s3 q3=>?_);cases f with
  |next=>obtain⟨Z3,H3,I3,n3⟩:=q3;obtain⟨m',hm,w3⟩:=hN Z3 H3 n3;exact⟨m',hm,Z3,H3,I3,w3⟩
  |cont=>obtain⟨Z3,H3,I3,n3⟩:=q3;obtain⟨m',hm,w3⟩:=hN Z3 H3 n3;exact⟨m',hm,Z3,H3,I3,w3⟩
  |brk=>exact q3
  |ret v=>exact q3
 |false =>
 rw[if_neg Bool.false_ne_true];exact wpAny_execs_nil ⟨Z1,H2,I2,q2⟩
end
structure It where
 go:Nat->Hp->Prop
 yld:Nat->Hp->V->Hp->Prop
 stop:Nat->Hp->Prop
def jF (X:Cx) (pins:List (Addr × Obj)) (H:Hp) (b:Addr):Prop :=
 H b=none/\b≠X.env.locals/\b∉X.fs/\(b∈X.ex\/X.s₀.heap.objs.size<=b)/\(∀x c,X.env.cells.lookup x=some c->c≠b)/\∀p∈X.pn++pins,p.1≠b
theorem Inv.fpOk {X:Cx}{pins:List (Addr × Obj)}{Z:St}{H H':Hp}{s:Shared}{b:Addr}(I:Inv X pins Z H s) (hb:s.heap.objs.size<=b) (hn:H' b=none):jF X pins H' b:=by
 refine⟨hn,Nat.ne_of_gt (Nat.lt_of_lt_of_le I.lt hb),I.nofs hb,.inr (Nat.le_trans I.sz hb),fun x c e z=>?_,fun p hp z=>?_⟩
 ·obtain⟨v,q⟩:=I.cell x c e;exact absurd (Nat.lt_of_lt_of_le q.lt (by rw[z];exact hb)) (Nat.lt_irrefl _)
 exact absurd (Nat.lt_of_lt_of_le (Heap.lt_size (I.pin p hp).1) (by rw[z];exact hb)) (Nat.lt_irrefl _)
structure Turn (P:Program) (w:World) (K:Frag) (tg:Expr) (J:It) (fp:List Addr) (it:Addr) (tn:Nat->Heap->Prop):Prop where
 mem:it∈fp
 obj:∀i h,tn i h->∀b∈fp,∃o,h.get? b=some o/\∀v,o.data≠.cell v
 keep:∀i h h',tn i h->(∀b∈fp,∀o,h.get? b=some o->h'.get? b=some o)->tn i h'
 item:∀(X:Cx),X.prog=P->X.w=w->X.K=K->X.calm=true->∀(i:Nat) (pins:List (Addr × Obj)) (s:Shared) (Z:St) (H:Hp) (E:Value->Shared->Prop),Inv X pins Z H s->(∀b∈fp,jF X pins H b)->tn i s.heap->J.go i H ->
  wpAny (model P w) X.A (pyNext (.ref it)) (fun r s1=>∃u,r=some u /\
   wpAny (model P w) X.A (letOwnedTupleGo tg (.ref it) u) (fun _ s2=>∃x H',Inv X pins Z H' s2/\RelV x u/\J.yld i H x H'/\tn (i+1) s2.heap/\∀b∈fp,H' b=none) E s1) E s
 done:∀(X:Cx),X.prog=P->X.w=w->X.K=K->X.calm=true->∀(i:Nat) (pins:List (Addr × Obj)) (s:Shared) (Z:St) (H:Hp) (E:Value->Shared->Prop),Inv X pins Z H s->(∀b∈fp,jF X pins H b)->tn i s.heap->J.stop i H ->
  wpAny (model P w) X.A (pyNext (.ref it)) (fun r s1=>r=none/\Inv X pins Z H s1) E s
 self:∀(A:Around) (i:Nat) (s:Shared) (Q:Value->Shared->Prop) (E:Value->Shared->Prop),tn i s.heap->Q (.ref it) s->wpAny (model P w) A (pyIter (.ref it)) Q E s
abbrev TI:=St->Hp->(It->Hp->Prop)->Prop
def PIE (X:Cx) (pins:List (Addr × Obj)) (Z:St) (tg:Expr) (R:It->Hp->Prop) (itv:Value) (s2:Shared):Prop :=
 ∃(it:Addr) (fp:List Addr) (tn:Nat->Heap->Prop) (J:It) (H':Hp),itv=.ref it/\Inv X pins Z H' s2/\Turn X.prog X.w X.K tg J fp it tn/\tn 0 s2.heap/\(∀b∈fp,jF X pins H' b)/\R J H'
def PI (X:Cx) (tg iter:Expr) (wi:TI):Prop :=
 ∀(pins:List (Addr × Obj)) (s:Shared) (Z:St) (H:Hp) (R:It->Hp->Prop),Inv X pins Z H s->wi Z H R ->
  wpAny (model X.prog X.w) X.A (eval iter X.env) (fun v s1=>wpAny (model X.prog X.w) X.A (pyIter v) (PIE X pins Z tg R) X.xe s1) X.xe s
theorem uI {M:Model}{A:Around}{E:Value->Shared->Prop}{s:Shared}{tg:Expr}{it:Addr}{u:Value}{o:Obj}{n:String}{vs:Array Value}{Q:Unit->Shared->Prop}(ho:s.heap.get? it=some o) (hc:o.cls=.type n) (hd:o.data=.fields vs)
  (hn:["enumerate","zip","dict_itemiterator","dict_reverseitemiterator","odict_iterator","itertools.zip_longest","itertools.pairwise"].contains n=false) (hQ:Q () s):wpAny M A (letOwnedTupleGo tg (.ref it) u) Q E s:=by
 unfold letOwnedTupleGo;cases tg <;> first
  |exact wpAny_pure hQ
  | (cases u <;> first
    |exact wpAny_pure hQ
    | (refine wpAny_bind (wpAny_load ho ?_)
       rw[hc,hd]
       show wpAny M A (if (["enumerate","zip","dict_itemiterator","dict_reverseitemiterator","odict_iterator","itertools.zip_longest","itertools.pairwise"].contains n&&vs[0]?==some (rawInt _))=true then _ else _) Q E s
       rw[if_neg (by intro h;rw[hn,Bool.false_and] at h;cases h)]
       exact wpAny_pure hQ))
def Itl (K:Frag) (a:Addr):It :=
 ⟨fun i H=>∃xs x,SqL K H a xs/\xs[i]?=some x,fun i H x H'=>H'=H/\∀xs,SqL K H a xs->xs[i]?=some x,fun i H=>∃xs,SqL K H a xs/\xs.length<=i⟩
def Itt (K:Frag) (a:Addr):It :=
 ⟨fun i H=>∃xs x,SqT K H a xs/\xs[i]?=some x,fun i H x H'=>H'=H/\∀xs,SqT K H a xs->xs[i]?=some x,fun i H=>∃xs,SqT K H a xs/\xs.length<=i⟩
def Itr (lo:Int) (n:Nat):It:=⟨fun i _=>i<n,fun i H x H'=>H'=H/\x=.int (lo+i),fun i _=>n<=i⟩
theorem wF {P:Program}{w:World}{K:Frag}{tg:Expr}(a it:Addr):Turn P w K tg (Itl K a) [it] it (fun i h=>h.IsListIter it a i) where
 mem:=by simp
 obj:=fun i h st b hb=>by
  have e:b=it:=by simpa using hb
  subst e
  obtain⟨o,e,c,d⟩:=st
  exact⟨o,e,fun v z=>by rw[d] at z;cases z⟩
 keep:=fun i h h' st k=>st.at fun o e=>k it (by simp) o e
 item:=by
  intro X hP hw hK hc i pins s Z H E I hf st hg
  subst hP hw hK
  obtain⟨xs,x,hq,hx⟩:=hg
  obtain⟨its,rv,p,hz⟩:=I.list hq
  obtain⟨u,hu,ru⟩:=rv.get hx
  obtain⟨f0,f1,f2,f3,f4,f5⟩:=hf it (by simp)
  refine wpAny_pyNext_list_item st p.isList (x:=u) (by simpa using hu) fun h' st' sb=>?_
  have I1:Inv X pins Z H { s with heap:=h'}:=I.turned (t':=s.toks) (fun b o hb e=>(sb.2 b hb).trans e) f0 f1 f3 f4 f5
  obtain⟨o,e,c,d⟩:=id st'
  exact⟨u,rfl,uI (s:={ s with heap:=h'}) e c d (by decide) ⟨x,H,I1,ru,⟨rfl,fun ys hy=>by rw[I.list_inj hy hq];exact hx⟩,st',fun b hb=>(hf b hb).1⟩⟩
 done:=by
  intro X hP hw hK hc i pins s Z H E I hf st hg
  subst hP hw hK
  obtain⟨xs,hq,hx⟩:=hg
  obtain⟨its,rv,p,hz⟩:=I.list hq
  obtain⟨f0,f1,f2,f3,f4,f5⟩:=hf it (by simp)
  have hl:=rv.length
  exact wpAny_pyNext_list_end (I.ok.hd hc) st p.isList (by simp;omega) fun h' eb=>⟨rfl,I.turned (t':=s.toks) (fun b o hb e=>eb b o hb e) f0 f1 f3 f4 f5⟩
 self:=fun _ _ _ _ _ st h=>wpAny_pyIter_listiter st h
theorem rZ {P:Program}{w:World}{K:Frag}{tg:Expr}(a it:Addr):Turn P w K tg (Itt K a) [it] it (fun i h=>h.IsTupleIter it a i) where
 mem:=by simp
 obj:=fun i h st b hb=>by
  have e:b=it:=by simpa using hb
  subst e
  obtain⟨o,e,c,d⟩:=st
  exact⟨o,e,fun v z=>by rw[d] at z;cases z⟩
 keep:=fun i h h' st k=>st.at fun o e=>k it (by simp) o e
 item:=by
  intro X hP hw hK hc i pins s Z H E I hf st hg
  subst hP hw hK
  obtain⟨xs,x,hq,hx⟩:=hg
  obtain⟨its,rv,p,hz⟩:=I.tuple hq
  obtain⟨u,hu,ru⟩:=rv.get hx
  obtain⟨f0,f1,f2,f3,f4,f5⟩:=hf it (by simp)
  refine wpAny_pyNext_tuple_item st (show s.heap.IsTuple a its.toArray from p) (x:=u) (by simpa using hu) fun h' st' sb=>?_
  have I1:Inv X pins Z H { s with heap:=h'}:=I.turned (t':=s.toks) (fun b o hb e=>(sb.2 b hb).trans e) f0 f1 f3 f4 f5
  obtain⟨o,e,c,d⟩:=id st'
  exact⟨u,rfl,uI (s:={ s with heap:=h'}) e c d (by decide) ⟨x,H,I1,ru,⟨rfl,fun ys hy=>by rw[I.tuple_inj hy hq];exact hx⟩,st',fun b hb=>(hf b hb).1⟩⟩
 done:=by
  intro X hP hw hK hc i pins s Z H E I hf st hg
  subst hP hw hK
  obtain⟨xs,hq,hx⟩:=hg
  obtain⟨its,rv,p,hz⟩:=I.tuple hq
  obtain⟨f0,f1,f2,f3,f4,f5⟩:=hf it (by simp)
  have hl:=rv.length
  exact wpAny_pyNext_tuple_end (I.ok.hd hc) st (show s.heap.IsTuple a its.toArray from p) (by simp;omega) fun h' eb=>⟨rfl,I.turned (t':=s.toks) (fun b o hb e=>eb b o hb e) f0 f1 f3 f4 f5⟩
 self:=fun _ _ _ _ _ st h=>wpAny_pyIter_tupleiter st h
theorem sr {P:Program}{w:World}{K:Frag}{tg:Expr}(it:Addr) (lo:Int) (n:Nat):Turn P w K tg (Itr lo n) [it] it (fun i h=>IsRangeIter h it (lo+(i:Nat)*1) ((n:Int) - (i:Nat)) 1) where
 mem:=by simp
 obj:=fun i h st b hb=>by
  have e:b=it:=by simpa using hb
  subst e
  exact⟨_,st,fun v z=>by
   have z':Data.fields _=Data.cell v:=z
   cases z'⟩
 keep:=fun i h h' st k=>k it (by simp) _ st
 item:=by
  intro X hP hw hK hc i pins s Z H E I hf st hg
  subst hP hw hK
  obtain⟨f0,f1,f2,f3,f4,f5⟩:=hf it (by simp)
  have W:=Walks.range (prog:=X.prog) (w:=X.w) (I.ok.hd hc) it lo 1 n
  refine W.item i s _ _ hg st fun v h' tk hv st' kk=>?_
  obtain⟨t,rfl⟩:=hv
  have I1:Inv X pins Z H { s with heap:=h',toks:=tk}:=I.turned (fun b o hb e=>kk b o (by simpa using hb) e) f0 f1 f3 f4 f5
  refine⟨_,rfl,uI (s:={ s with heap:=h',toks:=tk}) (n:="range_iterator") st' rfl rfl (by decide) ⟨.int (lo+i),H,I1,⟨t,?_⟩,⟨rfl,rfl⟩,st',fun b hb=>(hf b hb).1⟩⟩
  rw[Int.mul_one]
 done:=by
  intro X hP hw hK hc i pins s Z H E I hf st hg
  subst hP hw hK
  obtain⟨f0,f1,f2,f3,f4,f5⟩:=hf it (by simp)
  exact wpAny_pyNext_range_end (I.ok.hd hc) st (by have:n<=i:=hg;omega) fun h' eb=>⟨rfl,I.turned (t':=s.toks) (fun b o hb e=>eb b o hb e) f0 f1 f3 f4 f5⟩
 self:=fun _ _ _ _ _ st h=>wpAny_pyIter_rangeiter st h
section
variable {X:Cx}{tg:Expr}
def Ph (K:Frag) (tl:TE):TI:=fun Z H R=>tl Z H fun x H1=>∃a,x=.ref a/\(∃xs,SqL K H1 a xs)/\R (Itl K a) H1
def Uk (K:Frag) (tl:TE):TI:=fun Z H R=>tl Z H fun x H1=>∃a,x=.ref a/\(∃xs,SqT K H1 a xs)/\R (Itt K a) H1
theorem Dg {l:Expr}{tl:TE}(hl:PE X l tl):PI X tg l (Ph X.K tl):=by
 intro pins s Z H R I h;refine thn (hl pins s Z H _ I h) fun v s1 ⟨x,H1,I1,r1,q1⟩=>?_;obtain⟨a,e,⟨xs,hq⟩,q⟩:=q1;subst e;cases r1;obtain⟨its,rv,p,hz⟩:=I1.list hq;refine wpAny_pyIter_list p.isList ?_;refine⟨s1.heap.objs.size,[s1.heap.objs.size],_,_,H1,rfl,I1.kept (t':=s1.toks) fun b o e=>Heap.get?_push_of_some _ e,wF a _,⟨_,Heap.get?_push_size _ rfl,rfl,rfl⟩,fun b hb=>?_,q⟩;have e:b=s1.heap.objs.size:=by simpa using hb
 subst e;exact I1.fpOk (Nat.le_refl _) (I1.hok.fresh (Nat.le_refl _))
theorem JM {l:Expr}{tl:TE}(hl:PE X l tl):PI X tg l (Uk X.K tl):=by
 intro pins s Z H R I h;refine thn (hl pins s Z H _ I h) fun v s1 ⟨x,H1,I1,r1,q1⟩=>?_;obtain⟨a,e,⟨xs,hq⟩,q⟩:=q1;subst e;cases r1;obtain⟨its,rv,p,hz⟩:=I1.tuple hq;refine wpAny_pyIter_tuple (show s1.heap.IsTuple a its.toArray from p) ?_;refine⟨s1.heap.objs.size,[s1.heap.objs.size],_,_,H1,rfl,I1.kept (t':=s1.toks) fun b o e=>Heap.get?_push_of_some _ e,rZ a _,⟨_,Heap.get?_push_size _ rfl,rfl,rfl⟩,fun b hb=>?_,q⟩;have e:b=s1.heap.objs.size:=by simpa using hb
 subst e;exact I1.fpOk (Nat.le_refl _) (I1.hok.fresh (Nat.le_refl _))
theorem pL {pins:List (Addr × Obj)}{Z:St}{H:Hp}{s:Shared}{R:It->Hp->Prop}{E:Value->Shared->Prop}{lo hi:Int}{t u v:Tok}{tk:Nat}(I:Inv X pins Z H s) (h1 : -(2^62)<=lo) (h2:lo<2^62) (h3 : -(2^62)<=hi) (h4:hi<2^62)
  (q:R (Itr lo (hi - lo).toNat) H):wpAny (model X.prog X.w) X.A (pyIter (.ref s.heap.objs.size)) (PIE X pins Z tg R) E { s with heap:=s.heap.push { cls:=.type "range",data:=.fields #[.int lo t,.int hi u,.int 1 v]},toks:=tk}:=by
 refine wpAny_pyIter_range (IsRange.new ..) (small_one h1 h2 h3 h4) ?_;have I1:Inv X pins Z H { s with heap:=s.heap.push { cls:=.type "range",data:=.fields #[.int lo t,.int hi u,.int 1 v]},toks:=tk}:=I.kept fun b o e=>Heap.get?_push_of_some _ e;refine⟨(s.heap.push { cls:=.type "range",data:=.fields #[.int lo t,.int hi u,.int 1 v]}).objs.size,[(s.heap.push { cls:=.type "range",data:=.fields #[.int lo t,.int hi u,.int 1 v]}).objs.size],_,_,H,rfl,
  I1.kept (t':=tk) fun b o e=>Heap.get?_push_of_some _ e,sr _ lo (hi - lo).toNat,?_,fun b hb=>?_,q⟩
 ·have e1:lo+((0:Nat):Int)*1=lo:=by simp
  have e2:(((hi - lo).toNat:Nat):Int) - ((0:Nat):Int)=Builtin.Range.rangeSize lo hi 1:=by rw[rangeSize_one];split <;> omega
  show IsRangeIter _ _ (lo+((0:Nat):Int)*1) ((((hi - lo).toNat:Nat):Int) - ((0:Nat):Int)) 1;rw[e1,e2];exact Heap.get?_push_size _ rfl
 have e:b=(s.heap.push { cls:=.type "range",data:=.fields #[.int lo t,.int hi u,.int 1 v]}).objs.size:=by simpa using hb
 subst e;exact I1.fpOk (Nat.le_refl _) (I1.hok.fresh (Nat.le_refl _))
def Pj (ta:TA):TI:=fun Z H R=>ta Z H fun vs H1=>∃j:Int,vs=[.int j] /\ -(2^62)<=j/\j<2^62/\R (Itr 0 j.toNat) H1
def Pk (ta:TA):TI:=fun Z H R=>ta Z H fun vs H1=>∃i j:Int,vs=[.int i,.int j]/\(-(2^62)<=i/\i<2^62 /\ -(2^62)<=j/\j<2^62)/\R (Itr i (j - i).toNat) H1
theorem wG {a:Expr}{ta:TA}{p pos:Pos}(hg:Gl X "range") (hm:X.mg "range"=none) (ha:PA X [a] ta) (hs:starEach [a] X.env=[(false,eval a X.env)]:=by rfl):PI X tg (.Call (.Name "range" p) [a] [] pos) (Pj ta):=by
 intro pins s Z H R I h;refine Call_ (dU I hg hm boot_range (PyProof.Rows.callWith_type1 (thn (ha pos pins s Z H _ I h) fun us s1 ⟨vs,H1,I1,r1,q1⟩=>?_) hs rfl));obtain⟨j,e,q1,q2,q⟩:=q1;subst e;cases r1 with
 |cons r rr =>
 cases rr;obtain⟨t,rfl⟩:=r;exact call_range_1 (pL I1 (by omega) (by omega) q1 q2 (by simpa using q))
theorem wH {a b:Expr}{ta:TA}{p pos:Pos}(hg:Gl X "range") (hm:X.mg "range"=none) (ha:PA X [a,b] ta) (hs:starEach [a,b] X.env=[(false,eval a X.env),(false,eval b X.env)]:=by rfl) (hs2:starEach [b] X.env=[(false,eval b X.env)]:=by rfl) :
  PI X tg (.Call (.Name "range" p) [a,b] [] pos) (Pk ta):=by
 intro pins s Z H R I h;refine Call_ (dU I hg hm boot_range (PyProof.Rows.callWith_type1 (thn (ha pos pins s Z H _ I h) fun us s1 ⟨vs,H1,I1,r1,q1⟩=>?_) (by rw[hs,hs2]) (by rw[hs2];rfl)));obtain⟨i,j,e,⟨q1,q2,q3,q4⟩,q⟩:=q1;subst e;cases r1 with
 |cons r rr =>
 cases rr with
 |cons r' rr =>
 cases rr;obtain⟨t,rfl⟩:=r;obtain⟨t',rfl⟩:=r';exact call_range_2 (pL I1 q1 q2 q3 q4 q)
def Ul (wi:TI) (g:TG) (tb:TS):TS:=fun D Z H=>wi Z H fun J H1=>∃W:Nat->Nat->St->Hp->Prop,(∃m,W 0 m Z H1)/\∀i m Z H,W i m Z H ->
 (J.stop i H/\D.nx Z H)\/(J.go i H/\∃N:St->Hp->Prop,(∀Z' H',N Z' H'->∃m',m'<m/\W (i+1) m' Z' H')/\∀x H',J.yld i H x H'->g x Z H' fun Z2 H2=>tb { D with nx:=N,ct:=N,bk:=D.nx} Z2 H2)
def jW (fp : List Addr) (h : Heap) : List (Addr × Obj):=fp.filterMap fun b => (h.get? b).map fun o => (b,o)
theorem fH {fp : List Addr} {h : Heap} {b : Addr} {o : Obj} (hb : b ∈ fp) (e : h.get? b = some o) : (b,o) ∈ jW fp h:=List.mem_filterMap.mpr ⟨b,hb,by rw [e]; rfl⟩
theorem wI {fp:List Addr}{h:Heap}{p:Addr × Obj}(hp:p∈jW fp h):p.1∈fp/\h.get? p.1=some p.2:=by
 obtain ⟨b,hb,e⟩:=List.mem_filterMap.mp hp;cases q : h.get? b with
 |none=>rw[q] at e;cases e
 |some o =>
 rw[q] at e;have e':(b,o)=p:=Option.some.inj e;subst e';exact⟨hb,q⟩
theorem Inv.pinned {pins:List (Addr × Obj)}{Z:St}{H:Hp}{s:Shared}{fp:List Addr}(I:Inv X pins Z H s) (hf:∀b∈fp,jF X pins H b) (ho:∀b∈fp,∃o,s.heap.get? b=some o/\∀v,o.data≠.cell v):Inv X (pins++jW fp s.heap) Z H s :=
 I.pins_of fun p hp=>(List.mem_append.mp hp).elim (fun z=>I.pin p (List.mem_append_right _ z)) fun z=>by
  obtain⟨hb,e⟩:=wI z;obtain⟨f0,f1,f2,_⟩:=hf p.1 hb;obtain⟨o,e',d⟩:=ho p.1 hb;rw[e] at e';cases e';exact⟨e,f0,f1,f2,d⟩
theorem Inv.unpinned {pins pl:List (Addr × Obj)}{Z:St}{H:Hp}{s:Shared}(I:Inv X (pins++pl) Z H s):Inv X pins Z H s:=I.pins_of fun p hp=>I.pin p (List.mem_append_right _ (List.mem_append_left _ hp))
theorem JN {iter:Expr}{body:List Stmt}{wi:TI}{g:TG}{tb:TS}{pos:Pos}(hp:PassesOwn (model X.prog X.w) X.A X.env X.xe) (hc:X.calm=true) (hi:PI X tg iter wi) (hg:PG X tg g) (hb:PSs X body tb)
  (hs:∀x,foldedSetIterable iter X.env x=pure x:=by intro _;rfl):PS X (.For tg iter body [] pos) (Ul wi g tb):=by
 intro pins s Z H D I h;refine wpAny_For (thn (hi pins s Z H _ I h) fun v s1 h1=>thn h1 fun itv s2 h2=>?_) hs;obtain⟨it,fp,tn,J,H2,e,I2,T,st2,f2,W,⟨m0,w0⟩,turn⟩:=h2;subst e
 have stat:∀{H':Hp},(∀b∈fp,H' b=none)->∀b∈fp,jF X pins H' b:=fun hn b hb=>⟨hn b hb,(f2 b hb).2⟩;refine codeAny_forLoop_any (fun n s'=>∃i Z' H',Inv X pins Z' H' s'/\tn i s'.heap/\(∀b∈fp,H' b=none)/\W i n Z' H') ?_ m0 ⟨0,Z,H2,I2,st2,fun b hb=>(f2 b hb).1,w0⟩;rintro n s3 ⟨i,Z3,H3,I3,st3,fr3,w3⟩;rcases turn i n Z3 H3 w3 with ⟨stop,qn⟩ | ⟨go,N,hN,step⟩
 ·refine wpAny_passesOwn hp (thn (T.done X rfl rfl rfl hc i pins s3 Z3 H3 X.xe I3 (stat fr3) st3 stop) fun r s4 ⟨hr,I4⟩=>?_);subst hr;exact wpAny_execs_nil ⟨Z3,H3,I4,qn⟩
 refine wpAny_passesOwn hp (thn (T.item X rfl rfl rfl hc i pins s3 Z3 H3 X.xe I3 (stat fr3) st3 go) fun r s4 ⟨u,hr,h4⟩=>?_);subst hr;refine wpAny_passesOwn hp (thn h4 fun _ s5 ⟨x,H5,I5,r5,y5,st5,fr5⟩=>?_);have I5':=I5.pinned (stat fr5) (T.obj _ _ st5);refine wpAny_passesOwn hp (thn (hg _ s5 Z3 H5 x u _ I5' r5 (step x H5 y5)) fun _ s6 ⟨Z6,H6,I6,q6⟩=>?_);refine wpAny_passesOwn hp (thn (hb _ s6 Z6 H6 _ I6 q6) fun f s7 q7=>?_);have again:∀{Z7:St} {H7:Hp},Inv X (pins++jW fp s5.heap) Z7 H7 s7->N Z7 H7->∃m,m<n/\∃i Z' H',Inv X pins Z' H' s7/\tn i s7.heap/\(∀b∈fp,H' b=none)/\W i m Z' H':=fun {Z7 H7} I7 n7=>by obtain⟨m',hm,w7⟩:=hN Z7 H7 n7;refine⟨m',hm,i+1,Z7,H7,I7.unpinned,T.keep _ _ _ st5 fun b hb o e=>(I7.pin (b,o) (List.mem_append_right _ (List.mem_append_right _ (fH hb e)))).1,fun b hb=>?_,w7⟩;obtain⟨o,e,d⟩:=T.obj _ _ st5 b hb;exact (I7.pin (b,o) (List.mem_append_right _ (List.mem_append_right _ (fH hb e)))).2.1
 cases f with
 |next=>obtain⟨Z7,H7,I7,n7⟩:=q7;exact again I7 n7
 |cont=>obtain⟨Z7,H7,I7,n7⟩:=q7;exact again I7 n7
 |brk=>obtain⟨Z7,H7,I7,q7⟩:=q7;exact⟨Z7,H7,I7.unpinned,q7⟩
 |ret v=>obtain⟨x7,Z7,H7,I7,r7,q7⟩:=q7;exact⟨x7,Z7,H7,I7.unpinned,r7,q7⟩
end
abbrev R2:=V->V->Hp->VK->Prop
def OpR (X:Cx) (f:Value->Value->Sem Value) (r:R2):Prop :=
 ∀(pins:List (Addr × Obj)) (s:Shared) (Z:St) (H:Hp) (x y:V) (v u:Value) (Q:VK),Inv X pins Z H s->RelV x v->RelV y u->r x y H Q ->
  wpAny (model X.prog X.w) X.A (f v u) (EP X pins Z Q) X.xe s
def UnR (X:Cx) (f:Value->Sem Value) (r:V->Hp->VK->Prop):Prop :=
 ∀(pins:List (Addr × Obj)) (s:Shared) (Z:St) (H:Hp) (x:V) (v:Value) (Q:VK),Inv X pins Z H s->RelV x v->r x H Q ->
  wpAny (model X.prog X.w) X.A (f v) (EP X pins Z Q) X.xe s
def CallR (X:Cx) (f:Value) (r:List V->Hp->VK->Prop):Prop :=
 ∀(pins:List (Addr × Obj)) (s:Shared) (Z:St) (H:Hp) (xs:List V) (us:List Value) (Q:VK),Inv X pins Z H s->Vals xs us->r xs H Q ->
  wpAny (model X.prog X.w) X.A (call f us) (EP X pins Z Q) X.xe s
def tOp (r:R2) (ta tb:TE):TE:=fun Z H Q=>ta Z H fun x H1=>tb Z H1 fun y H2=>r x y H2 Q
def tUn (r:V->Hp->VK->Prop) (ta:TE):TE:=fun Z H Q=>ta Z H fun x H1=>r x H1 Q
def rI (C:Int->Int->Prop) (g:Int->Int->V):R2:=fun x y H Q=>∃i j,x=.int i/\y=.int j/\C i j/\Q (g i j) H
def rI0 (g:Int->Int->V):R2:=fun x y H Q=>∃i j,x=.int i/\y=.int j/\Q (g i j) H
def rU (g:Int->V):V->Hp->VK->Prop:=fun x H Q=>∃i,x=.int i/\Q (g i) H
section
variable {X:Cx}{a b c:Expr}{ta tb tc:TE}{pos:Pos}
theorem JP (ha:PE X a ta) (hb:PE X b tb) {pins:List (Addr × Obj)}{s:Shared}{Z:St}{H:Hp}{R:V->V->Hp->Prop}(I:Inv X pins Z H s)
  (h:ta Z H fun x H1=>tb Z H1 fun y H2=>R x y H2) {Q:Value->Shared->Prop} {f:Value->Value->Sem Value}
  (hf:∀v u s2 x y H2,Inv X pins Z H2 s2->RelV x v->RelV y u->R x y H2->wpAny (model X.prog X.w) X.A (f v u) Q X.xe s2) :
  wpAny (model X.prog X.w) X.A (eval a X.env) (fun v s₁=>wpAny (model X.prog X.w) X.A (eval b X.env) (fun u s₂=>wpAny (model X.prog X.w) X.A (f v u) Q X.xe s₂) X.xe s₁) X.xe s:=by
 refine thn (ha pins s Z H _ I h) fun v s1 ⟨x,H1,I1,r1,q1⟩=>?_;refine thn (hb pins s1 Z H1 _ I1 q1) fun u s2 ⟨y,H2,I2,r2,q2⟩=>?_;exact hf v u s2 x y H2 I2 r1 r2 q2
theorem Pn {op:Operator}{r:R2}(ho:OpR X (binaryOp op) r) (ha:PE X a ta) (hb:PE X b tb):PE X (.BinOp a op b pos) (tOp r ta tb):=by
 intro pins s Z H Q I h;exact wpAny_BinOp (JP ha hb I h fun v u s2 x y H2 I2 rx ry q=>ho pins s2 Z H2 x y v u Q I2 rx ry q)
theorem Pq {op:UnaryOp}{r:V->Hp->VK->Prop}(ho:UnR X (unaryOp op) r) (ha:PE X a ta):PE X (.UnaryOp op a pos) (tUn r ta):=by
 intro pins s Z H Q I h;exact UnaryOp_ (thn (ha pins s Z H _ I h) fun v s1 ⟨x,H1,I1,r1,q1⟩=>ho pins s1 Z H1 x v Q I1 r1 q1)
theorem opI {f:Value->Value->Sem Value}{C:Int->Int->Prop}{g:Int->Int->Int}
  (rule:∀(i j:Int) (t u:Tok) (s:Shared) (Q:Value->Shared->Prop) (E:Value->Shared->Prop),C i j->Q (.int (g i j) s.toks) { s with toks:=s.toks+1}->wpAny (model X.prog X.w) X.A (f (.int i t) (.int j u)) Q E s) :
  OpR X f (rI C fun i j=>.int (g i j)):=by
 intro pins s Z H x y v u Q I rx ry h;obtain⟨i,j,rfl,rfl,hc,q⟩:=h;obtain⟨t,rfl⟩:=rx;obtain⟨t',rfl⟩:=ry;exact rule i j t t' s _ _ hc ⟨.int (g i j),H,I.tok _,⟨_,rfl⟩,q⟩
theorem Dh {f:Value->Value->Sem Value}{g:Int->Int->Int}
  (rule:∀(i j:Int) (t u:Tok) (s:Shared) (Q:Value->Shared->Prop) (E:Value->Shared->Prop),Q (.int (g i j) s.toks) { s with toks:=s.toks+1}->wpAny (model X.prog X.w) X.A (f (.int i t) (.int j u)) Q E s) :
  OpR X f (rI0 fun i j=>.int (g i j)):=by
 intro pins s Z H x y v u Q I rx ry h;obtain⟨i,j,rfl,rfl,q⟩:=h;obtain⟨t,rfl⟩:=rx;obtain⟨t',rfl⟩:=ry;exact rule i j t t' s _ _ ⟨.int (g i j),H,I.tok _,⟨_,rfl⟩,q⟩
theorem JQ {f:Value->Value->Sem Value}{g:Int->Int->Bool}
  (rule:∀(i j:Int) (t u:Tok) (s:Shared) (Q:Value->Shared->Prop) (E:Value->Shared->Prop),Q (.bool (g i j)) s->wpAny (model X.prog X.w) X.A (f (.int i t) (.int j u)) Q E s) :
  OpR X f (rI0 fun i j=>.bl (g i j)):=by
 intro pins s Z H x y v u Q I rx ry h;obtain⟨i,j,rfl,rfl,q⟩:=h;obtain⟨t,rfl⟩:=rx;obtain⟨t',rfl⟩:=ry;exact rule i j t t' s _ _ ⟨.bl (g i j),H,I,rfl,q⟩
def Pu (i j:Int):Prop:=0<=j/\j<=1000000/\i.natAbs<2^64
def CMul (i j:Int):Prop:=(-(2^64)<i/\i<2^64)\/(-(2^64)<j/\j<2^64)
theorem CMul.ok {i j:Int}(h:CMul i j):IntMulOk i j:=by
 rcases h with ⟨h1,h2⟩ | ⟨h1,h2⟩
 ·exact .of_left (intBits_le_64 h1 h2)
 exact .of_right (intBits_le_64 h1 h2)
theorem op_add:OpR X (binaryOp .Add) (rI0 fun i j=>.int (i+j)):=Dh fun _ _ _ _ _ _ _ q=>add_int q
theorem JR:OpR X (binaryOp .Sub) (rI0 fun i j=>.int (i - j)):=Dh fun _ _ _ _ _ _ _ q=>sub_int q
theorem JS:OpR X (binaryOp .Mult) (rI CMul fun i j=>.int (i*j)):=opI fun _ _ _ _ _ _ _ hc q=>mul_int q hc.ok
theorem JT:OpR X (binaryOp .Mod) (rI (fun _ j=>0<j) fun i j=>.int (i%j)):=opI fun i j _ _ _ _ _ hc q=>by
 have h1:(0:Int)<j:=hc;exact mod_int' (by omega) (by rw[Int.fmod_eq_emod_of_nonneg i (by omega)];exact q)
theorem JV:OpR X (binaryOp .Pow) (rI Pu fun i j=>.int (i^j.toNat)):=opI fun _ _ _ _ _ _ _ hc q=>pow_int_small hc.1 hc.2.1 hc.2.2 q
theorem JW:OpR X (binaryOp .BitAnd) (rI0 fun i j=>.int (Builtin.bitAnd i j)):=Dh fun _ _ _ _ _ _ _ q=>and_int q
theorem Px:OpR X (binaryOp .BitOr) (rI0 fun i j=>.int (Builtin.bitOr i j)):=Dh fun _ _ _ _ _ _ _ q=>or_int q
theorem unI {f:Value->Sem Value}{g:Int->Int}
  (rule:∀(i:Int) (t:Tok) (s:Shared) (Q:Value->Shared->Prop) (E:Value->Shared->Prop),Q (.int (g i) s.toks) { s with toks:=s.toks+1}->wpAny (model X.prog X.w) X.A (f (.int i t)) Q E s) :
  UnR X f (rU fun i=>.int (g i)):=by
 intro pins s Z H x v Q I rx h;obtain⟨i,rfl,q⟩:=h;obtain⟨t,rfl⟩:=rx;exact rule i t s _ _ ⟨.int (g i),H,I.tok _,⟨_,rfl⟩,q⟩
theorem JX:UnR X (unaryOp .USub) (rU fun i=>.int (-i)):=unI fun _ _ _ _ _ q=>neg_int q
end
def ik:V->V->Bool
 |.non,.non=>true | .non,.int _=>true | .int _,.non=>true | .non,.bl _=>true | .bl _,.non=>true | .non,.str _=>true | .str _,.non=>true
 |.int _,.int _=>true | .bl _,.bl _=>true | .str _,.str _=>true | .byt _,.byt _=>true
 |.int _,.str _=>true | .str _,.int _=>true | .bl _,.str _=>true | .str _,.bl _=>true
 |_,_=>false
def rEq:R2:=fun x y H Q=>ik x y=true/\Q (.bl (decide (x=y))) H
def rNe:R2:=fun x y H Q=>ik x y=true/\Q (.bl (!decide (x=y))) H
theorem uJ {i j:Int}:decide (V.int i=V.int j)=(i==j):=by
 rw[Bool.eq_iff_iff];simp
theorem yf {i j:Bool}:decide (V.bl i=V.bl j)=(i==j):=by
 rw[Bool.eq_iff_iff];simp
theorem uK {i j:Str}:decide (V.str i=V.str j)=(i==j):=by
 rw[Bool.eq_iff_iff];simp
theorem uL {i j:Array UInt8}:decide (V.byt i=V.byt j)=(i.toList==j.toList):=by
 rw[Bool.eq_iff_iff];cases i;cases j;simp
section
variable {X:Cx}{a b c:Expr}{ta tb tc:TE}{pos:Pos}
theorem aW {pins:List (Addr × Obj)}{Z:St}{H:Hp}{s:Shared}{Q:VK}{k k':Bool}(I:Inv X pins Z H s) (q:Q (.bl k) H) (e:k=k'):EP X pins Z Q (.bool k') s:=by
 subst e;exact⟨.bl k,H,I,rfl,q⟩
theorem Py:OpR X (compareOp .Eq) rEq:=by
 intro pins s Z H x y v u Q I rx ry h;obtain⟨hs,q⟩:=h;cases x with
 |non =>
  cases rx;cases y with
  |non=>cases ry;exact PySem.EqNone.eq_none_none (aW I q (by simp))
  |bl j=>cases ry;exact PySem.EqNone.eq_none_bool (aW I q (by simp))
  |int j=>obtain⟨t',rfl⟩:=ry;exact PySem.EqNone.eq_none_int (aW I q (by simp))
  |str j=>obtain⟨t',rfl⟩:=ry;exact PySem.EqNone.eq_none_str (aW I q (by simp))
  |_=>exact absurd (show false=true from hs) Bool.false_ne_true
 |bl i =>
  cases rx;cases y with
  |non=>cases ry;exact PySem.EqNone.eq_bool_none (aW I q (by simp))
  |bl j=>cases ry;exact eq_bool (aW I q yf)
  |str j=>obtain⟨t',rfl⟩:=ry;exact PySem.EqMixed.eq_bool_str (aW I q (by simp))
  |_=>exact absurd (show false=true from hs) Bool.false_ne_true
 |int i =>
  obtain⟨t,rfl⟩:=rx;cases y with
  |non=>cases ry;exact PySem.EqNone.eq_int_none (aW I q (by simp))
  |int j=>obtain⟨t',rfl⟩:=ry;exact eq_int (aW I q uJ)
  |str j=>obtain⟨t',rfl⟩:=ry;exact PySem.EqMixed.eq_int_str (aW I q (by simp))
  |_=>exact absurd (show false=true from hs) Bool.false_ne_true
 |str i =>
  obtain⟨t,rfl⟩:=rx;cases y with
  |non=>cases ry;exact PySem.EqNone.eq_str_none (aW I q (by simp))
  |bl j=>cases ry;exact PySem.EqMixed.eq_str_bool (aW I q (by simp))
  |int j=>obtain⟨t',rfl⟩:=ry;exact PySem.EqMixed.eq_str_int (aW I q (by simp))
  |str j=>obtain⟨t',rfl⟩:=ry;exact eq_str (aW I q uK)
  |_=>exact absurd (show false=true from hs) Bool.false_ne_true
 |byt i =>
  obtain⟨t,rfl⟩:=rx;cases y with
  |byt j=>obtain⟨t',rfl⟩:=ry;exact PySem.W.eq_bytes (aW I q uL)
  |_=>exact absurd (show false=true from hs) Bool.false_ne_true
 |_=>cases y <;> exact absurd (show false=true from hs) Bool.false_ne_true
theorem Pz:OpR X (compareOp .NotEq) rNe:=by
 intro pins s Z H x y v u Q I rx ry h;obtain⟨hs,q⟩:=h;cases x with
 |non =>
  cases rx;cases y with
  |non=>cases ry;exact PySem.EqNone.ne_none_none (aW I q (by simp))
  |bl j=>cases ry;exact PySem.EqNone.ne_none_bool (aW I q (by simp))
  |int j=>obtain⟨t',rfl⟩:=ry;exact PySem.EqNone.ne_none_int (aW I q (by simp))
  |str j=>obtain⟨t',rfl⟩:=ry;exact PySem.EqNone.ne_none_str (aW I q (by simp))
  |_=>exact absurd (show false=true from hs) Bool.false_ne_true
 |bl i =>
  cases rx;cases y with
  |non=>cases ry;exact PySem.EqNone.ne_bool_none (aW I q (by simp))
  |bl j=>cases ry;exact ne_bool (aW I q (congrArg not yf))
  |str j=>obtain⟨t',rfl⟩:=ry;exact PySem.EqMixed.ne_bool_str (aW I q (by simp))
  |_=>exact absurd (show false=true from hs) Bool.false_ne_true
 |int i =>
  obtain⟨t,rfl⟩:=rx;cases y with
  |non=>cases ry;exact PySem.EqNone.ne_int_none (aW I q (by simp))
  |int j=>obtain⟨t',rfl⟩:=ry;exact ne_int (aW I q (congrArg not uJ))
  |str j=>obtain⟨t',rfl⟩:=ry;exact PySem.EqMixed.ne_int_str (aW I q (by simp))
  |_=>exact absurd (show false=true from hs) Bool.false_ne_true
 |str i =>
  obtain⟨t,rfl⟩:=rx;cases y with
  |non=>cases ry;exact PySem.EqNone.ne_str_none (aW I q (by simp))
  |bl j=>cases ry;exact PySem.EqMixed.ne_str_bool (aW I q (by simp))
  |int j=>obtain⟨t',rfl⟩:=ry;exact PySem.EqMixed.ne_str_int (aW I q (by simp))
  |str j=>obtain⟨t',rfl⟩:=ry;exact ne_str (aW I q (congrArg not uK))
  |_=>exact absurd (show false=true from hs) Bool.false_ne_true
 |byt i =>
  obtain⟨t,rfl⟩:=rx;cases y with
  |byt j=>obtain⟨t',rfl⟩:=ry;exact PySem.W.ne_bytes (aW I q (congrArg not uL))
  |_=>exact absurd (show false=true from hs) Bool.false_ne_true
 |_=>cases y <;> exact absurd (show false=true from hs) Bool.false_ne_true
theorem PB:OpR X (compareOp .LtE) (rI0 fun i j=>.bl (decide (i<=j))):=JQ fun _ _ _ _ _ _ _ q=>le_int q
theorem PJ:OpR X (compareOp .Gt) (rI0 fun i j=>.bl (decide (j<i))):=JQ fun _ _ _ _ _ _ _ q=>gt_int q
theorem PK:OpR X (compareOp .GtE) (rI0 fun i j=>.bl (decide (j<=i))):=JQ fun _ _ _ _ _ _ _ q=>ge_int q
theorem wJ:OpR X (compareOp .In) (fun x y H Q=>∃i j,x=.str i/\y=.str j/\Q (.bl (!(Builtin.Str.occurrences j i 0 j.length 1).isEmpty)) H):=by
 intro pins s Z H x y v u Q I rx ry h;obtain⟨i,j,rfl,rfl,q⟩:=h;obtain⟨t,rfl⟩:=rx;obtain⟨t',rfl⟩:=ry;exact in_str (aW I q rfl)
theorem JZ:OpR X (compareOp .Is) (fun x y H Q=>y=.non/\Q (.bl (decide (x=.non))) H):=by
 intro pins s Z H x y v u Q I rx ry h;obtain⟨rfl,q⟩:=h;cases ry;refine is_none_gen (aW I q ?_);cases x <;> first
  | (cases rx;rfl)
  | (obtain⟨t,rfl⟩:=rx;rfl)
theorem Di:OpR X (compareOp .IsNot) (fun x y H Q=>y=.non/\Q (.bl (!decide (x=.non))) H):=by
 intro pins s Z H x y v u Q I rx ry h;obtain⟨rfl,q⟩:=h;cases ry;refine isnot_none_gen (aW I q ?_);cases x <;> first
  | (cases rx;rfl)
  | (obtain⟨t,rfl⟩:=rx;rfl)
theorem nM:OpR X (compareOp .NotIn) (fun x y H Q=>∃i j,x=.str i/\y=.str j/\Q (.bl (!(!(Builtin.Str.occurrences j i 0 j.length 1).isEmpty))) H):=by
 intro pins s Z H x y v u Q I rx ry h;obtain⟨i,j,rfl,rfl,q⟩:=h;obtain⟨t,rfl⟩:=rx;obtain⟨t',rfl⟩:=ry;exact notIn_str (aW I q rfl)
theorem OpR.or {f:Value->Value->Sem Value}{r r':R2}(h:OpR X f r) (h':OpR X f r'):OpR X f (fun x y H Q=>r x y H Q\/r' x y H Q):=by
 intro pins s Z H x y v u Q I rx ry q;rcases q with q | q
 ·exact h pins s Z H x y v u Q I rx ry q
 exact h' pins s Z H x y v u Q I rx ry q
theorem yg (b:Expr) {op:CmpOp}(h:op≠.In:=by decide) (h2:op≠.NotIn:=by decide):behindInMarks op b=false:=by
 have e1:(op==CmpOp.In)=false:=by cases op <;> first | rfl | exact absurd rfl h
 have e2:(op==CmpOp.NotIn)=false:=by cases op <;> first | rfl | exact absurd rfl h2
 cases b <;> simp [behindInMarks,e1,e2]
theorem Dj {op:CmpOp}{r:R2}(ho:OpR X (compareOp op) r) (ha:PE X a ta) (hb:PE X b tb) (hm:behindInMarks op b=false):PE X (.Compare a [op] [b] pos) (tOp r ta tb):=by
 intro pins s Z H Q I h;exact wpAny_Compare1 (JP ha hb I h fun v u s2 x y H2 I2 rx ry q=>ho pins s2 Z H2 x y v u Q I2 rx ry q) hm
def PL (t:TE):TT:=fun Z H Q=>t Z H fun x H'=>∃k,x=.bl k/\Q k H'
theorem Dk {op:CmpOp}{r:R2}(ho:OpR X (compareOp op) r) (ha:PE X a ta) (hb:PE X b tb) (hm:behindInMarks op b=false):PT X (.Compare a [op] [b] pos) (PL (tOp r ta tb)):=by
 intro pins s Z H Q I h;refine wpAny_isTrue_Compare1 (thn (ha pins s Z H _ I h) fun v s1 ⟨x,H1,I1,r1,q1⟩=>thn (hb pins s1 Z H1 _ I1 q1) fun u s2 ⟨y,H2,I2,r2,q2⟩ =>
  thn (ho pins s2 Z H2 x y v u _ I2 r1 r2 q2) fun c s3 ⟨z,H3,I3,r3,k,e,q3⟩=>?_) hm
 subst e;cases r3;exact wpAny_truthy_bool ⟨H3,I3,q3⟩
theorem je:(sizeLine:Nat)<2^63:=by rw[sizeLine_eq];decide
theorem op_add_str:OpR X (binaryOp .Add) (fun x y H Q=>∃i j,x=.str i/\y=.str j/\i.length+j.length<=sizeLine/\Q (.str (i++j)) H):=by
 intro pins s Z H x y v u Q I rx ry h;obtain⟨i,j,rfl,rfl,hz,q⟩:=h;obtain⟨t,rfl⟩:=rx;obtain⟨t',rfl⟩:=ry;exact add_str (fun t' tk=>⟨.str (i++j),H,I.tok _,⟨_,rfl⟩,q⟩) hz
theorem vals1 {x:V}{us:List Value}(r:Vals [x] us):∃u,us=[u]/\RelV x u:=by
 cases r with
 |cons r1 r2=>cases r2;exact⟨_,rfl,r1⟩
theorem vals2 {x y:V}{us:List Value}(r:Vals [x,y] us):∃u w',us=[u,w']/\RelV x u/\RelV y w':=by
 cases r with
 |cons r1 r2 =>
 cases r2 with
 |cons r3 r4=>cases r4;exact⟨_,_,rfl,r1,r3⟩
theorem wK:CallR X (.type "int") (fun xs H Q=>(∃i,xs=[.int i]/\Q (.int i) H)\/∃k,xs=[.bl k]/\Q (.int (if k then 1 else 0)) H):=by
 intro pins s Z H xs us Q I r h;rcases h with ⟨i,rfl,q⟩ | ⟨k,rfl,q⟩
 ·obtain⟨u,rfl,t,rfl⟩:=vals1 r;exact call_int_int ⟨.int i,H,I,⟨_,rfl⟩,q⟩
 obtain⟨u,rfl,r1⟩:=vals1 r;cases r1;exact call_int_bool ⟨.int (if k then 1 else 0),H,I.tok _,⟨_,rfl⟩,q⟩
end
structure ObjM (h:Heap) (x dx C:Addr) (mA:Str->Option Value):Prop where
 obj:h.get? x=some (instObj C dx)
 ns:h.Ns1 dx mA
 ne:dx≠x
theorem wL {h:Heap}{dx:Addr}{mA:Str->Option Value}(n:h.Ns1 dx mA):∃od,h.get? dx=some od/\∀name,lookIn name od=some (mA name):=by
 obtain⟨o,es,ep,ho,hd,hk,_,hm⟩:=n;refine⟨o,ho,fun name=>?_⟩;have e:=hm name;unfold nsFind findBy at e;rw[<- Array.find?_toList] at e;unfold lookIn;rw[hd];dsimp only;split
 ·rename_i y q;rw[q] at e;exact congrArg some e
 rename_i q;rw[q] at e;have a:es.toList.any (·.refKey)=false:=by rw[List.any_eq_false];intro y hy;obtain⟨z,t,hkey⟩:=hk y (Array.mem_toList_iff.mp hy);simp [DictEntry.refKey,hkey]
 have a':¬es.toList.any (·.refKey)=true:=by rw[a];exact Bool.false_ne_true
 rw[if_neg a'];exact congrArg some e
theorem ObjM.look {h:Heap}{x dx C:Addr}{mA:Str->Option Value}(I:ObjM h x dx C mA):∃od,InstAt h x (instObj C dx) C (some od)/\∀name,lookIn name od=some (mA name) :=
 let ⟨od,ho,hl⟩:=wL I.ns
 ⟨od,⟨I.obj,rfl,rfl,ho⟩,hl⟩
section
variable {prog:Program}{w:World}{A:Around}{E:Value->Shared->Prop}{s:Shared}{K:Frag}{x dx C f:Addr}{mA:Str->Option Value}{name:Str}{v:Value}
theorem Dl {expr:Bool}{Q:Value->Shared->Prop}(X:K.In s.heap) (I:ObjM s.heap x dx C mA) (hg:plainGet K C name=true) (hh:hasDictIn K C=true)
  (ha:findIn K (.ref C) name=some none) (hv:mA name=some v) (hv':handedIn v=true) (h:Q v { s with toks:=s.toks+1}) :
  wpAny (model prog w) A (getAttr (.ref x) name expr) Q E s:=by
 obtain⟨od,J,hl⟩:=I.look;exact PySem.W.get_value X J (plainGet_of hg).1 (PySem.W.findObj_own hh ha rfl (by rw[hl,hv])) hv' h
theorem yh {pl:Sem Bool}{Q:Value × List Value->Shared->Prop}(X:K.In s.heap) (I:ObjM s.heap x dx C mA) (hg:plainGet K C name=true)
  (hf:findIn K (.ref C) name=some (some (.ref f))) (ht:isFn K (.ref f)=true) (hv:mA name=none) (h:Q (.ref f,[.ref x]) s) :
  wpAny (model prog w) A (getMethod (.ref x) name pl) Q E s:=by
 obtain⟨od,J,hl⟩:=I.look;exact PySem.W.method_fn X J (plainGet_of hg).1 (plainGet_of hg).2 hf (beq_iff_eq.mp ht) (by show (lookIn name od).map (·.isSome)=some false;rw[hl,hv];rfl) h
theorem Dm {ns:List Str}{Q:Unit->Shared->Prop}(X:K.In s.heap) (I:ObjM s.heap x dx C mA)
  (hs:findIn K (.ref C) "__setattr__"=some (some (.builtin "object.__setattr__"))) (hp:plainOver K C=true) (ht:takerIn K C name=some none) (hh:hasDictIn K C=true)
  (hw:PySem.Within mA ns) (hsz:ns.length<=sizeLine)
  (h:∀h',ObjM h' x dx C (fun y=>if y=name then some v else mA y)->Heap.SameBut dx s.heap h'->Q () { s with heap:=h',toks:=s.toks+2}) :
  wpAny (model prog w) A (setAttr (.ref x) name v) Q E s:=by
 obtain⟨od,J,hl⟩:=I.look;refine PySem.W.set_plain X J hs (PySem.W.osa_open (s:={ s with toks:=s.toks+1}) (r:=none) X J hp ht fun b=>?_);obtain⟨cd,hc,hd'⟩:=PySem.W.any_some hh;have hx:s.heap.get? x=some ⟨.ref C,some dx,.plain,#[]⟩:=I.obj;refine wpAny_bind (wpAny_pure (wpAny_bind (wpAny_bind (wpAny_loadPart hx (wpAny_bind (PySem.W.Looks.here (s:={ s with toks:=s.toks+1}) (PySem.W.looks_clsIn X hc) ?_))))));rw[hd'];refine wpAny_pure (a:=some dx) (wpAny_bind (wpAny_pure (wpAny_bind ?_)));refine wpAny_nsSet1 (s:={ s with toks:=s.toks+1}) I.ns fun h' hn2 hs2=>?_;obtain⟨oD,esD,epD,hoD,hdD,hcD⟩:=hn2.count (PySem.Within.cons name v hw);refine wpAny_bind (wpAny_lookBehind hoD (by rw[hdD];exact pastItsLine_dict (Nat.le_trans hcD (by rw[List.length_cons];omega))) ?_);exact wpAny_pure (h _ ⟨(hs2.2 _ (Ne.symm I.ne)).trans I.obj,hn2,I.ne⟩ hs2)
theorem yj {R:Result->Shared->Prop}{vs:List Value}{kw:List (Str × Value)}(X:K.In s.heap) (hm:makesIn K C=true)
  (hi:findIn K (.ref C) "__init__"=some (some (.ref f))) (hf:typeIn K (.ref f)=some (.type "function"))
  (h:codeAny (model prog w) (A.under (.builtin "type.__call__" ⟨.ref C::vs,kw⟩)) (.call (.ref f) ⟨.ref (s.heap.objs.size+1)::vs,kw⟩) (PySem.W.InitBack (s.heap.objs.size+1) R)
   { s with heap:=(s.heap.push emptyDict).push (instObj C s.heap.objs.size)}) :
  codeAny (model prog w) A (.call (.ref C) ⟨vs,kw⟩) R s:=by
 obtain⟨hh,g,d,t,os⟩:=s;exact PySem.W.make_core (PySem.W.makes_of X hm) (PySem.W.looks_findIn X hi) (fun self=>PySem.W.bind_fn X self hf) (.inl rfl) h
end
def fJ (f:Str) (v:V):List (Str × V)->List (Str × V)
 |[]=>[(f,v)]
 | (g,x)::r=>if g=f then (g,v)::r else (g,x)::fJ f v r
theorem jr (f g:Str) (v:V):∀fs:List (Str × V),(fJ f v fs).lookup g=if g=f then some v else fs.lookup g
 |[]=>by
  show List.lookup g [(f,v)]=_
  by_cases h:g=f
  ·
   have hb:(g==f)=true:=beq_iff_eq.mpr h
   simp only[List.lookup,hb,if_pos h]
  ·
   have hb:(g==f)=false:=beq_eq_false_iff_ne.mpr h
   simp only[List.lookup,hb,if_neg h]
 | (k,x)::r=>by
  have ih:=jr f g v r
  rw[show fJ f v ((k,x)::r)=(if k=f then (k,v)::r else (k,x)::fJ f v r) from rfl]
  by_cases hk:k=f
  ·
   rw[if_pos hk]
   by_cases h:g=k
   ·
    have hb:(g==k)=true:=beq_iff_eq.mpr h
    simp only[List.lookup,hb,if_pos (h.trans hk)]
   ·
    have hb:(g==k)=false:=beq_eq_false_iff_ne.mpr h
    simp only[List.lookup,hb,if_neg (fun e:g=f=>h (e.trans hk.symm))]
  ·
   rw[if_neg hk]
   by_cases h:g=k
   ·
    have hb:(g==k)=true:=beq_iff_eq.mpr h
    simp only[List.lookup,hb,if_neg (fun e:g=f=>hk (h.symm.trans e))]
   ·
    have hb:(g==k)=false:=beq_eq_false_iff_ne.mpr h
    simp only[List.lookup,hb]
    exact ih
theorem jf (f:Str) (v:V):∀fs:List (Str × V),f∈(fJ f v fs).map (·.1)/\∀g,g∈fs.map (·.1)->g∈(fJ f v fs).map (·.1)
 |[]=>⟨by simp [fJ],fun g h=>by simp at h⟩
 | (k,x)::r=>by
  obtain⟨i1,i2⟩:=jf f v r
  rw[show fJ f v ((k,x)::r)=(if k=f then (k,v)::r else (k,x)::fJ f v r) from rfl]
  by_cases hk:k=f
  ·
   rw[if_pos hk]
   subst hk
   exact⟨by simp,fun g h=>by simpa using h⟩
  ·
   rw[if_neg hk]
   refine⟨?_,fun g h=>?_⟩
   ·
    rw[List.map_cons]
    exact List.mem_cons_of_mem _ i1
   ·
    rw[List.map_cons] at h ⊢
    rcases List.mem_cons.mp h with e | e
    ·
     exact List.mem_cons.mpr (.inl e)
    ·
     exact List.mem_cons_of_mem _ (i2 g e)
theorem jt (f:Str) (v:V):∀fs:List (Str × V),(fJ f v fs).length<=fs.length+1
 |[]=>by simp [fJ]
 | (k,x)::r=>by
  have ih:=jt f v r
  rw[show fJ f v ((k,x)::r)=(if k=f then (k,v)::r else (k,x)::fJ f v r) from rfl]
  by_cases hk:k=f
  ·
   rw[if_pos hk,List.length_cons,List.length_cons];omega
  ·
   rw[if_neg hk,List.length_cons,List.length_cons];omega
theorem RelO.some_of {v:V}{o:Option Value}(r:RelO (some v) o):∃u,o=some u/\RelV v u:=by
 cases o with
 |none=>exact (show False from r).elim
 |some u=>exact⟨u,rfl,r⟩
theorem RelO.none_of {o:Option Value}(r:RelO none o):o=none:=by
 cases o with
 |none=>rfl
 |some u=>exact (show False from r).elim
theorem wM {v:V}{u:Value}(r:RelV v u):handedIn u=true:=by
 cases v with
 |non=>cases (show u=Value.none from r);rfl
 |bl b=>cases (show u=Value.bool b from r);rfl
 |int i=>obtain⟨t,e⟩:=(show ∃t,u=Value.int i t from r);cases e;rfl
 |str x=>obtain⟨t,e⟩:=(show ∃t,u=Value.str x t from r);cases e;rfl
 |byt b=>obtain⟨t,e⟩:=(show ∃t,u=Value.bytes b t from r);cases e;rfl
 |flt b=>obtain⟨t,e⟩:=(show ∃t,u=Value.float b t from r);cases e;rfl
 |ref a=>cases (show u=Value.ref a from r);rfl
 |ty n=>cases (show u=Value.type n from r);rfl
section
variable {P:Program}{w:World}{H H':Hp}{h h':Heap}{a C dx:Addr}{fs fs':List (Str × V)}
theorem jL (hok:HOk P w H h) (e:H a=some (.ins C dx fs)):∃mA,ObjM h a dx C mA/\(∀f,RelO (fs.lookup f) (mA f))/\PySem.Within mA (fs.map (·.1))/\fs.length<=1000/\H dx=some (.own a):=by
 obtain⟨d,z,ne,ob,mA,n,r,q⟩:=(show ObjOk P w H h a (.ins C dx fs) from hok a _ e);exact⟨mA,⟨ob,n,ne⟩,r,q,z,d⟩
end
structure Cls (K:Frag) (C:Addr):Prop where
 pg:plainGet K C Str.empty=true
 hd:hasDictIn K C=true
 po:plainOver K C=true
 sa:findIn K (.ref C) "__setattr__"=some (some (.builtin "object.__setattr__"))
theorem Cls.get {K:Frag}{C:Addr}(c:Cls K C) (f:Str):plainGet K C f=true:=c.pg
def NoAttr (K:Frag) (C:Addr) (f:Str):Prop:=findIn K (.ref C) f=some none
theorem NoAttr.taker {K:Frag}{C:Addr}{f:Str}(n:NoAttr K C f):takerIn K C f=some none:=by
 unfold takerIn;rw[show findIn K (.ref C) f=some none from n];rfl
structure Meth (K:Frag) (C:Addr) (m:Str) (f:Addr):Prop where
 at_:findIn K (.ref C) m=some (some (.ref f))
 fn:isFn K (.ref f)=true
 kp:keepIn K (.ref f)=true
section
variable {X:Cx}{pins:List (Addr × Obj)}{Z:St}{H:Hp}{s:Shared}{a C dx:Addr}{fs:List (Str × V)}{f:Str}{v:V}{A:Around}{E:Value->Shared->Prop}
theorem su {b:Bool}{Q:Value->Shared->Prop}(I:Inv X pins Z H s) (e:H a=some (.ins C dx fs)) (c:Cls X.K C) (n:NoAttr X.K C f) (l:fs.lookup f=some v)
  (h:∀u s',Inv X pins Z H s'->RelV v u->Q u s'):wpAny (model X.prog X.w) A (getAttr (.ref a) f b) Q E s:=by
 obtain⟨mA,O,r,_,_,_⟩:=jL I.hok e;obtain⟨u,hu,ru⟩:=RelO.some_of (v:=v) (o:=mA f) (by rw[<- l];exact r f);exact Dl I.kIn O (c.get f) c.hd n hu (wM ru) (h u _ (I.tok _) ru)
theorem sy {m:Str}{g:Addr}{pl:Sem Bool}{Q:Value × List Value->Shared->Prop}(I:Inv X pins Z H s) (e:H a=some (.ins C dx fs)) (c:Cls X.K C) (k:Meth X.K C m g) (l:fs.lookup m=none)
  (h:Q (.ref g,[.ref a]) s):wpAny (model X.prog X.w) A (getMethod (.ref a) m pl) Q E s:=by
 obtain⟨mA,O,r,_,_,_⟩:=jL I.hok e;have hn:mA m=none:=RelO.none_of (by rw[<- l];exact r m);exact yh I.kIn O (c.get m) k.at_ k.fn hn h
theorem sE {y:V}{u:Value}{Q:Unit->Shared->Prop}(I:Inv X pins Z H s) (e:H a=some (.ins C dx fs)) (c:Cls X.K C) (n:NoAttr X.K C f) (hl:fs.length<1000) (ry:RelV y u)
  (h:∀s',Inv X pins Z (upd H a (.ins C dx (fJ f y fs))) s'->Q () s'):wpAny (model X.prog X.w) A (setAttr (.ref a) f u) Q E s:=by
 obtain⟨mA,O,r,wi,_,ho⟩:=jL I.hok e;have hz:(fs.map (·.1)).length<=sizeLine:=by rw[List.length_map,sizeLine_eq];omega
 refine Dm I.kIn O c.sa c.po n.taker c.hd wi hz fun h' O' sb=>h _ ?_;have hd:∃o,h'.get? dx=some o:=let ⟨o,_,_,e',_⟩:=O'.ns;⟨o,e'⟩;refine I.write (x:=a) (e:=dx) (by rw[e];exact True.intro) (.inr ho) (fun b q hb z=>(sb.2 b hb).trans z) hd ?_;refine⟨by rw[aN O.ne];exact ho,?_,O.ne,O'.obj,_,O'.ns,fun g=>?_,fun g hg=>?_⟩
 ·have:=jt f y fs;omega
 ·show RelO ((fJ f y fs).lookup g) (if g=f then some u else mA g);rw[jr];by_cases q:g=f
  ·rw[if_pos q,if_pos q];exact ry
  rw[if_neg q,if_neg q];exact r g
 by_cases q:g=f
 ·rw[q];exact (jf f y fs).1
 refine (jf f y fs).2 g (wi g fun z=>hg ?_);show (if g=f then some u else mA g)=none;rw[if_neg q];exact z
theorem Inv.made (I:Inv X pins Z H s):Inv X pins Z (upd (upd H s.heap.objs.size (.own (s.heap.objs.size+1))) (s.heap.objs.size+1) (.ins C s.heap.objs.size []))
  { s with heap:=(s.heap.push emptyDict).push (instObj C s.heap.objs.size)}:=by
 have e1:(s.heap.push emptyDict).get? s.heap.objs.size=some emptyDict:=Heap.get?_push_size s.heap rfl;have e2:((s.heap.push emptyDict).push (instObj C s.heap.objs.size)).get? (s.heap.objs.size+1)=some (instObj C s.heap.objs.size):=by
  have:=Heap.get?_push_size (s.heap.push emptyDict) (o:=instObj C s.heap.objs.size) rfl
  rwa [Heap.size_push] at this
 have e3:(s.heap.push emptyDict).Ns s.heap.objs.size (fun _=>none):=⟨emptyDict,#[],_,e1,rfl,(fun e he=>absurd he (by simp)),fun _=>rfl⟩;have I1:=I.laid (a:=s.heap.objs.size) (o:=.own (s.heap.objs.size+1)) (h':=s.heap.push emptyDict) (t':=s.toks) (fun b u q=>Heap.get?_push_of_some _ q) (Nat.le_refl _) ⟨_,e1⟩;refine I1.laid (a:=s.heap.objs.size+1) (o:=.ins C s.heap.objs.size []) (t':=s.toks) (fun b u q=>Heap.get?_push_of_some _ q) (Nat.le_of_eq (Heap.size_push _ _)) ?_;have ne:s.heap.objs.size≠s.heap.objs.size+1:=Nat.ne_of_lt (Nat.lt_succ_self _);refine⟨by rw[aN ne,bJ],Nat.zero_le _,ne,e2,fun _=>none,(Heap.Ns1.of_empty e3).at fun o q=>Heap.get?_push_of_some _ q,fun _=>True.intro,fun y hy=>absurd rfl hy⟩
theorem Do {prog:Program}{w:World}{env:Env}{e:Expr}{f:Str}{pos:Pos}{s:Shared}{Q:Value->Shared->Prop}(hb:attributeBase e f env (eval e env)=eval e env)
  (h:wpAny (model prog w) A (eval e env) (fun o s₁=>wpAny (model prog w) A (getAttr o f true) Q E s₁) E s):wpAny (model prog w) A (eval (.Attribute e f pos) env) Q E s :=
 Attribute_any_ h (by rw[arm_eval_Attribute,hb])
end
def Um (K:Frag) (ta:TE) (f:Str):TE:=fun Z H Q=>ta Z H fun x H1=>∃a C dx fs v,x=.ref a/\H1 a=some (.ins C dx fs)/\Cls K C/\NoAttr K C f/\fs.lookup f=some v/\Q v H1
def Uo (K:Frag) (ta tv:TE) (f:Str):TS:=fun D Z H=>tv Z H fun y H1=>ta Z H1 fun x H2=>∃a C dx fs,x=.ref a/\H2 a=some (.ins C dx fs)/\Cls K C/\NoAttr K C f/\fs.length<1000 /\
 D.nx Z (upd H2 a (.ins C dx (fJ f y fs)))
section
variable {X:Cx}{o e value:Expr}{f:Str}{pos pos' tpos:Pos}{ta tv:TE}
theorem J0 (he:PE X e ta) (hb:attributeBase e f X.env (eval e X.env)=eval e X.env):PE X (.Attribute e f pos) (Um X.K ta f):=by
 intro pins s Z H Q I h;refine Do hb (thn (he pins s Z H _ I h) fun u s1 ⟨x,H1,I1,rx,a,C,dx,fs,v,ex,ea,c,n,l,q⟩=>?_);subst ex;obtain rfl:u=Value.ref a:=rx;exact su I1 ea c n l fun u' s2 I2 ru=>⟨v,H1,I2,ru,q⟩
theorem J1 (ha:PE X o ta) (hv:PE X value tv) (hs:swapsWith value (some (.Attribute o f pos')) pos.line X.env=pure false):PS X (.Assign [.Attribute o f pos'] value pos) (Uo X.K ta tv f):=by
 intro pins s Z H D I h;refine plainObj_wpAny_Assign_Attribute (thn (hv pins s Z H _ I h) fun u s1 ⟨y,H1,I1,ry,q⟩=>thn (ha pins s1 Z H1 _ I1 q) fun ov s2 ⟨x,H2,I2,rx,a,C,dx,fs,ex,ea,c,n,l,q2⟩=>?_) hs;subst ex;obtain rfl:ov=Value.ref a:=rx;exact sE I2 ea c n l ry fun s3 I3=>⟨Z,_,I3,q2⟩
variable {pins:List (Addr × Obj)}{Z:St}{H:Hp}{s:Shared}{A:Around}{E Q:Value->Shared->Prop}{c:Value}{b:Bool}
inductive TyOf (K:Frag) (H:Hp):V->Value->Prop where
 |non:TyOf K H .non (.type "NoneType")
 |bl (x:Bool):TyOf K H (.bl x) (.type "bool")
 |int (i:Int):TyOf K H (.int i) (.type "int")
 |str (x:Str):TyOf K H (.str x) (.type "str")
 |flt (x:UInt64):TyOf K H (.flt x) (.type "float")
 |lst {a:Addr} {xs:List V} (e:H a=some (.lst xs)):TyOf K H (.ref a) (.type "list")
 |frz {a:Addr} {o:Obj} {xs:List V} (e:H a=some (.frz o (.lst xs))):TyOf K H (.ref a) (.type "list")
 |tup {a:Addr} {xs:List V} (e:H a=some (.tup xs)):TyOf K H (.ref a) (.type "tuple")
 |dK {a:Addr} {kvs:List (Key × V)} (e:H a=some (.dK kvs)):TyOf K H (.ref a) (.type "dict")
 |dT {a:Addr} {kvs:List (List Key × V)} (e:H a=some (.dT kvs)):TyOf K H (.ref a) (.type "dict")
 |ins {a C dx:Addr} {fs:List (Str × V)} (e:H a=some (.ins C dx fs)) (cl:Cls K C) (ha:findIn K (.ref C) "__class__"=some (some (.builtin "object.__class__")))
   (hn:PySem.W.specialIn K (.builtin "object.__class__") "__get__"=some (some (.builtin "getset_descriptor.__get__"))) (htk:PySem.W.takesIn K (.builtin "object.__class__")=some true)
   (hm:mroIn K C (.type "object")=some true):TyOf K H (.ref a) (.ref C)
theorem dO {x:V}{u t:Value}(I:Inv X pins Z H s) (rx:RelV x u) (ty:TyOf X.K H x t) (e:kitOne X.K t c=some b) (h:∀tk,Q (.bool b) { s with toks:=tk}) :
  wpAny (model X.prog X.w) A (call (.builtin "isinstance") [u,c]) Q E s:=by
 cases ty with
 |non=>cases (show u=Value.none from rx);exact kia_one PySem.W.kitx_none I.kIn True.intro e (fun z=>nomatch z) h
 |bl y=>cases (show u=Value.bool y from rx);exact kia_one PySem.W.kitx_bool I.kIn True.intro e (fun z=>nomatch z) h
 |int i=>obtain⟨t,q⟩:=(show ∃t,u=Value.int i t from rx);cases q;exact kia_one PySem.W.kitx_int I.kIn True.intro e (fun z=>nomatch z) h
 |str y=>obtain⟨t,q⟩:=(show ∃t,u=Value.str y t from rx);cases q;exact kia_one PySem.W.kitx_str I.kIn True.intro e (fun z=>nomatch z) h
 |flt y=>obtain⟨t,q⟩:=(show ∃t,u=Value.float y t from rx);cases q;exact kia_one PySem.W.kitx_float I.kIn True.intro e (fun z=>nomatch z) h
 |@lst a xs ea=>cases (show u=Value.ref a from rx);obtain⟨_,_,n,_,h1⟩:=(show ObjOk X.prog X.w H s.heap a (.lst xs) from I.hok a _ ea);exact kia_one kitx_list I.kIn ⟨_,h1,rfl⟩ e (fun z=>nomatch z) h
 |@frz a ob xs ea=>cases (show u=Value.ref a from rx);obtain⟨_,_,_,n,_,h1⟩:=(show ObjOk X.prog X.w H s.heap a (.frz ob (.lst xs)) from I.hok a _ ea);exact kia_one kitx_list I.kIn ⟨_,h1,rfl⟩ e (fun z=>nomatch z) h
 |@tup a xs ea=>cases (show u=Value.ref a from rx);obtain⟨_,_,_,p⟩:=(show ObjOk X.prog X.w H s.heap a (.tup xs) from I.hok a _ ea);obtain⟨o,h1,h2,_⟩:=p;exact kia_one kitx_tuple I.kIn ⟨o,h1,h2⟩ e (fun z=>nomatch z) h
 |@dK a kvs ea=>cases (show u=Value.ref a from rx);obtain⟨_,_,vs,_,p⟩:=(show ObjOk X.prog X.w H s.heap a (.dK kvs) from I.hok a _ ea);obtain⟨o,es,ep,h1,h2,_⟩:=p;exact kia_one kitx_dict I.kIn ⟨o,h1,h2.1⟩ e (fun z=>nomatch z) h
 |@dT a kvs ea=>cases (show u=Value.ref a from rx);obtain⟨_,_,xs,_,o,es,ep,h1,h2,_⟩:=(show ObjOk X.prog X.w H s.heap a (.dT kvs) from I.hok a _ ea);exact kia_one kitx_dict I.kIn ⟨o,h1,h2.1⟩ e (fun z=>nomatch z) h
 |@ins a C dx fs ea cl ha hn htk hm =>
 cases (show u=Value.ref a from rx);obtain⟨mA,O,_⟩:=jL I.hok ea;obtain⟨od,J,_⟩:=O.look;exact kia_one (PySem.W.kitx_own (cl.get _) cl.hd ha hn htk hm) I.kIn J e (fun z=>nomatch z) h
end
structure Room (k:Nat) (A:Around):Prop where
 hd:A.handled=none
 dp:A.depth+3*k+5<recursionLimit
 un:A.units+16*k+200<cLine
 gd:A.guards=some []
theorem Room.mono {j k:Nat}{A:Around}(r:Room k A) (h:j<=k):Room j A:=⟨r.hd,by have:=r.dp;omega,by have:=r.un;omega,r.gd⟩
theorem Room.deeper {k:Nat}{A:Around}(r:Room (k+1) A) (env:Env):Room k (A.deeper env) :=
 ⟨r.hd,by have:=r.dp;show A.depth+1+3*k+5<_;omega,by have:=r.un;show A.units+3+16*k+200<_;omega,r.gd⟩
theorem Room.in1 {k:Nat}{A:Around}(r:Room (k+1) A):Room k A.in1 :=
 ⟨r.hd,by have:=r.dp;show A.depth+3*k+5<_;omega,by have:=r.un;show A.units+1+16*k+200<_;omega,r.gd⟩
theorem sG {A:Around}{C:Addr}{us:List Value}{kw:List (Str × Value)}:(A.under (.builtin "type.__call__" ⟨.ref C::us,kw⟩)).depth=A.depth+1:=by
 first | rfl | simp [Around.under,Code.weight,Code.isCreation,Code.isGuard,Code.isCaller,Code.frames,Code.isFrame,guardIds]
theorem sH {A:Around}{C:Addr}{us:List Value}{kw:List (Str × Value)}:(A.under (.builtin "type.__call__" ⟨.ref C::us,kw⟩)).units=A.units+1:=by
 first | rfl | simp [Around.under,Code.cUnits,Code.frames,Code.isFrame]
theorem Room.make {k:Nat}{A:Around}(r:Room (k+1) A) (C:Addr) (us:List Value) (kw:List (Str × Value)):Room k (A.under (.builtin "type.__call__" ⟨.ref C::us,kw⟩)) :=
 ⟨r.hd,by have:=r.dp;rw[sG];omega,by have:=r.un;rw[sH];omega,by first | exact r.gd | (simp [Around.under,Code.guards,Code.isGuard,guardIds,pushGuards,r.gd])⟩
theorem Room.depth {k:Nat}{A:Around}(r:Room k A):A.depth<recursionLimit:=by have:=r.dp;omega
theorem Room.units {k:Nat}{A:Around}(r:Room k A):A.units+64<cLine:=by have:=r.un;omega
def Uq:TA:=fun _ H Q=>Q [] H
def PN (ta:TE) (tr:TA):TA:=fun Z H Q=>ta Z H fun x H1=>tr Z H1 fun xs H2=>Q (x::xs) H2
section
variable {X:Cx}{e:Expr}{es:List Expr}{te:TE}{t:TA}{pos:Pos}
theorem J2:PA X [] Uq:=fun _ _ _ _ H Q I h=>Calls.spliced_nil ⟨[],H,I,.nil,h⟩
theorem Dp (ha:PE X e te) (hr:PA X es t) (hs:starEach (e::es) X.env=(false,eval e X.env)::starEach es X.env:=by rfl):PA X (e::es) (PN te t):=by
 intro pos pins s Z H Q I h;rw[hs];show wpAny _ _ (spliced ((false,eval e X.env)::backTo pos (starEach es X.env))) _ _ s;refine Calls.spliced_cons (thn (ha pins s Z H _ I h) fun u s1 ⟨x,H1,I1,r1,q1⟩=>?_);exact thn (hr pos pins s1 Z H1 _ I1 q1) fun us s2 ⟨xs,H2,I2,r2,q2⟩=>⟨x::xs,H2,I2,.cons r1 r2,q2⟩
def Ur (t:TA):TE:=fun Z H Q=>t Z H fun xs H1=>xs.length<=sizeLine/\∀p,H1 p=none->Q (.ref p) (upd H1 p (.tup xs))
def Us (t:TA):TE:=fun Z H Q=>t Z H fun xs H1=>xs.length<=sizeLine/\∀p,H1 p=none->Q (.ref p) (upd H1 p (.lst xs))
theorem J3 {x1}(h:PA X es t):PE X (.Tuple es x1 pos) (Ur t):=by
 intro pins s Z H Q I hq;refine wpAny_Tuple_spliced (thn (h pos pins s Z H _ I hq) fun us s1 ⟨xs,H1,I1,r,z,q⟩=>⟨by rw[<- r.length];exact z,?_⟩);have hf:H1 s1.heap.objs.size=none:=I1.hok.fresh (Nat.le_refl _);refine⟨.ref s1.heap.objs.size,upd H1 s1.heap.objs.size (.tup xs),I1.laid (t':=s1.toks) (fun b u e=>Heap.get?_push_of_some _ e) (Nat.le_refl _) ?_,rfl,q _ hf⟩;exact⟨z,us,r,⟨_,Heap.get?_push_size _ rfl,rfl,_,rfl,rfl⟩⟩
theorem J4 (h:PA X es t):PE X (.List es pos) (Us t):=by
 intro pins s Z H Q I hq;refine wpAny_List_spliced (thn (h pos pins s Z H _ I hq) fun us s1 ⟨xs,H1,I1,r,z,q⟩=>⟨by rw[<- r.length];exact z,?_⟩);have hf:H1 s1.heap.objs.size=none:=I1.hok.fresh (Nat.le_refl _);refine⟨.ref s1.heap.objs.size,upd H1 s1.heap.objs.size (.lst xs),I1.laid (t':=s1.toks) (fun b u e=>Heap.get?_push_of_some _ e) (Nat.le_refl _) ?_,rfl,q _ hf⟩;exact⟨z,us,0,r,Heap.get?_push_size _ rfl⟩
end
abbrev Sp:=List V->Hp->VK->XK->Prop
abbrev CXT:=List Env->Hp->Shared->XK->Value->Shared->Prop
structure Env0 (P:Program) (w:World) (K:Frag) (mg:Str->Option Value) (base:Heap) (A:Around) (outer:List Env) (s:Shared) (H:Hp):Prop where
 frames:A.frames=some outer
 mod:Mod K mg base
 bs:∀b o,base.get? b=some o->s.heap.get? b=some o/\H b=none
 bsz:base.objs.size<=s.heap.objs.size
 funs:s.heap.FunFrames base outer
 frf:∀b∈frs outer,H b=none
 hok:HOk P w H s.heap
 bare:AllBare s.gens
def CE (outer:List Env) (P:Program) (w:World) (H:Hp) (s:Shared) (Q:VK) (u:Value) (s':Shared):Prop :=
 ∃v H',s'.os=s.os/\AllBare s'.gens/\Un (frs outer) [] H H' s.heap s'.heap/\HOk P w H' s'.heap/\RelV v u/\Q v H'
def CR (CX:CXT) (outer:List Env) (P:Program) (w:World) (H:Hp) (s:Shared) (Q:VK) (E:XK) (r:Result) (s':Shared):Prop :=
 match r with
 |.ok (.ret u)=>CE outer P w H s Q u s'
 |.ok _=>False
 |.error e=>CX outer H s E e s'
structure FnOk (P:Program) (w:World) (K:Frag) (mg:Str->Option Value) (base:Heap) (CX:CXT) (k:Nat) (f:Addr) (fd:FuncData) (ps:List Str) (sp:Sp):Prop where
 len:∀vs H Q E,sp vs H Q E->vs.length=ps.length
 run:∀(A:Around) (outer:List Env) (s:Shared) (H:Hp) (args:Args) (us:List Value) (vs:List V) (Q:VK) (E:XK),Room k A->Env0 P w K mg base A outer s H->BindsTo s fd args (ps.zip us)->Vals vs us->sp vs H Q E ->
  codeAny (model P w) A (.call (.ref f) args) (CR CX outer P w H s Q E) s
theorem FnOk.mono {P:Program}{w:World}{K:Frag}{mg:Str->Option Value}{base:Heap}{CX:CXT}{j k:Nat}{f:Addr}{fd:FuncData}{ps:List Str}{sp:Sp}(F:FnOk P w K mg base CX j f fd ps sp) (h:j<=k) :
  FnOk P w K mg base CX k f fd ps sp:=⟨F.len,fun A outer s H args us vs Q E hr=>F.run A outer s H args us vs Q E (hr.mono h)⟩
theorem FnOk.imp {P:Program}{w:World}{K:Frag}{mg:Str->Option Value}{base:Heap}{CX:CXT}{k:Nat}{f:Addr}{fd:FuncData}{ps:List Str}{sp sp':Sp}(F:FnOk P w K mg base CX k f fd ps sp)
  (h:∀vs H Q E,sp' vs H Q E->sp vs H Q E):FnOk P w K mg base CX k f fd ps sp' :=
 ⟨fun vs H Q E q=>F.len vs H Q E (h _ _ _ _ q),fun A outer s H args us vs Q E hr he hb hv hs=>F.run A outer s H args us vs Q E hr he hb hv (h _ _ _ _ hs)⟩
theorem Env0.make {P:Program}{w:World}{K:Frag}{mg:Str->Option Value}{base:Heap}{A:Around}{outer:List Env}{s:Shared}{H:Hp}(e:Env0 P w K mg base A outer s H) (C:Addr) (us:List Value) (kw:List (Str × Value)) :
  Env0 P w K mg base (A.under (.builtin "type.__call__" ⟨.ref C::us,kw⟩)) outer s H:=⟨by first | exact e.frames | (simpa [Around.under,Code.envs,Code.isFrame,pushEnvs] using e.frames),e.mod,e.bs,e.bsz,e.funs,e.frf,e.hok,e.bare⟩
theorem Env0.in1 {P:Program}{w:World}{K:Frag}{mg:Str->Option Value}{base:Heap}{A:Around}{outer:List Env}{s:Shared}{H:Hp}(e:Env0 P w K mg base A outer s H) :
  Env0 P w K mg base A.in1 outer s H:=⟨e.frames,e.mod,e.bs,e.bsz,e.funs,e.frf,e.hok,e.bare⟩
section
variable {X:Cx}{pins:List (Addr × Obj)}{Z:St}{H:Hp}{s s':Shared}
theorem Inv.env0 (I:Inv X pins Z H s):Env0 X.prog X.w X.K X.mg X.base X.A X.stack s H :=
 ⟨I.ok.frames,I.ok.mod,I.bs,Nat.le_trans I.ok.bsz I.sz,I.stack,I.stkFree,I.hok,I.bare⟩
theorem Inv.after {Q:VK}{u:Value}(I:Inv X pins Z H s) (h:CE X.stack X.prog X.w H s Q u s'):EP X pins Z Q u s':=by
 obtain⟨v,H',os,bare,un,hok,r,q⟩:=h;obtain⟨hh,g,d,t,os'⟩:=s';obtain rfl:os'=s.os:=os;exact⟨v,H',I.call (h':=hh) (g':=g) (d':=d) (t':=t) (ch:=[]) un hok bare (fun b z=>absurd z (by simp)),r,q⟩
end
def PP (sp:Sp) (dvs:List V) (E:XK) (t:TA):TE:=fun Z H Q=>t Z H fun vs H1=>sp (vs++dvs) H1 Q E
def PQ (C:Addr) (m:Str) (sp:Sp) (dvs:List V) (E:XK) (ta:TE) (t:TA):TE:=fun Z H Q=>ta Z H fun x H1=>∃a dx fs,x=.ref a/\H1 a=some (.ins C dx fs)/\fs.lookup m=none /\
 t Z H1 fun vs H2=>sp (x::(vs++dvs)) H2 Q E
def PX (C:Addr) (sp:Sp) (dvs:List V) (E:XK) (t:TA):TE:=fun Z H Q=>t Z H fun vs H1=>∀x dx,H1 x=none->H1 dx=none->dx≠x ->
 sp (.ref x::(vs++dvs)) (upd (upd H1 dx (.own x)) x (.ins C dx [])) (fun v H2=>v=.non/\Q (.ref x) H2) E
def Binds (K:Frag) (fd:FuncData) (ps:List Str) (ds:List Value):Prop :=
 ∀(s:Shared) (us:List Value),K.In s.heap->(us++ds).length=ps.length->BindsTo s fd ⟨us,[]⟩ (ps.zip (us++ds))
theorem Binds.all {K:Frag}{fd:FuncData}{ps:List Str}(h:∀us:List Value,us.length=ps.length->bindArgs fd ⟨us,[]⟩=pure (ps.zip us)):Binds K fd ps []:=fun s us _ hl=>by
 rw[List.append_nil] at hl ⊢;exact .of_eq (h us hl)
def jg (CX:CXT) (X:Cx) (E:XK):Prop:=∀(pins:List (Addr × Obj)) (Z:St) (H:Hp) (s:Shared) (e:Value) (s':Shared),Inv X pins Z H s->CX X.stack H s E e s'->X.xe e s'
section
variable {X:Cx}{CX:CXT}{k:Nat}{f C:Addr}{fd:FuncData}{ps:List Str}{sp:Sp}{dvs:List V}{ds:List Value}{E:XK}{x m:Str}{p pos apos:Pos}{e o:Expr}{es:List Expr}{ta:TE}{t:TA}
theorem ym {pins:List (Addr × Obj)}{Z:St}{H:Hp}{s:Shared}{Q:VK}{us:List Value}{vs:List V}(F:FnOk X.prog X.w X.K X.mg X.base CX k f fd ps sp) (hr:Room k X.A) (hb:Binds X.K fd ps ds) (hd:Vals dvs ds) (hx:jg CX X E)
  (I:Inv X pins Z H s) (r:Vals vs us) (h:sp (vs++dvs) H Q E):wpAny (model X.prog X.w) X.A (call (.ref f) us) (EP X pins Z Q) X.xe s:=by
 have r2:Vals (vs++dvs) (us++ds):=r.append hd;have hl:(us++ds).length=ps.length:=by rw[<- r2.length];exact F.len _ _ _ _ h
 refine wpAny_call (codeAny_mono (F.run X.A X.stack s H ⟨us,[]⟩ (us++ds) (vs++dvs) Q E hr I.env0 (hb s us I.kIn hl) r2 h) fun r s' hq=>?_);cases r with
 |error e=>exact hx pins Z H s e s' I hq
 |ok fl =>
 cases fl with
 |ret u=>exact I.after hq
 |next=>exact False.elim hq
 |brk=>exact False.elim hq
 |cont=>exact False.elim hq
theorem Dq (F:FnOk X.prog X.w X.K X.mg X.base CX k f fd ps sp) (hr:Room k X.A) (hg:Gl X x) (hm:X.mg x=some (.ref f)) (hk:keepIn X.K (.ref f)=true) (hb:Binds X.K fd ps ds) (hd:Vals dvs ds) (hx:jg CX X E)
  (ha:PA X (e::es) t) (hdb:(x==("__debug__":Str))=false:=by decide) (he:starEach (e::es) X.env=(false,eval e X.env)::starEach es X.env:=by rfl) (hpl:(backTo pos (starEach es X.env)).any (·.1)=false:=by rfl) :
  PE X (.Call (.Name x p) (e::es) [] pos) (PP sp dvs E t):=by
 intro pins s Z H Q I h;refine wpAny_Call_Name_kw (nJ I hg hm ?_ hdb);refine callWith_K (h₀:=X.base) I.ok.mod.kin hk (thn (ha pos pins s Z H _ I h) fun us s1 ⟨vs,H1,I1,r,q⟩=>⟨I1.kIn,?_⟩) he hpl;exact ym F hr hb hd hx I1 r q
theorem Dr {pl:Sem Bool}(he:PE X o ta) (c:Cls X.K C) (hm:Meth X.K C m f) (F:FnOk X.prog X.w X.K X.mg X.base CX k f fd ps sp) (hr:Room k X.A) (hb:Binds X.K fd ps ds) (hd:Vals dvs ds) (hx:jg CX X E) (ha:PA X (e::es) t)
  (hst:starEach (e::es) X.env=(false,eval e X.env)::starEach es X.env:=by rfl) (hpl:(backTo pos (starEach es X.env)).any (·.1)=false:=by rfl)
  (ht:eval (.Call (.Attribute o m apos) (e::es) [] pos) X.env=(do
   let ov <- eval o X.env
   standAt apos.atName
   let (f,first) <- holding [ov] (getMethod ov m pl)
   callWith pos f first (backTo pos (starEach (e::es) X.env)) (backToKw pos (keywordEach [] X.env))):=by rfl) :
  PE X (.Call (.Attribute o m apos) (e::es) [] pos) (PQ C m sp dvs E ta t):=by
 intro pins s Z H Q I h;refine PySem.W.methodCall_KW (pl:=pl) (thn (he pins s Z H _ I h) fun u s1 ⟨x,H1,I1,rx,a,dx,fs,ex,ea,l,q⟩=>?_) ht;subst ex;obtain rfl:u=Value.ref a:=rx;refine sy I1 ea c hm l ?_;refine callWith_K (first:=[.ref a]) (h₀:=X.base) I.ok.mod.kin hm.kp (thn (ha pos pins s1 Z H1 _ I1 q) fun us s2 ⟨vs,H2,I2,r,q2⟩=>⟨I2.kIn,?_⟩) hst hpl;exact ym (us:=.ref a::us) (vs:=.ref a::vs) F hr hb hd hx I2 (.cons rfl r) q2
structure Mk (K:Frag) (C f:Addr):Prop where
 makes:makesIn K C=true
 init:findIn K (.ref C) "__init__"=some (some (.ref f))
 fn:isFn K (.ref f)=true
 kp:keepIn K (.ref C)=true
theorem yo {pins:List (Addr × Obj)}{Z:St}{H:Hp}{s:Shared}{Q:VK}{us:List Value}{vs:List V}(M:Mk X.K C f) (F:FnOk X.prog X.w X.K X.mg X.base CX k f fd ps sp) (hr:Room (k+1) X.A) (hb:Binds X.K fd ps ds) (hd:Vals dvs ds)
  (hx:jg CX X E) (I:Inv X pins Z H s) (r:Vals vs us)
  (h:∀x dx,H x=none->H dx=none->dx≠x->sp (.ref x::(vs++dvs)) (upd (upd H dx (.own x)) x (.ins C dx [])) (fun v H2=>v=.non/\Q (.ref x) H2) E) :
  wpAny (model X.prog X.w) X.A (call (.ref C) us) (EP X pins Z Q) X.xe s:=by
 have hq:=h (s.heap.objs.size+1) s.heap.objs.size (I.hok.fresh (Nat.le_succ _)) (I.hok.fresh (Nat.le_refl _)) (Nat.ne_of_lt (Nat.lt_succ_self _));have I2:=Inv.made (C:=C) I;have r2:Vals (V.ref (s.heap.objs.size+1)::(vs++dvs)) (Value.ref (s.heap.objs.size+1)::(us++ds)):=.cons rfl (r.append hd);have hl:(Value.ref (s.heap.objs.size+1)::us++ds).length=ps.length:=by have e:=r2.length;rw[F.len _ _ _ _ hq] at e;exact e.symm
 refine wpAny_call (yj (f:=f) I.kIn M.makes M.init (beq_iff_eq.mp M.fn) (codeAny_mono (F.run _ X.stack _ _ ⟨Value.ref (s.heap.objs.size+1)::us,[]⟩ (Value.ref (s.heap.objs.size+1)::(us++ds)) _ _ E (hr.make C us [])
  (I2.env0.make C us []) (hb _ (Value.ref (s.heap.objs.size+1)::us) I2.kIn hl) r2 hq) fun r s' hq'=>?_))
 cases r with
 |error e=>exact hx pins Z _ _ e s' I2 hq'
 |ok fl =>
 cases fl with
 |ret u=>obtain⟨v,H',I3,rv,ev,q3⟩:=I2.after hq';subst ev;exact⟨rv,⟨V.ref (s.heap.objs.size+1),H',I3,rfl,q3⟩⟩
 |next=>exact False.elim hq'
 |brk=>exact False.elim hq'
 |cont=>exact False.elim hq'
theorem Ds (M:Mk X.K C f) (F:FnOk X.prog X.w X.K X.mg X.base CX k f fd ps sp) (hr:Room (k+1) X.A) (hg:Gl X x) (hm:X.mg x=some (.ref C)) (hb:Binds X.K fd ps ds) (hd:Vals dvs ds) (hx:jg CX X E)
  (ha:PA X (e::es) t) (hdb:(x==("__debug__":Str))=false:=by decide) (he:starEach (e::es) X.env=(false,eval e X.env)::starEach es X.env:=by rfl) (hpl:(backTo pos (starEach es X.env)).any (·.1)=false:=by rfl) :
  PE X (.Call (.Name x p) (e::es) [] pos) (PX C sp dvs E t):=by
 intro pins s Z H Q I h;refine wpAny_Call_Name_kw (nJ I hg hm ?_ hdb);refine callWith_K (h₀:=X.base) I.ok.mod.kin M.kp (thn (ha pos pins s Z H _ I h) fun us s1 ⟨vs,H1,I1,r,q⟩=>⟨I1.kIn,?_⟩) he hpl;exact yo M F hr hb hd hx I1 r q
variable {ks:List Str}{kpos:Pos}{kws:List Keyword}{te:TE}{tk:TA}{nm:Option Str}{g:List Value->List Value->List Value}{gV:List V->List V->List V}
end
structure FnScope (N P:List Str) (sc:Scope):Prop where
 kind:sc.kind=.function
 co:sc.isCoroutine=false
 gen:sc.isGenerator=false
 nd:N.Nodup
 pre:N.take P.length=P
 par:∀x∈P,sc.names.lookup x=some .local\/sc.names.lookup x=some .cell
 nofree:∀y∈sc.names,y.2≠.free
theorem mC {kindOf:Str->Option NameKind}{x:Str}:∀{binds:List (Str × Value)}{m:Str->Option Value},(∀v,(x,v)∉binds)->bindL kindOf binds m x=m x
 |[],_,_=>rfl
 | (n,v)::r,m,h=>by
  unfold bindL
  rw[mC fun w hw=>h w (List.mem_cons_of_mem _ hw)]
  split
  ·
   have:x≠n:=by rintro rfl;exact h v List.mem_cons_self
   simp [this]
  ·
   rfl
theorem mD {kindOf:Str->Option NameKind}{x:Str}:∀{binds:List (Str × Value)}{m:Str->Option Value},(∀v,(x,v)∉binds)->bindC kindOf binds m x=m x
 |[],_,_=>rfl
 | (n,v)::r,m,h=>by
  unfold bindC
  rw[mD fun w hw=>h w (List.mem_cons_of_mem _ hw)]
  split
  ·
   rfl
  ·
   have:x≠n:=by rintro rfl;exact h v List.mem_cons_self
   simp [this]
theorem mF {kindOf:Str->Option NameKind}{x:Str}{v:Value}:∀{P:List Str}{vs:List Value}{i:Nat}{m:Str->Option Value},P.Nodup->P[i]?=some x->vs[i]?=some v->kindOf x=some .local ->
  bindL kindOf (P.zip vs) m x=some v
 |[],_,_,_,_,h,_,_=>by simp at h
 |_::_,[],_,_,_,_,h,_=>by simp at h
 |p::P,w::vs,0,m,nd,h1,h2,hk=>by
  simp at h1 h2;subst h1;subst h2
  show bindL kindOf ((p,w)::P.zip vs) m p=_
  unfold bindL
  rw[mC fun v hv=>(List.nodup_cons.mp nd).1 (List.of_mem_zip hv).1,if_pos hk]
  simp
 |p::P,w::vs,i+1,m,nd,h1,h2,hk=>by
  show bindL kindOf ((p,w)::P.zip vs) m x=_
  unfold bindL
  exact mF (i:=i) (List.nodup_cons.mp nd).2 (by simpa using h1) (by simpa using h2) hk
theorem mG {kindOf:Str->Option NameKind}{x:Str}{v:Value}:∀{P:List Str}{vs:List Value}{i:Nat}{m:Str->Option Value},P.Nodup->P[i]?=some x->vs[i]?=some v->kindOf x≠some .local ->
  bindC kindOf (P.zip vs) m x=some v
 |[],_,_,_,_,h,_,_=>by simp at h
 |_::_,[],_,_,_,_,h,_=>by simp at h
 |p::P,w::vs,0,m,nd,h1,h2,hk=>by
  simp at h1 h2;subst h1;subst h2
  show bindC kindOf ((p,w)::P.zip vs) m p=_
  unfold bindC
  rw[mD fun v hv=>(List.nodup_cons.mp nd).1 (List.of_mem_zip hv).1,if_neg hk]
  simp
 |p::P,w::vs,i+1,m,nd,h1,h2,hk=>by
  show bindC kindOf ((p,w)::P.zip vs) m x=_
  unfold bindC
  exact mG (i:=i) (List.nodup_cons.mp nd).2 (by simpa using h1) (by simpa using h2) hk
def start (N:List Str) (vs:List V):St:=vs.map some++List.replicate (N.length - vs.length) none
def sI (CX:CXT) (P:Program) (w:World) (K:Frag) (mg:Str->Option Value) (base:Heap) (N:List Str) (qual:Str) (scope:Scope) (f:Addr) (cd:Value) (A:Around) (outer:List Env) (s:Shared) (H:Hp) (E:XK):Cx where
 prog:=P
 w:=w
 K:=K
 mg:=mg
 base:=base
 A:=A.deeper (envOfC qual scope s.heap.objs.size f cd)
 N:=N
 s₀:=s
 H₀:=H
 env:=envOfC qual scope s.heap.objs.size f cd
 outer:=outer
 stack:=envOfC qual scope s.heap.objs.size f cd::outer
 ex:=[]
 calm:=true
 fn:=fun _=>true
 pn:=[]
 xe:=fun e s'=>wpAny (model P w) (A.deeper (envOfC qual scope s.heap.objs.size f cd)) (leaving (envOfC qual scope s.heap.objs.size f cd) e) (fun _ s''=>CX outer H s E e s'') (fun e' s''=>CX outer H s E e' s'') s'
theorem iH {sc:Scope}{n:Nat}{x:Str}(h:sc.names.lookup x=some .cell):∃c,(cellsFrom n sc.names []).lookup x=some c:=by
 have q:=cellsFrom_some sc.names n [] (.inl h);exact Option.isSome_iff_exists.mp q
theorem wN {CX:CXT}{P:Program}{w:World}{K:Frag}{mg:Str->Option Value}{base:Heap}{N ps:List Str}{qual:Str}{scope:Scope}{f:Addr}{cd:Value}{A:Around}{outer:List Env}{s s1:Shared}{H:Hp}{E:XK}{us:List Value}{vs:List V}
  (S:FnScope N ps scope) (hd:A.handled=none) (e0:Env0 P w K mg base A outer s H) (hl:vs.length=ps.length) (r:Vals vs us)
  (x:InCallC s s.heap.objs.size (bindL (envOfC qual scope s.heap.objs.size f cd).kindOf (ps.zip us) fun _=>none) (cellsFrom (s.heap.objs.size+1) scope.names []) (bindC (envOfC qual scope s.heap.objs.size f cd).kindOf (ps.zip us) fun _=>none) s1) :
  Inv (sI CX P w K mg base N qual scope f cd A outer s H E) [] (start N vs) H s1:=by
 have hpl:ps.length<=N.length:=by have:=congrArg List.length S.pre;rw[List.length_take] at this;omega
 obtain⟨h1,tk,rfl,hk⟩:=x.done;have noA:∀b:Addr,b∉(sI CX P w K mg base N qual scope f cd A outer s H E).ex:=fun b z=>absurd (show b∈([]:List Addr) from z) (by simp);refine⟨⟨e0.mod,S.kind,rfl,rfl,Nat.le_refl _,fun y z c h1 h2=>?_,fun y hy=>?_,fun y c _ h=>?_,fun _=>hd,Around.frames_deeper e0.frames,.inr ⟨rfl,rfl⟩,fun b z=>absurd z (noA b),e0.bs,e0.bsz,fun b _ _=>noA b,fun b z=>absurd z (noA b),e0.funs,e0.frf⟩,
  rfl,e0.bare,Un.kept hk,⟨_,x.toInCall.ns,fun i y v h1 h2 h3=>?_⟩,fun y c h=>⟨_,x.cell y c h⟩,e0.hok.fresh (Nat.le_refl _),fun y c h=>?_,fun p hp=>absurd (show p∈([]:List (Addr × Obj)) from hp) (by simp),e0.hok.kept hk,?_⟩
 ·exact name_of_addr x.apart (mem_of_lookup h1) (mem_of_lookup h2)
 ·have hy:scope.names.lookup y=some .cell\/scope.names.lookup y=some .free:=hy;rcases hy with hy | hy
  ·exact iH hy
  exact absurd rfl (S.nofree _ (mem_of_lookup hy))
 ·exact Nat.le_of_lt (x.above y c (mem_of_lookup h))
 ·have hi:i<vs.length:=by
   unfold start at h2;by_cases hi:i<vs.length
   ·exact hi
   rw[List.getElem?_append_right (by simpa using hi)] at h2;rw[List.getElem?_replicate] at h2;split at h2 <;> cases h2
  have ha:vs[i]?=some v:=by
   unfold start at h2;rw[List.getElem?_append_left (by simpa using hi),List.getElem?_map] at h2;cases e:vs[i]? with
   |none=>rw[e] at h2;cases h2
   |some a=>rw[e] at h2;cases h2;rfl
  obtain⟨u,hu,rv⟩:=r.get ha;have hp:ps[i]?=some y:=by rw[<- S.pre,List.getElem?_take_of_lt (by omega)];exact h1
  have ndP:ps.Nodup:=by rw[<- S.pre];exact S.nd.sublist (List.take_sublist _ _)
  refine⟨u,rv,?_⟩;rcases S.par y (List.mem_of_getElem? hp) with k | k
  ·exact .inl ⟨k,mF ndP hp hu k⟩
  obtain⟨c,e⟩:=iH (n:=s.heap.objs.size+1) k;refine .inr ⟨.inl k,c,e,?_⟩;have q:=x.cell y c e;rw[mG ndP hp hu (by show scope.names.lookup y≠_;rw[k];decide)] at q;exact q
 ·exact e0.hok.fresh (Nat.le_of_lt (x.above y c (mem_of_lookup h)))
 unfold start;show _=N.length;rw[List.length_append,List.length_map,List.length_replicate];omega
theorem P0 {CX:CXT}{P:Program}{w:World}{K:Frag}{mg:Str->Option Value}{base:Heap}{k:Nat}{f:Addr}{name qual:Str}{params:Arguments}{body:List Stmt}{scope:Scope}{dV kV doc pm cdv ct oc:Value}{an od:Option Addr}
  {osl:Array (Option Value)} {N ps:List Str} {sp:Sp} (lk:K.lookup f=some ⟨oc,od,.func (fnOf name qual params body scope dV kV doc pm an cdv ct),osl⟩) (hcd:codeIn K cdv qual=true) (S:FnScope N ps scope)
  (len:∀vs H Q E,sp vs H Q E->vs.length=ps.length)
  (hbody:∀(A:Around) (outer:List Env) (s:Shared) (H:Hp) (vs:List V) (Q:VK) (E:XK),Room k (A.deeper (envOfC qual scope s.heap.objs.size f cdv))->sp vs H Q E ->
   ∃t,PSs (sI CX P w K mg base N qual scope f cdv A outer s H E) body t/\t { nx:=fun _ H'=>Q .non H',rt:=Q} (start N vs) H) :
  FnOk P w K mg base CX (k+1) f (fnOf name qual params body scope dV kV doc pm an cdv ct) ps sp:=by
 refine⟨len,fun A outer s H args us vs Q E hr e0 hb r hsp=>?_⟩;have hl:=len _ _ _ _ hsp;have KX:K.In s.heap:=e0.mod.kin.keeps fun b o e=>(e0.bs b o e).1;have lim:s.heap.NoLimit:=e0.mod.nolimit.keeps fun b o e=>(e0.bs b o e).1;have hkind:∀y∈ps.zip us,scope.names.lookup y.1=some .local\/(scope.names.lookup y.1=some .cell/\((cellsFrom (s.heap.objs.size+1) scope.names []).lookup y.1).isSome=true):=fun ⟨n,v⟩ hy=>by
  rcases S.par n (List.of_mem_zip hy).1 with q | q
  ·exact .inl q
  exact .inr ⟨q,cellsFrom_some _ _ _ (.inl q)⟩
 refine codeAny_call_function hr.depth (KX _ _ lk) rfl S.co S.gen rfl (PySem.W.codeRec_of KX hcd) (hb _ _ _ _ ?_);refine wpAny_newFunctionEnv_cells S.kind hkind fun env he s1 x=>?_;subst he;refine⟨lim.keeps x.toInCall.keep,codeAny_func ?_⟩;obtain⟨t,ht,hq⟩:=hbody A outer s H vs Q E (hr.deeper _) hsp;have I:Inv (sI CX P w K mg base N qual scope f cdv A outer s H E) [] (start N vs) H s1:=wN S hr.hd e0 hl r x;refine wpAny_mono (ht [] s1 (start N vs) H _ I hq) (fun fl s' hs=>?_) fun e s' hs=>hs;have fin:∀{Z':St} {H':Hp} {v:V} {u:Value},Inv (sI CX P w K mg base N qual scope f cdv A outer s H E) [] Z' H' s'->RelV v u->Q v H'->CE outer P w H s Q u s' :=
  fun {Z' H' v u} J rv q=>⟨v,H',J.os,J.bare,J.base,J.hok,rv,q⟩
 cases fl with
 |ret u=>obtain⟨v,Z',H',J,rv,q⟩:=hs;exact fin J rv q
 |next=>obtain⟨Z',H',J,q⟩:=hs;exact fin (v:=V.non) (u:=Value.none) J rfl q
 |brk=>obtain⟨_,_,_,q⟩:=hs;exact False.elim q
 |cont =>
 obtain⟨_,_,_,q⟩:=hs;exact False.elim q
section
variable {X:Cx}{x:Str}{p pos:Pos}{e:Expr}{es:List Expr}{t:TA}{id T:String}{r:List V->Hp->VK->Prop}
def tCB (r:List V->Hp->VK->Prop) (t:TA):TE:=fun Z H Q=>t Z H fun vs H1=>r vs H1 Q
theorem yp (hc:CallR X (.builtin id) r) (hg:Gl X x) (hm:X.mg x=none) (hv:bootBuiltins x=some (.builtin id)) (ha:PA X (e::es) t) (hn:x≠"__name__":=by decide) (hdb:(x==("__debug__":Str))=false:=by decide)
  (he:starEach (e::es) X.env=(false,eval e X.env)::starEach es X.env:=by rfl) (hpl:(backTo pos (starEach es X.env)).any (·.1)=false:=by rfl):PE X (.Call (.Name x p) (e::es) [] pos) (tCB r t):=by
 intro pins s Z H Q I h;refine wpAny_Call_Name_kw (dU I hg hm hv ?_ hn hdb);exact PyProof.Rows.callWith_builtin1 (thn (ha pos pins s Z H _ I h) fun us s1 ⟨vs,H1,I1,r1,q1⟩=>hc pins s1 Z H1 vs us Q I1 r1 q1) he hpl
theorem wO (hc:CallR X (.type T) r) (hg:Gl X x) (hm:X.mg x=none) (hv:bootBuiltins x=some (.type T)) (ha:PA X (e::es) t) (hn:x≠"__name__":=by decide) (hdb:(x==("__debug__":Str))=false:=by decide)
  (he:starEach (e::es) X.env=(false,eval e X.env)::starEach es X.env:=by rfl) (hpl:(backTo pos (starEach es X.env)).any (·.1)=false:=by rfl):PE X (.Call (.Name x p) (e::es) [] pos) (tCB r t):=by
 intro pins s Z H Q I h;refine wpAny_Call_Name_kw (dU I hg hm hv ?_ hn hdb);exact PyProof.Rows.callWith_type1 (thn (ha pos pins s Z H _ I h) fun us s1 ⟨vs,H1,I1,r1,q1⟩=>hc pins s1 Z H1 vs us Q I1 r1 q1) he hpl
end
end L2
namespace HT
open PySem PyProof.Rows
section
open PySem.SeqAt
open PySem.AutoSeq1 (wpAny_loadPart')
open PySem.MeetsSeq PySem.MeetsSeq2 PySem.MeetsSeq3
variable {prog:Program}{w:World}{A:Around}{E:Value->Shared->Prop}{s:Shared}
theorem cat_tup {t b:Addr}{vs ws:List Value}{Q:Value->Shared->Prop}(ht:IsTup s.heap t vs.toArray) (hb:IsTup s.heap b ws.toArray) (hv:vs≠[])
  (h1:ws=[]->Q (.ref t) s) (h2:ws≠[]->Q (.ref s.heap.objs.size) { s with heap:=s.heap.push { cls:=.type "tuple",data:=.seq (vs++ws).toArray}})
  (hsz:vs.length+ws.length<=sizeLine):wpAny (model prog w) A (binaryOp .Add (.ref t) (.ref b)) Q E s:=by
 obtain⟨⟨cls,dd,data,sl⟩,ho,hc,n,hd⟩:=id ht;obtain⟨⟨cls2,dd2,data2,sl2⟩,ho2,hc2,n2,hd2⟩:=id hb;simp only at hc hd hc2 hd2;subst hc hd hc2 hd2;have e:vs.toArray++ws.toArray=(vs++ws).toArray:=by simp
 by_cases hw:ws=[]
 ·exact concat_meets ⟨_,ho,rfl⟩ ⟨_,ho2,rfl⟩ noFill_tuple_add seq_tuple_add PySem.F.slot_tuple_add PySem.F.entry_tuple_add (PySem.F.args_tuple_add_2 _ _)
   (tuple_addW1 t b vs.toArray ws.toArray n n2 dd dd2 sl sl2 (by simpa using hv) (by simp [hw])) ⟨ho,ho2,h1 hw⟩
 refine concat_meets ⟨_,ho,rfl⟩ ⟨_,ho2,rfl⟩ noFill_tuple_add seq_tuple_add PySem.F.slot_tuple_add PySem.F.entry_tuple_add (PySem.F.args_tuple_add_2 _ _)
  (tuple_addW2 t b vs.toArray ws.toArray n n2 dd dd2 sl sl2 (by simpa using hv) (by simpa using hw) (by rw[List.size_toArray,List.size_toArray];exact hsz)) ⟨ho,ho2,?_⟩
 rw[e];exact h2 hw
def sIx (n d:Nat):Option Int->Nat
 |none=>d
 |some v=>if v<0 then (v+(n:Int)).toNat else min v.toNat n
theorem sIx_none (n d:Nat):sIx n d none=d:=rfl
theorem sIx_nat (n d k:Nat):sIx n d (some (k:Int))=min k n:=by
 show (if (k:Int)<0 then ((k:Int)+(n:Int)).toNat else min (k:Int).toNat n)=min k n;rw[if_neg (by omega),Int.toNat_natCast]
theorem J5 (n d:Nat) (hd:d<=n) (o:Option Int):sIx n d o<=n:=by
 cases o with
 |none=>exact hd
 |some v =>
  show (if v<0 then (v+(n:Int)).toNat else min v.toNat n)<=n
  by_cases hv:v<0
  ·
   rw[if_pos hv];omega
  ·
   rw[if_neg hv];exact Nat.min_le_right _ _
theorem uM (v:Int) (n d:Nat):(if v<0 then max (v+(n:Int)) 0 else min v (n:Int))=((sIx n d (some v):Nat):Int):=by
 show (if v<0 then max (v+(n:Int)) 0 else min v (n:Int))=(((if v<0 then (v+(n:Int)).toNat else min v.toNat n):Nat):Int);by_cases hv:v<0
 ·simp only[if_pos hv];omega
 simp only[if_neg hv];omega
theorem sJ (lo hi:Option Int) (n:Nat):Builtin.Slice.sliceAdjust lo hi 1 (n:Int)=(((sIx n 0 lo:Nat):Int),((sIx n n hi:Nat):Int)):=by
 have h1:¬((1:Int)<0):=by omega
 unfold Builtin.Slice.sliceAdjust;simp only[h1,if_false];refine Prod.ext ?_ ?_
 ·cases lo with
  |none=>rfl
  |some v=>exact uM v n 0
 cases hi with
 |none=>rfl
 |some v=>exact uM v n n
theorem sO (i j:Nat):Builtin.Slice.slicePlaces (i:Int) (j:Int) 1=j - i:=by
 unfold Builtin.Slice.slicePlaces;have h1:(1:Int)>0:=by omega
 simp only[h1,if_true,Int.ediv_one];split <;> omega
theorem jX {v:Value}{o:Option Int}{Q:Option Int->Shared->Prop}(p:IsPart v o) (h:Q o s):wpAny (model prog w) A (Builtin.Slice.slicePartIndex v) Q E s:=by
 cases p with
 |none=>exact slicePart_none h
 |int i t=>exact slicePart_int h
theorem jh {sl:Addr}{vl vu:Value}{lo hi:Option Int}{n:Nat}{Q:Int × Int × Nat->Shared->Prop}(hs:s.heap.IsSliceOf sl vl vu .none) (pl:IsPart vl lo) (pu:IsPart vu hi)
  (h:Q (((sIx n 0 lo:Nat):Int),1,sIx n n hi - sIx n 0 lo) s):wpAny (model prog w) A (Builtin.Slice.sliceApplied (.ref sl) (pure (n:Int))) Q E s:=by
 obtain⟨os,hos,hcs,hds⟩:=id hs;unfold Builtin.Slice.sliceApplied Builtin.Slice.sliceFields;refine wpAny_bind (wpAny_bind (wpAny_field hos hds (x:=vl) rfl (wpAny_bind (wpAny_field hos hds (x:=vu) rfl (wpAny_bind (wpAny_field hos hds (x:=.none) rfl (wpAny_pure ?_)))))));refine wpAny_bind (slicePart_none ?_);show wpAny _ _ (if ((1:Int)==0)=true then _ else _) _ _ s;rw[if_neg (by decide)];refine wpAny_bind (jX pl (wpAny_bind (jX pu (wpAny_bind (wpAny_pure ?_)))));show wpAny _ _ (match Builtin.Slice.sliceAdjust lo hi 1 (n:Int) with | (lo,hi)=>pure (lo,(1:Int),Builtin.Slice.slicePlaces lo hi 1)) _ _ s;rw[sJ lo hi n];show wpAny _ _ (pure (((sIx n 0 lo:Nat):Int),(1:Int),Builtin.Slice.slicePlaces ((sIx n 0 lo:Nat):Int) ((sIx n n hi:Nat):Int) 1)) _ _ s;rw[sO];exact wpAny_pure h
theorem yq (xs : Array Value) (i k : Nat) : ((List.range k).filterMap fun (m : Nat) => xs[((i : Int) + (m : Int) * 1).toNat]?).toArray = ((xs.toList.drop i).take k).toArray:=by
 have e:(fun (m:Nat)=>xs[((i:Int)+(m:Int)*1).toNat]?)=fun m=>xs[i+m]?:=by
  funext m;have:((i:Int)+(m:Int)*1).toNat=i+m:=by omega
  rw[this]
 rw [e];have:=pick_run xs i k;rw [List.filterMap_map] at this;have e2 : ((fun x => xs[x]?) ∘ fun x => i + x) = fun m => xs[i + m]?:=rfl;rw [e2] at this;rw [this]
theorem getItem_tuple_cut {t sl:Addr}{items:Array Value}{vl vu:Value}{lo hi:Option Int}{Q:Value->Shared->Prop}(ht:IsTup s.heap t items) (hs:s.heap.IsSliceOf sl vl vu .none) (pl:IsPart vl lo) (pu:IsPart vu hi)
  (hw:¬(sIx items.size 0 lo=0/\sIx items.size items.size hi=items.size))
  (h:Q (.ref s.heap.objs.size) { s with heap:=s.heap.push { cls:=.type "tuple",data:=.seq ((items.toList.drop (sIx items.size 0 lo)).take (sIx items.size items.size hi - sIx items.size 0 lo)).toArray}})
  (hsz:items.size<=sizeLine):wpAny (model prog w) A (getItem (.ref t) (.ref sl)) Q E s:=by
 have htake:sizeOk (.seq ((items.toList.drop (sIx items.size 0 lo)).take (sIx items.size items.size hi - sIx items.size 0 lo)).toArray):=by show ((items.toList.drop (sIx items.size 0 lo)).take (sIx items.size items.size hi - sIx items.size 0 lo)).toArray.size<=sizeLine;rw[List.size_toArray,List.length_take,List.length_drop,Array.length_toList];omega
 have hj:sIx items.size items.size hi<=items.size:=J5 _ _ (Nat.le_refl _) hi;obtain⟨os,hos,hcs,hds⟩:=id hs;have hTs:s.TypeIs (.ref sl) "slice":=⟨os,hos,hcs⟩;unfold getItem;try with_reducible refine wpAny_holding ?_
 first | refine wpAny_bind (wpAny_pure ?_) | skip
 refine wpAny_bind (wpAny_sequenceKey ht.typeIs (by decide) ?_);refine wpAny_bind (wpAny_callSpecial?_slot (name:=Str.ofString "__getitem__") ht.typeIs PyProof.Rows.slot_tuple_getitem
  (wpAny_call_entry PyProof.Rows.slot_tuple_getitem ht.typeIs entry_tuple_getitem ?_ (args_tuple_getitem _ _)))
 show wpAny _ _ (Builtin.Tuple.tupleItemsOf (.ref t) >>= _) _ _ s;refine wpAny_bind (tupleItemsOf_ ht ?_);refine wpAny_bind (wpAny_typeOf hTs ?_);rw[if_pos (by decide)];refine wpAny_bind (jh hs pl pu ?_);have hno:¬((((sIx items.size 0 lo:Nat):Int)==0&&(1:Int)==1&&(sIx items.size items.size hi - sIx items.size 0 lo)==items.size)=true):=by intro q;rw[Bool.and_eq_true,Bool.and_eq_true] at q;have q1:((sIx items.size 0 lo:Nat):Int)=0:=eq_of_beq q.1.1;have q2:sIx items.size items.size hi - sIx items.size 0 lo=items.size:=eq_of_beq q.2;exact hw ⟨by omega,by omega⟩
 show wpAny _ _ (if (((sIx items.size 0 lo:Nat):Int)==0&&(1:Int)==1&&(sIx items.size items.size hi - sIx items.size 0 lo)==items.size)=true then _ else _) _ _ s;rw[if_neg hno,yq];first
  |exact wpAny_bind (m:=Builtin.Tuple.tupleExact _) (wpAny_newObj_type (wpAny_pure ⟨_,rfl,wpAny_pure h⟩) htake)
  |exact wpAny_bind (m:=Builtin.Tuple.tupleExact _) (wpAny_newObj_type (wpAny_bind (wpAny_pure (wpAny_pure ⟨_,rfl,wpAny_pure h⟩))) htake)
  |exact wpAny_bind (wpAny_bind (m:=Builtin.Tuple.tupleExact _) (wpAny_newObj_type (wpAny_pure (wpAny_pure ⟨_,rfl,wpAny_pure h⟩)) htake))
  |exact wpAny_bind (wpAny_bind (m:=Builtin.Tuple.tupleExact _) (wpAny_newObj_type (wpAny_pure ⟨_,rfl,wpAny_pure h⟩) htake))
end
end HT
namespace L2
abbrev TO:=St->Hp->(Option Int->Hp->Prop)->Prop
def PO (X:Cx) (e:Option Expr) (t:TO):Prop :=
 ∀(pins:List (Addr × Obj)) (s:Shared) (Z:St) (H:Hp) (Q:Option Int->Hp->Prop),Inv X pins Z H s->t Z H Q ->
  wpAny (model X.prog X.w) X.A (evalPart e X.env) (fun u s'=>∃o H',Inv X pins Z H' s'/\IsPart u o/\Q o H') X.xe s
def Dt:TO:=fun _ H Q=>Q none H
def Qa (t:TE):TO:=fun Z H Q=>t Z H fun x H1=>∃i,x=.int i/\Q (some i) H1
section
variable {X:Cx}{e:Expr}{te:TE}{lo hi:Option Expr}{tl th:TO}{pos p2:Pos}
theorem Du:PO X none Dt:=by
 intro pins s Z H Q I h;rw[evalPart_none];exact wpAny_pure ⟨none,H,I,.none,h⟩
theorem Dv (h:PE X e te):PO X (some e) (Qa te):=by
 intro pins s Z H Q I hw;rw[evalPart_some];refine thn (h pins s Z H _ I hw) fun u s1 ⟨x,H1,I1,r1,q1⟩=>?_;obtain⟨i,rfl,q⟩:=q1;obtain⟨t,rfl⟩:=r1;exact⟨some i,H1,I1,.int i t,q⟩
def SlR (X:Cx) (r:V->Option Int->Option Int->Hp->VK->Prop):Prop :=
 ∀(pins:List (Addr × Obj)) (s:Shared) (Z:St) (H:Hp) (x:V) (v vl vu:Value) (lo hi:Option Int) (sl:Addr) (Q:VK),Inv X pins Z H s->RelV x v->s.heap.IsSliceOf sl vl vu .none->IsPart vl lo->IsPart vu hi->r x lo hi H Q ->
  ∃T id,typeLookup (.type T) "__getitem__"=pure (some (.builtin id))/\s.TypeIs v T/\wpAny (model X.prog X.w) X.A (getItem v (.ref sl)) (EP X pins Z Q) X.xe s
theorem SlR.or {r r':V->Option Int->Option Int->Hp->VK->Prop}(h:SlR X r) (h':SlR X r'):SlR X (fun x lo hi H Q=>r x lo hi H Q\/r' x lo hi H Q):=by
 intro pins s Z H x v vl vu lo hi sl Q I rx hs pl pu q;rcases q with q | q
 ·exact h pins s Z H x v vl vu lo hi sl Q I rx hs pl pu q
 exact h' pins s Z H x v vl vu lo hi sl Q I rx hs pl pu q
def tSl (r:V->Option Int->Option Int->Hp->VK->Prop) (te:TE) (tl th:TO):TE:=fun Z H Q=>te Z H fun x H1=>tl Z H1 fun l H2=>th Z H2 fun u H3=>r x l u H3 Q
theorem yr {r:V->Option Int->Option Int->Hp->VK->Prop}(hr:SlR X r) (he:PE X e te) (hl:PO X lo tl) (hu:PO X hi th):PE X (.Subscript e (.Slice lo hi none p2) pos) (tSl r te tl th):=by
 intro pins s Z H Q I h;refine Subscript_ (thn (he pins s Z H _ I h) fun v s1 ⟨x,H1,I1,r1,q1⟩=>?_);refine wpAny_Slice (thn (hl pins s1 Z H1 _ I1 q1) fun vl s2 ⟨l,H2,I2,pl,q2⟩=>thn (hu pins s2 Z H2 _ I2 q2) fun vu s3 ⟨u,H3,I3,pu,q3⟩=>?_);rw[evalPart_none];refine wpAny_pure ?_;have I4:Inv X pins Z H3 { s3 with heap:=s3.heap.push { cls:=.type "slice",data:=.fields #[vl,vu,.none]}}:=I3.kept (t':=s3.toks) fun b ob q=>Heap.get?_push_of_some _ q;obtain⟨T,id,hT,ht,hg⟩:=hr pins { s3 with heap:=s3.heap.push { cls:=.type "slice",data:=.fields #[vl,vu,.none]}} Z H3 x v vl vu l u s3.heap.objs.size Q I4 r1 (Heap.IsSliceOf.new ..) pl pu q3;show wpAny (model X.prog X.w) X.A (subscriptTail e (.Slice lo hi none p2) v (.ref s3.heap.objs.size)) (EP X pins Z Q) X.xe { s3 with heap:=s3.heap.push { cls:=.type "slice",data:=.fields #[vl,vu,.none]}};exact tail_any (ops:=[.ref s3.heap.objs.size,v]) ht hT hg (by with_unfolding_all rfl)
def pM (xs:List V) (lo hi:Option Int):List V:=(xs.drop (HT.sIx xs.length 0 lo)).take (HT.sIx xs.length xs.length hi - HT.sIx xs.length 0 lo)
theorem ju (xs:List V) (lo hi:Option Int):(pM xs lo hi).length<=xs.length:=by
 unfold pM;rw[List.length_take,List.length_drop];omega
def Ut (K:Frag):V->Option Int->Option Int->Hp->VK->Prop:=fun x lo hi H Q=>∃a xs,x=.ref a/\SqT K H a xs /\
 ¬(HT.sIx xs.length 0 lo=0/\HT.sIx xs.length xs.length hi=xs.length)/\∀p,H p=none->Q (.ref p) (upd H p (.tup (pM xs lo hi)))
theorem sl_tup:SlR X (Ut X.K):=by
 intro pins s Z H x v vl vu lo hi sl Q I rx hs pl pu h;obtain⟨a,xs,rfl,hx,hw,q⟩:=h;cases rx;obtain⟨its,r,ht,hz⟩:=I.tuple hx;have hlen:its.toArray.size=xs.length:=by rw[List.size_toArray];exact r.length.symm
 refine⟨"tuple",_,PyProof.Rows.slot_tuple_getitem.lookup,ht.typeIs,?_⟩;refine HT.getItem_tuple_cut ht hs pl pu (by rw[hlen];exact hw) ?_ (by rw[hlen];exact hz);rw[hlen];refine⟨.ref s.heap.objs.size,_,I.laid (t':=s.toks) (o:=.tup (pM xs lo hi)) (fun b ob q=>Heap.get?_push_of_some _ q) (Nat.le_refl _) ?_,rfl,q _ (I.hok.fresh (Nat.le_refl _))⟩;exact⟨Nat.le_trans (ju xs lo hi) hz,_,(r.drop (HT.sIx xs.length 0 lo)).take (HT.sIx xs.length xs.length hi - HT.sIx xs.length 0 lo),Tup0.new _ _⟩
def Qc (K:Frag):R2:=fun x y H Q=>∃a b xs ys,x=.ref a/\y=.ref b/\SqT K H a xs/\SqT K H b ys/\xs≠[]/\xs.length+ys.length<=sizeLine /\
 (ys=[]->Q (.ref a) H)/\(ys≠[]->∀p,H p=none->Q (.ref p) (upd H p (.tup (xs++ys))))
theorem Vals.nil_iff {xs:List V}{us:List Value}(r:Vals xs us):us=[]↔xs=[]:=by
 cases r with
 |nil=>simp
 |cons _ _=>simp
theorem op_catT:OpR X (binaryOp .Add) (Qc X.K):=by
 intro pins s Z H x y v u Q I rx ry h;obtain⟨a,b,xs,ys,rfl,rfl,ha,hb,hx,hz,q1,q2⟩:=h;cases rx;cases ry;obtain⟨its,r1,p1,_⟩:=I.tuple ha;obtain⟨its2,r2,p2,_⟩:=I.tuple hb;refine HT.cat_tup p1 p2 (fun z=>hx (r1.nil_iff.mp z)) (fun z=>⟨.ref a,H,I,rfl,q1 (r2.nil_iff.mp z)⟩) (fun z=>?_) (by rw[<- r1.length,<- r2.length];exact hz);refine⟨.ref s.heap.objs.size,_,I.laid (t':=s.toks) (o:=.tup (xs++ys)) (fun b ob q=>Heap.get?_push_of_some _ q) (Nat.le_refl _) ?_,rfl,q2 (fun w=>z (r2.nil_iff.mpr w)) _ (I.hok.fresh (Nat.le_refl _))⟩;exact⟨by rw[List.length_append];exact hz,_,r1.append r2,Tup0.new _ _⟩
end
def ixN (n:Nat) (i:Int):Option Nat:=if 0<=i then (if i<n then some i.toNat else none) else if -(n:Int)<=i then some (i+n).toNat else none
def atI {α:Type}(xs:List α) (i:Int):Option α:=(ixN xs.length i).bind fun j=>xs[j]?
theorem uN {n:Nat}{i:Int}{j:Nat}(h:ixN n i=some j):seqIndex? i n=some j/\j<n /\ -(n:Int)<=i/\i<n:=by
 unfold ixN at h;by_cases h0:0<=i
 ·rw[if_pos h0] at h;by_cases h1:i<n
  ·rw[if_pos h1] at h;have e:i.toNat=j:=Option.some.inj h;exact⟨by rw[seqIndex_of h0 h1,e],by omega,by omega,h1⟩
  rw[if_neg h1] at h;cases h
 rw[if_neg h0] at h;by_cases h1 : -(n:Int)<=i
 ·rw[if_pos h1] at h;have e:(i+n).toNat=j:=Option.some.inj h;exact⟨by rw[seqIndex_neg (by omega) h1,e],by omega,h1,by omega⟩
 rw[if_neg h1] at h;cases h
theorem nO {α:Type}{xs:List α}{i:Int}{v:α}(h:atI xs i=some v):∃j,seqIndex? i xs.length=some j/\xs[j]?=some v/\j<xs.length /\ -(xs.length:Int)<=i/\i<xs.length:=by
 unfold atI at h;cases e:ixN xs.length i with
 |none=>rw[e] at h;cases h
 |some j =>
 rw[e] at h;obtain⟨h1,h2,h3,h4⟩:=uN e;exact⟨j,h1,h,h2,h3,h4⟩
theorem bV {α:Type}{xs:List α}{j:Nat}{v:α}(h:xs[j]?=some v):atI xs (j:Int)=some v:=by
 have hj:j<xs.length:=(List.getElem?_eq_some_iff.mp h).1;have e:ixN xs.length (j:Int)=some j:=by unfold ixN;rw[if_pos (by omega),if_pos (by omega)];simp
 unfold atI;rw[e];exact h
theorem yt {α:Type}(xs:List α) (v:α):atI (xs++[v]) (-1)=some v:=by
 have hl:(xs++[v]).length=xs.length+1:=by simp
 have e:ixN (xs++[v]).length (-1)=some xs.length:=by unfold ixN;rw[hl,if_neg (by decide),if_pos (by omega)];congr 1;omega
 unfold atI;rw[e];show (xs++[v])[xs.length]?=some v;simp
def uO (b:Expr):Prop:=∀o i,subscripted b false o i=operate [o,i] (getItem o i)
def IxR (X:Cx) (r:R2):Prop :=
 ∀(value slice:Expr) (pins:List (Addr × Obj)) (s:Shared) (Z:St) (H:Hp) (x y:V) (v u:Value) (Q:VK),Inv X pins Z H s->RelV x v->RelV y u->r x y H Q ->
  subscripted slice false v u=operate [v,u] (getItem v u)->wpAny (model X.prog X.w) X.A (subscriptTail value slice v u) (EP X pins Z Q) X.xe s
def MtR (X:Cx) (id:String) (r:V->List V->Hp->VK->Prop):Prop :=
 ∀(pins:List (Addr × Obj)) (s:Shared) (Z:St) (H:Hp) (x:V) (xs:List V) (v:Value) (us:List Value) (Q:VK),Inv X pins Z H s->RelV x v->Vals xs us->r x xs H Q ->
  wpAny (model X.prog X.w) X.A (call (.builtin id) (v::us)) (EP X pins Z Q) X.xe s
section
variable {X:Cx}{a b:Expr}{ta tb:TE}{pos:Pos}
theorem IxR.or {r r':R2}(h:IxR X r) (h':IxR X r'):IxR X (fun x y H Q=>r x y H Q\/r' x y H Q):=by
 intro value slice pins s Z H x y v u Q I rx ry q hs;rcases q with q | q
 ·exact h value slice pins s Z H x y v u Q I rx ry q hs
 exact h' value slice pins s Z H x y v u Q I rx ry q hs
theorem MtR.or {id:String}{r r':V->List V->Hp->VK->Prop}(h:MtR X id r) (h':MtR X id r'):MtR X id (fun x xs H Q=>r x xs H Q\/r' x xs H Q):=by
 intro pins s Z H x xs v us Q I rx rs q;rcases q with q | q
 ·exact h pins s Z H x xs v us Q I rx rs q
 exact h' pins s Z H x xs v us Q I rx rs q
theorem Qd {r:R2}(hr:IxR X r) (ha:PE X a ta) (hb:PE X b tb) (hs:uO b):PE X (.Subscript a b pos) (tOp r ta tb):=by
 intro pins s Z H Q I h;exact Subscript_ (JP ha hb I h fun v u s2 x y H2 I2 rx ry q=>hr a b pins s2 Z H2 x y v u Q I2 rx ry q (hs _ _))
def Qe (K:Frag):R2:=fun x y H Q=>∃p xs i v,x=.ref p/\y=.int i/\SqL K H p xs/\atI xs i=some v/\Q v H
def Qf (K:Frag):R2:=fun x y H Q=>∃p xs i v,x=.ref p/\y=.int i/\SqT K H p xs/\atI xs i=some v/\Q v H
def Qg:R2:=fun x y H Q=>∃z i c,x=.str z/\y=.int i/\z.length<=sizeLine/\atI z.cps.toList i=some c/\Q (.str ⟨#[c]⟩) H
theorem ix_list:IxR X (Qe X.K):=by
 intro value slice pins s Z H x y v u Q I rx ry h hs;obtain⟨p,xs,i,z,rfl,rfl,hq,he,q⟩:=h;cases rx;obtain⟨t,rfl⟩:=ry;obtain⟨its,r,pl,hz⟩:=I.list hq;obtain⟨j,h1,h2,h3,h4,h5⟩:=nO he;obtain⟨w,ew,rw'⟩:=r.get h2;have hl:=r.length;have hn:=je;have fin:EP X pins Z Q w s:=⟨z,H,I,rw',q⟩;by_cases h0:0<=i
 ·have hj:i.toNat=j:=by rw[seqIndex_of h0 h5] at h1;exact Option.some.inj h1
  exact item_listR pl.isList h0 (by omega) (by rw[hj];simpa using ew) fin hs
 have hj:(i+(its.toArray.size:Int)).toNat=j:=by rw[seqIndex_neg (by omega) h4] at h1;rw[List.size_toArray,<- hl];exact Option.some.inj h1
 exact subscriptTail_builtinR (x:=w) pl.isList.typeIs slot_list_getitem.lookup
  (wpAny_getItem_list_neg (Q:=fun r s'=>r=w/\EP X pins Z Q r s') pl.isList (by omega) (by rw[List.size_toArray] <;> omega) (by omega) (by rw[hj];simpa using ew) ⟨rfl,fin⟩) hs
theorem ix_tup:IxR X (Qf X.K):=by
 intro value slice pins s Z H x y v u Q I rx ry h hs;obtain⟨p,xs,i,z,rfl,rfl,hq,he,q⟩:=h;cases rx;obtain⟨t,rfl⟩:=ry;obtain⟨its,r,pl,hz⟩:=I.tuple hq;obtain⟨j,h1,h2,h3,h4,h5⟩:=nO he;obtain⟨w,ew,rw'⟩:=r.get h2;have hl:=r.length;have hn:=je;have fin:EP X pins Z Q w s:=⟨z,H,I,rw',q⟩;exact subscriptTail_builtinR (x:=w) pl.typeIs slot_tuple_getitem.lookup
  (getItem_tuple (j:=j) (Q:=fun r s'=>r=w/\EP X pins Z Q r s') pl (by omega) (by omega) (by rw[List.size_toArray,<- hl];exact h1) (by simpa using ew) ⟨rfl,fin⟩) hs
theorem J6:IxR X Qg:=by
 intro value slice pins s Z H x y v u Q I rx ry h hs;obtain⟨z,i,c,rfl,rfl,hz,he,q⟩:=h;obtain⟨t,rfl⟩:=rx;obtain⟨t',rfl⟩:=ry;obtain⟨j,h1,h2,h3,h4,h5⟩:=nO he;have hl:z.cps.toList.length=z.length:=by simp [Str.length]
 rw[hl] at h1 h4 h5;have hn:=je;exact tail_any (typeIs_str s z t) slot_str_getitem.lookup (getItem_str (c:=c) (by
  have e1:decide (i < -(2^63:Int))=false:=decide_eq_false (by omega)
  have e2:decide (i ≥ 2^63)=false:=decide_eq_false (by omega)
  rw[e1,e2,Bool.or_false]) (by rw[h1];simpa using h2) ⟨.str ⟨#[c]⟩,H,I.tok _,⟨_,rfl⟩,q⟩) hs
def rIx (K:Frag):R2:=fun x y H Q=>Qe K x y H Q\/Qf K x y H Q\/Qg x y H Q
theorem J7:IxR X (rIx X.K):=ix_list.or (ix_tup.or J6)
theorem sS (its:List Value) (n j:Nat) (u:Value):Obj.mapSeq (·.setIfInBounds j u) { cls:=.type "list",data:=.seq its.toArray n}={ cls:=.type "list",data:=.seq (its.set j u).toArray n}:=by
 simp [Obj.mapSeq]
theorem Inv.lst {pins:List (Addr × Obj)}{Z:St}{H:Hp}{s:Shared}{p:Addr}{xs:List V}(I:Inv X pins Z H s) (h:H p=some (.lst xs)) :
  ∃(its:List Value) (n:Nat),Vals xs its/\s.heap.get? p=some { cls:=.type "list",data:=.seq its.toArray n}/\xs.length<=sizeLine:=by
 obtain⟨z,its,n,r,e⟩:=I.hok p _ h;exact⟨its,n,r,e,z⟩
theorem Inv.lstUpd {pins:List (Addr × Obj)}{Z:St}{H:Hp}{s:Shared}{p:Addr}{xs ys:List V}{its its':List Value}{n n':Nat}{f:Obj->Obj}(I:Inv X pins Z H s) (h:H p=some (.lst xs))
  (ho:s.heap.get? p=some { cls:=.type "list",data:=.seq its.toArray n}) (hf:f { cls:=.type "list",data:=.seq its.toArray n}={ cls:=.type "list",data:=.seq its'.toArray n'}) (r:Vals ys its') (hz:ys.length<=sizeLine) (t:Nat) :
  Inv X pins Z (upd H p (.lst ys)) { s with heap:=s.heap.update p f,toks:=t}:=by
 have e:(s.heap.update p f).get? p=some { cls:=.type "list",data:=.seq its'.toArray n'}:=by rw[Heap.get?_update_self f ho (by rw[hf] <;> rfl),hf]
 refine I.write (x:=p) (e:=p) (by rw[h];trivial) (.inl rfl) (fun b u hb q=>(Heap.get?_update_other _ _ (Ne.symm hb)).trans q) ⟨_,e⟩ ?_;exact⟨hz,its',n',r,e⟩
def Qh:V->V->V->Hp->(Hp->Prop)->Prop:=fun o i v H Q=>∃p xs k j,o=.ref p/\i=.int k/\H p=some (.lst xs)/\ixN xs.length k=some j/\Q (upd H p (.lst (xs.set j v)))
theorem set_list:PSet X Qh:=by
 intro pins s Z H o i v ov iv u Q I ro ri rv h;obtain⟨p,xs,k,j,rfl,rfl,hp,hj,q⟩:=h;cases ro;obtain⟨t,rfl⟩:=ri;obtain⟨its,n,r,ho,hz⟩:=I.lst hp;obtain⟨h1,h2,h3,h4⟩:=uN hj;have hl:=r.length;have hn:=je;have I':Inv X pins Z (upd H p (.lst (xs.set j v))) { s with heap:=s.heap.update p (Obj.mapSeq (·.setIfInBounds j u))} :=
  I.lstUpd hp ho (sS its n j u) (r.set rv j) (by rw[List.length_set];exact hz) s.toks
 by_cases h0:0<=k
 ·have hk:k.toNat=j:=by rw[seqIndex_of h0 h4] at h1;exact Option.some.inj h1
  exact PySem.W.ki_setAt ho h0 (by omega) (by rw[List.size_toArray,<- hl];exact h4) (by rw[hk];exact⟨_,I',q⟩)
 have hk:(k+(its.toArray.size:Int)).toNat=j:=by rw[seqIndex_neg (by omega) h3] at h1;rw[List.size_toArray,<- hl];exact Option.some.inj h1
 exact PySem.W.ki_setBack ho (by omega) (by rw[List.size_toArray,<- hl];exact h3) (by omega) (by rw[hk];exact⟨_,I',q⟩)
theorem nP (lo hi:Option Int) (n:Nat):(sliceBounds lo hi none n).1=((HT.sIx n 0 lo:Nat):Int)/\(sliceBounds lo hi none n).2.1=((HT.sIx n n hi:Nat):Int)/\(sliceBounds lo hi none n).2.2=1:=by
 refine⟨?_,?_,rfl⟩
 ·cases lo with
  |none=>simp [sliceBounds,HT.sIx]
  |some i =>
  simp only[sliceBounds,HT.sIx,Option.getD_none,show (1:Int)>0 by decide,if_true];by_cases h:i<0
  ·simp only[h,if_true] <;> omega
  simp only[h,if_false] <;> omega
 cases hi with
 |none=>simp [sliceBounds,HT.sIx]
 |some i =>
 simp only[sliceBounds,HT.sIx,Option.getD_none,show (1:Int)>0 by decide,if_true];by_cases h:i<0
 ·simp only[h,if_true] <;> omega
 simp only[h,if_false] <;> omega
theorem lO (its:List Value) (lo hi:Option Int):slicePick its.toArray lo hi none=((its.drop (HT.sIx its.length 0 lo)).take (HT.sIx its.length its.length hi - HT.sIx its.length 0 lo)).toArray:=by
 obtain⟨h1,h2,h3⟩:=nP lo hi its.toArray.size;unfold slicePick;rw[h1,h2,h3];simp only[sliceRange_one,pick_run,List.size_toArray] <;> rfl
def Uu (K:Frag):V->Option Int->Option Int->Hp->VK->Prop:=fun x lo hi H Q=>∃a xs,x=.ref a/\SqL K H a xs/\∀p,H p=none->Q (.ref p) (upd H p (.lst (pM xs lo hi)))
theorem sl_list:SlR X (Uu X.K):=by
 intro pins s Z H x v vl vu lo hi sl Q I rx hs pl pu h;obtain⟨a,xs,rfl,hx,q⟩:=h;cases rx;obtain⟨its,r,ht,hz⟩:=I.list hx;have hlen:=r.length;refine⟨"list",_,slot_list_getitem.lookup,ht.isList.typeIs,?_⟩;refine wpAny_getItem_list_slice ht.isList hs pl pu .none (by simp) ?_ (by rw[List.size_toArray] <;> omega);rw[lO,<- hlen];refine⟨.ref s.heap.objs.size,_,I.laid (t':=s.toks) (o:=.lst (pM xs lo hi)) (fun b ob q=>Heap.get?_push_of_some _ q) (Nat.le_refl _) ?_,rfl,q _ (I.hok.fresh (Nat.le_refl _))⟩;exact⟨Nat.le_trans (ju xs lo hi) hz,_,0,(r.drop (HT.sIx xs.length 0 lo)).take (HT.sIx xs.length xs.length hi - HT.sIx xs.length 0 lo),Heap.get?_push_size _ rfl⟩
theorem call_len_seq:CallR X (.builtin "len") (fun xs H Q=>∃p ys,xs=[.ref p]/\(SqL X.K H p ys\/SqT X.K H p ys)/\Q (.int ys.length) H):=by
 intro pins s Z H xs us Q I r h;obtain⟨p,ys,rfl,hq,q⟩:=h;obtain⟨u,rfl,rx⟩:=vals1 r;cases rx;have hn:=je;rcases hq with hq | hq
 ·obtain⟨its,r',pl,hz⟩:=I.list hq;have hlen:=r'.length;exact Calls.call_len_list pl.isList (by simp only[List.size_toArray] <;> omega) ⟨.int ys.length,H,I.tok _,⟨s.toks+1,by rw[List.size_toArray,hlen]⟩,q⟩
 obtain⟨its,r',pl,hz⟩:=I.tuple hq;have hlen:=r'.length;exact len_tuple pl (by simp only[List.size_toArray] <;> omega) ⟨.int ys.length,H,I.tok _,⟨s.toks+1,by rw[List.size_toArray,hlen]⟩,q⟩
theorem nQ:CallR X (.builtin "len") (fun xs H Q=>∃z,xs=[.str z]/\z.length<=sizeLine/\Q (.int z.length) H):=by
 intro pins s Z H xs us Q I r h;obtain⟨z,rfl,hz,q⟩:=h;obtain⟨u,rfl,t,rfl⟩:=vals1 r;have hn:=je;exact len_str (by omega) ⟨.int z.length,H,I.tok _,⟨_,rfl⟩,q⟩
theorem CallR.or {f:Value}{r r':List V->Hp->VK->Prop}(h:CallR X f r) (h':CallR X f r'):CallR X f (fun xs H Q=>r xs H Q\/r' xs H Q):=by
 intro pins s Z H xs us Q I rs q;rcases q with q | q
 ·exact h pins s Z H xs us Q I rs q
 exact h' pins s Z H xs us Q I rs q
theorem nR:CallR X (.type "list") (fun xs H Q=>∃p ys,xs=[.ref p]/\(SqL X.K H p ys\/SqT X.K H p ys)/\∀l,H l=none->Q (.ref l) (upd H l (.lst ys))):=by
 intro pins s Z H xs us Q I r h;obtain⟨p,ys,rfl,hq,q⟩:=h;obtain⟨u,rfl,rx⟩:=vals1 r;cases rx;have fin:∀(its:List Value),Vals ys its->ys.length<=sizeLine->∀(h':Heap) (c':Nat),(∀b o',s.heap.get? b=some o'->h'.get? b=some o') ->
   h'.get? s.heap.objs.size=some { cls:=.type "list",dict:=none,data:=.seq its.toArray c',slots:=#[]}->EP X pins Z Q (.ref s.heap.objs.size) { s with heap:=h'}:=fun its r' hz h' c' kp e =>
  ⟨.ref s.heap.objs.size,_,I.laid (t':=s.toks) kp (Nat.le_refl _) (show ObjOk X.prog X.w _ h' _ (.lst ys) from ⟨hz,its,c',r',e⟩),rfl,q _ (I.hok.fresh (Nat.le_refl _))⟩
 rcases hq with hq | hq
 ·obtain⟨its,r',pl,hz⟩:=I.list hq;have hlen:=r'.length;obtain⟨o,ho,hc,n,hd⟩:=pl.isList;exact call_list_seq p (.inl rfl) ho hc hd (fun h' c' kp e=>fin its r' hz h' c' kp e) (by simp only[List.size_toArray] <;> omega)
 obtain⟨its,r',pl,hz⟩:=I.tuple hq;have hlen:=r'.length;obtain⟨o,ho,hc,n,hd⟩:=pl;exact call_list_seq p (.inr rfl) ho hc hd (fun h' c' kp e=>fin its r' hz h' c' kp e) (by simp only[List.size_toArray] <;> omega)
theorem lQ:CallR X (.type "tuple") (fun xs H Q=>∃p ys,xs=[.ref p]/\((SqL X.K H p ys/\∀l,H l=none->Q (.ref l) (upd H l (.tup ys)))\/(SqT X.K H p ys/\Q (.ref p) H))):=by
 intro pins s Z H xs us Q I r h;obtain⟨p,ys,rfl,h⟩:=h;obtain⟨u,rfl,rx⟩:=vals1 r;cases rx;rcases h with ⟨hq,q⟩ | ⟨hq,q⟩
 ·obtain⟨its,r',pl,hz⟩:=I.list hq;have hlen:=r'.length;refine call_tuple_list pl.isList (fun h' kp=>?_) (by simp only[List.size_toArray] <;> omega);have I1:Inv X pins Z H { s with heap:=h'}:=I.kept (t':=s.toks) kp;have I2:Inv X pins Z (upd H h'.objs.size (.tup ys)) { s with heap:=h'.push { cls:=.type "tuple",data:=.seq its.toArray}} :=
   I1.laid (t':=s.toks) (fun b o e=>Heap.get?_push_of_some _ e) (Nat.le_refl _) (show ObjOk X.prog X.w _ _ _ (.tup ys) from ⟨hz,its,r',Tup0.new _ _⟩)
  exact⟨.ref h'.objs.size,_,I2,rfl,q _ (I1.hok.fresh (Nat.le_refl _))⟩
 obtain⟨its,r',pl,hz⟩:=I.tuple hq;exact call_tuple_same pl ⟨.ref p,H,I,rfl,q⟩
def tyV (K:Frag) (T:String) (x:V) (H:Hp):Prop:=match x with
 |.str _=>T="str"
 |.int _=>T="int"
 |.ref p=>(T="list"/\∃xs,SqL K H p xs)\/(T="tuple"/\∃xs,SqT K H p xs) \/
   (T="dict"/\((∃kvs,H p=some (.dK kvs))\/∃kvs,H p=some (.dT kvs)))\/(T="set"/\∃S n,H p=some (.set S n))
 |_=>False
theorem yu {pins:List (Addr × Obj)}{Z:St}{H:Hp}{s:Shared}{T:String}{x:V}{v:Value}(I:Inv X pins Z H s) (r:RelV x v) (ty:tyV X.K T x H) :
  s.TypeIs v T/\∀a,v=.ref a->∃ob,s.heap.get? a=some ob/\ob.dict=none:=by
 cases x with
 |str z=>obtain⟨t,rfl⟩:=r;cases (show T="str" from ty);exact⟨typeIs_str s z t,fun _ e=>nomatch e⟩
 |int i=>obtain⟨t,rfl⟩:=r;cases (show T="int" from ty);exact⟨typeIs_int s i t,fun _ e=>nomatch e⟩
 |ref p =>
  cases r;rcases ty with ⟨rfl,xs,hq⟩ | ⟨rfl,xs,hk⟩ | ⟨rfl,hk⟩ | ⟨rfl,S,n,hk⟩
  ·obtain⟨its,_,pl,_⟩:=I.list hq;refine⟨pl.isList.typeIs,fun a e=>?_⟩;cases e;obtain⟨o,n,e,c,hd,_⟩:=pl;exact⟨o,e,hd⟩
  ·rcases hk with hk | ⟨o,its,n,hk,hc,hd,_⟩
   ·obtain⟨_,its,r,o,ho,hc,n,hd,hn⟩:=hk.ok I.hok;refine⟨⟨o,ho,hc⟩,fun a e=>?_⟩;cases e;exact⟨o,ho,hn⟩
   refine⟨⟨o,I.kIn p o hk,hc⟩,fun a e=>?_⟩;cases e;exact⟨o,I.kIn _ o hk,hd⟩
  ·have z:∃o,s.heap.get? p=some o/\o.ExactDict:=by
    rcases hk with ⟨kvs,hk⟩ | ⟨kvs,hk⟩
    ·obtain⟨_,_,_,_,o,_,_,e,ex,_⟩:=I.hok p _ hk;exact⟨o,e,ex⟩
    obtain⟨_,_,_,_,o,_,_,e,ex,_⟩:=I.hok p _ hk;exact⟨o,e,ex⟩
   obtain⟨o,e,ex⟩:=z;refine⟨⟨o,e,ex.1⟩,fun a e2=>?_⟩;cases e2;exact⟨o,e,ex.2.1⟩
  obtain⟨o,_,_,_,e,ex,_⟩:=I.hok p _ hk;refine⟨⟨o,e,ex.1⟩,fun a e2=>?_⟩;cases e2;exact⟨o,e,ex.2.1⟩
 |_=>exact False.elim ty
def Uv (K:Frag) (T:String) (r:V->List V->Hp->VK->Prop) (to:TE):TE:=fun Z H Q=>to Z H fun x H1=>tyV K T x H1/\r x [] H1 Q
def tBM (K:Frag) (T:String) (r:V->List V->Hp->VK->Prop) (to:TE) (t:TA):TE:=fun Z H Q=>to Z H fun x H1=>tyV K T x H1/\t Z H1 fun xs H2=>r x xs H2 Q
variable {o e:Expr}{es:List Expr}{to:TE}{t:TA}{name:Str}{apos cpos:Pos}{T id:String}{r:V->List V->Hp->VK->Prop}
theorem J8 (pa:PlainAttrs T) (slot:Slot T name id) (hty:typeOf (.builtin id)=pure (.type "method_descriptor")) (hm:MtR X id r) (ho:PE X o to)
  (hbase:attributeBase o name X.env (eval o X.env)=eval o X.env:=by rfl) (hline:(apos.endLine==cpos.line)=true:=by rfl):PE X (.Call (.Attribute o name apos) [] [] cpos) (Uv X.K T r to):=by
 intro pins s Z H Q I h;refine wpAny_Call_method0_late hbase hline (thn (ho pins s Z H _ I h) fun v s1 ⟨x,H1,I1,r1,ty,q1⟩=>?_);obtain⟨h1,h2⟩:=yu I1 r1 ty;exact⟨T,id,pa,slot,hty,h1,h2,Calls.callWith_builtin rfl (PySem.evalArgs_none (hm pins s1 Z H1 x [] v [] Q I1 r1 .nil q1))⟩
theorem Qi (pa:PlainAttrs T) (slot:Slot T name id) (hty:typeOf (.builtin id)=pure (.type "method_descriptor")) (hm:MtR X id r) (ho:PE X o to) (ha:PA X (e::es) t)
  (hbase:attributeBase o name X.env (eval o X.env)=eval o X.env:=by rfl)
  (hfew:((backTo cpos (starEach (e::es) X.env)).all (fun x=>!x.1)&&(backToKw cpos (keywordEach [] X.env)).all (fun x=>x.1.isSome)
   && decide ((e::es).length+([]:List Keyword).length+(if ([]:List Keyword).isEmpty then 0 else 1)<30))=true:=by rfl)
  (hline:(apos.endLine==cpos.line)=true:=by rfl) (hs:starEach (e::es) X.env=(false,eval e X.env)::starEach es X.env:=by rfl) (hplain:(backTo cpos (starEach es X.env)).any (·.1)=false:=by rfl) :
  PE X (.Call (.Attribute o name apos) (e::es) [] cpos) (tBM X.K T r to t):=by
 intro pins s Z H Q I h;refine wpAny_Call_method_late hbase hfew hline rfl (thn (ho pins s Z H _ I h) fun v s1 ⟨x,H1,I1,r1,ty,q1⟩=>?_);obtain⟨h1,h2⟩:=yu I1 r1 ty;refine⟨T,id,pa,slot,hty,h1,h2,?_⟩;have hA:=ha cpos pins s1 Z H1 _ I1 q1;rw[hs] at hA ⊢;refine Calls.callWith_builtin (by show (false||(backTo cpos (starEach es X.env)).any (·.1))=false;rw[hplain] <;> rfl) (Calls.evalArgs_plain ?_);exact thn hA fun us s2 ⟨vs,H2,I2,r2,q2⟩=>hm pins s2 Z H2 x vs v us Q I2 r1 r2 q2
/- xs.append(e),list.index on a module's tuple .. are MtR facts of 06m -/
end
def MtM (X:Cx) (id:String) (r:V->List V->Hp->VK->Prop):Prop :=
 ∀(pins:List (Addr × Obj)) (s:Shared) (Z:St) (H:Hp) (x:V) (xs:List V) (v:Value) (us:List Value) (Q:VK),Inv X pins Z H s->RelV x v->Vals xs us->r x xs H Q ->
  wpAny (model X.prog X.w) X.A (call (.builtin id) (v::us)) (EP X pins Z Q) X.xe s
theorem Vals.one {x:V}{us:List Value}(r:Vals [x] us):∃u,us=[u]/\RelV x u:=vals1 r
theorem Vals.two {x y:V}{us:List Value}(r:Vals [x,y] us):∃u v,us=[u,v]/\RelV x u/\RelV y v:=vals2 r
theorem Vals.zero:∀{us:List Value},Vals [] us->us=[]
 |_,.nil=>rfl
theorem Vals.dropLast {xs:List V}{us:List Value}(h:Vals xs us):Vals xs.dropLast us.dropLast:=by
 induction h with
 |nil=>exact .nil
 |cons r t ih =>
 cases t with
 |nil=>exact .nil
 |cons q t'=>exact .cons r ih
theorem Vals.eraseIdx:∀{xs:List V}{us:List Value}(i:Nat),Vals xs us->Vals (xs.eraseIdx i) (us.eraseIdx i)
 |_,_,_,.nil=>.nil
 |_,_,0,.cons _ t=>t
 |_,_,i+1,.cons r t=>.cons r (Vals.eraseIdx i t)
theorem Vals.reverse {xs:List V}{us:List Value}(h:Vals xs us):Vals xs.reverse us.reverse:=by
 induction h with
 |nil=>exact .nil
 |cons r t ih=>rw[List.reverse_cons,List.reverse_cons];exact Vals.append ih (.cons r .nil)
theorem Vals.rep {xs:List V}{us:List Value}(h:Vals xs us):∀k:Nat,Vals (List.replicate k xs).flatten (List.replicate k us).flatten
 |0=>.nil
 |k+1=>by
  rw[List.replicate_succ,List.replicate_succ,List.flatten_cons,List.flatten_cons]
  exact Vals.append h (Vals.rep h k)
theorem foldl_rep (its:List Value):∀(k:Nat) (acc:List Value),
  List.foldl (fun x1 x2=>x1++x2) acc.toArray (List.replicate k its.toArray)=(acc++(List.replicate k its).flatten).toArray
 |0,acc=>by simp
 |k+1,acc=>by
  have e:acc.toArray++its.toArray=(acc++its).toArray:=by simp
  have e2:(acc++its)++(List.replicate k its).flatten=acc++(List.replicate (k+1) its).flatten:=by
   rw[List.replicate_succ,List.flatten_cons,List.append_assoc]
  rw[<- e2,<- foldl_rep its k (acc++its),<- e,List.replicate_succ,List.foldl_cons]
section
variable {X:Cx}{pins:List (Addr × Obj)}{Z:St}{H:Hp}{s:Shared}{l b:Addr}{xs ys zs:List V}
theorem Inv.lset {its its':List Value}{n:Nat}{f:Array Value->Array Value}{t':Nat}(I:Inv X pins Z H s) (hH:H l=some (.lst xs))
  (e:s.heap.get? l=some { cls:=.type "list",data:=.seq its.toArray n}) (hf:f its.toArray=its'.toArray) (hv:Vals ys its') (hz:ys.length<=sizeLine) :
  Inv X pins Z (upd H l (.lst ys)) { s with heap:=s.heap.update l (Obj.mapSeq f),toks:=t'}:=by
 have q:=PySem.IsL.update e f;rw[hf] at q;refine I.write (x:=l) (e:=l) (by rw[hH];exact trivial) (.inl rfl) (fun b' u hb hu=>(Heap.get?_update_other s.heap (Obj.mapSeq f) (Ne.symm hb)).trans hu) ⟨_,q⟩ ?_;exact⟨hz,its',_,hv,q⟩
theorem Inv.lnew {its:List Value}{t':Nat}(I:Inv X pins Z H s) (hv:Vals ys its) (hz:ys.length<=sizeLine) :
  Inv X pins Z (upd H s.heap.objs.size (.lst ys)) { s with heap:=s.heap.push { cls:=.type "list",data:=.seq its.toArray},toks:=t'} :=
 I.laid (fun _ _ q=>Heap.get?_push_of_some _ q) (Nat.le_refl _) ⟨hz,its,0,hv,Heap.get?_push_size _ rfl⟩
theorem Inv.fresh (I:Inv X pins Z H s):H s.heap.objs.size=none:=I.hok.fresh (Nat.le_refl _)
theorem Inv.lstM (I:Inv X pins Z H s) (hH:H l=some (.lst xs)):xs.length<=sizeLine/\∃(its:List Value) (n:Nat),Vals xs its/\xs.length=its.length/\s.heap.get? l=some { cls:=.type "list",data:=.seq its.toArray n}:=by
 obtain⟨z,its,n,r,e⟩:=I.hok l _ hH;exact⟨z,its,n,r,r.length,e⟩
theorem yw {n:Nat}(h:n<=sizeLine):Builtin.List.listTooLong n=false:=by
 unfold Builtin.List.listTooLong;exact decide_eq_false (by omega)
def Dw:V->List V->Hp->VK->Prop:=fun x vs H Q=>∃l xs y,x=.ref l/\vs=[y]/\H l=some (.lst xs)/\xs.length<sizeLine/\Q .non (upd H l (.lst (xs++[y])))
theorem wQ:MtM X "list.append" Dw:=by
 intro pins s Z H x vs v us Q I rx rv h;obtain⟨l,xs,y,rfl,rfl,hH,hz,q⟩:=h;cases rx;obtain⟨u,rfl,ru⟩:=rv.one;obtain⟨z,its,n,r,hl,e⟩:=I.lstM hH;refine call_meets F.slot_list_append ⟨_,e,rfl⟩ F.entry_list_append (F.args_list_append_2 _ _) (list_append l its.toArray n u (by rw[List.size_toArray];omega)) ⟨e,?_⟩;refine⟨.non,_,I.lset (its':=its++[u]) hH e (by simp) (r.append (.cons ru .nil)) ?_,rfl,q⟩;rw[List.length_append,List.length_singleton];omega
def yx:V->List V->Hp->VK->Prop:=fun x vs H Q=>∃l xs,x=.ref l/\vs=[]/\H l=some (.lst xs)/\Q .non (upd H l (.lst xs.reverse))
theorem sU:MtM X "list.reverse" yx:=by
 intro pins s Z H x vs v us Q I rx rv h;obtain⟨l,xs,rfl,rfl,hH,q⟩:=h;cases rx;have hus:=rv.zero;subst hus;obtain⟨z,its,n,r,hl,e⟩:=I.lstM hH;refine call_meets F.slot_list_reverse ⟨_,e,rfl⟩ F.entry_list_reverse (F.args_list_reverse_1 _) (AutoSeq1.list_reverse_list_0 l its.toArray n (by rw[List.size_toArray];omega)) ⟨e,?_⟩;refine⟨.non,_,I.lset (its':=its.reverse) hH e (by simp) r.reverse ?_,rfl,q⟩;rw[List.length_reverse];omega
def Uw:R2:=fun x y H Q=>∃l b xs zs,x=.ref l/\y=.ref b/\H l=some (.lst xs)/\H b=some (.lst zs)/\xs.length+zs.length<=sizeLine/\∀p,H p=none->Q (.ref p) (upd H p (.lst (xs++zs)))
theorem op_cat:OpR X (binaryOp .Add) Uw:=by
 intro pins s Z H x y v u Q I rx ry h;obtain⟨l,b,xs,zs,rfl,rfl,hH,hB,hz,q⟩:=h;cases rx;cases ry;obtain⟨z,its,n,r,hl,e⟩:=I.lstM hH;obtain⟨z2,its2,n2,r2,hl2,e2⟩:=I.lstM hB;refine PySem.P.add_list e e2 ?_ (by rw[List.size_toArray,List.size_toArray];omega);have ea:its.toArray++its2.toArray=(its++its2).toArray:=by simp
 rw[ea];exact⟨.ref _,_,I.lnew (t':=s.toks) (r.append r2) (by rw[List.length_append];omega),rfl,q _ I.fresh⟩
def Ux:R2:=fun x y H Q=>∃l k xs,x=.ref l/\y=.int k/\H l=some (.lst xs) /\ -(2^63)<=k/\k<2^63/\xs.length*k.toNat<=sizeLine /\
 ∀p,H p=none->Q (.ref p) (upd H p (.lst (List.replicate k.toNat xs).flatten))
theorem len_rep {α:Type}(xs:List α) (k:Nat):(List.replicate k xs).flatten.length=k*xs.length:=by
 induction k with
 |zero=>simp
 |succ k ih=>rw[List.replicate_succ,List.flatten_cons,List.length_append,ih,Nat.succ_mul,Nat.add_comm]
theorem J9:OpR X (binaryOp .Mult) Ux:=by
 intro pins s Z H x y v u Q I rx ry h;obtain⟨l,k,xs,rfl,rfl,hH,h1,h2,hz,q⟩:=h;cases rx;obtain⟨t,rfl⟩:=ry;obtain⟨z,its,n,r,hl,e⟩:=I.lstM hH;have hlen:its.toArray.size*k.toNat<=sizeLine:=by rw[List.size_toArray,<- hl];exact hz
 have hcap:¬its.toArray.size*k.toNat>(2^63 - 1) / 8:=by
  have:(sizeLine:Nat)<=(2^63 - 1) / 8:=by decide
  omega
 have hfit:¬(!Builtin.List.listFitsIndex k)=true:=by rw[fitsIndex_both h1 h2];exact Bool.false_ne_true
 have hlong:¬Builtin.List.listTooLong (its.toArray.size*k.toNat)=true:=by rw[yw hlen];exact Bool.false_ne_true
 have hnew:List.foldl (fun x1 x2=>x1++x2) #[] (List.replicate (if its.toArray.isEmpty=true then 0 else k.toNat) its.toArray)=(List.replicate k.toNat its).flatten.toArray:=by
  have f0:∀m:Nat,List.foldl (fun x1 x2=>x1++x2) #[] (List.replicate m its.toArray)=(List.replicate m its).flatten.toArray:=fun m=>by have:=foldl_rep its m [];rw[List.nil_append] at this;exact this
  rw[f0];cases its with
  |nil=>simp
  |cons a r'=>rw[if_neg (by simp)]
 refine wpAny_binaryOp_repeat_ref (T:="list") (U:="int") (by decide) ⟨_,e,rfl⟩ (fun s'=>typeIs_int s' k t) noFill_list_mul F.fills_int_mul F.slot_int_rmul repeat_list F.slot_int_index.lookup
  (call_meets F.slot_int_rmul (typeIs_int s k t) F.entry_int_rmul (F.args_int_rmul_2 _ _) (int___rmul___int_list k t l its.toArray n)
   ⟨e,rfl,⟨_,e,rfl⟩,call_meets F.slot_list_mul ⟨_,e,rfl⟩ F.entry_list_mul (F.args_list_mul_2 _ _) (AutoListH.list___mul___list_int_3 l its.toArray n k t hfit hcap hlong) ⟨e,?_⟩⟩)
 rw[hnew];exact⟨.ref _,_,I.lnew (t':=s.toks) (r.rep k.toNat) (by rw[len_rep,Nat.mul_comm];exact hz),rfl,q _ I.fresh⟩
variable {prog:Program}{w:World}{A:Around}{E:Value->Shared->Prop}
set_option maxRecDepth 100000 in
end
section
variable {κ:Type} [DecidableEq κ]
def dW (kvs:List (κ × V)) (k:κ):Option V:=(kvs.find? fun kv=>decide (kv.1=k)).map (·.2)
def putK (kvs:List (κ × V)) (k:κ) (v:V):List (κ × V) :=
 if (kvs.any fun kv=>decide (kv.1=k))=true then kvs.map (fun kv=>if kv.1=k then (kv.1,v) else kv) else kvs++[(k,v)]
def Hm (kvs:List (κ × V)) (k:κ):List (κ × V):=kvs.filter fun kv=>decide (kv.1≠k)
theorem dX {p:κ × V}{r:List (κ × V)}{k:κ}(e:p.1=k):dW (p::r) k=some p.2:=by simp [dW,List.find?_cons,e]
theorem dY {p:κ × V}{r:List (κ × V)}{k:κ}(e:¬p.1=k):dW (p::r) k=dW r k:=by simp [dW,List.find?_cons,e]
theorem pN (k:κ):∀kvs:List (κ × V),(kvs.any fun kv=>decide (kv.1=k))=(dW kvs k).isSome
 |[]=>rfl
 |p::r=>by
  rw[List.any_cons]
  by_cases e:p.1=k
  ·
   simp only[dX e,decide_eq_true e,Bool.true_or,Option.isSome_some]
  ·
   rw[dY e,decide_eq_false e,Bool.false_or];exact pN k r
theorem d8 (kvs:List (κ × V)) (k:κ) (v:V):(putK kvs k v).length<=kvs.length+1:=by
 unfold putK;split
 ·rw[List.length_map];omega
 rw[List.length_append,List.length_cons,List.length_nil];omega
theorem RelO.isSome_eq {o:Option V}{u:Option Value}(r:RelO o u):o.isSome=u.isSome:=by
 cases o with
 |none=>cases u with
  |none=>rfl
  |some _=>exact (show False from r).elim
 |some _=>cases u with
  |none=>exact (show False from r).elim
  |some _=>rfl
theorem RelO.getD {o:Option V}{u:Option Value}{d:V}{d':Value}(r:RelO o u) (rd:RelV d d'):RelV (o.getD d) (u.getD d'):=by
 cases o with
 |none=>cases u with
  |none=>exact rd
  |some _=>exact (show False from r).elim
 |some _=>cases u with
  |none=>exact (show False from r).elim
  |some _=>exact r
theorem KV.val {kvs:List (κ × V)}{vs:List (κ × Value)}(r:KV kvs vs) (k:κ):RelO (dW kvs k) (valueAt vs k):=by
 unfold KV at r;induction r with
 |nil=>exact True.intro
 |@cons p q ps qs h t ih =>
 obtain⟨h1,h2⟩:=h;by_cases e:p.1=k
 ·have e':q.1=k:=h1.symm.trans e;have b:valueAt (q::qs) k=some q.2:=by simp [valueAt,List.find?_cons,e']
  rw[dX e,b];exact h2
 have e':¬q.1=k:=fun z=>e (h1.trans z);have b:valueAt (q::qs) k=valueAt qs k:=by simp [valueAt,List.find?_cons,e']
 rw[dY e,b];exact ih
theorem KV.any {kvs:List (κ × V)}{vs:List (κ × Value)}(r:KV kvs vs) (k:κ):(kvs.any fun kv=>decide (kv.1=k))=vs.any fun kv=>decide (kv.1=k):=by
 unfold KV at r;induction r with
 |nil=>rfl
 |cons h t ih=>rw[List.any_cons,List.any_cons,ih,h.1]
theorem KV.repl {kvs:List (κ × V)}{vs:List (κ × Value)}(r:KV kvs vs) (k:κ) {y:V}{u:Value}(ry:RelV y u) :
  KV (kvs.map fun kv=>if kv.1=k then (kv.1,y) else kv) (vs.map fun kv=>if kv.1=k then (kv.1,u) else kv):=by
 unfold KV at r ⊢;induction r with
 |nil=>exact .nil
 |@cons p q ps qs h t ih =>
 rw[List.map_cons,List.map_cons];refine .cons ?_ ih;obtain⟨h1,h2⟩:=h;by_cases e:p.1=k
 ·rw[if_pos e,if_pos (h1.symm.trans e)];exact⟨h1,ry⟩
 rw[if_neg e,if_neg (fun z=>e (h1.trans z))];exact⟨h1,h2⟩
theorem KV.put {kvs:List (κ × V)}{vs:List (κ × Value)}(r:KV kvs vs) (k:κ) {y:V}{u:Value}(ry:RelV y u):KV (putK kvs k y) (stored vs k u):=by
 unfold putK stored;rw[r.any k];by_cases e:(vs.any fun kv=>decide (kv.1=k))=true
 ·rw[if_pos e,if_pos e];exact r.repl k ry
 rw[if_neg e,if_neg e];exact Paired.snoc r ⟨rfl,ry⟩
theorem KV.drop {kvs:List (κ × V)}{vs:List (κ × Value)}(r:KV kvs vs) (k:κ):KV (Hm kvs k) (without vs k):=by
 unfold KV at r ⊢;unfold Hm without;induction r with
 |nil=>exact .nil
 |@cons p q ps qs h t ih =>
 obtain⟨h1,h2⟩:=h;rw[List.filter_cons,List.filter_cons];by_cases e:p.1=k
 ·have a:¬decide (p.1≠k)=true:=by simp [e]
  have b:¬decide (q.1≠k)=true:=by simp [h1.symm.trans e]
  rw[if_neg a,if_neg b];exact ih
 have e':¬q.1=k:=fun z=>e (h1.trans z);have a:decide (p.1≠k)=true:=by simp [e]
 have b:decide (q.1≠k)=true:=by simp [e']
 rw[if_pos a,if_pos b];exact .cons ⟨h1,h2⟩ ih
theorem KV.keys {kvs:List (κ × V)}{vs:List (κ × Value)}(r:KV kvs vs):kvs.map (·.1)=vs.map (·.1):=by
 unfold KV at r;induction r with
 |nil=>rfl
 |cons h t ih=>rw[List.map_cons,List.map_cons,ih,h.1]
theorem KV.length {kvs:List (κ × V)}{vs:List (κ × Value)}(r:KV kvs vs):kvs.length=vs.length:=Paired.length r
end
theorem jY {P:Program}{w:World}{k:Key}{u:Value}(r:RelV (kV k) u):(bj P w).is k u=true:=by
 cases k with
 |inl i=>obtain⟨t,e⟩:=(show ∃t,u=Value.int i t from r);subst e;exact pH P w i t
 |inr x=>obtain⟨t,e⟩:=(show ∃t,u=Value.str x t from r);subst e;exact pI P w x t
theorem mH {P:Program}{w:World}:∀{ks:List Key}{us:List Value},Vals (ks.map kV) us->ItemsAre (bj P w) ks us
 |[],_,r=>by rw[List.map_nil] at r;cases r;exact .nil
 |k::ks,_,r=>by
  rw[List.map_cons] at r
  cases r with
  |cons h t=>exact .cons (jY h) (mH t)
abbrev KT (H:Hp):List (List Key × V)->List (List Key × Addr × Value)->Prop:=Paired fun p q=>p.1=q.1/\H q.2.1=some (.tup (p.1.map kV))/\RelV p.2 q.2.2
theorem KT.val {H:Hp}{kvs:List (List Key × V)}{xs:List (List Key × Addr × Value)}(r:KT H kvs xs) (k:List Key):RelO (dW kvs k) ((atKey xs k).map (·.2)):=by
 induction r with
 |nil=>exact True.intro
 |@cons p q ps qs h t ih =>
 obtain⟨h1,_,h2⟩:=h;by_cases e:p.1=k
 ·have e':q.1=k:=h1.symm.trans e;have b:atKey (q::qs) k=some q.2:=by simp [atKey,List.find?_cons,e']
  rw[dX e,b];exact h2
 have e':¬q.1=k:=fun z=>e (h1.trans z);have b:atKey (q::qs) k=atKey qs k:=by simp [atKey,List.find?_cons,e']
 rw[dY e,b];exact ih
theorem KT.repl {H:Hp}{kvs:List (List Key × V)}{xs:List (List Key × Addr × Value)}(r:KT H kvs xs) (k:List Key) {y:V}{u:Value}(ry:RelV y u) :
  KT H (kvs.map fun kv=>if kv.1=k then (kv.1,y) else kv) (xs.map (putAt k u)):=by
 induction r with
 |nil=>exact .nil
 |@cons p q ps qs h t ih =>
 rw[List.map_cons,List.map_cons];refine .cons ?_ ih;obtain⟨h1,h2,h3⟩:=h;unfold putAt;by_cases e:p.1=k
 ·rw[if_pos e,if_pos (h1.symm.trans e)];exact⟨h1,h2,ry⟩
 rw[if_neg e,if_neg (fun z=>e (h1.trans z))];exact⟨h1,h2,h3⟩
theorem KT.put {H:Hp}{kvs:List (List Key × V)}{xs:List (List Key × Addr × Value)}(r:KT H kvs xs) (k:List Key) {b:Addr}{y:V}{u:Value}(hb:H b=some (.tup (k.map kV))) (ry:RelV y u) :
  KT H (putK kvs k y) (storedH xs k b u):=by
 have e:(kvs.any fun kv=>decide (kv.1=k))=(atKey xs k).isSome:=by rw[pN,(r.val k).isSome_eq,Option.isSome_map]
 unfold putK storedH;rw[e];by_cases q:(atKey xs k).isSome=true
 ·rw[if_pos q,if_pos q];exact r.repl k ry
 rw[if_neg q,if_neg q];exact Paired.snoc r ⟨rfl,hb,ry⟩
theorem KT.keeps {H H':Hp}{kvs:List (List Key × V)}{xs:List (List Key × Addr × Value)}(r:KT H kvs xs) (ht:∀b ys,H b=some (.tup ys)->H' b=some (.tup ys)):KT H' kvs xs :=
 Paired.mapP r fun _ _ z=>⟨z.1,ht _ _ z.2.1,z.2.2⟩
section
variable {P:Program}{w:World}{H:Hp}{h:Heap}{a:Addr}
theorem Hn {u:HO}(ok:HOk P w H h) (e:Rd H a u):ObjOk P w H h a u:=e.ok ok
theorem mJ {kvs:List (Key × V)}(ok:HOk P w H h) (e:Rd H a (.dK kvs)):kvs.length<=sizeLine/\(a==sysModules)=false/\∃vs,KV kvs vs/\h.DictOf (bj P w) a vs :=
 show ObjOk P w H h a (.dK kvs) from Hn ok e
theorem pQ {kvs:List (Key × V)}(ok:HOk P w H h) (e:H a=some (.dK kvs)):kvs.length<=sizeLine/\(a==sysModules)=false/\∃vs,KV kvs vs/\h.DictOf (bj P w) a vs:=mJ ok (.inl e)
theorem jZ {ks:List Key}(ok:HOk P w H h) (e:H a=some (.tup (ks.map kV))):(tupleKind (bj P w)).is h ks a:=by
 obtain⟨_,its,r,o,h1,h2,n,h3,_⟩:=(show ObjOk P w H h a (.tup (ks.map kV)) from ok a _ e);exact⟨o,its.toArray,n,h1,h2,h3,by simpa using mH r⟩
theorem mK {kvs:List (List Key × V)}(ok:HOk P w H h) (e:Rd H a (.dT kvs)):kvs.length<=sizeLine/\(a==sysModules)=false /\
  ∃xs,KT H kvs xs/\h.DictOfH (tupleKind (bj P w)) a xs:=by
 obtain⟨z,y,xs,r,o,es,ep,h1,h2,h3,h4,h5⟩:=(show ObjOk P w H h a (.dT kvs) from Hn ok e);refine⟨z,y,xs,r,o,es,ep,h1,h2,h3,h4,fun x hx=>?_,h5⟩;have all:∀{l:List (List Key × V)} {m:List (List Key × Addr × Value)},KT H l m->∀x∈m,(tupleKind (bj P w)).is h x.1 x.2.1:=by
  intro l m q;induction q with
  |nil=>intro x hx;exact nomatch hx
  |@cons p q ps qs hq t ih =>
  intro x hx;rcases List.mem_cons.mp hx with e | hx
  ·subst e;exact jZ ok (by rw[<- hq.1];exact hq.2.1)
  exact ih x hx
 exact all r x hx
theorem Qj {kvs:List (List Key × V)}(ok:HOk P w H h) (e:H a=some (.dT kvs)):kvs.length<=sizeLine/\(a==sysModules)=false /\
  ∃xs,KT H kvs xs/\h.DictOfH (tupleKind (bj P w)) a xs:=mK ok (.inl e)
end
def DGet (H:Hp) (a:Addr) (y:V) (r:Option V):Prop :=
 (∃kvs k,Rd H a (.dK kvs)/\y=kV k/\r=dW kvs k)\/∃kvs k b,Rd H a (.dT kvs)/\y=.ref b/\H b=some (.tup (k.map kV))/\r=dW kvs k
def DPut (H:Hp) (a:Addr) (y v:V) (H':Hp):Prop :=
 (∃kvs k,H a=some (.dK kvs)/\y=kV k/\kvs.length<sizeLine/\H'=upd H a (.dK (putK kvs k v))) \/
 ∃kvs k b,H a=some (.dT kvs)/\y=.ref b/\H b=some (.tup (k.map kV))/\kvs.length<sizeLine/\H'=upd H a (.dT (putK kvs k v))
theorem DGet.k {H:Hp}{a:Addr}{kvs:List (Key × V)}{k:Key}(e:H a=some (.dK kvs)):DGet H a (kV k) (dW kvs k):=.inl ⟨kvs,k,.inl e,rfl,rfl⟩
theorem DGet.t {H:Hp}{a b:Addr}{kvs:List (List Key × V)}{k:List Key}(e:H a=some (.dT kvs)) (eb:H b=some (.tup (k.map kV))):DGet H a (.ref b) (dW kvs k):=.inr ⟨kvs,k,b,.inl e,rfl,eb,rfl⟩
theorem DPut.k {H:Hp}{a:Addr}{kvs:List (Key × V)}{k:Key}{v:V}(e:H a=some (.dK kvs)) (hl:kvs.length<sizeLine):DPut H a (kV k) v (upd H a (.dK (putK kvs k v))):=.inl ⟨kvs,k,e,rfl,hl,rfl⟩
theorem DPut.t {H:Hp}{a b:Addr}{kvs:List (List Key × V)}{k:List Key}{v:V}(e:H a=some (.dT kvs)) (eb:H b=some (.tup (k.map kV))) (hl:kvs.length<sizeLine) :
  DPut H a (.ref b) v (upd H a (.dT (putK kvs k v))):=.inr ⟨kvs,k,b,e,rfl,eb,hl,rfl⟩
section
variable {X:Cx}{pins:List (Addr × Obj)}{Z:St}{H:Hp}{s:Shared}{a:Addr}{y v:V}{u r:Value}{o:Option V}{A:Around}{E:Value->Shared->Prop}
theorem Inv.big (I:Inv X pins Z H s):sysModules<s.heap.objs.size:=by
 have h:mainGlobals<s.heap.objs.size:=(I.mod.glob.keeps I.bk).lt;exact Nat.lt_trans (by decide) h
theorem wR {Q:Value->Shared->Prop}(hu:A.units+1<cLine) (I:Inv X pins Z H s) (g:DGet H a y (some v)) (ry:RelV y u) (h:∀w' s',Inv X pins Z H s'->RelV v w'->Q w' s') :
  wpAny (model X.prog X.w) A (getItem (.ref a) u) Q E s:=by
 rcases g with ⟨kvs,k,e,ey,l⟩ | ⟨kvs,k,b,e,ey,eb,l⟩
 ·subst ey;obtain⟨z,hd,vs,rel,dd⟩:=mJ I.hok e;obtain⟨w',hw,rw'⟩:=RelO.some_of (v:=v) (o:=valueAt vs k) (by rw[l];exact rel.val k);exact wpAny_getItem_of (jY ry) dd.mapOf hw (h w' _ (I.tok _) rw')
 subst ey;cases (show u=Value.ref b from ry);obtain⟨z,hd,xs,rel,dd⟩:=mK I.hok e;obtain⟨w',hw,rw'⟩:=RelO.some_of (v:=v) (o:=(atKey xs k).map (·.2)) (by rw[l];exact rel.val k);obtain⟨p,hp,hp2⟩:=Option.map_eq_some_iff.mp hw;refine wpAny_getItem_heap (tupleKind_room_in1 hu) (jZ I.hok eb) dd hp ?_;rw[hp2];exact h w' _ (I.tok _) rw'
theorem Uy {Q:Value->Shared->Prop}(hu:A.units+1<cLine) (I:Inv X pins Z H s) (g:DGet H a y o) (ry:RelV y u) (h:∀s',Inv X pins Z H s'->Q (.bool o.isSome) s') :
  wpAny (model X.prog X.w) A (compareOp .In u (.ref a)) Q E s:=by
 rcases g with ⟨kvs,k,e,ey,l⟩ | ⟨kvs,k,b,e,ey,eb,l⟩
 ·subst ey;obtain⟨z,hd,vs,rel,dd⟩:=mJ I.hok e;refine wpAny_in_of (jY ry) hd dd.mapOf ?_;rw[<- (rel.val k).isSome_eq,<- l];exact h _ (I.tok _)
 subst ey;cases (show u=Value.ref b from ry);obtain⟨z,hd,xs,rel,dd⟩:=mK I.hok e;refine wpAny_in_heap (tupleKind_room_in1 hu) (jZ I.hok eb) hd dd ?_;have q:=(rel.val k).isSome_eq;rw[Option.isSome_map] at q;rw[<- q,<- l];exact h _ (I.tok _)
theorem Dy {Q:Value->Shared->Prop}(hu:A.units+1<cLine) (I:Inv X pins Z H s) (g:DGet H a y o) (ry:RelV y u) (h:∀s',Inv X pins Z H s'->Q (.bool (!o.isSome)) s') :
  wpAny (model X.prog X.w) A (compareOp .NotIn u (.ref a)) Q E s:=by
 rcases g with ⟨kvs,k,e,ey,l⟩ | ⟨kvs,k,b,e,ey,eb,l⟩
 ·subst ey;obtain⟨z,hd,vs,rel,dd⟩:=mJ I.hok e;refine wpAny_notIn_of (jY ry) hd dd.mapOf ?_;rw[<- (rel.val k).isSome_eq,<- l];exact h _ (I.tok _)
 subst ey;cases (show u=Value.ref b from ry);obtain⟨z,hd,xs,rel,dd⟩:=mK I.hok e;refine wpAny_notIn_heap (tupleKind_room_in1 hu) (jZ I.hok eb) hd dd ?_;have q:=(rel.val k).isSome_eq;rw[Option.isSome_map] at q;rw[<- q,<- l];exact h _ (I.tok _)
theorem jM {h':Heap}{t':Nat}{ob:HO}(I:Inv X pins Z H s) (mu:Mut (H a)) (hs:Heap.SameBut a s.heap h') (he:∃q,h'.get? a=some q) (new:ObjOk X.prog X.w (upd H a ob) h' a ob) :
  Inv X pins Z (upd H a ob) { s with heap:=h',toks:=t'} :=
 I.write (x:=a) (e:=a) mu (.inl rfl) (fun b q hb z=>(hs.2 b hb).trans z) he new
theorem sV {P:Program}{w:World}{H':Hp}{h':Heap}{kvs:List (Key × V)}{vs:List (Key × Value)}(z:kvs.length<=sizeLine) (hd:(a==sysModules)=false) (rel:KV kvs vs) (dd:h'.DictOf (bj P w) a vs) :
  ObjOk P w H' h' a (.dK kvs):=⟨z,hd,vs,rel,dd⟩
theorem wU {H':Hp}{Q:Unit->Shared->Prop}(hu:A.units+1<cLine) (I:Inv X pins Z H s) (g:DPut H a y v H') (ry:RelV y u) (rv:RelV v r) (h:∀s',Inv X pins Z H' s'->Q () s') :
  wpAny (model X.prog X.w) A (setItem (.ref a) u r) Q E s:=by
 rcases g with ⟨kvs,k,e,ey,l,eH⟩ | ⟨kvs,k,b,e,ey,eb,l,eH⟩
 ·subst ey eH;obtain⟨z,hd,vs,rel,dd⟩:=pQ I.hok e;have hz:vs.length<=sizeLine:=by rw[<- rel.length];exact z
  have hl:(putK kvs k v).length<=sizeLine:=by have:=d8 kvs k v;omega
  refine wpAny_setItem_pairs (hsz:=hz) (jY ry) dd fun h' dd' hs=>h _ ?_;have he:∃q,h'.get? a=some q:=let ⟨q,_,_,hq,_⟩:=dd';⟨q,hq⟩;exact jM I (by rw[e];exact True.intro) hs he (sV hl hd (rel.put k rv) dd')
 subst ey eH;cases (show u=Value.ref b from ry);obtain⟨z,hd,xs,rel,dd⟩:=Qj I.hok e;have hz:xs.length<=sizeLine:=by rw[<- Paired.length rel];exact z
 have hl:(putK kvs k v).length<=sizeLine:=by have:=d8 kvs k v;omega
 refine wpAny_setItem_heap (hsz:=hz) (tupleKind_room_in1 hu) (jZ I.hok eb) dd fun h' dd' hs=>h _ ?_;obtain⟨q,es,ep,hq,h2,h3,h4,_,h5⟩:=dd';refine jM I (by rw[e];exact True.intro) hs ⟨q,hq⟩ ⟨hl,hd,_,(rel.put k eb rv).keeps fun c ys ec=>?_,q,es,ep,hq,h2,h3,h4,h5⟩;rw[aN (O2 ec e (fun z=>nomatch z))];exact ec
variable {kvs:List (Key × V)}{k:Key}
end
def Dz (i:Expr):Prop:=∀ov iv,subscripted i false ov iv=operate [ov,iv] (getItem ov iv)
theorem DG {prog:Program}{w:World}{A:Around}{E:Value->Shared->Prop}{s:Shared}{env:Env}{value slice:Expr}{pos:Pos}{T id:String}{Q:Value->Shared->Prop}
  (hl:typeLookup (.type T) "__getitem__"=pure (some (.builtin id))) (hs:Dz slice)
  (h:wpAny (model prog w) A (eval value env) (fun o s₁=>wpAny (model prog w) A (eval slice env) (fun i s₂=>s₂.TypeIs o T/\wpAny (model prog w) A (getItem o i) Q E s₂) E s₁) E s) :
  wpAny (model prog w) A (eval (.Subscript value slice pos) env) Q E s:=by
 refine Subscript_ (wpAny_mono h (fun o s₁ h₁=>wpAny_mono h₁ (fun i s₂ h₂=>?_) fun _ _ x=>x) fun _ _ x=>x);obtain⟨hT,h₂⟩:=h₂;unfold subscriptTail;refine wpAny_bind ?_;rw[getitemInPython_of_ne hT.not_modules];refine wpAny_bind (wpAny_specialOf hT hl ?_);have fin:wpAny (model prog w) A (subscripted slice false o i) (fun r s₃=>wpAny (model prog w) A (letTemporaryGo value o r >>= fun _=>pure r) Q E s₃) E s₂:=by rw[hs o i];exact wpAny_operating (wpAny_mono h₂ (fun r s₃ h₃=>wpAny_bind (wpAny_letTemporaryGo (wpAny_pure h₃))) fun _ _ x=>x)
 first
  |exact wpAny_pure (wpAny_bind fin)
  |exact wpAny_bind (wpAny_pure (wpAny_bind fin))
  |exact wpAny_bind fin
theorem pR {X:Cx}{pins:List (Addr × Obj)}{Z:St}{H:Hp}{s:Shared}{a:Addr}{y:V}{o:Option V}(I:Inv X pins Z H s) (g:DGet H a y o):s.TypeIs (.ref a) "dict":=by
 rcases g with ⟨kvs,k,e,_,_⟩ | ⟨kvs,k,b,e,_,_,_⟩
 ·obtain⟨_,_,vs,_,dd⟩:=mJ I.hok e;exact dd.typeIs
 obtain⟨_,_,xs,_,dd⟩:=mK I.hok e;exact dd.typeIs
def Qk (td ty:TE):TE:=fun Z H Q=>td Z H fun x H1=>ty Z H1 fun y H2=>∃a v,x=.ref a/\DGet H2 a y (some v)/\Q v H2
def Uz (ty td:TE):TE:=fun Z H Q=>ty Z H fun y H1=>td Z H1 fun x H2=>∃a o,x=.ref a/\DGet H2 a y o/\Q (.bl o.isSome) H2
def DK (ty td:TE):TE:=fun Z H Q=>ty Z H fun y H1=>td Z H1 fun x H2=>∃a o,x=.ref a/\DGet H2 a y o/\Q (.bl (!o.isSome)) H2
def Ql (td ty tv:TE):TS:=fun D Z H=>tv Z H fun v H1=>td Z H1 fun x H2=>ty Z H2 fun y H3=>∃a H4,x=.ref a/\DPut H3 a y v H4/\D.nx Z H4
section
variable {X:Cx}{o i e value:Expr}{pos pos' tpos:Pos}{td ty tv:TE}
theorem uP (hu:X.A.units+1<cLine) (ho:PE X o td) (hi:PE X i ty) (hs:Dz i):PE X (.Subscript o i pos) (Qk td ty):=by
 intro pins s Z H Q I h;refine DG PySem.F.slot_dict_getitem.lookup hs (thn (ho pins s Z H _ I h) fun u s1 ⟨x,H1,I1,rx,q1⟩=>thn (hi pins s1 Z H1 _ I1 q1) fun iv s2 ⟨y,H2,I2,ry,a,v,ex,g,q2⟩=>?_);subst ex;obtain rfl:u=Value.ref a:=rx;exact⟨pR I2 g,wR hu I2 g ry fun w' s3 I3 rw'=>⟨v,H2,I3,rw',q2⟩⟩
theorem Ka (hu:X.A.units+1<cLine) (hi:PE X i ty) (ho:PE X o td):PC X .In i o (Uz ty td):=by
 intro pins s Z H Q I h;refine thn (hi pins s Z H _ I h) fun iv s1 ⟨y,H1,I1,ry,q1⟩=>thn (ho pins s1 Z H1 _ I1 q1) fun u s2 ⟨x,H2,I2,rx,a,ov,ex,g,q2⟩=>?_;subst ex;obtain rfl:u=Value.ref a:=rx;exact Uy hu I2 g ry fun s3 I3=>⟨.bl ov.isSome,H2,I3,rfl,q2⟩
theorem mL (hu:X.A.units+1<cLine) (hi:PE X i ty) (ho:PE X o td):PC X .NotIn i o (DK ty td):=by
 intro pins s Z H Q I h;refine thn (hi pins s Z H _ I h) fun iv s1 ⟨y,H1,I1,ry,q1⟩=>thn (ho pins s1 Z H1 _ I1 q1) fun u s2 ⟨x,H2,I2,rx,a,ov,ex,g,q2⟩=>?_;subst ex;obtain rfl:u=Value.ref a:=rx;exact Dy hu I2 g ry fun s3 I3=>⟨.bl (!ov.isSome),H2,I3,rfl,q2⟩
theorem DN (hu:X.A.units+1<cLine) (ho:PE X o td) (hi:PE X i ty) (hv:PE X value tv) (hs:swapsWith value (some (.Subscript o i pos')) pos.line X.env=pure false) :
  PS X (.Assign [.Subscript o i pos'] value pos) (Ql td ty tv):=by
 intro pins s Z H D I h;refine wpAny_Assign_Subscript (thn (hv pins s Z H _ I h) fun r s1 ⟨v,H1,I1,rv,q1⟩=>thn (ho pins s1 Z H1 _ I1 q1) fun u s2 ⟨x,H2,I2,rx,q2⟩=>thn (hi pins s2 Z H2 _ I2 q2) fun iv s3 ⟨y,H3,I3,ry,a,H4,ex,g,q3⟩=>?_) hs;subst ex;obtain rfl:u=Value.ref a:=rx;exact wU hu I3 g ry rv fun s4 I4=>⟨Z,H4,I4,q3⟩
end
theorem pU {P:Program}{w:World}{H:Hp}(h:Heap) (hb:sysModules<h.objs.size):ObjOk P w H (h.push { cls:=.type "dict",data:=.dict #[]}) h.objs.size (.dK []) :=
 ⟨Nat.zero_le _,beq_eq_false_iff_ne.mpr (Ne.symm (Nat.ne_of_lt hb)),[],.nil,Heap.DictOf.new h⟩
def Kc:TE:=fun _ H Q=>∀p,H p=none->Q (.ref p) (upd H p (.dK []))
section
variable {X:Cx}{pos:Pos}
theorem pW:PE X (.Dict [] [] pos) Kc:=fun pins s Z H Q I h =>
 wpAny_Dict_empty ⟨.ref s.heap.objs.size,_,I.laid (a:=s.heap.objs.size) (o:=.dK []) (t':=s.toks) (fun _ _ q=>Heap.get?_push_of_some _ q) (Nat.le_refl _) (pU s.heap I.big),rfl,h _ (I.hok.fresh (Nat.le_refl _))⟩
end
def sW:List (TE × TE)->St->Hp->(List (V × V)->Hp->Prop)->Prop
 |[],_,H,Q=>Q [] H
 | (tk,tv)::r,Z,H,Q=>tk Z H fun x H1=>tv Z H1 fun y H2=>sW r Z H2 fun ps H3=>Q ((x,y)::ps) H3
abbrev VV:List (V × V)->List (Value × Value)->Prop:=Paired fun p q=>RelV p.1 q.1/\RelV p.2 q.2
def PPs (X:Cx) (pos:Pos) (keys:List (Option Expr)) (values:List Expr) (trs:List (TE × TE)):Prop :=
 ∀(pins:List (Addr × Obj)) (s:Shared) (Z:St) (H:Hp) (Q:List (V × V)->Hp->Prop),Inv X pins Z H s->sW trs Z H Q ->
  wpAny (model X.prog X.w) X.A (evalPairs (pairTrees keys values X.env pos)) (fun vs s'=>∃ps H',Inv X pins Z H' s'/\VV ps vs/\Q ps H') X.xe s
theorem uQ {X:Cx}{pos:Pos}:PPs X pos [] [] []:=fun pins s Z H Q I h=>pairTrees_nil_walk ⟨[],H,I,.nil,h⟩
theorem pX {X:Cx}{pos:Pos}{k v:Expr}{ks:List (Option Expr)}{vs:List Expr}{tk tv:TE}{trs:List (TE × TE)}(hk:PE X k tk) (hv:PE X v tv) (hr:PPs X pos ks vs trs) :
  PPs X pos (some k::ks) (v::vs) ((tk,tv)::trs):=fun pins s Z H Q I h =>
 pairTrees_cons_walk (thn (hk pins s Z H _ I h) fun u s1 ⟨x,H1,I1,rx,q1⟩=>thn (hv pins s1 Z H1 _ I1 q1) fun w2 s2 ⟨y,H2,I2,ry,q2⟩ =>
  thn (hr pins s2 Z H2 _ I2 q2) fun ws s3 ⟨ps,H3,I3,rel,q3⟩=>⟨(x,y)::ps,H3,I3,.cons ⟨rx,ry⟩ rel,q3⟩)
def il (kvs more:List (Key × V)):List (Key × V):=more.foldl (fun acc kv=>putK acc kv.1 kv.2) kvs
theorem KV.merge:∀{more:List (Key × V)}{rs:List (Key × Value)}{kvs:List (Key × V)}{vs:List (Key × Value)},KV more rs->KV kvs vs->KV (il kvs more) (merged vs rs):=by
 intro more rs kvs vs r;unfold KV at r;induction r generalizing kvs vs with
 |nil=>intro q;exact q
 |@cons p q ps qs h t ih =>
 intro r0;have e:KV (putK kvs p.1 p.2) (stored vs q.1 q.2):=by have:=r0.put p.1 h.2;rw[<- h.1];exact this
 exact ih e
theorem gZ:∀(more kvs:List (Key × V)),(il kvs more).length<=kvs.length+more.length
 |[],kvs=>by show kvs.length<=kvs.length+0;omega
 |p::r,kvs=>by
  have h1:=gZ r (putK kvs p.1 p.2)
  have h2:=d8 kvs p.1 p.2
  show (il (putK kvs p.1 p.2) r).length<=_
  rw[List.length_cons];omega
theorem j0 {P:Program}{w:World}:∀{kvs:List (Key × V)}{ws:List (Value × Value)},VV (kvs.map fun kv=>(kV kv.1,kv.2)) ws->∃rs,Carries (bj P w) ws rs/\KV kvs rs
 |[],_,r=>by rw[List.map_nil] at r;cases r;exact⟨[],True.intro,.nil⟩
 |p::kvs,_,r=>by
  rw[List.map_cons] at r
  cases r with
  |@cons a b as bs h t =>
   obtain⟨rs,c,q⟩:=j0 (P:=P) (w:=w) t
   obtain⟨b1,b2⟩:=b
   exact⟨(p.1,b2)::rs,⟨jY h.1,rfl,c⟩,.cons ⟨rfl,h.2⟩ q⟩
def Qm (trs:List (TE × TE)):TE:=fun Z H Q=>∀p,H p=none->sW trs Z (upd H p (.dK [])) fun ps H2=>H2 p=some (.dK [])/\∃kvs:List (Key × V),ps=kvs.map (fun kv=>(kV kv.1,kv.2))/\kvs.length<=15/\Q (.ref p) (upd H2 p (.dK (il [] kvs)))
theorem uR {X:Cx}{pos:Pos}{keys:List (Option Expr)}{values:List Expr}{trs:List (TE × TE)}(h:PPs X pos keys values trs) (hall:keys.all (·.isSome)=true) (hl:keys.length=values.length) (h0:keys≠[])
  (h15:keys.length<=15):PE X (.Dict keys values pos) (Qm trs):=by
 intro pins s Z H Q I q;have hn:=I.hok.fresh (Nat.le_refl s.heap.objs.size);have I1:=I.laid (a:=s.heap.objs.size) (o:=.dK []) (h':=s.heap.push { cls:=.type "dict",data:=.dict #[]}) (t':=s.toks) (fun _ _ q=>Heap.get?_push_of_some _ q) (Nat.le_refl _) (pU s.heap I.big);refine wpAny_Dict_walk (knd:=bj X.prog X.w) hall hl h0 h15 (thn (h pins _ Z _ _ I1 (q _ hn)) fun ws s2 ⟨ps,H2,I2,rel,e,kvs,ep,lk,q2⟩=>?_);subst ep;obtain⟨rs,c,rk⟩:=j0 (P:=X.prog) (w:=X.w) rel;obtain⟨z,hd,vs0,r0,dd⟩:=pQ I2.hok e;cases r0;refine⟨rs,c,dd,fun h' dd' hs=>⟨.ref s.heap.objs.size,_,?_,rfl,q2⟩⟩;have hz:(il [] kvs).length<=sizeLine:=by have h1:=gZ kvs [];rw[List.length_nil] at h1;rw[sizeLine_eq];omega
 have he:∃q,h'.get? s.heap.objs.size=some q:=let ⟨q,_,_,hq,_⟩:=dd';⟨q,hq⟩;exact jM I2 (by rw[e];exact True.intro) hs he (sV hz hd (rk.merge .nil) dd')
structure M2 (X:Cx) (o:Expr) (m:Str) (apos:Pos) (e f:Expr) (cpos:Pos):Prop where
 base:attributeBase o m X.env (eval o X.env)=eval o X.env
 few:((backTo cpos (starEach [e,f] X.env)).all (fun x=>!x.1)&&(backToKw cpos (keywordEach [] X.env)).all (fun x=>x.1.isSome)
  && decide (([e,f]:List Expr).length+([]:List Keyword).length+(if ([]:List Keyword).isEmpty then 0 else 1)<30))=true
 line:(apos.endLine==cpos.line)=true
 trees:backTo cpos (starEach [e,f] X.env)=[(false,eval e X.env),(false,eval f X.env)]
def IsD (H:Hp) (a:Addr):Prop:=(∃kvs,Rd H a (.dK kvs))\/∃kvs,Rd H a (.dT kvs)
theorem yz {X:Cx}{pins:List (Addr × Obj)}{Z:St}{H:Hp}{s:Shared}{a:Addr}(I:Inv X pins Z H s) (d:IsD H a) :
  s.TypeIs (.ref a) "dict"/\(∀b,Value.ref a=.ref b->∃ob,s.heap.get? b=some ob/\ob.dict=none)/\(a==sysModules)=false:=by
 rcases d with ⟨kvs,e⟩ | ⟨kvs,e⟩
 ·obtain⟨_,hd,vs,_,dd⟩:=mJ I.hok e;refine⟨dd.typeIs,fun b q=>?_,hd⟩;cases q;obtain⟨ob,_,_,h1,h2,_⟩:=dd;exact⟨ob,h1,h2.2.1⟩
 obtain⟨_,hd,xs,_,dd⟩:=mK I.hok e;refine⟨dd.typeIs,fun b q=>?_,hd⟩;cases q;obtain⟨ob,_,_,h1,h2,_⟩:=dd;exact⟨ob,h1,h2.2.1⟩
section
variable {X:Cx}{pins:List (Addr × Obj)}{Z:St}{H:Hp}{s:Shared}{a:Addr}{y d:V}{u r:Value}{o:Option V}{A:Around}{E:Value->Shared->Prop}
end
section
variable {X:Cx}{o e f:Expr}{apos cpos:Pos}{td ty tx:TE}
variable {pins:List (Addr × Obj)}{Z:St}{H:Hp}{s:Shared}{a:Addr}{kvs:List (Key × V)}{A:Around}{E:Value->Shared->Prop}
variable {y:V}{u:Value}
end
end L2
namespace Att
open PySem PySem.W PySem.Calls PyProof.Rows
theorem jG {P:Params}{h:Heap}:∀(ns:List Int) (vs:List Value),WellAll P h vs (ns.map WData.int)->IntsAre vs ns:=by
 intro ns;induction ns with
 |nil=>intro vs w;rw[List.map_nil] at w;cases w;exact .nil
 |cons n ns ih =>
 intro vs w;rw[List.map_cons] at w;cases w with
 |cons a b =>
 cases a;exact .cons _ _ (ih _ b)
theorem wV {l:OpenLaw}{n:Nat}(hn:l.most=some n) {P:Params}{h:Heap}{args:List WData}{vals:List Value}
  (hpre:l.row.toRowW.claim.pre args=true) (hwl:WellAll P h vals args) :
  ∃a vs ns,vals=[Value.ref a]/\args=[WData.list (ns.map WData.int)]/\h.get? a=some { cls:=.type "list",data:=.seq vs.toArray}/\IntsAre vs ns/\ns.length<=n:=by
 have hsh:WShape.hasAll [] args [.list .int]=true:=(pre_splitW hpre).1;have hc:l.pre.holds [] { args:=args}=true:=(pre_splitW hpre).2;obtain⟨d,r,rfl,h1,h2⟩:=hasAllW_cons hsh;obtain rfl:=hasAllW_nil h2;obtain⟨xs,rfl,h3⟩:=hasW_list h1;obtain⟨ns,rfl⟩:=items_int h3;have hlen:ns.length<=n:=by
  unfold OpenLaw.pre at hc;have h4:(WTm.not (.lt (.lit (.int (n:Int))) (.len (.arg 0)))).holds [] { args:=[.list (ns.map .int)]}=true:=by have h4:=(holds_andW hc).1;rw[hn] at h4;exact h4
  have h5:=condW_of h4 (w_not (w_lt w_lit (w_len_list (w_arg rfl))));rw[List.length_map] at h5;refine Nat.le_of_not_lt fun q=>?_;have q':(n:Int)<((ns.length:Nat):Int):=by omega
  first
   | (rw[decide_eq_true q'] at h5;exact absurd h5 (by decide))
   | (simp at h5;omega)
 cases hwl with
 |cons w1 w2 =>
 cases w2;cases w1 with
 |list ho hall=>exact⟨_,_,ns,rfl,rfl,ho,jG ns _ hall,hlen⟩
theorem wW (l:OpenLaw) (args:List WData):l.row.toRowW.claim.post args (.bool true) args=true :=
 postW_of (r:=l.row.toRowW) (X:=(true==true))
  (show WShape.has [] (.bool true) .bool=true by first | rfl | decide | simp [WShape.has,WShape.arms,WShape.armsAll])
  (show (WTm.eq .res (.lit (.bool true))).value [] { args:=args,res:=some (.bool true),after:=args}=some (.bool (true==true)) from w_eq_bool (w_res rfl) w_lit) rfl
theorem attach_call {l:OpenLaw}{n:Nat}{q:Program}{loose:List Str}{XP:(Str->Option Value)->Heap->Prop}{YP:World->Heap->Prop}{d:DefRec}
  (hn:l.most=some n) (hdf:d.params.defaults=[])
  (call:∀(w:World) (s₀ s₁:Shared) (mg mb:Str->Option Value) (fa:Addr) (o:Obj) (pm cd doc:Value) (a:Addr) (vs:List Value) (ns:List Int),
   Ground q loose [] XP w s₀ mg mb s₁.heap->YP w s₁.heap ->
   s₁.heap.get? fa=some o->o.data=.func (docDef d.name d.params d.body d.scope pm cd doc)->s₁.heap.CodeRec cd d.name->mg d.name=some (.ref fa) ->
   s₁.heap.get? a=some { cls:=.type "list",data:=.seq vs.toArray}->IntsAre vs ns->ns.length<=n->s₁.gens=#[] ->
   codeAny (model l.prog w) callerA (.call (.ref fa) ⟨[.ref a],[]⟩) (fun r s'=>r=.ok (.ret (.bool true))/\OldK s₁.heap s'.heap/\s'.os=s₁.os/\AllBare s'.gens) s₁) :
  WalkO q loose XP YP l.row.toRowW d [] (fun f vs=>PySem.call f vs):=by
 intro w s₀ s₁ mg mb G Y fa o pm cd doc dV kV ho hd hcd hD hmg hg args vals as hpre hlay hrd hwl hlo;obtain rfl:dV=.none:=Dflts.none hD hdf;obtain rfl:kV=.none:=Dflts.noKw hD;obtain⟨a,vs,ns,rfl,rfl,hobj,hints,hlen⟩:=wV hn hpre hwl;refine enter_call (codeAny_mono (call w s₀ s₁ mg mb fa o pm cd doc a vs ns G Y ho (fd_plain hd) hcd hmg hobj hints hlen hg) fun r s' hq=>?_);obtain⟨rfl,h2,h3,h4⟩:=hq;exact⟨.inl ⟨.bool true,.bool true,[],rfl,fun _=>rfl,.bool true,wW l _,fun _=>⟨List.Pairwise.nil,fun _ hm=>(nomatch hm)⟩⟩,h2,h3,h4⟩
section
variable {prog:Program}{w:World}{A:Around}{E:Value->Shared->Prop}{s:Shared}{K:Frag}
def ledger (h : Heap) (L d : Addr) : List (Addr × Obj):=(List.range h.objs.size).filterMap fun a => if a = L \/ a = d then none else (h.get? a).map fun o => (a,o)
end
end Att
namespace L2
theorem mO:∀{vs:List Value}{ns:List Int},IntsAre vs ns->Vals (ns.map V.int) vs
 |_,_,.nil=>.nil
 |_,_,.cons n t h=>.cons ⟨t,rfl⟩ (mO h)
def Only (H:Hp):Prop:=∀b,H b=none\/∃o xs,H b=some (.frz o (.lst xs))
theorem yC {P:Program}{w:World}{K:Frag}{mg mb:Str->Option Value}{CX:CXT}{k:Nat}{fa a:Addr}{fd:FuncData}{x:Str}{sp:Sp}{s₁:Shared}{vs:List Value}{ns:List Int}
  (KX:K.In s₁.heap) (hns:s₁.heap.Ns mainGlobals mg) (hb:s₁.heap.Ns builtinsNs mb) (hbb:∀x:Str,x≠"__name__"->mb x=bootBuiltins x) (hlim:s₁.heap.NoLimit) (hg:s₁.gens=#[])
  (ha:s₁.heap.get? a=some { cls:=.type "list",data:=.seq vs.toArray}) (hi:IntsAre vs ns) (hl:ns.length<=sizeLine) (hr:Room k callerA)
  (F:∀base:Heap,K.In base->base.Ns mainGlobals mg->FnOk P w K mg base CX k fa fd [x] sp) (hbind:∀(s:Shared) (u:Value),BindsTo s fd ⟨[u],[]⟩ [(x,u)])
  (hsp:∀H:Hp,Only H->SqL K H a (ns.map V.int)->sp [.ref a] H (fun v _=>v=.bl true) fun _ _ _=>False)
  (hCX:∀H e s',CX [] H s₁ (fun _ _ _=>False) e s'->False) :
  codeAny (model P w) callerA (.call (.ref fa) ⟨[.ref a],[]⟩) (fun r s'=>r=.ok (.ret (.bool true))/\OldK s₁.heap s'.heap/\s'.os=s₁.os/\AllBare s'.gens) s₁:=by
 have rv:=mO hi;have lenV:=hi.length
 have core:∀H:Hp,Only H->SqL K H a (ns.map V.int)->HOk P w H s₁.heap->(∀b,H b≠none->b=a)->(H a≠none->K.lookup a=none) ->
   codeAny (model P w) callerA (.call (.ref fa) ⟨[.ref a],[]⟩) (fun r s'=>r=.ok (.ret (.bool true))/\OldK s₁.heap s'.heap/\s'.os=s₁.os/\AllBare s'.gens) s₁:=by
  intro H hO hS hok hA hK
  have base_of:∀{b:Addr} {o:Obj},s₁.heap.get? b=some o->H b=none->(nH s₁.heap H).get? b=some o:=fun e n=>xX e n
  have noA:∀{b:Addr} {o:Obj} {es:Array DictEntry} {ep:Nat},s₁.heap.get? b=some o->o.data=.dict es ep->H b=none:=fun {b o es ep} e d=>by
   cases q:H b with
   |none=>rfl
   |some u =>
    have e':b=a:=hA b (by rw[q];simp)
    subst e'
    rw[ha] at e;cases e
    have d':Data.seq vs.toArray _=Data.dict es ep:=d
    cases d'
  have nsK:∀{b:Addr} {m:Str->Option Value},s₁.heap.Ns b m->(nH s₁.heap H).Ns b m:=fun {b m} ⟨o,es,ep,e,d,r⟩=>⟨o,es,ep,base_of e (noA e d),d,r⟩
  have hKb:K.In (nH s₁.heap H):=fun b o e=>base_of (KX b o e) (by
   cases q:H b with
   |none=>rfl
   |some u =>
    have e':b=a:=hA b (by rw[q];simp)
    subst e'
    rw[hK (by rw[q];simp)] at e;cases e)
  have hM:Mod K mg (nH s₁.heap H):=⟨hKb,nsK hns,⟨mb,nsK hb,hbb⟩,let ⟨mc,h1,h2⟩:=hlim;⟨mc,nsK h1,h2⟩⟩
  have e0:Env0 P w K mg (nH s₁.heap H) callerA [] s₁ H:=⟨rfl,hM,fun b o e=>CP e,Nat.le_of_eq (wD _ _),trivial,fun b hb=>absurd (show b∈([]:List Addr) from hb) (by simp),hok,.of_eq hg⟩
  refine codeAny_mono ((F _ hKb (nsK hns)).run callerA [] s₁ H ⟨[.ref a],[]⟩ [.ref a] [.ref a] _ _ hr e0 (hbind s₁ (.ref a)) (.cons rfl .nil) (hsp H hO hS)) fun r s' h=>?_
  cases r with
  |error e=>exact (hCX H e s' h).elim
  |ok fl =>
   cases fl with
   |next=>exact False.elim h
   |brk=>exact False.elim h
   |cont=>exact False.elim h
   |ret u =>
    obtain⟨v,H',os,bare,un,hok',r',q⟩:=h
    have q':v=.bl true:=q
    subst q'
    obtain rfl:u=Value.bool true:=r'
    refine⟨rfl,OldK.of_keep fun b o e=>?_,os,bare⟩
    cases q:H b with
    |none=>exact un.keep b o e q (by intro z;exact absurd (show b∈([]:List Addr) from z) (by simp)) (by simp)
    |some u =>
     rcases hO b with z | ⟨ob,xs,z⟩
     ·
      rw[q] at z;cases z
     ·
      have z2:=un.frzs b ob _ z
      obtain⟨e1,_⟩:=hok b _ z
      obtain⟨e2,_⟩:=hok' b _ z2
      rw[e] at e1;cases e1
      exact e2
 cases hk:K.lookup a with
 |some o =>
  have e:=KX a o hk
  rw[ha] at e
  cases e
  refine core (fun _=>none) (fun _=>.inl rfl) (.inr ⟨_,vs.toArray,_,hk,rfl,rfl,rfl,by rw[List.size_toArray,lenV];exact hl,by simpa using rv⟩) (fun b u z=>by have z':(none:Option HO)=some u:=z;cases z') (fun b z=>absurd rfl z) fun z=>absurd rfl z
 |none =>
 refine core (fun b=>if b=a then some (.frz { cls:=.type "list",data:=.seq vs.toArray} (.lst (ns.map V.int))) else none) (fun b=>?_) (.inl (.inr ⟨{ cls:=.type "list",data:=.seq vs.toArray},if_pos rfl⟩)) (fun b u z=>?_) (fun b z=>?_) fun _=>hk
 ·by_cases hb:b=a
  ·exact .inr ⟨_,_,if_pos hb⟩
  exact .inl (if_neg hb)
 ·by_cases hb:b=a
  ·have z':=(if_pos hb).symm.trans z;cases z';subst hb;exact⟨ha,by rw[List.length_map];exact hl,vs,_,rv,ha⟩
  have z':=(if_neg hb).symm.trans z;cases z'
 by_cases hb:b=a
 ·exact hb
 exact absurd (if_neg hb) z
abbrev KOf {K:Frag}{h:Heap}(_:K.In h):Frag:=K
theorem walk_of {l:PySem.W.OpenLaw}{n k:Nat}{q:Program}{loose:List Str}{XP:(Str->Option Value)->Heap->Prop}{YP:World->Heap->Prop}{d:DefRec}{K:Params->Frag}{CX:World->CXT}{sp:World->Sp}{x:Str}
  (hn:l.most=some n) (hn2:n<=sizeLine) (hdf:d.params.defaults=[]) (hr:Room k callerA)
  (hY:∀(w:World) (h:Heap),YP w h->(K w.params).In h)
  (F:∀(w:World) (mg:Str->Option Value) (fa:Addr) (h:Heap),(K w.params).In h->h.Ns mainGlobals mg->mg d.name=some (.ref fa) ->
   ∃fd:FuncData,(∀(s:Shared) (u:Value),BindsTo s fd ⟨[u],[]⟩ [(x,u)]) /\
    ∀base:Heap,(K w.params).In base->base.Ns mainGlobals mg->FnOk l.prog w (K w.params) mg base (CX w) k fa fd [x] (sp w))
  (hsp:∀(w:World) (H:Hp) (a:Addr) (ns:List Int),ns.length<=n->Only H->SqL (K w.params) H a (ns.map V.int)->sp w [.ref a] H (fun v _=>v=.bl true) fun _ _ _=>False)
  (hCX:∀(w:World) (H:Hp) (s:Shared) (e:Value) (s':Shared),CX w [] H s (fun _ _ _=>False) e s'->False) :
  PySem.W.WalkO q loose XP YP l.row.toRowW d [] (fun f vs=>PySem.call f vs):=by
 refine Att.attach_call hn hdf fun w s₀ s₁ mg mb fa o pm cd doc a vs ns G Y ho hd hcd hmg hobj hints hlen hg=>?_;have KX:=hY w _ Y;obtain⟨fd,hb,hF⟩:=F w mg fa _ KX G.T.g hmg;exact yC KX G.T.g G.T.b G.T.builtins G.T.nolimit hg hobj hints (Nat.le_trans hlen hn2) hr hF hb (fun H hO hS=>hsp w H a ns hlen hO hS) fun H e s'=>hCX w H s₁ e s'
end L2
/- THE LAST THEOREM (shape;LID,My.* are yours):
  My.Adr: a structure of the addresses that your layer names (classes,functions);My.Txt K t: a structure (Prop) of the equations over K;
  My.txt_mk:{K} {implicit addresses ..} (e1:nsIn K mainGlobals "law"=some (some (.ref f))) (e2:K.lookup f=some ⟨oc,od,.func (fnOf "law" "law" params body scope dV kV doc pm an cdv ct),sl⟩) (e3:codeIn K cdv "law"=true) .. : ∃t,My.Txt K t
set_option maxRecDepth 100000 in
set_option maxHeartbeats 0 in
theorem PySem.Challenge.cw_LID_holds : PySem.Challenge.rw_LID.Holds := by
 w_on;o_law;k_head;(case hw=>w_witness2)
 k_fill
 refine L2.walk_of (l:=PySem.Challenge.rw_LID) (n:=63) (k:=40) (x:="script") (CX:=fun w=>..) (sp:=fun _=>My.sp_law) rfl (by decide) rfl ⟨rfl,by decide,by decide⟩ (fun w h Y=>PySem.W.kIn_of Y) ?F ?S ?C
 case F =>
  intro w mg fa h KX G hmg
  have T:∃t,My.Txt (L2.KOf KX) t:=by
   dsimp only[L2.KOf]                          -- K must stand as «<heap const> w.params» for k_is
   refine' My.txt_mk ?e1 ?e2 ?e3 ..
   (case e1=>PySem.W.k_is)                    -- in the order: a name->its address->its object->its parts
   (case e2=>PySem.W.k_is)
   ..
  obtain⟨t,T⟩:=T
  have e0:=hmg.symm.trans (mg_of KX G T.law)
  cases e0                                       -- fa is the law's own address
  exact⟨_,fun s u=>.of_eq rfl,fun base kb nb=>My.law_fn T kb nb⟩     -- if «.of_eq rfl» comes too early: refine'⟨_,?b,fun base kb nb=>My.law_fn T kb nb⟩;exact fun s u=>.of_eq rfl
 case S=>exact fun w H a ns hl hO hS=>..
 case C=>exact ..
(the tactic k_is has no namespace: write k_is) -/
namespace L2
abbrev CX0:CXT:=fun _ _ _ _ _ _=>False
abbrev E0:XK:=fun _ _ _=>False
theorem yD {X:Cx}:jg CX0 X E0:=fun _ _ _ _ _ _ _ h=>h.elim
structure Fun (K:Frag) (x qual:Str) (st:Stmt) (f:Addr) (fd:FuncData):Prop where
 ex:∃(oc:Value) (od:Option Addr) (kV doc pm:Value) (an:Option Addr) (cdv ct:Value) (osl:Array (Option Value)),
  fd=fnOf x qual (bM st) (bB st) (aA st) .none kV doc pm an cdv ct/\K.lookup f=some ⟨oc,od,.func fd,osl⟩/\codeIn K cdv qual=true
 kp:keepIn K (.ref f)=true
section
variable {P:Program}{w:World}{K:Frag}{mg:Str->Option Value}{base:Heap}
theorem Fun.ok {x qual:Str}{st:Stmt}{f:Addr}{fd:FuncData}{N ps:List Str}{k:Nat}{sp:Sp}(F:Fun K x qual st f fd) (S:FnScope N ps (aA st)) (len:∀vs H Q E,sp vs H Q E->vs.length=ps.length)
  (hbody:∀(cdv:Value) (A:Around) (outer:List Env) (s:Shared) (H:Hp) (vs:List V) (Q:VK) (E:XK),Room k (A.deeper (envOfC qual (aA st) s.heap.objs.size f cdv))->sp vs H Q E ->
   ∃t,PSs (sI CX0 P w K mg base N qual (aA st) f cdv A outer s H E).nox (bB st) t/\t { nx:=fun _ H'=>Q .non H',rt:=Q} (start N vs) H):FnOk P w K mg base CX0 (k+1) f fd ps sp:=by
 obtain⟨oc,od,kV,doc,pm,an,cdv,ct,osl,rfl,lk,hcd⟩:=F.ex;refine P0 lk hcd S len fun A outer s H vs Q E hr hsp=>?_;obtain⟨t,h,q⟩:=hbody cdv A outer s H vs Q E hr hsp;exact⟨t,h.nox,q⟩
theorem Fun.binds {x qual:Str}{st:Stmt}{f:Addr}{fd:FuncData}{ps:List Str}(F:Fun K x qual st f fd)
  (h:∀(kV doc pm:Value) (an:Option Addr) (cdv ct:Value) (us:List Value),us.length=ps.length->bindArgs (fnOf x qual (bM st) (bB st) (aA st) .none kV doc pm an cdv ct) ⟨us,[]⟩=pure (ps.zip us)):Binds K fd ps []:=by
 obtain⟨oc,od,kV,doc,pm,an,cdv,ct,osl,rfl,lk,hcd⟩:=F.ex;exact .all (h kV doc pm an cdv ct)
theorem j4 {x qual:Str}{st:Stmt}{f:Addr}{oc:Value}{od an:Option Addr}{osl:Array (Option Value)}{kV doc pm cdv ct:Value}(l:K.lookup f=some ⟨oc,od,.func (fnOf x qual (bM st) (bB st) (aA st) .none kV doc pm an cdv ct),osl⟩)
  (c:codeIn K cdv qual=true) (k:keepIn K (.ref f)=true):Fun K x qual st f (fnOf x qual (bM st) (bB st) (aA st) .none kV doc pm an cdv ct):=⟨⟨oc,od,kV,doc,pm,an,cdv,ct,osl,rfl,l,c⟩,k⟩
variable {X:Cx}
theorem pv (i:Nat) {x:Str}{pos:Pos}(hN:X.N[i]?=some x:=by rfl) (hv:Vis X.env.scope x:=by first | exact Or.inl rfl | exact Or.inr (Or.inl rfl) | exact Or.inr (Or.inr rfl)) (hd:(x==("__debug__":Str))=false:=by decide)
  (hcd:(x==("__classdict__":Str))=false:=by decide):PE X (.Name x pos) (O4 i):=Jt hN hv hd hcd
end
theorem UG {A B:Prop}(h:B):if false=true then A else B:=by
 rw[if_neg Bool.false_ne_true];exact h
theorem UJ {A B:Prop}(h:A):if true=true then A else B:=by
 rw[if_pos rfl];exact h
section
variable {κ:Type} [DecidableEq κ]
theorem fK:∀{l:List κ}{k:κ},l.Nodup->¬k∈l->(l++[k]).Nodup
 |[],k,_,_=>by simp
 |a::r,k,h,hk=>by
  obtain⟨h1,h2⟩:=List.nodup_cons.mp h
  show (a::(r++[k])).Nodup
  refine List.nodup_cons.mpr ⟨fun m=>?_,fK h2 fun m=>hk (List.mem_cons.mpr (Or.inr m))⟩
  rcases List.mem_append.mp m with q | q
  ·
   exact h1 q
  ·
   exact hk (List.mem_cons.mpr (Or.inl (List.mem_singleton.mp q).symm))
end
theorem jw {F:Str × NameKind->Str × NameKind}(hF:∀p,(F p).1=p.1) {x:Str}{k:NameKind}:∀{names:List (Str × NameKind)},names.lookup x=some k->(names.map F).lookup x=some (F (x,k)).2
 |[],h=>by cases h
 | (m,q)::r,h=>by
  have hm:=hF (m,q)
  rw[List.map_cons,show F (m,q)=(m,(F (m,q)).2) from Prod.ext hm rfl]
  by_cases e:x=m
  ·
   subst e
   rw[List.lookup_cons_self] at h ⊢
   cases h
   rfl
  ·
   have eb:(x==m)=false:=beq_eq_false_iff_ne.mpr e
   simp only[List.lookup,eb] at h ⊢
   exact jw hF h
theorem gR {env:Env}{x:Str}{names:List (Str × NameKind)}(h:names.lookup x=some .free) :
  (names.map fun (n,k)=>if (k==NameKind.free&&env.scope.kind==.function&&env.kindOf n==some .cell) then (n,NameKind.cell) else (n,k)).lookup x=some .cell \/
  (names.map fun (n,k)=>if (k==NameKind.free&&env.scope.kind==.function&&env.kindOf n==some .cell) then (n,NameKind.cell) else (n,k)).lookup x=some .free:=by
 rw[jw (F:=fun (n,k)=>if (k==NameKind.free&&env.scope.kind==.function&&env.kindOf n==some .cell) then (n,NameKind.cell) else (n,k)) (fun p=>by dsimp only;split <;> rfl) h];dsimp only;split
 ·exact .inl rfl
 exact .inr rfl
theorem j5 {scope:Scope}{env:Env}(h:∀y∈scope.names,y.2=.free->∃c,env.cells.lookup y.1=some c) :
  ∃cl,closureFor scope env=pure cl/\(∀x c,cl.lookup x=some c->env.cells.lookup x=some c)/\∀y∈scope.names,y.2=.free->∃c,cl.lookup y.1=some c:=by
 have key:∀(names:List (Str × NameKind)) (cs:List (Str × Addr)),(∀y∈names,y.2=.free->∃c,env.cells.lookup y.1=some c)->(∀x c,cs.lookup x=some c->env.cells.lookup x=some c) ->
   ∃cl:List (Str × Addr),(forIn names cs (fun (x:Str × NameKind) (r:List (Str × Addr))=>(do
    if x.2==.free then do
     let a <- cellOf env x.1
     pure (ForInStep.yield ((x.1,a)::r))
    else pure (ForInStep.yield r):Sem (ForInStep (List (Str × Addr))))):Sem (List (Str × Addr)))=pure cl/\(∀x c,cl.lookup x=some c->env.cells.lookup x=some c) /\
    (∀x c,cs.lookup x=some c->∃c',cl.lookup x=some c')/\∀y∈names,y.2=.free->∃c,cl.lookup y.1=some c:=by
  intro names
  induction names with
  |nil=>intro cs _ hc;exact⟨cs,rfl,hc,fun x c e=>⟨c,e⟩,fun y hy=>nomatch hy⟩
  |cons y r ih =>
   intro cs hn hc
   obtain⟨n,k⟩:=y
   by_cases hk:k=.free
   ·
    subst hk
    obtain⟨c,ec⟩:=hn (n,.free) List.mem_cons_self rfl
    have hcell:cellOf env n=pure c:=by unfold cellOf;rw[ec]
    obtain⟨cl,e,h1,h2,h3⟩:=ih ((n,c)::cs) (fun y hy=>hn y (List.mem_cons_of_mem _ hy)) (fun x c' q=>by
     simp only[List.lookup_cons] at q
     cases hx:x==n with
     |true=>rw[hx] at q;cases q;rw[eq_of_beq hx];exact ec
     |false=>rw[hx] at q;exact hc x c' q)
    refine⟨cl,?_,h1,fun x c' q=>?_,fun y hy hf=>?_⟩
    ·
     rw[List.forIn_cons]
     show ((if (NameKind.free==NameKind.free)=true then (cellOf env n >>= fun a=>pure (ForInStep.yield ((n,a)::cs))) else pure (ForInStep.yield cs)) >>= _)=_
     rw[hcell]
     exact e
    ·
     cases hx:x==n with
     |true=>exact h2 x c (by simp only[List.lookup_cons,hx])
     |false=>exact h2 x c' (by simp only[List.lookup_cons,hx];exact q)
    ·
     rcases List.mem_cons.mp hy with rfl | hy
     ·
      exact h2 n c (by simp [List.lookup_cons])
     ·
      exact h3 y hy hf
   ·
    obtain⟨cl,e,h1,h2,h3⟩:=ih cs (fun y hy=>hn y (List.mem_cons_of_mem _ hy)) hc
    have hb:(k==NameKind.free)=false:=by simpa using hk
    refine⟨cl,?_,h1,h2,fun y hy hf=>?_⟩
    ·
     rw[List.forIn_cons]
     show ((if (k==NameKind.free)=true then (cellOf env n >>= fun a=>pure (ForInStep.yield ((n,a)::cs))) else pure (ForInStep.yield cs)) >>= _)=_
     rw[hb]
     exact e
    ·
     rcases List.mem_cons.mp hy with rfl | hy
     ·
      exact absurd hf hk
     ·
      exact h3 y hy hf
 obtain⟨cl,e,h1,_,h3⟩:=key scope.names [] h (fun x c q=>by simp at q);refine⟨cl,?_,h1,h3⟩;unfold closureFor;exact congrArg (fun m=>m >>= fun r=>pure r) e
def bC (X:Cx) (N':List Str) (scope:Scope) (cl:List (Str × Addr)) (pins:List (Addr × Obj)) (s:Shared) (H:Hp) (C:Addr) (fp:List Addr):Cx where
 prog:=X.prog
 w:=X.w
 K:=X.K
 mg:=X.mg
 base:=X.base
 A:=X.A
 N:=N'
 s₀:=s
 H₀:=H
 env:=compEnvC scope cl C X.env
 outer:=X.stack
 stack:=X.stack
 ex:=fp
 fn:=fun x=>scope.names.lookup x==some .cell
 calm:=X.calm
 pn:=X.pn++pins
 xe:=fun _ _=>False
def PIf (X:Cx) (ifs:List Expr) (t:TT):Prop :=
 ∀(pins:List (Addr × Obj)) (s:Shared) (Z:St) (H:Hp) (Q:Bool->Hp->Prop),Inv X pins Z H s->t Z H Q ->
  wpAny (model X.prog X.w) X.A (forIn ifs true fun c r=>if r=true then do let ok <- isTrue c X.env (eval c X.env);pure (ForInStep.yield ok) else pure (ForInStep.yield r)) (TP X pins Z Q) X.xe s
def UL:TT:=fun _ H Q=>Q true H
theorem DP {X:Cx}:PIf X [] UL:=fun _ _ _ H _ I h=>wpAny_tests_nil ⟨H,I,h⟩
theorem DQ {X:Cx}{c:Expr}{t:TT}(h:PT X c t):PIf X [c] t:=fun pins s Z H Q I hq=>wpAny_tests_one (h pins s Z H Q I hq)
section
variable {prog:Program}{w:World}{A:Around}{R:Result->Shared->Prop}{s:Shared}
theorem nT {elt target iter:Expr}{ifs:List Expr}{scope:Scope}{pos:Pos}{it acc:Value}{env:Env}(I:Nat->Shared->Prop)
  (turn:∀n s,I n s->wpAny (model prog w) A (pyNext it) (fun r s₁=>match r with | .none=>R (.ok .next) s₁ | .some v=>wpAny (model prog w) A (letOwnedTupleGo target it v) (fun _ s₁'=>wpAny (model prog w) A (assign target env v) (fun _ s₂=>wpAny (model prog w) A (forIn ifs true fun c r=>if r=true then do let ok <- isTrue c env (eval c env);pure (ForInStep.yield ok) else pure (ForInStep.yield r)) (fun ok s₃=>if ok=true then wpAny (model prog w) A (eval elt env) (fun x s₄=>wpAny (model prog w) A (call (.builtin "list.append") [acc,x]) (fun _ s₅=>∃m,m<n/\I m s₅) (fun _ _=>False) s₄) (fun _ _=>False) s₃ else ∃m,m<n/\I m s₃) (fun _ _=>False) s₂) (fun _ _=>False) s₁') (fun _ _=>False) s₁) (fun _ _=>False) s)
  (n:Nat) (h:I n s):codeAny (model prog w) A (.compLoop (.ListComp elt [⟨target,iter,ifs,0⟩] scope pos) 0 it acc env) R s:=by
 refine codeAny_loop rfl I (fun j s₀ hI=>?_) n h;show wpAny _ A ((compTurn (.ListComp elt [⟨target,iter,ifs,0⟩] scope pos) 0 it acc env).onRaise (fun x=>do noteFrame x env;theTreesLotGoes x)) _ _ s₀;refine wpAny_noted ?_;rw[compTurn_list];refine wpAny_bind (wpAny_standAt (wpAny_bind (wpAny_mono (turn j s₀ hI) (fun r s₁ h₁=>?_) fun _ _ h'=>h'.elim)));cases r with
 |none=>exact wpAny_pure h₁
 |some v =>
 refine wpAny_bind (wpAny_mono h₁ (fun _ s₁' h₁'=>?_) fun _ _ h'=>h'.elim);refine wpAny_bind (wpAny_mono h₁' (fun _ s₂ h₂=>wpAny_bind (wpAny_mono h₂ (fun ok s₃ h₃=>?_) fun _ _ h'=>h'.elim)) fun _ _ h'=>h'.elim);cases ok with
 |false=>exact (wpAny_pure (And.intro rfl h₃))
 |true =>
 exact wpAny_bind (wpAny_bind (wpAny_mono h₃ (fun x s₄ h₄=>wpAny_bind (wpAny_mono h₄ (fun _ s₅ h₅=>wpAny_pure (wpAny_pure ⟨rfl,h₅⟩)) fun _ _ h'=>h'.elim)) fun _ _ h'=>h'.elim))
end
def uT (J:It) (g:TG) (tt:TT) (te:TE) (fin:List V->Hp->Prop) (Z₀:St) (H₁:Hp):Prop :=
 ∃W:Nat->Nat->List V->St->Hp->Prop,(∃m,W 0 m [] Z₀ H₁)/\∀i m ys Z H,W i m ys Z H ->
  (J.stop i H/\ys.length<=sizeLine/\fin ys H) \/
  (J.go i H/\∀x H',J.yld i H x H'->g x Z H' fun Z2 H2=>tt Z2 H2 fun b H3=>if b=true then te Z2 H3 fun y H4=>ys.length<sizeLine/\∃m',m'<m/\W (i+1) m' (ys++[y]) Z2 H4 else ∃m',m'<m/\W (i+1) m' ys Z2 H3)
def lR (nt:Nat) (cap:List Nat) (Z:St):St:=List.replicate nt none++cap.map fun j=>(Z[j]?).getD none
structure CompSc (X:Cx) (N':List Str) (nt:Nat) (cap:List Nat) (scope:Scope):Prop where
 kind:scope.kind=.function
 cells:∀y∈scope.names,y.2=.cell->scope.names.lookup y.1=some .cell
 names:∀x∈scope.names,x.2=.local->scope.names.lookup x.1=some .local
 free:∀y∈scope.names,y.2=.free->X.env.kindOf y.1=some .cell\/X.env.kindOf y.1=some .free
 len:N'.length=nt+cap.length
 caps:∀(j:Nat) (x:Str),N'[nt+j]?=some x->∃i,cap[j]?=some i/\X.N[i]?=some x/\scope.names.lookup x=some .free
theorem jH {l:Addr}{its:List Value}{n:Nat}{u:Value}{P:Program}{w:World}{A:Around}{E:Value->Shared->Prop}{s:Shared}{Q:Value->Shared->Prop}
  (e:s.heap.get? l=some { cls:=.type "list",data:=.seq its.toArray n}) (hz:its.length<sizeLine)
  (h:∀h' n',h'.get? l=some { cls:=.type "list",data:=.seq (its++[u]).toArray n'}->(∀b o,b≠l->s.heap.get? b=some o->h'.get? b=some o)->Q .none { s with heap:=h'}) :
  wpAny (model P w) A (call (.builtin "list.append") [.ref l,u]) Q E s:=by
 refine call_meets F.slot_list_append ⟨_,e,rfl⟩ F.entry_list_append (F.args_list_append_2 _ _) (list_append l its.toArray n u (by rw[List.size_toArray];omega)) ⟨e,?_⟩;have q:=PySem.IsL.update e (·.push u);rw[List.push_toArray] at q;exact h _ _ q (fun b o hb hu=>(Heap.get?_update_other s.heap _ (Ne.symm hb)).trans hu)
theorem bF:∀(names:List (Str × NameKind)) (n:Nat) (acc:List (Str × Addr)),cellsFrom n names acc=cellsFrom n names []++acc
 |[],_,_=>rfl
 | (x,k)::r,n,acc=>by
  unfold cellsFrom
  split
  ·
   rw[bF r (n+1) ((x,n)::acc),bF r (n+1) [(x,n)],List.append_assoc]
   rfl
  ·
   exact bF r n acc
theorem dq {α:Type}(x:Str):∀(l m:List (Str × α)),(l++m).lookup x=(l.lookup x).or (m.lookup x)
 |[],_=>rfl
 | (y,v)::r,m=>by
  rw[List.cons_append,List.lookup_cons,List.lookup_cons,dq x r m]
  cases x==y <;> rfl
theorem fL {names:List (Str × NameKind)}{n:Nat}{cl:List (Str × Addr)}{x:Str}{c:Addr}(h:(cellsFrom n names cl).lookup x=some c):(cellsFrom n names []).lookup x=some c\/((cellsFrom n names []).lookup x=none/\cl.lookup x=some c):=by
 rw[bF,dq] at h;cases e:(cellsFrom n names []).lookup x with
 |some d=>rw[e] at h;exact .inl h
 |none=>rw[e] at h;exact .inr ⟨rfl,h⟩
theorem ir {x:Str}{c:Addr}:∀{names:List (Str × NameKind)}{n:Nat}{acc:List (Str × Addr)},(x,c)∈cellsFrom n names acc->(x,NameKind.cell)∈names\/(x,c)∈acc
 |[],_,_,h=>.inr h
 | (y,k)::r,n,acc,h=>by
  unfold cellsFrom at h
  split at h
  ·
   rename_i hk
   rcases ir h with q | q
   ·
    exact .inl (List.mem_cons_of_mem _ q)
   ·
    rcases List.mem_cons.mp q with q | q
    ·
     cases q
     have:k=.cell:=by simpa using hk
     subst this
     exact .inl List.mem_cons_self
    ·
     exact .inr q
  ·
   rcases ir h with q | q
   ·
    exact .inl (List.mem_cons_of_mem _ q)
   ·
    exact .inr q
theorem DR {M:Model}{A:Around}{E:Value->Shared->Prop}{s:Shared}{scope:Scope}{globals:Addr}{closure:List (Str × Addr)}{qual:Str}{env:Env}{Q:Env->Shared->Prop}
  (hQ:Q (newEnv scope s.heap.objs.size globals (cellsFrom (s.heap.objs.size+1) scope.names closure) qual none .none (some env) builtinsNs) { s with heap:=pushCells (s.heap.push { cls:=.type "dict",data:=.dict #[]}) scope.names}) :
  wpAny M A (newFunctionEnv scope globals closure [] qual none .none (some env)) Q E s:=by
 simp only[newFunctionEnv,Option.isSome_some,if_true];refine wpAny_bind (wpAny_alloc ?_);refine wpAny_bind (wpAny_layCells _ (fun name kind cells=>by cases hkc:kind==NameKind.cell <;> simp [hkc]) _ _ _ _ ?_);rw[show ({ s with heap:=s.heap.push { cls:=.type "dict",data:=.dict #[]}}:Shared).heap.objs.size=s.heap.objs.size+1 from Heap.size_push ..];refine wpAny_bind ?_;rw[List.forIn_nil];exact wpAny_pure (wpAny_pure hQ)
theorem yE {X:Cx}{pins:List (Addr × Obj)}{Z:St}{H:Hp}{s:Shared}{N':List Str}{nt:Nat}{cap:List Nat}{scope:Scope}{cl:List (Str × Addr)}{fp:List Addr}{h':Heap}{C:Addr}{tk:Nat}{pl:List (Addr × Obj)}
  (S:CompSc X N' nt cap scope) (I:Inv X pins Z H s) (hcl:∀x c,cl.lookup x=some c->X.env.cells.lookup x=some c) (hclh:∀y∈scope.names,y.2=.free->∃c,cl.lookup y.1=some c)
  (hf:∀b∈fp,jF X pins H b) (hfl:∀b∈fp,b<s.heap.objs.size) (hC:s.heap.objs.size<C) (hn:h'.Ns C fun _=>none) (hk:∀b o,s.heap.get? b=some o->h'.get? b=some o)
  (hp:∀p∈pl,h'.get? p.1=some p.2/\s.heap.objs.size=p.1/\∀v,p.2.data≠.cell v) (hcc:CellsOk h' (C+1) (cellsFrom (C+1) scope.names [])) :
  Inv (bC X N' scope (cellsFrom (C+1) scope.names cl) pins s H C fp) pl (lR nt cap Z) H { s with heap:=h',toks:=tk}:=by
 have two:∀x c,(cellsFrom (C+1) scope.names cl).lookup x=some c->(C+1<=c/\(cellsFrom (C+1) scope.names []).lookup x=some c)\/X.env.cells.lookup x=some c:=fun x c e=>by
  rcases fL e with q | q
  ·exact .inl ⟨(hcc.empty x c (mem_of_lookup q)).2,q⟩
  exact .inr (hcl x c q.2)
 have low:∀x c,X.env.cells.lookup x=some c->c<s.heap.objs.size:=fun x c e=>by obtain⟨v,q⟩:=I.cell x c e;exact q.lt
 have hok:(bC X N' scope (cellsFrom (C+1) scope.names cl) pins s H C fp).Ok:=by
  refine⟨I.ok.mod,S.kind,I.ok.glob,I.ok.blt,Nat.le_of_lt hC,fun x y c e1 e2=>?_,fun x hx=>?_,fun x c z e=>?_,I.ok.hd,I.ok.frames,.inl rfl,fun b hb=>?_,I.bs,Nat.le_trans I.ok.bsz I.sz,fun b o e hb=>?_,fun b hb z=>?_,I.stack,I.stkFree⟩
  ·rcases two x c e1 with ⟨q1,p1⟩ | q1
   ·rcases two y c e2 with ⟨q2,p2⟩ | q2
    ·exact name_of_addr hcc.apart (mem_of_lookup p1) (mem_of_lookup p2)
    exact absurd (Nat.lt_of_lt_of_le (Nat.lt_succ_of_lt (Nat.lt_trans (low y c q2) hC)) q1) (Nat.lt_irrefl _)
   rcases two y c e2 with ⟨q2,p2⟩ | q2
   ·exact absurd (Nat.lt_of_lt_of_le (Nat.lt_succ_of_lt (Nat.lt_trans (low x c q1) hC)) q2) (Nat.lt_irrefl _)
   exact I.ok.inj x y c q1 q2
  ·have hx':(relabel scope X.env).names.lookup x=some .cell\/(relabel scope X.env).names.lookup x=some .free:=hx;have hm:∃k,(x,k)∈(relabel scope X.env).names/\(k=.cell\/k=.free):=by
    rcases hx' with z | z
    ·exact⟨_,mem_of_lookup z,.inl rfl⟩
    exact⟨_,mem_of_lookup z,.inr rfl⟩
   obtain⟨k,hm,hk⟩:=hm;obtain⟨⟨n,k0⟩,hm0,e⟩:=List.mem_map.mp hm;have e':(if (k0==NameKind.free&&X.env.scope.kind==.function&&X.env.kindOf n==some .cell)=true then (n,NameKind.cell) else (n,k0))=(x,k):=e;by_cases hk0:k0=.free
   ·subst hk0;have en:n=x:=by split at e' <;> exact congrArg Prod.fst e'
    subst en;obtain⟨c,ec⟩:=hclh (n,.free) hm0 rfl;show ∃c,(cellsFrom (C+1) scope.names cl).lookup n=some c;rw[bF,dq,ec];cases (cellsFrom (C+1) scope.names []).lookup n with
    |none=>exact⟨c,rfl⟩
    |some d=>exact⟨d,rfl⟩
   have hb:(k0==NameKind.free)=false:=by simpa using hk0
   rw[hb] at e';simp only[Bool.false_and,Bool.false_eq_true,if_false] at e';cases e';rcases hk with rfl | rfl
   ·obtain⟨c,ec⟩:=iH (n:=C+1) (S.cells _ hm0 rfl);refine⟨c,?_⟩;show (cellsFrom (C+1) scope.names cl).lookup _=some c;rw[bF,dq,ec];rfl
   exact absurd rfl hk0
  ·have z':scope.names.lookup x=some .cell:=by simpa [bC] using z
   obtain⟨d,ed⟩:=iH (n:=C+1) z';have e':(cellsFrom (C+1) scope.names cl).lookup x=some c:=e;rw[bF,dq,ed] at e';cases e';have:=(hcc.empty x _ (mem_of_lookup ed)).2;show s.heap.objs.size<=_;omega
  ·obtain⟨f0,f1,f2,f3,f4,f5⟩:=hf b hb;refine⟨fun z=>absurd (hfl b hb) (Nat.not_lt.mpr (by rw[show b=C from z];exact Nat.le_of_lt hC)),fun x c e=>?_⟩;rcases two x c e with ⟨q,_⟩ | q
   ·intro z;rw[z] at q;exact absurd (Nat.lt_of_lt_of_le (Nat.lt_succ_of_lt (Nat.lt_trans (hfl b hb) hC)) q) (Nat.lt_irrefl _)
   exact f4 x c q
  ·obtain⟨f0,f1,f2,f3,f4,f5⟩:=hf b hb;rcases f3 with q | q
   ·exact I.ok.noex b o e q
   exact absurd (Heap.lt_size (I.ok.bs b o e).1) (Nat.not_lt.mpr q)
  obtain⟨f0,f1,f2,f3,f4,f5⟩:=hf b hb;rcases List.mem_cons.mp (I.stkSub b z) with q | q
  ·exact f1 q
  exact f2 q
 obtain⟨m,hnm,hl⟩:=id I.loc;refine⟨hok,rfl,I.bare,Un.kept hk,⟨_,hn,fun i x v e1 e2 e3=>?_⟩,fun x c e=>?_,I.hok.fresh (Nat.le_of_lt hC),fun x c e=>?_,fun p hp'=>?_,I.hok.kept hk,?_⟩
 ·-- a name of the block: one that it takes from around
  unfold lR at e2;by_cases hi:i<nt
  ·rw[List.getElem?_append_left (by simpa using hi),List.getElem?_replicate] at e2;split at e2 <;> cases e2
  obtain⟨j,rfl⟩:∃j,i=nt+j:=⟨i - nt,by omega⟩;obtain⟨k,ck,hN,hfree⟩:=S.caps j x e1;rw[List.getElem?_append_right (by simp),List.length_replicate,Nat.add_sub_cancel_left,List.getElem?_map,ck] at e2;have e2':(Z[k]?).getD none=some v:=Option.some.inj e2;have e2'':Z[k]?=some (some v):=by
   cases q:Z[k]? with
   |none=>rw[q] at e2';cases e2'
   |some z=>rw[q] at e2';exact congrArg some e2'
  have hkd:=S.free (x,.free) (mem_of_lookup hfree) rfl;obtain⟨u,ru,lk⟩:=hl k x v hN e2'' (.inr hkd);refine⟨u,ru,.inr ⟨gR hfree,?_⟩⟩;rcases lk with ⟨kl,_⟩ | ⟨_,c,hc,hcell⟩
  ·rcases hkd with z | z <;> (rw[kl] at z;cases z)
  obtain⟨c',hc'⟩:=hclh (x,.free) (mem_of_lookup hfree) rfl;have e:=hcl x c' hc';rw[hc] at e;cases e;obtain⟨o,ho,hd⟩:=hcell;refine⟨c,?_,o,hk _ _ ho,hd⟩;show (cellsFrom (C+1) scope.names cl).lookup x=some c;rw[bF,dq];cases q:(cellsFrom (C+1) scope.names []).lookup x with
  |none=>exact hc'
  |some d =>
  rcases ir (mem_of_lookup q) with z | z
  ·have:=S.cells _ z rfl;rw[hfree] at this;cases this
  cases z
 ·rcases two x c e with ⟨_,q⟩ | q
  ·exact⟨none,(hcc.empty x c (mem_of_lookup q)).1⟩
  obtain⟨v,o,ho,hd⟩:=I.cell x c q;exact⟨v,o,hk _ _ ho,hd⟩
 ·rcases two x c e with ⟨q,_⟩ | q
  ·exact I.hok.fresh (Nat.le_of_lt (Nat.lt_of_lt_of_le (Nat.lt_succ_of_lt hC) q))
  exact I.freeC x c q
 ·rcases List.mem_append.mp hp' with z | z
  ·obtain⟨e,n,n1,n2,d⟩:=I.pin p z;refine⟨hk _ _ e,n,fun q=>?_,fun q=>?_,d⟩
   ·exact absurd (Heap.lt_size e) (Nat.not_lt.mpr (by rw[show p.1=C from q];exact Nat.le_of_lt hC))
   rcases List.mem_cons.mp (I.stkSub p.1 q) with q | q
   ·exact n1 q
   exact n2 q
  obtain⟨e,n,d⟩:=hp p z;refine⟨e,I.hok.fresh (by omega),fun q=>?_,fun q=>?_,d⟩
  ·exact absurd (n.trans (show p.1=C from q)) (Nat.ne_of_lt hC)
  have:=I.stkSub p.1 q;rcases List.mem_cons.mp this with q | q
  ·exact absurd I.lt (Nat.not_lt.mpr (by rw[<- q,n];exact Nat.le_refl _))
  exact I.nofs (by omega) q
 unfold lR;show _=N'.length;rw[List.length_append,List.length_replicate,List.length_map,S.len]
theorem HOk.track {P:Program}{w:World}{H:Hp}{h h':Heap}{a C:Addr}{o:HO}(x:HOk P w H h) (hn:H a=none) (hC:H C=none) (k:∀b u,b≠C->h.get? b=some u->h'.get? b=some u) (new:ObjOk P w (upd H a o) h' a o):HOk P w (upd H a o) h':=fun b u e=>by
 by_cases hb:b=a
 ·subst hb;rw[bJ] at e;cases e;exact new
 rw[aN hb] at e;have nC:∀c z,H c=some z->c≠C:=fun c z q r=>by rw[r,hC] at q;cases q
 refine (x b u e).stay (fun c v hc q=>k c v ?_ q) (fun c q=>by rw[aN (bR q hn)];exact q) fun c xs q=>by rw[aN (bR q hn)];exact q
 rcases hc with rfl | hc
 ·exact nC c u e
 exact nC c _ hc
theorem pY {X:Cx}{pins:List (Addr × Obj)}{Z:St}{H₂:Hp}{s₂:Shared}{N':List Str}{nt:Nat}{cap:List Nat}{scope:Scope}{cl:List (Str × Addr)}{elt tg iter:Expr}{ifs:List Expr}{pos:Pos}{g:TG}{tt:TT}{te:TE}
  {it:Addr} {fp:List Addr} {tn:Nat->Heap->Prop} {J:It} {fin:List V->Hp->Prop} {E:Value->Shared->Prop} {RR:Value->Addr->Result->Shared->Prop}
  (hc:X.calm=true) (S:CompSc X N' nt cap scope) (hcl:∀x c,cl.lookup x=some c->X.env.cells.lookup x=some c) (hclh:∀y∈scope.names,y.2=.free->∃c,cl.lookup y.1=some c)
  (hX:∀cl pins s H C fp,PG (bC X N' scope cl pins s H C fp) tg g/\PIf (bC X N' scope cl pins s H C fp) ifs tt/\PE (bC X N' scope cl pins s H C fp) elt te)
  (I:Inv X pins Z H₂ s₂) (T:Turn X.prog X.w X.K tg J fp it tn) (st:tn 0 s₂.heap) (hf:∀b∈fp,jF X pins H₂ b) (hw:uT J g tt te fin (lR nt cap Z) H₂)
  (hRR:∀(D C:Addr) (s₄:Shared) (m:Str->Option Value) (ys:List V) (H':Hp),s₄.heap.Ns C m->s₂.heap.objs.size<=D->s₂.heap.objs.size<=C->C≠D->H' D=none->H' C=none->ys.length<=sizeLine->fin ys H' ->
   (∀h',(∀b o,b≠C->s₄.heap.get? b=some o->h'.get? b=some o)->Inv X pins Z (upd H' D (.lst ys)) { s₄ with heap:=h'})->RR (.ref D) C (.ok .next) s₄) :
  wpAny (model X.prog X.w) X.A (newList []) (fun acc s₃=>wpAny (model X.prog X.w) X.A (newFunctionEnv scope X.env.globals cl [] X.env.qual none .none (some X.env)) (fun cenv s₄ =>
   codeAny (model X.prog X.w) X.A (.compStart (.ListComp elt [⟨tg,iter,ifs,0⟩] scope pos) 0 (.ref it) acc { cenv with scope:=relabel scope X.env}) (RR acc cenv.locals) s₄) E s₃) E s₂:=by
 refine wpAny_newObj_type (DR ?_);dsimp only;generalize hH2:s₂.heap.push { cls:=.type "list",dict:=none,data:=.seq ([]:List Value).toArray}=B;generalize hD:s₂.heap.objs.size=D;have hB:B.objs.size=D+1:=by rw[<- hH2,Heap.size_push,hD]
 have hcc0:CellsOk (pushCells (B.push { cls:=.type "dict",data:=.dict #[]}) scope.names) (B.objs.size+1) (cellsFrom (B.objs.size+1) scope.names []):=by have:=cellsFrom_ok scope.names (B.push { cls:=.type "dict",data:=.dict #[]}) (B.objs.size+1) [] ⟨fun _ _ hm=>(nomatch hm),List.Pairwise.nil⟩ (by rw[Heap.size_push];exact Nat.le_refl _);rw[Heap.size_push] at this;exact this
 have hns₁:(pushCells (B.push { cls:=.type "dict",data:=.dict #[]}) scope.names).Ns B.objs.size fun _=>none:=(Heap.Ns.new B (.type "dict")).keeps (pushCells_keeps _ _);have kp₁:∀b o,B.get? b=some o->(pushCells (B.push { cls:=.type "dict",data:=.dict #[]}) scope.names).get? b=some o:=fun b o e=>pushCells_keeps _ _ b o (Heap.get?_push_of_some _ e);generalize hCe:B.objs.size=C at hns₁ hcc0 ⊢;generalize pushCells (B.push { cls:=.type "dict",data:=.dict #[]}) scope.names=h₁ at hns₁ hcc0 kp₁ ⊢;have hCD:C=D+1:=hCe.symm.trans hB;have hDC:D≠C:=by rw[hCD];exact Nat.ne_of_lt (Nat.lt_succ_self _)
 have hDlt:s₂.heap.objs.size<C:=by rw[hD,hCD];exact Nat.lt_succ_self _
 have below:∀b o,s₂.heap.get? b=some o->b≠C/\b≠D:=fun b o e=>by have:=Heap.lt_size e;rw[hD] at this;exact⟨by rw[hCD];exact Nat.ne_of_lt (Nat.lt_succ_of_lt this),Nat.ne_of_lt this⟩
 have old:∀b o,s₂.heap.get? b=some o->h₁.get? b=some o:=fun b o e=>kp₁ b o (hH2▸Heap.get?_push_of_some _ e);have hacc:h₁.get? D=some { cls:=.type "list",data:=.seq ([]:List Value).toArray 0}:=kp₁ _ _ (hH2▸hD▸Heap.get?_push_size _ rfl);have hst₁:tn 0 h₁:=T.keep _ _ _ st fun b hb o e=>old b o e;have hfl:∀b∈fp,b<s₂.heap.objs.size:=fun b hb=>by obtain⟨o,e,_⟩:=T.obj _ _ st b hb;exact Heap.lt_size e
 obtain⟨W,⟨m0,w0⟩,turn⟩:=hw;obtain⟨hg,hi,he⟩:=hX (cellsFrom (C+1) scope.names cl) pins s₂ H₂ C fp;have stat:∀{H':Hp} {k:Nat} {its:List Value},(∀b∈fp,H' b=none)->∀b∈fp,jF (bC X N' scope (cellsFrom (C+1) scope.names cl) pins s₂ H₂ C fp) [(D,{ cls:=.type "list",data:=.seq its.toArray k})] H' b:=fun {H' k its} hn b hb=>by
  obtain⟨f0,f1,f2,f3,f4,f5⟩:=hf b hb;have hlt:=hfl b hb;refine⟨hn b hb,fun z=>?_,fun z=>?_,.inl hb,fun x c e=>?_,fun p hp=>?_⟩
  ·rw[show b=C from z] at hlt;exact absurd hlt (Nat.not_lt.mpr (Nat.le_of_lt hDlt))
  ·rcases List.mem_cons.mp (I.stkSub b z) with q | q
   ·exact f1 q
   exact f2 q
  ·rcases fL e with q | q
   ·have:=(hcc0.empty x c (mem_of_lookup q)).2;intro z;rw[z] at this;exact absurd (Nat.lt_of_lt_of_le (Nat.lt_succ_of_lt (Nat.lt_trans hlt hDlt)) this) (Nat.lt_irrefl _)
   exact f4 x c (hcl x c q.2)
  rcases List.mem_append.mp hp with z | z
  ·exact f5 p z
  rw[List.mem_singleton.mp z];intro e;rw[<- (show D=b from e),hD] at hlt;exact Nat.lt_irrefl _ hlt
 have loop:∀s₃:Shared,s₃={ s₂ with heap:=h₁}->codeAny (model X.prog X.w) X.A (.compLoop (.ListComp elt [⟨tg,iter,ifs,0⟩] scope pos) 0 (.ref it) (.ref D) (compEnvC scope (cellsFrom (C+1) scope.names cl) C X.env)) (RR (.ref D) C) s₃:=by
  rintro s₃ rfl;refine nT (fun n s'=>∃i ys its k Z' H',Inv (bC X N' scope (cellsFrom (C+1) scope.names cl) pins s₂ H₂ C fp) [(D,{ cls:=.type "list",data:=.seq its.toArray k})] Z' H' s'/\Vals ys its/\tn i s'.heap/\(∀b∈fp,H' b=none)/\W i n ys Z' H'/\ys.length<=sizeLine) ?_ m0
   ⟨0,[],[],0,lR nt cap Z,H₂,yE (tk:=s₂.toks) S I hcl hclh hf hfl hDlt hns₁ old (fun p hp=>?_) hcc0,.nil,hst₁,fun b hb=>(hf b hb).1,w0,Nat.zero_le _⟩
  ·rintro n s3 ⟨i,ys,its,k,Z3,H3,I3,rv,st3,fr3,w3,hz⟩;have pD:=I3.pin (D,{ cls:=.type "list",data:=.seq its.toArray k}) (List.mem_append_right _ (List.mem_singleton.mpr rfl));rcases turn i n ys Z3 H3 w3 with ⟨stop,hz',hfin⟩ | ⟨go,step⟩
   ·refine thn (T.done (bC X N' scope (cellsFrom (C+1) scope.names cl) pins s₂ H₂ C fp) rfl rfl rfl hc i _ s3 Z3 H3 (fun _ _=>False) I3 (stat fr3) st3 stop) fun r s4 ⟨hr,I4⟩=>?_;subst hr;obtain⟨m4,hn4,_⟩:=I4.loc;have pD4:=I4.pin (D,{ cls:=.type "list",data:=.seq its.toArray k}) (List.mem_append_right _ (List.mem_singleton.mpr rfl));refine hRR D C s4 m4 ys H3 hn4 (by rw[hD];exact Nat.le_refl _) (Nat.le_of_lt hDlt) (Ne.symm hDC) pD4.2.1 I4.free hz' hfin fun h' k'=>?_;have nD:∀b u,H3 b=some u->b≠D:=fun b u e z=>by rw[z,pD4.2.1] at e;cases e
    have nDs:∀b o,s₂.heap.get? b=some o->b≠D/\b≠C:=fun b o e=>⟨(below b o e).2,(below b o e).1⟩;have B4:=I4.base;refine I.call' (s':={ s4 with heap:=h'}) (ch:=fp) I4.os ⟨fun b o e n hb hx=>k' b o (nDs b o e).2 (B4.keep b o e n hb hx),fun b o e n hb hx=>?_,fun b o e n hx=>?_,fun b o e hx=>?_,fun b xs e=>?_,fun b o u e=>?_,fun b ps e=>?_⟩ ?_ I4.bare fun b hb=>?_
    ·obtain⟨sl,q⟩:=B4.slot b o e n hb hx;exact⟨sl,k' b _ (nDs b o e).2 q⟩
    ·rw[aN (nDs b o e).1];exact B4.free b o e n hx
    ·obtain⟨o',q⟩:=B4.there b o e hx;exact⟨o',k' b _ (nDs b o e).2 q⟩
    ·have q:=B4.tups b xs e;rw[aN (nD _ _ q)];exact q
    ·have q:=B4.frzs b o u e;rw[aN (nD _ _ q)];exact q
    ·obtain⟨more,q⟩:=B4.tbls b ps e;exact⟨more,by rw[aN (nD _ _ q)];exact q⟩
    ·exact I4.hok.track pD4.2.1 I4.free k' ⟨hz',its,k,rv,k' D _ hDC pD4.1⟩
    obtain⟨f0,f1,f2,f3,f4,f5⟩:=hf b hb;exact⟨f3,f1,f4,f5⟩
   refine thn (T.item (bC X N' scope (cellsFrom (C+1) scope.names cl) pins s₂ H₂ C fp) rfl rfl rfl hc i _ s3 Z3 H3 (fun _ _=>False) I3 (stat fr3) st3 go) fun r s4 ⟨u,hr,h4⟩=>?_;subst hr;refine thn h4 fun _ s5 ⟨x,H5,I5,r5,y5,st5,fr5⟩=>?_;have I5':=I5.pinned (stat fr5) (T.obj _ _ st5);refine thn (hg _ s5 Z3 H5 x u _ I5' r5 (step x H5 y5)) fun _ s6 ⟨Z6,H6,I6,q6⟩=>?_;refine thn (hi _ s6 Z6 H6 _ I6 q6) fun ok s7 ⟨H7,I7,q7⟩=>?_;have back:∀{Z8:St} {H8:Hp} {s8:Shared},Inv (bC X N' scope (cellsFrom (C+1) scope.names cl) pins s₂ H₂ C fp) ([(D,{ cls:=.type "list",data:=.seq its.toArray k})]++jW fp s5.heap) Z8 H8 s8->tn (i+1) s8.heap/\∀b∈fp,H8 b=none:=fun {Z8 H8 s8} I8 =>
    ⟨T.keep _ _ _ st5 fun b hb o e=>(I8.pin (b,o) (List.mem_append_right _ (List.mem_append_right _ (fH hb e)))).1,fun b hb=>by
     obtain⟨o,e,d⟩:=T.obj _ _ st5 b hb
     exact (I8.pin (b,o) (List.mem_append_right _ (List.mem_append_right _ (fH hb e)))).2.1⟩
   cases ok with
   |false=>rw[if_neg Bool.false_ne_true] at q7 ⊢;obtain⟨m',hm,w7⟩:=q7;exact⟨m',hm,i+1,ys,its,k,Z6,H7,I7.unpinned,rv,(back I7).1,(back I7).2,w7,hz⟩
   |true =>
   rw[if_pos rfl] at q7 ⊢;refine thn (he _ s7 Z6 H7 _ I7 q7) fun uy s8 ⟨y,H8,I8,ry,hz8,m',hm,w8⟩=>?_;have pD8:=I8.pin (D,{ cls:=.type "list",data:=.seq its.toArray k}) (List.mem_append_right _ (List.mem_append_left _ (List.mem_singleton.mpr rfl)));have hl:=rv.length;refine jH pD8.1 (by omega) fun h' k' e' kk=>?_;have I9:Inv (bC X N' scope (cellsFrom (C+1) scope.names cl) pins s₂ H₂ C fp) [] Z6 H8 { s8 with heap:=h'}:=by
    refine Inv.turned (t':=s8.toks) (it:=D) (I8.pins_of (pins':=[]) (fun p hp=>nomatch hp)) (fun b o hb e=>kk b o hb e) pD8.2.1 pD8.2.2.1 (.inr (by show s₂.heap.objs.size<=D;rw[hD];exact Nat.le_refl _)) (fun x c e z=>?_) (fun p hp z=>?_)
    ·rcases fL e with q | q
     ·have:=(hcc0.empty x c (mem_of_lookup q)).2;rw[z,hCD] at this;omega
     obtain⟨v,q⟩:=I.cell x c (hcl x c q.2);have:=q.lt;rw[z,hD] at this;exact Nat.lt_irrefl _ this
    rw[List.append_nil] at hp;have:=Heap.lt_size (I.pin p hp).1;rw[z,hD] at this;exact Nat.lt_irrefl _ this
   refine⟨m',hm,i+1,ys++[y],its++[uy],k',Z6,H8,I9.pins_of fun p hp=>?_,rv.append (.cons ry .nil),?_,(back I8).2,w8,?_⟩
   ·rw[List.mem_singleton.mp hp];exact⟨e',pD8.2.1,pD8.2.2.1,pD8.2.2.2.1,fun v z=>by cases z⟩
   ·refine T.keep _ _ _ (back I8).1 fun b hb o e=>kk b o (fun z=>?_) e;have:=hfl b hb;rw[z,hD] at this;exact Nat.lt_irrefl _ this
   rw[List.length_append,List.length_singleton];omega
  rw[List.mem_singleton.mp hp];exact⟨hacc,hD,fun v z=>by cases z⟩
 exact codeAny_compStart_list (loop _ rfl) (T.self _ 0 _ _ _ hst₁ (loop _ rfl))
def Qn (wi:TI) (g:TG) (tt:TT) (te:TE) (nt:Nat) (cap:List Nat):TE:=fun Z H Q=>wi Z H fun J H1=>uT J g tt te (fun ys H'=>∀p,H' p=none->Q (.ref p) (upd H' p (.lst ys))) (lR nt cap Z) H1
theorem DW {X:Cx}{N':List Str}{nt:Nat}{cap:List Nat}{scope:Scope}{elt tg iter:Expr}{ifs:List Expr}{pos:Pos}{wi:TI}{g:TG}{tt:TT}{te:TE}(hc:X.calm=true) (S:CompSc X N' nt cap scope) (hi:PI X tg iter wi)
  (hX:∀cl pins s H C fp,PG (bC X N' scope cl pins s H C fp) tg g/\PIf (bC X N' scope cl pins s H C fp) ifs tt/\PE (bC X N' scope cl pins s H C fp) elt te)
  (hs:∀x,foldedSetIterable iter X.env x=pure x:=by intro _;rfl):PE X (.ListComp elt [⟨tg,iter,ifs,0⟩] scope pos) (Qn wi g tt te nt cap):=by
 intro pins s Z H Q I h;rw[eval_ListComp];obtain⟨cl,hclos,hcl,hclh⟩:=j5 (scope:=scope) (env:=X.env) fun y hy hf=>I.ok.has y.1 (S.free y hy hf);refine wpAny_comprehension_free (use:=none) rfl hs hclos S.kind S.names (thn (hi pins s Z H _ I h) fun v s1 h1=>thn h1 fun itv s2 h2=>?_);obtain⟨it,fp,tn,J,H2,rfl,I2,T,st2,f2,hw⟩:=h2;refine pY (RR:=fun acc C=>compPost (model X.prog X.w) X.A X.xe none (EP X pins Z Q) acc C) hc S hcl hclh hX I2 T st2 f2 hw fun D C s4 m ys H' hn hD hC hDC nD nC hz hfin k=>?_;refine⟨m,hn,fun h' hs'=>?_⟩;exact⟨.ref D,_,k h' fun b o hb e=>hs'.extBut b o hb e,rfl,hfin D nD⟩
def yF (wi:TI) (g:TG) (tt:TT) (te:TE) (nt:Nat) (cap:List Nat) (i:Nat):TS:=fun D Z H=>wi Z H fun J H1=>uT J g tt te (fun ys H'=>∀p,H' p=none->D.nx (Z.set i (some (.ref p))) (upd H' p (.lst ys))) (lR nt cap Z) H1
theorem DX {X:Cx}{N':List Str}{nt:Nat}{cap:List Nat}{scope:Scope}{elt tg iter:Expr}{ifs:List Expr}{pos pos' spos:Pos}{wi:TI}{g:TG}{tt:TT}{te:TE}{i:Nat}{x:Str}(hc:X.calm=true) (hN:X.N.Nodup) (hi':X.N[i]?=some x) (hx:Loc X.env.scope x) (S:CompSc X N' nt cap scope) (hi:PI X tg iter wi)
  (hX:∀cl pins s H C fp,PG (bC X N' scope cl pins s H C fp) tg g/\PIf (bC X N' scope cl pins s H C fp) ifs tt/\PE (bC X N' scope cl pins s H C fp) elt te)
  (hsw:swapsWith (.ListComp elt [⟨tg,iter,ifs,0⟩] scope pos) (some (.Name x pos')) spos.line X.env=pure true:=by rfl)
  (hs:∀x,foldedSetIterable iter X.env x=pure x:=by intro _;rfl) (hf:X.fn x=true\/X.env.scope.names.lookup x=some .local:=by first | exact .inl rfl | exact .inr rfl | assumption) :
  PS X (.Assign [.Name x pos'] (.ListComp elt [⟨tg,iter,ifs,0⟩] scope pos) spos) (yF wi g tt te nt cap i):=by
 intro pins s Z H Dn I h;rw[exec_Assign_Name_used _ _ _ _ hsw];obtain⟨cl,hclos,hcl,hclh⟩:=j5 (scope:=scope) (env:=X.env) fun y hy hf=>I.ok.has y.1 (S.free y hy hf);refine wpAny_bind (wpAny_standAt (wpAny_bind ?_));show wpAny _ X.A (do let _ <- comprehension (.ListComp elt [⟨tg,iter,ifs,0⟩] scope pos) scope X.env _ (newList []) false (eval iter X.env) (some (assign (.Name x pos') X.env))) _ _ s;refine wpAny_bind (wpAny_mono (wpAny_comprehension_free (use:=some (assign (.Name x pos') X.env)) (Q:=fun _ s'=>SP X pins Dn .next s') rfl hs hclos S.kind S.names
  (thn (hi pins s Z H _ I h) fun v s1 h1=>thn h1 fun itv s2 h2=>?_)) (fun _ s' hq=>wpAny_pure (wpAny_pure hq)) fun _ _ e=>e)
 obtain⟨it,fp,tn,J,H2,rfl,I2,T,st2,f2,hw⟩:=h2;refine pY (RR:=fun acc C=>compPost (model X.prog X.w) X.A X.xe (some (assign (.Name x pos') X.env)) (fun _ s'=>SP X pins Dn .next s') acc C) hc S hcl hclh hX I2 T st2 f2 hw fun D C s4 m ys H' hn hD hC hDC nD nC hz hfin k=>?_;show wpAny _ X.A (assign (.Name x pos') X.env (.ref D)) _ _ s4;have I4:=k s4.heap fun b o _ e=>e;have nCL:C≠X.env.locals:=fun z=>by have:=I2.lt;rw[<- z] at this;exact absurd this (Nat.not_lt.mpr hC)
 have nCc:∀y c,X.env.cells.lookup y=some c->c≠C:=fun y c e z=>by obtain⟨v,q⟩:=I2.cell y c e;have:=q.lt;rw[z] at this;exact absurd this (Nat.not_lt.mpr hC)
 refine wpAny_assign_Name (mz I4 hN hi' hx (show RelV (.ref D) (.ref D) from rfl) (fun s5 I5 ⟨a,sb,ha⟩=>?_) hf);have nCa:C≠a:=by
  rcases ha with rfl | ha
  ·exact nCL
  exact fun z=>nCc x a ha z.symm
 refine⟨m,hn.sameBut sb nCa,fun h' hs'=>⟨_,_,Inv.turned (t':=s5.toks) (it:=C) I5 (fun b o hb e=>hs'.extBut b o hb e) (by rw[aN hDC];exact nC) nCL (.inr (Nat.le_trans I2.sz hC)) nCc (fun p hp z=>?_),hfin D nD⟩⟩;have:=Heap.lt_size (I2.pin p hp).1;rw[z] at this;exact absurd this (Nat.not_lt.mpr hC)
def exP (e C:Addr) (d:Option Addr) (rd:Bool) (h:Heap):Prop:=∃vs sl,h.get? e=some ⟨.ref C,d,.fields vs,sl⟩/\(rd=true->vs[1]?=some .none)
def exO (e C:Addr) (d:Option Addr) (rd:Bool):HO:=.ext (exP e C d rd)
def dxP (dx:Addr) (fs:List (Str × V)) (h:Heap):Prop:=∃mA,h.Ns1 dx mA/\(∀f,RelO (fs.lookup f) (mA f))/\PySem.Within mA (fs.map (·.1))
def dxO (dx:Addr) (fs:List (Str × V)):HO:=.ext (dxP dx fs)
section
variable {P:Program}{w:World}{H:Hp}{h:Heap}{e C dx:Addr}{d:Option Addr}{rd:Bool}{fs:List (Str × V)}
theorem exP.at {h1 h2:Heap}(x:exP e C d rd h1) (k:∀o,h1.get? e=some o->h2.get? e=some o):exP e C d rd h2:=let ⟨vs,sl,a,b⟩:=x;⟨vs,sl,k _ a,b⟩
theorem dxP.at {h1 h2:Heap}(x:dxP dx fs h1) (k:∀o,h1.get? dx=some o->h2.get? dx=some o):dxP dx fs h2:=let ⟨mA,a,b⟩:=x;⟨mA,a.at k,b⟩
theorem exO.ok (x:exP e C d rd h):ObjOk P w H h e (exO e C d rd):=⟨x,let ⟨_,_,a,_⟩:=x;⟨_,a⟩,fun _ _ y k=>y.at k⟩
theorem dxO.ok (x:dxP dx fs h):ObjOk P w H h dx (dxO dx fs):=⟨x,let ⟨_,⟨_,_,_,a,_⟩,_⟩:=x;⟨_,a⟩,fun _ _ y k=>y.at k⟩
theorem exO.of (x:HOk P w H h) (q:H e=some (exO e C d rd)):exP e C d rd h:=(x e _ q).1
theorem dxO.of (x:HOk P w H h) (q:H dx=some (dxO dx fs)):dxP dx fs h:=(x dx _ q).1
end
end L2
set_option maxHeartbeats 1000000
namespace L3
open L2
inductive T where
 |non | bl (b:Bool) | int (i:Int) | str (x:Str) | tup (ts:List T) | ref (a:Addr) | ty (n:String)
mutual
def Rep (K:Frag) (H:Hp):T->V->Prop
 |.non,v=>v=.non
 |.bl b,v=>v=.bl b
 |.int i,v=>v=.int i
 |.str x,v=>v=.str x
 |.tup ts,v=>∃a xs,v=.ref a/\SqT K H a xs/\Reps K H ts xs
 |.ref a,v=>v=.ref a
 |.ty n,v=>v=.ty n
def Reps (K:Frag) (H:Hp):List T->List V->Prop
 |[],xs=>xs=[]
 |t::ts,xs=>∃x r,xs=x::r/\Rep K H t x/\Reps K H ts r
end
def TupLe (K:Frag) (H H':Hp):Prop:=∀a xs,SqT K H a xs->SqT K H' a xs
theorem TupLe.refl {K:Frag}{H:Hp}:TupLe K H H:=fun _ _ h=>h
theorem TupLe.trans {K:Frag}{H H1 H2:Hp}(a:TupLe K H H1) (b:TupLe K H1 H2):TupLe K H H2:=fun c xs h=>b c xs (a c xs h)
mutual
theorem Rep.mono {K:Frag}{H H':Hp}(le:TupLe K H H'):∀{t:T}{v:V},Rep K H t v->Rep K H' t v
 |.non,_,h=>by simp only[Rep] at h ⊢;exact h
 |.bl _,_,h=>by simp only[Rep] at h ⊢;exact h
 |.int _,_,h=>by simp only[Rep] at h ⊢;exact h
 |.str _,_,h=>by simp only[Rep] at h ⊢;exact h
 |.ref _,_,h=>by simp only[Rep] at h ⊢;exact h
 |.ty _,_,h=>by simp only[Rep] at h ⊢;exact h
 |.tup ts,_,h=>by
  simp only[Rep] at h ⊢
  obtain⟨a,xs,e,s,r⟩:=h
  exact⟨a,xs,e,le a xs s,Reps.mono le r⟩
theorem Reps.mono {K:Frag}{H H':Hp}(le:TupLe K H H'):∀{ts:List T}{xs:List V},Reps K H ts xs->Reps K H' ts xs
 |[],_,h=>by simp only[Reps] at h ⊢;exact h
 |t::ts,_,h=>by
  simp only[Reps] at h ⊢
  obtain⟨x,r,e,a,b⟩:=h
  exact⟨x,r,e,Rep.mono le a,Reps.mono le b⟩
end
section
variable {K:Frag}{H:Hp}
theorem Reps.nil:Reps K H [] []:=by simp only[Reps]
theorem Reps.cons {t:T}{v:V}{ts:List T}{vs:List V}(a:Rep K H t v) (b:Reps K H ts vs):Reps K H (t::ts) (v::vs):=by simp only[Reps];exact⟨v,vs,rfl,a,b⟩
theorem Reps.inv {t:T}{ts:List T}{vs:List V}(h:Reps K H (t::ts) vs):∃v r,vs=v::r/\Rep K H t v/\Reps K H ts r:=by simp only[Reps] at h;exact h
theorem Reps.inv0 {vs:List V}(h:Reps K H [] vs):vs=[]:=by simp only[Reps] at h;exact h
theorem Reps.length:∀{ts:List T}{vs:List V},Reps K H ts vs->ts.length=vs.length
 |[],_,h=>by rw[h.inv0];rfl
 |t::ts,_,h=>by obtain⟨v,r,rfl,_,b⟩:=h.inv;simp [Reps.length b]
theorem Reps.get:∀{ts:List T}{vs:List V}{i:Nat}{t:T},Reps K H ts vs->ts[i]?=some t->∃v,vs[i]?=some v/\Rep K H t v
 |[],_,_,_,_,e=>by simp at e
 |a::ts,_,0,t,h,e=>by obtain⟨v,r,rfl,q,_⟩:=h.inv;simp at e;subst e;exact⟨v,rfl,q⟩
 |a::ts,_,i+1,t,h,e=>by obtain⟨v,r,rfl,_,b⟩:=h.inv;simpa using Reps.get b (by simpa using e)
theorem Reps.get':∀{ts:List T}{vs:List V}{i:Nat}{v:V},Reps K H ts vs->vs[i]?=some v->∃t,ts[i]?=some t/\Rep K H t v
 |[],_,_,_,h,e=>by rw[h.inv0] at e;simp at e
 |a::ts,_,0,v,h,e=>by obtain⟨x,r,rfl,q,_⟩:=h.inv;simp at e;subst e;exact⟨a,rfl,q⟩
 |a::ts,_,i+1,v,h,e=>by obtain⟨x,r,rfl,_,b⟩:=h.inv;simpa using Reps.get' b (by simpa using e)
theorem Reps.append:∀{ts us:List T}{xs ys:List V},Reps K H ts xs->Reps K H us ys->Reps K H (ts++us) (xs++ys)
 |[],_,_,_,h,h'=>by rw[h.inv0];exact h'
 |t::ts,_,_,_,h,h'=>by obtain⟨v,r,rfl,a,b⟩:=h.inv;exact .cons a (Reps.append b h')
theorem Reps.take:∀{ts:List T}{xs:List V}(n:Nat),Reps K H ts xs->Reps K H (ts.take n) (xs.take n)
 |[],_,n,h=>by rw[h.inv0];simp only[List.take_nil];exact .nil
 |t::ts,_,0,h=>.nil
 |t::ts,_,n+1,h=>by obtain⟨v,r,rfl,a,b⟩:=h.inv;exact .cons a (Reps.take n b)
theorem Reps.drop:∀{ts:List T}{xs:List V}(n:Nat),Reps K H ts xs->Reps K H (ts.drop n) (xs.drop n)
 |[],_,n,h=>by rw[h.inv0];simp only[List.drop_nil];exact .nil
 |t::ts,_,0,h=>h
 |t::ts,_,n+1,h=>by obtain⟨v,r,rfl,a,b⟩:=h.inv;exact Reps.drop n b
theorem Reps.set:∀{ts:List T}{xs:List V}{t:T}{v:V}(n:Nat),Reps K H ts xs->Rep K H t v->Reps K H (ts.set n t) (xs.set n v)
 |[],_,_,_,n,h,r=>by rw[h.inv0];exact .nil
 |t::ts,_,_,_,0,h,q=>by obtain⟨v,r,rfl,a,b⟩:=h.inv;exact .cons q b
 |t::ts,_,_,_,n+1,h,q=>by obtain⟨v,r,rfl,a,b⟩:=h.inv;exact .cons a (Reps.set n b q)
theorem Reps.reverse {ts:List T}{xs:List V}(h:Reps K H ts xs):Reps K H ts.reverse xs.reverse:=by
 induction ts generalizing xs with
 |nil=>rw[h.inv0];exact .nil
 |cons t ts ih=>obtain⟨v,r,rfl,a,b⟩:=h.inv;simp only[List.reverse_cons];exact (ih b).append (.cons a .nil)
theorem Reps.eraseIdx:∀{ts:List T}{xs:List V}(n:Nat),Reps K H ts xs->Reps K H (ts.eraseIdx n) (xs.eraseIdx n)
 |[],_,n,h=>by rw[h.inv0];exact .nil
 |t::ts,_,0,h=>by obtain⟨v,r,rfl,a,b⟩:=h.inv;exact b
 |t::ts,_,n+1,h=>by obtain⟨v,r,rfl,a,b⟩:=h.inv;exact .cons a (Reps.eraseIdx n b)
theorem Rep.non {v:V}(h:Rep K H .non v):v=.non:=by simp only[Rep] at h;exact h
theorem Rep.bl {b:Bool}{v:V}(h:Rep K H (.bl b) v):v=.bl b:=by simp only[Rep] at h;exact h
theorem Rep.int {i:Int}{v:V}(h:Rep K H (.int i) v):v=.int i:=by simp only[Rep] at h;exact h
theorem Rep.str {x:Str}{v:V}(h:Rep K H (.str x) v):v=.str x:=by simp only[Rep] at h;exact h
theorem Rep.ref {a:Addr}{v:V}(h:Rep K H (.ref a) v):v=.ref a:=by simp only[Rep] at h;exact h
theorem Rep.ty {n:String}{v:V}(h:Rep K H (.ty n) v):v=.ty n:=by simp only[Rep] at h;exact h
theorem Rep.tup {ts:List T}{v:V}(h:Rep K H (.tup ts) v):∃a xs,v=.ref a/\SqT K H a xs/\Reps K H ts xs:=by simp only[Rep] at h;exact h
theorem Rep.ofNon:Rep K H .non .non:=by simp only[Rep]
theorem Rep.ofBl {b:Bool}:Rep K H (.bl b) (.bl b):=by simp only[Rep]
theorem Rep.ofInt {i:Int}:Rep K H (.int i) (.int i):=by simp only[Rep]
theorem Rep.ofStr {x:Str}:Rep K H (.str x) (.str x):=by simp only[Rep]
theorem Rep.ofRef {a:Addr}:Rep K H (.ref a) (.ref a):=by simp only[Rep]
theorem Rep.ofTy {n:String}:Rep K H (.ty n) (.ty n):=by simp only[Rep]
theorem Rep.ofTup {ts:List T}{a:Addr}{xs:List V}(h:SqT K H a xs) (r:Reps K H ts xs):Rep K H (.tup ts) (.ref a):=by simp only[Rep];exact⟨a,xs,rfl,h,r⟩
end
inductive O3 where
 |lst (ts:List T) | rol (ts:List T) | dct (kvs:List (Str × T)) | dcp (kvs:List (List Key × T))
 |exc (C dx:Addr) | xdt (fs:List (Str × T))
 |dci (kvs:List (Int × T)) | dif (o:Obj) (kvs:List (Int × T)) | ins (C:Addr) (fs:List (Str × T))
abbrev Hp3:=Addr->Option O3
def up3 (H:Hp3) (a:Addr) (o:O3):Hp3:=fun b=>if b=a then some o else H b
theorem aq {H:Hp3}{a:Addr}{o:O3}:up3 H a o a=some o:=by unfold up3;rw[if_pos rfl]
theorem aC {H:Hp3}{a b:Addr}{o:O3}(h:b≠a):up3 H a o b=H b:=by unfold up3;rw[if_neg h]
theorem nU {H:Hp3}{a:Addr}{o u:O3}:up3 (up3 H a o) a u=up3 H a u:=by funext b;unfold up3;split <;> rfl
def RepD (K:Frag) (H:Hp):List (Str × T)->List (Key × V)->Prop:=Paired fun (p:Str × T) (q:Key × V)=>q.1=Sum.inr p.1/\Rep K H p.2 q.2
def RepP (K:Frag) (H:Hp):List (List Key × T)->List (List Key × V)->Prop:=Paired fun (p:List Key × T) (q:List Key × V)=>q.1=p.1/\Rep K H p.2 q.2
def RepF (K:Frag) (H:Hp):List (Str × T)->List (Str × V)->Prop:=Paired fun (p:Str × T) (q:Str × V)=>q.1=p.1/\Rep K H p.2 q.2
def RepI (K:Frag) (H:Hp):List (Int × T)->List (Key × V)->Prop:=Paired fun (p:Int × T) (q:Key × V)=>q.1=Sum.inl p.1/\Rep K H p.2 q.2
def RepO (K:Frag) (H:Hp) (a:Addr):O3->Prop
 |.lst ts=>∃xs,H a=some (.lst xs)/\Reps K H ts xs
 |.rol ts=>∃xs,Rd H a (.lst xs)/\Reps K H ts xs
 |.dct kvs=>∃vs,H a=some (.dK vs)/\RepD K H kvs vs
 |.dcp kvs=>∃vs,H a=some (.dT vs)/\RepP K H kvs vs
 |.exc C dx=>H a=some (exO a C (some dx) false)
 |.xdt fs=>∃vs,H a=some (dxO a vs)/\RepF K H fs vs
 |.dci kvs=>∃vs,H a=some (.dK vs)/\RepI K H kvs vs
 |.dif o kvs=>∃vs,H a=some (.frz o (.dK vs))/\RepI K H kvs vs
 |.ins C fs=>∃dx vs,H a=some (.ins C dx vs)/\RepF K H fs vs
def SimH (K:Frag) (H3:Hp3) (H:Hp):Prop:=∀a o,H3 a=some o->RepO K H a o
abbrev St3:=List (Option T)
structure SimS (K:Frag) (H:Hp) (Z3:St3) (Z:L2.St):Prop where
 len:Z3.length=Z.length
 at':∀(i:Nat) (t:T),Z3[i]?=some (some t)->∃v,Z[i]?=some (some v)/\Rep K H t v
section
variable {K:Frag}{H H':Hp}{H3:Hp3}{Z3:St3}{Z:L2.St}
theorem SimS.mono (s:SimS K H Z3 Z) (le:TupLe K H H'):SimS K H' Z3 Z:=⟨s.len,fun i t e=>let ⟨v,e',r⟩:=s.at' i t e;⟨v,e',r.mono le⟩⟩
theorem SimS.set (s:SimS K H Z3 Z) {i:Nat}{t:T}{v:V}(r:Rep K H t v):SimS K H (Z3.set i (some t)) (Z.set i (some v)):=by
 refine⟨by simp [s.len],fun j u e=>?_⟩;by_cases hj:i=j
 ·subst hj;by_cases hl:i<Z3.length
  ·rw[List.getElem?_set_self hl] at e;have e':t=u:=Option.some.inj (Option.some.inj e);subst e';exact⟨v,by rw[List.getElem?_set_self (by rw[<- s.len];exact hl)],r⟩
  rw[List.getElem?_eq_none (by simpa using hl)] at e;cases e
 rw[List.getElem?_set_ne hj] at e;rw[List.getElem?_set_ne hj];exact s.at' j u e
theorem RepD.mono {kvs:List (Str × T)}{vs:List (Key × V)}(h:RepD K H kvs vs) (le:TupLe K H H'):RepD K H' kvs vs:=Paired.mapP h fun _ _ ⟨a,b⟩=>⟨a,b.mono le⟩
theorem RepF.mono {kvs:List (Str × T)}{vs:List (Str × V)}(h:RepF K H kvs vs) (le:TupLe K H H'):RepF K H' kvs vs:=Paired.mapP h fun _ _ ⟨a,b⟩=>⟨a,b.mono le⟩
theorem RepI.mono {kvs:List (Int × T)}{vs:List (Key × V)}(h:RepI K H kvs vs) (le:TupLe K H H'):RepI K H' kvs vs:=Paired.mapP h fun _ _ ⟨a,b⟩=>⟨a,b.mono le⟩
theorem RepP.mono {kvs:List (List Key × T)}{vs:List (List Key × V)}(h:RepP K H kvs vs) (le:TupLe K H H'):RepP K H' kvs vs:=Paired.mapP h fun _ _ ⟨a,b⟩=>⟨a,b.mono le⟩
theorem ne3 {a b:Addr}{o u:O3}(h:H3 a=some o) (h':H3 b=some u) (d:o≠u):a≠b:=by
 intro e;subst e;rw[h] at h';exact d (Option.some.inj h')
theorem bf {a b:Addr}{o:O3}(h:H3 a=some o) (h':H3 b=none):a≠b:=by
 intro e;subst e;rw[h] at h';cases h'
theorem aJ {p:Addr}{o:HO}(hp:H p=none):TupLe K H (upd H p o):=fun a xs h=>by
 rcases h with (h | ⟨ob,h⟩) | h
 ·exact .inl (.inl (by rw[aN (bR h hp)];exact h))
 ·exact .inl (.inr ⟨ob,by rw[aN (bR h hp)];exact h⟩)
 exact .inr h
theorem bN {p:Addr}{o:HO}(hp:Mut (H p)):TupLe K H (upd H p o):=fun a xs h=>by
 have key:∀u,H a=some u->¬Mut (some u)->a≠p:=fun u e nm z=>by subst z;rw[e] at hp;exact nm hp
 rcases h with (h | ⟨ob,h⟩) | h
 ·exact .inl (.inl (by rw[aN (key _ h fun z=>z)];exact h))
 ·exact .inl (.inr ⟨ob,by rw[aN (key _ h fun z=>z)];exact h⟩)
 exact .inr h
theorem RepO.stay {a:Addr}{o:O3}(h:RepO K H a o) (le:TupLe K H H') (keep:∀u,H a=some u->H' a=some u):RepO K H' a o:=by
 cases o with
 |lst ts=>obtain⟨xs,e,r⟩:=h;exact⟨xs,keep _ e,r.mono le⟩
 |rol ts =>
  obtain⟨xs,e,r⟩:=h;refine⟨xs,?_,r.mono le⟩;rcases e with e | ⟨ob,e⟩
  ·exact .inl (keep _ e)
  exact .inr ⟨ob,keep _ e⟩
 |dct kvs=>obtain⟨vs,e,r⟩:=h;exact⟨vs,keep _ e,r.mono le⟩
 |dcp kvs=>obtain⟨vs,e,r⟩:=h;exact⟨vs,keep _ e,r.mono le⟩
 |exc C dx=>exact keep _ h
 |xdt fs=>obtain⟨vs,e,r⟩:=h;exact⟨vs,keep _ e,r.mono le⟩
 |dci kvs=>obtain⟨vs,e,r⟩:=h;exact⟨vs,keep _ e,r.mono le⟩
 |dif o kvs=>obtain⟨vs,e,r⟩:=h;exact⟨vs,keep _ e,r.mono le⟩
 |ins C fs=>obtain⟨dx,vs,e,r⟩:=h;exact⟨dx,vs,keep _ e,r.mono le⟩
theorem SimH.new {p:Addr}{o:HO}(s:SimH K H3 H) (hp:H p=none):SimH K H3 (upd H p o):=fun a u e =>
 (s a u e).stay (aJ hp) fun w q=>by rw[aN (bR q hp)];exact q
theorem SimH.fresh {p:Addr}(s:SimH K H3 H) (hp:H p=none):H3 p=none:=by
 cases e:H3 p with
 |none=>rfl
 |some o =>
  have q:=s p o e
  cases o with
  |lst ts=>obtain⟨xs,z,_⟩:=q;rw[hp] at z;cases z
  |dct ts=>obtain⟨xs,z,_⟩:=q;rw[hp] at z;cases z
  |dcp ts=>obtain⟨xs,z,_⟩:=q;rw[hp] at z;cases z
  |exc C dx=>have z:H p=_:=q;rw[hp] at z;cases z
  |xdt ts=>obtain⟨xs,z,_⟩:=q;rw[hp] at z;cases z
  |dci ts=>obtain⟨xs,z,_⟩:=q;rw[hp] at z;cases z
  |dif o ts=>obtain⟨xs,z,_⟩:=q;rw[hp] at z;cases z
  |ins C ts=>obtain⟨dx,xs,z,_⟩:=q;rw[hp] at z;cases z
  |rol ts =>
   obtain⟨xs,z,_⟩:=q
   rcases z with z | ⟨ob,z⟩
   ·
    rw[hp] at z;cases z
   ·
    rw[hp] at z;cases z
end
abbrev VK3:=T->Hp3->Prop
abbrev TE3:=St3->Hp3->VK3->Prop
abbrev TT3:=St3->Hp3->(Bool->Hp3->Prop)->Prop
abbrev TA3:=St3->Hp3->(List T->Hp3->Prop)->Prop
structure Ends3 where
 nx:St3->Hp3->Prop
 rt:VK3
 bk:St3->Hp3->Prop:=fun _ _=>False
 ct:St3->Hp3->Prop:=fun _ _=>False
abbrev TS3:=Ends3->St3->Hp3->Prop
abbrev TG3:=T->St3->Hp3->(St3->Hp3->Prop)->Prop
abbrev lU:=List T->St3->Hp3->(St3->Hp3->Prop)->Prop
abbrev R3:=T->T->Hp3->VK3->Prop
section
variable (K:Frag)
def KV3 (H:Hp) (Q3:VK3) (Q:VK):Prop:=∀v H' t H3',TupLe K H H'->SimH K H3' H'->Rep K H' t v->Q3 t H3'->Q v H'
def KS3 (H:Hp) (N3:St3->Hp3->Prop) (N:L2.St->Hp->Prop):Prop:=∀Z' H' Z3' H3',TupLe K H H'->SimS K H' Z3' Z'->SimH K H3' H'->N3 Z3' H3'->N Z' H'
def lft (t3:TE3):TE:=fun Z H Q=>∃Z3 H3 Q3,SimS K H Z3 Z/\SimH K H3 H/\t3 Z3 H3 Q3/\KV3 K H Q3 Q
def wX (t3:TT3):TT:=fun Z H Q=>∃Z3 H3 Q3,SimS K H Z3 Z/\SimH K H3 H/\t3 Z3 H3 Q3/\∀b H' H3',TupLe K H H'->SimH K H3' H'->Q3 b H3'->Q b H'
def UT (t3:TA3):TA:=fun Z H Q=>∃Z3 H3 Q3,SimS K H Z3 Z/\SimH K H3 H/\t3 Z3 H3 Q3/\∀vs H' ts H3',TupLe K H H'->SimH K H3' H'->Reps K H' ts vs->Q3 ts H3'->Q vs H'
def Qo (t3:TS3):TS:=fun D Z H=>∃Z3 H3 D3,SimS K H Z3 Z/\SimH K H3 H/\t3 D3 Z3 H3/\KS3 K H D3.nx D.nx/\KV3 K H D3.rt D.rt/\KS3 K H D3.bk D.bk/\KS3 K H D3.ct D.ct
def DY (t3:TG3):TG:=fun v Z H Q=>∃t Z3 H3 Q3,Rep K H t v/\SimS K H Z3 Z/\SimH K H3 H/\t3 t Z3 H3 Q3/\KS3 K H Q3 Q
def Qp (t3:lU):TGs:=fun vs Z H Q=>∃ts Z3 H3 Q3,Reps K H ts vs/\SimS K H Z3 Z/\SimH K H3 H/\t3 ts Z3 H3 Q3/\KS3 K H Q3 Q
def Kd (r3:R3):R2:=fun x y H Q=>∃tx ty H3 Q3,Rep K H tx x/\Rep K H ty y/\SimH K H3 H/\r3 tx ty H3 Q3/\KV3 K H Q3 Q
def UV (r3:List T->Hp3->VK3->Prop):List V->Hp->VK->Prop:=fun xs H Q=>∃ts H3 Q3,Reps K H ts xs/\SimH K H3 H/\r3 ts H3 Q3/\KV3 K H Q3 Q
def UW (r3:T->List T->Hp3->VK3->Prop):V->List V->Hp->VK->Prop:=fun x xs H Q=>∃tx ts H3 Q3,Rep K H tx x/\Reps K H ts xs/\SimH K H3 H/\r3 tx ts H3 Q3/\KV3 K H Q3 Q
end
section
variable {K:Frag}{H H1:Hp}
theorem KV3.at {Q3:VK3}{Q:VK}(k:KV3 K H Q3 Q) (le:TupLe K H H1):KV3 K H1 Q3 Q:=fun v H' t H3' l=>k v H' t H3' (le.trans l)
theorem KS3.at {N3:St3->Hp3->Prop}{N:L2.St->Hp->Prop}(k:KS3 K H N3 N) (le:TupLe K H H1):KS3 K H1 N3 N:=fun a b c d l=>k a b c d (le.trans l)
end
def PE3 (X:Cx) (e:Expr) (t:TE3):Prop:=PE X e (lft X.K t)
def PT3 (X:Cx) (e:Expr) (t:TT3):Prop:=PT X e (wX X.K t)
def PW3 (X:Cx) (e:Expr) (t:TT3):Prop:=PW X e (wX X.K t)
def PA3 (X:Cx) (es:List Expr) (t:TA3):Prop:=PA X es (UT X.K t)
def PS3 (X:Cx) (st:Stmt) (t:TS3):Prop:=PS X st (Qo X.K t)
def nW (X:Cx) (st:List Stmt) (t:TS3):Prop:=PSs X st (Qo X.K t)
def PG3 (X:Cx) (e:Expr) (t:TG3):Prop:=PG X e (DY X.K t)
def Ea (X:Cx) (es:List Expr) (t:lU):Prop:=PGs X es (Qp X.K t)
def dJ (X:Cx) (f:Value->Value->Sem Value) (r:R3):Prop:=OpR X f (Kd X.K r)
def cV (X:Cx) (f:Value) (r:List T->Hp3->VK3->Prop):Prop:=CallR X f (UV X.K r)
def Qq (X:Cx) (r:R3):Prop:=IxR X (Kd X.K r)
def yG (X:Cx) (id:String) (r:T->List T->Hp3->VK3->Prop):Prop:=MtR X id (UW X.K r)
theorem PE.imp {X:Cx}{e:Expr}{t t':TE}(h:PE X e t) (w:∀Z H Q,t' Z H Q->t Z H Q):PE X e t':=fun pins s Z H Q I q=>h pins s Z H Q I (w Z H Q q)
theorem PT.imp {X:Cx}{e:Expr}{t t':TT}(h:PT X e t) (w:∀Z H Q,t' Z H Q->t Z H Q):PT X e t':=fun pins s Z H Q I q=>h pins s Z H Q I (w Z H Q q)
theorem PW.imp {X:Cx}{e:Expr}{t t':TT}(h:PW X e t) (w:∀Z H Q,t' Z H Q->t Z H Q):PW X e t':=fun wh pins s Z H Q I q=>h wh pins s Z H Q I (w Z H Q q)
theorem PA.imp {X:Cx}{es:List Expr}{t t':TA}(h:PA X es t) (w:∀Z H Q,t' Z H Q->t Z H Q):PA X es t':=fun pos pins s Z H Q I q=>h pos pins s Z H Q I (w Z H Q q)
theorem PS.imp {X:Cx}{e:Stmt}{t t':TS}(h:PS X e t) (w:∀D Z H,t' D Z H->t D Z H):PS X e t':=fun pins s Z H D I q=>h pins s Z H D I (w D Z H q)
theorem PSs.imp {X:Cx}{e:List Stmt}{t t':TS}(h:PSs X e t) (w:∀D Z H,t' D Z H->t D Z H):PSs X e t':=fun pins s Z H D I q=>h pins s Z H D I (w D Z H q)
theorem PG.imp {X:Cx}{e:Expr}{t t':TG}(h:PG X e t) (w:∀v Z H Q,t' v Z H Q->t v Z H Q):PG X e t':=fun pins s Z H v u Q I r q=>h pins s Z H v u Q I r (w v Z H Q q)
theorem PGs.imp {X:Cx}{e:List Expr}{t t':TGs}(h:PGs X e t) (w:∀v Z H Q,t' v Z H Q->t v Z H Q):PGs X e t':=fun pins s Z H v u Q I r q=>h pins s Z H v u Q I r (w v Z H Q q)
theorem OpR.imp {X:Cx}{f:Value->Value->Sem Value}{t t':R2}(h:OpR X f t) (w:∀x y H Q,t' x y H Q->t x y H Q):OpR X f t':=fun pins s Z H x y v u Q I r1 r2 q=>h pins s Z H x y v u Q I r1 r2 (w x y H Q q)
theorem UnR.imp {X:Cx}{f:Value->Sem Value}{t t':V->Hp->VK->Prop}(h:UnR X f t) (w:∀x H Q,t' x H Q->t x H Q):UnR X f t':=fun pins s Z H x v Q I r1 q=>h pins s Z H x v Q I r1 (w x H Q q)
theorem CallR.imp {X:Cx}{f:Value}{t t':List V->Hp->VK->Prop}(h:CallR X f t) (w:∀x H Q,t' x H Q->t x H Q):CallR X f t':=fun pins s Z H x v Q I r1 q=>h pins s Z H x v Q I r1 (w x H Q q)
theorem IxR.imp {X:Cx}{t t':R2}(h:IxR X t) (w:∀x y H Q,t' x y H Q->t x y H Q):IxR X t':=fun a b pins s Z H x y v u Q I r1 r2 q=>h a b pins s Z H x y v u Q I r1 r2 (w x y H Q q)
theorem MtR.imp {X:Cx}{id:String}{t t':V->List V->Hp->VK->Prop}(h:MtR X id t) (w:∀x xs H Q,t' x xs H Q->t x xs H Q):MtR X id t':=fun pins s Z H x xs v us Q I r1 r2 q=>h pins s Z H x xs v us Q I r1 r2 (w x xs H Q q)
section
variable {X:Cx}{pos:Pos}
def pZ (i:Nat):TE3:=fun Z H Q=>match Z[i]? with
 |some (some t)=>Q t H
 |_=>False
def tC3 (t:T):TE3:=fun _ H Q=>Q t H
theorem v3 (i:Nat) {x:Str}{pos:Pos}(hN:X.N[i]?=some x:=by rfl) (hv:Vis X.env.scope x:=by first | exact Or.inl rfl | exact Or.inr (Or.inl rfl) | exact Or.inr (Or.inr rfl)) (hd:(x==("__debug__":Str))=false:=by decide)
  (hcd:(x==("__classdict__":Str))=false:=by decide):PE3 X (.Name x pos) (pZ i):=by
 refine PE.imp (pv i hN hv hd hcd) ?_;rintro Z H Q ⟨Z3,H3,Q3,ss,sh,h,k⟩;unfold pZ at h;split at h
 ·rename_i t e;obtain⟨v,e',r⟩:=ss.at' i t e;exact⟨v,e',k v H t H3 .refl sh r h⟩
 exact h.elim
theorem ao {i:Int}{j:Nat}:PE3 X (.Constant (.int i) j pos) (tC3 (.int i)):=by
 refine PE.imp Ju ?_;rintro Z H Q ⟨Z3,H3,Q3,ss,sh,h,k⟩;exact k _ _ _ H3 .refl sh .ofInt h
theorem cZ {b:Bool}{j:Nat}:PE3 X (.Constant (.bool b) j pos) (tC3 (.bl b)):=by
 refine PE.imp O5 ?_;rintro Z H Q ⟨Z3,H3,Q3,ss,sh,h,k⟩;exact k _ _ _ H3 .refl sh .ofBl h
theorem sX {j:Nat}:PE3 X (.Constant .none j pos) (tC3 .non):=by
 refine PE.imp Jv ?_;rintro Z H Q ⟨Z3,H3,Q3,ss,sh,h,k⟩;exact k _ _ _ H3 .refl sh .ofNon h
theorem f9 {x:Str}{j:Nat}:PE3 X (.Constant (.str x) j pos) (tC3 (.str x)):=by
 refine PE.imp Jw ?_;rintro Z H Q ⟨Z3,H3,Q3,ss,sh,h,k⟩;exact k _ _ _ H3 .refl sh .ofStr h
theorem g3 {x:Str}{t:T}{v:V}{u:Value}(hg:Gl X x) (hm:X.mg x=some u) (r:RelV v u) (rt:∀H,Rep X.K H t v) (hd:(x==("__debug__":Str))=false:=by decide):PE3 X (.Name x pos) (tC3 t):=by
 refine PE.imp (CT hg hm r hd) ?_;rintro Z H Q ⟨Z3,H3,Q3,ss,sh,h,k⟩;exact k _ _ _ H3 .refl sh (rt H) h
variable {a b c:Expr}{ta tb tc:TE3}
def p7 (r:R3) (ta tb:TE3):TE3:=fun Z H Q=>ta Z H fun x H1=>tb Z H1 fun y H2=>r x y H2 Q
theorem gJ {r:R3}{Z:L2.St}{H:Hp}{Q:VK}(h:lft X.K (p7 r ta tb) Z H Q):tOp (Kd X.K r) (lft X.K ta) (lft X.K tb) Z H Q:=by
 obtain⟨Z3,H3,Q3,ss,sh,h,k⟩:=h;exact⟨Z3,H3,_,ss,sh,h,fun x H1 tx H31 le1 sh1 rx q1=>⟨Z3,H31,_,ss.mono le1,sh1,q1,fun y H2 ty H32 le2 sh2 ry q2=>⟨tx,ty,H32,Q3,rx.mono le2,ry,sh2,q2,k.at (le1.trans le2)⟩⟩⟩
theorem aF {op:Operator}{r:R3}(ho:dJ X (binaryOp op) r) (ha:PE3 X a ta) (hb:PE3 X b tb):PE3 X (.BinOp a op b pos) (p7 r ta tb):=PE.imp (Pn ho ha hb) fun _ _ _ h=>gJ h
theorem gh {op:CmpOp}{r:R3}(ho:dJ X (compareOp op) r) (ha:PE3 X a ta) (hb:PE3 X b tb) (hm:behindInMarks op b=false:=by first | exact yg _ | rfl):PE3 X (.Compare a [op] [b] pos) (p7 r ta tb):=PE.imp (Dj ho ha hb hm) fun _ _ _ h=>gJ h
theorem aK {r:R3}(hr:Qq X r) (ha:PE3 X a ta) (hb:PE3 X b tb) (hs:uO b:=by exact fun _ _=>rfl):PE3 X (.Subscript a b pos) (p7 r ta tb):=PE.imp (Qd hr ha hb hs) fun _ _ _ h=>gJ h
def ji (t:TE3):TT3:=fun Z H Q=>t Z H fun x H'=>match x with
 |.bl k=>Q k H'
 |_=>False
theorem aX {op:CmpOp}{r:R3}(ho:dJ X (compareOp op) r) (ha:PE3 X a ta) (hb:PE3 X b tb) (hm:behindInMarks op b=false:=by first | exact yg _ | rfl):PT3 X (.Compare a [op] [b] pos) (ji (p7 r ta tb)):=by
 refine PT.imp (Dk ho ha hb hm) ?_;rintro Z H Q ⟨Z3,H3,Q3,ss,sh,h,k⟩;refine gJ (X:=X) ⟨Z3,H3,_,ss,sh,h,fun v H' t H3' le sh' r q=>?_⟩;cases t with
 |bl b=>exact⟨b,r.bl,k b H' H3' le sh' q⟩
 |_=>exact q.elim
def Eb (r r':R3) (ta tb tc:TE3):TE3:=fun Z H Q=>ta Z H fun x H1=>tb Z H1 fun y H2=>r x y H2 fun z H3=>match z with
 |.bl k=>if k=true then tc Z H3 fun w H4=>r' y w H4 Q else Q (.bl false) H3
 |_=>False
variable {tA tB':TT3}{rest:List Expr}
theorem c7 (h:PE3 X a ta) (he:∀whole,isTrue a X.env whole=(do let v <- whole;standAt a.pos;holding [v] (truthy v)):=by intro _;rfl):PT3 X a (ji ta):=by
 refine PT.imp (Jx h he) ?_;rintro Z H Q ⟨Z3,H3,Q3,ss,sh,h,k⟩;refine⟨Z3,H3,_,ss,sh,h,fun v H' t H3' le sh' r q=>?_⟩;cases t with
 |bl b=>exact⟨b,r.bl,k b H' H3' le sh' q⟩
 |_=>exact q.elim
def Ho (t u:TT3):TT3:=fun Z H Q=>t Z H fun c H1=>if c=true then u Z H1 Q else Q false H1
def Qs (t u:TT3):TT3:=fun Z H Q=>t Z H fun c H1=>if c=true then Q true H1 else u Z H1 Q
def Hq (t:TT3):TT3:=fun Z H Q=>t Z H fun c H1=>Q (!c) H1
theorem PW3.pt (h:PW3 X a tA):PT3 X a tA:=PW.pt h
theorem fM (ha:PT3 X a tA):PW3 X (.BoolOp .And [a] pos) tA:=CW ha
theorem nY (ha:PT3 X a tA):PW3 X (.BoolOp .Or [a] pos) tA:=Jy ha
theorem gm (ha:PT3 X a tA) (hb:PW3 X (.BoolOp .And (b::rest) pos) tB'):PW3 X (.BoolOp .And (a::b::rest) pos) (Ho tA tB'):=by
 refine PW.imp (Jz ha hb) ?_;rintro Z H Q ⟨Z3,H3,Q3,ss,sh,h,k⟩;refine⟨Z3,H3,_,ss,sh,h,fun b H' H3' le sh' q=>?_⟩;cases b with
 |true=>exact⟨Z3,H3',_,ss.mono le,sh',q,fun b H'' H3'' le' sh'' q'=>k b H'' H3'' (le.trans le') sh'' q'⟩
 |false=>exact k false H' H3' le sh' q
theorem qb (ha:PT3 X a tA) (hb:PW3 X (.BoolOp .Or (b::rest) pos) tB'):PW3 X (.BoolOp .Or (a::b::rest) pos) (Qs tA tB'):=by
 refine PW.imp (O6 ha hb) ?_;rintro Z H Q ⟨Z3,H3,Q3,ss,sh,h,k⟩;refine⟨Z3,H3,_,ss,sh,h,fun b H' H3' le sh' q=>?_⟩;cases b with
 |true=>exact k true H' H3' le sh' q
 |false=>exact⟨Z3,H3',_,ss.mono le,sh',q,fun b H'' H3'' le' sh'' q'=>k b H'' H3'' (le.trans le') sh'' q'⟩
theorem fP (ha:PT3 X a tA):PT3 X (.UnaryOp .Not a pos) (Hq tA):=by
 refine PT.imp (JB ha) ?_;rintro Z H Q ⟨Z3,H3,Q3,ss,sh,h,k⟩;exact⟨Z3,H3,_,ss,sh,h,fun b H' H3' le sh' q=>k _ H' H3' le sh' q⟩
def Ke (ta tb:TE3):TE3:=fun Z H Q=>ta Z H fun x H1=>match x with
 |.bl c=>if c=true then tb Z H1 Q else Q (.bl false) H1
 |_=>False
def Hr (ta tb:TE3):TE3:=fun Z H Q=>ta Z H fun x H1=>match x with
 |.bl c=>if c=true then Q (.bl true) H1 else tb Z H1 Q
 |_=>False
def Kf (ta:TE3):TE3:=fun Z H Q=>ta Z H fun x H1=>match x with
 |.bl c=>Q (.bl (!c)) H1
 |_=>False
theorem Kg {op:PySem.BoolOp}{t:TE3}(h:PE3 X a t):PE3 X (.BoolOp op [a] pos) t:=JC h
theorem Qt (ha:PE3 X a ta) (hb:PE3 X (.BoolOp .Or (b::rest) pos) tb):PE3 X (.BoolOp .Or (a::b::rest) pos) (Hr ta tb):=by
 refine PE.imp (O7 ha hb) ?_;rintro Z H Q ⟨Z3,H3,Q3,ss,sh,h,k⟩;refine⟨Z3,H3,_,ss,sh,h,fun v H' t H3' le sh' r q=>?_⟩;cases t with
 |bl b =>
  refine⟨b,r.bl,?_⟩;cases b with
  |true=>exact k _ H' _ H3' le sh' .ofBl q
  |false=>exact⟨Z3,H3',_,ss.mono le,sh',q,k.at le⟩
 |_=>exact q.elim
def U0 (t:TT3) (ta tb:TE3):TE3:=fun Z H Q=>t Z H fun c H1=>if c=true then ta Z H1 Q else tb Z H1 Q
variable {e:Expr}{es:List Expr}{te:TE3}{t:TA3}
def Hs:TA3:=fun _ H Q=>Q [] H
def yH (ta:TE3) (tr:TA3):TA3:=fun Z H Q=>ta Z H fun x H1=>tr Z H1 fun xs H2=>Q (x::xs) H2
theorem ak:PA3 X [] Hs:=by
 refine PA.imp J2 ?_;rintro Z H Q ⟨Z3,H3,Q3,ss,sh,h,k⟩;exact k _ _ _ _ .refl sh .nil h
theorem aa (ha:PE3 X e te) (hr:PA3 X es t) (hs:starEach (e::es) X.env=(false,eval e X.env)::starEach es X.env:=by rfl):PA3 X (e::es) (yH te t):=by
 refine PA.imp (Dp ha hr hs) ?_;rintro Z H Q ⟨Z3,H3,Q3,ss,sh,h,k⟩;exact⟨Z3,H3,_,ss,sh,h,fun v H' t H3' le sh' r q=>⟨Z3,H3',_,ss.mono le,sh',q,fun vs H'' ts H3'' le' sh'' rs q'=>k _ _ _ _ (le.trans le') sh'' (.cons (r.mono le') rs) q'⟩⟩
def Ht (t:TA3):TE3:=fun Z H Q=>t Z H fun xs H1=>xs.length<=sizeLine/\Q (.tup xs) H1
def Hu (t:TA3):TE3:=fun Z H Q=>t Z H fun xs H1=>xs.length<=sizeLine/\∀p,H1 p=none->Q (.ref p) (up3 H1 p (.lst xs))
theorem SimH.newTup {K:Frag}{H:Hp}{H3:Hp3}{ts:List T}{xs:List V}{p:Addr}(hp:H p=none) (r:Reps K H ts xs):Rep K (upd H p (.tup xs)) (.tup ts) (.ref p) :=
 .ofTup (.of bJ) (r.mono (aJ hp))
theorem SimH.newLst {K:Frag}{H:Hp}{H3:Hp3}{ts:List T}{xs:List V}{p:Addr}(s:SimH K H3 H) (hp:H p=none) (r:Reps K H ts xs):SimH K (up3 H3 p (.lst ts)) (upd H p (.lst xs)):=fun a o e=>by
 by_cases ha:a=p
 ·subst ha;rw[aq] at e;cases e;exact⟨xs,bJ,r.mono (aJ hp)⟩
 rw[aC ha] at e;exact s.new hp a o e
theorem bD {x1}(h:PA3 X es t):PE3 X (.Tuple es x1 pos) (Ht t):=by
 refine PE.imp (J3 h) ?_;rintro Z H Q ⟨Z3,H3,Q3,ss,sh,h,k⟩;refine⟨Z3,H3,_,ss,sh,h,fun vs H' ts H3' le sh' r q=>⟨by rw[<- r.length];exact q.1,fun p hp=>?_⟩⟩;exact k _ _ _ H3' (le.trans (aJ hp)) (sh'.new hp) (SimH.newTup (H3:=H3') hp r) q.2
theorem bh (h:PA3 X es t):PE3 X (.List es pos) (Hu t):=by
 refine PE.imp (J4 h) ?_;rintro Z H Q ⟨Z3,H3,Q3,ss,sh,h,k⟩;refine⟨Z3,H3,_,ss,sh,h,fun vs H' ts H3' le sh' r q=>⟨by rw[<- r.length];exact q.1,fun p hp=>?_⟩⟩;exact k _ _ _ _ (le.trans (aJ hp)) (sh'.newLst hp r) .ofRef (q.2 p (sh'.fresh hp))
end
section
variable {X:Cx}{st:Stmt}{rest:List Stmt}{e c:Expr}{te:TE3}{tc:TT3}{t u:TS3}{pos:Pos}
def yI:TS3:=fun D Z H=>D.nx Z H
def uU (t u:TS3):TS3:=fun D Z H=>t { D with nx:=u D} Z H
theorem aR:nW X [] yI:=by
 refine PSs.imp CZ ?_;rintro D Z H ⟨Z3,H3,D3,ss,sh,h,k1,_⟩;exact k1 _ _ _ _ .refl ss sh h
theorem aj (h1:PS3 X st t) (h2:nW X rest u):nW X (st::rest) (uU t u):=by
 refine PSs.imp (xZ h1 h2) ?_;rintro D Z H ⟨Z3,H3,D3,ss,sh,h,k1,k2,k3,k4⟩;exact⟨Z3,H3,_,ss,sh,h,fun Z' H' Z3' H3' le ss' sh' q=>⟨Z3',H3',D3,ss',sh',q,k1.at le,k2.at le,k3.at le,k4.at le⟩,k2,k3,k4⟩
theorem au (h1:PS3 X st t):nW X [st] t:=Dc h1
def yJ (te:TE3):TS3:=fun D Z H=>te Z H fun _ H1=>D.nx Z H1
theorem bW (he:PE3 X e te) (hs:swapsWith e none pos.line X.env=pure false:=by rfl):PS3 X (.Expr e pos) (yJ te):=by
 refine PS.imp (Dd he hs) ?_;rintro D Z H ⟨Z3,H3,D3,ss,sh,h,k1,_⟩;exact⟨Z3,H3,_,ss,sh,h,fun v H' t H3' le sh' r q=>k1 _ _ _ _ le (ss.mono le) sh' q⟩
def Hv (te:TE3):TS3:=fun D Z H=>te Z H D.rt
theorem aM (he:PE3 X e te):PS3 X (.Return (some e) pos) (Hv te):=by
 refine PS.imp (JD he) ?_;rintro D Z H ⟨Z3,H3,D3,ss,sh,h,k1,k2,_⟩;exact⟨Z3,H3,_,ss,sh,h,k2⟩
def Kh:TS3:=fun D _ H=>D.rt .non H
def Hw (c:TT3) (t u:TS3):TS3:=fun D Z H=>c Z H fun b H1=>if b=true then t D Z H1 else u D Z H1
theorem bK {a b:List Stmt}(hc:PT3 X c tc) (ha:nW X a t) (hb:nW X b u):PS3 X (.If c a b pos) (Hw tc t u):=by
 refine PS.imp (Pa hc ha hb) ?_;rintro D Z H ⟨Z3,H3,D3,ss,sh,h,k1,k2,k3,k4⟩;refine⟨Z3,H3,_,ss,sh,h,fun b H' H3' le sh' q=>?_⟩;cases b with
 |true=>exact⟨Z3,H3',D3,ss.mono le,sh',q,k1.at le,k2.at le,k3.at le,k4.at le⟩
 |false=>exact⟨Z3,H3',D3,ss.mono le,sh',q,k1.at le,k2.at le,k3.at le,k4.at le⟩
def gA (i:Nat):TG3:=fun v Z H Q=>Q (Z.set i (some v)) H
theorem aD {i:Nat}{x:Str}(hN:X.N.Nodup) (hi:X.N[i]?=some x:=by rfl) (hx:Loc X.env.scope x:=by first | exact Or.inl rfl | exact Or.inr rfl) (hf:X.fn x=true\/X.env.scope.names.lookup x=some .local:=by first | exact .inl rfl | exact .inr rfl | assumption):PG3 X (.Name x pos) (gA i):=by
 refine PG.imp (De hN hi hx hf) ?_;rintro v Z H Q ⟨t,Z3,H3,Q3,r,ss,sh,h,k⟩;exact k _ _ _ _ .refl (ss.set r) sh h
def yK:lU:=fun ts Z H Q=>match ts with
 |[]=>Q Z H
 |_=>False
def nZ (t:TG3) (u:lU):lU:=fun ts Z H Q=>match ts with
 |x::r=>t x Z H fun Z' H'=>u r Z' H' Q
 |[]=>False
theorem bO:Ea X [] yK:=by
 refine PGs.imp Df ?_;rintro vs Z H Q ⟨ts,Z3,H3,Q3,r,ss,sh,h,k⟩;cases ts with
 |nil=>exact⟨r.inv0,k _ _ _ _ .refl ss sh h⟩
 |cons _ _=>exact h.elim
theorem aH {e:Expr}{es:List Expr}{t:TG3}{u:lU}(h1:PG3 X e t) (h2:Ea X es u)
  (hs:(assignEach (e::es) X.env).map (·.2)=assign e X.env::(assignEach es X.env).map (·.2):=by rfl):Ea X (e::es) (nZ t u):=by
 refine PGs.imp (yd h1 h2 hs) ?_;rintro vs Z H Q ⟨ts,Z3,H3,Q3,r,ss,sh,h,k⟩;cases ts with
 |nil=>exact h.elim
 |cons x ts =>
 obtain⟨v,vr,rfl,rv,rr⟩:=r.inv;exact⟨v,vr,rfl,x,Z3,H3,_,rv,ss,sh,h,fun Z' H' Z3' H3' le ss' sh' q=>⟨ts,Z3',H3',Q3,rr.mono le,ss',sh',q,k.at le⟩⟩
def yL (n:Nat) (g:lU):TG3:=fun t Z H Q=>match t with
 |.tup ts=>ts.length=n/\g ts Z H Q
 |_=>False
theorem cB {es:List Expr}{k:Nat}{t:lU}{n:Nat}(hc:X.calm=true) (h:Ea X es t)
  (hn:(assignEach es X.env).length=n:=by rfl) (hst:(assignEach es X.env).findIdx? (·.1)=none:=by rfl):PG3 X (.Tuple es k pos) (yL n t):=by
 refine PG.imp (JF hc h hn hst) ?_;rintro v Z H Q ⟨t,Z3,H3,Q3,r,ss,sh,h,k⟩;cases t with
 |tup ts=>obtain⟨a,xs,rfl,s,rs⟩:=r.tup;exact⟨a,xs,rfl,s,by rw[<- rs.length];exact h.1,ts,Z3,H3,Q3,rs,ss,sh,h.2,k⟩
 |_=>exact h.elim
def uV (te:TE3) (g:TG3):TS3:=fun D Z H=>te Z H fun x H1=>g x Z H1 D.nx
theorem j6 {tg e:Expr}{te:TE3}{g:TG3}(he:PE3 X e te) (hg:PG3 X tg g) (hs:swapsWithSole [tg] e pos.line X.env=pure false:=by rfl) (hw:swappedStores [tg] e X.env=pure none:=by rfl)
  (h1:(assignEach [tg] X.env).map (·.2)=[assign tg X.env]:=by rfl):PS3 X (.Assign [tg] e pos) (uV te g):=by
 refine PS.imp (JH he hg hs hw h1) ?_;rintro D Z H ⟨Z3,H3,D3,ss,sh,h,k1,_⟩;exact⟨Z3,H3,_,ss,sh,h,fun v H' t H3' le sh' r q=>⟨t,Z3,H3',_,r,ss.mono le,sh',q,k1.at le⟩⟩
theorem aG {i:Nat}{x:Str}{e:Expr}{te:TE3}{pos':Pos}(hN:X.N.Nodup) (he:PE3 X e te) (hi:X.N[i]?=some x:=by rfl) (hx:Loc X.env.scope x:=by first | exact Or.inl rfl | exact Or.inr rfl)
  (hs:swapsWith e (some (.Name x pos')) pos.line X.env=pure false:=by rfl) (hf:X.fn x=true\/X.env.scope.names.lookup x=some .local:=by first | exact .inl rfl | exact .inr rfl | assumption) :
  PS3 X (.Assign [.Name x pos'] e pos) (uV te (gA i)):=by
 refine PS.imp (JK hN hi hx he hs hf) ?_;rintro D Z H ⟨Z3,H3,D3,ss,sh,h,k1,_⟩;exact⟨Z3,H3,_,ss,sh,h,fun v H' t H3' le sh' r q=>k1 _ _ _ _ le ((ss.mono le).set r) sh' q⟩
end
abbrev qd:=T->T->T->Hp3->(Hp3->Prop)->Prop
def Kl (K:Frag) (t3:qd):yc:=fun o i v H Q=>∃to ti tv H3 Q3,Rep K H to o/\Rep K H ti i/\Rep K H tv v/\SimH K H3 H/\t3 to ti tv H3 Q3/\∀H' H3',TupLe K H H'->SimH K H3' H'->Q3 H3'->Q H'
def Hy (X:Cx) (t:qd):Prop:=PSet X (Kl X.K t)
theorem PSet.imp {X:Cx}{t t':yc}(h:PSet X t) (w:∀o i v H Q,t' o i v H Q->t o i v H Q):PSet X t':=fun pins s Z H o i v ov iv u Q I r1 r2 r3 q=>h pins s Z H o i v ov iv u Q I r1 r2 r3 (w o i v H Q q)
section
variable {X:Cx}{pos:Pos}
def Hz (to ti:TE3) (t:qd):TG3:=fun v Z H Q=>to Z H fun o H1=>ti Z H1 fun i H2=>t o i v H2 fun H3=>Q Z H3
theorem yM {o i:Expr}{to ti:TE3}{t:qd}(ho:PE3 X o to) (hi:PE3 X i ti) (hs:Hy X t)
  (ha:∀v,assign (.Subscript o i pos) X.env v=(do
   let ov <- holding [v] (eval o X.env)
   let iv <- holding [v,ov] (eval i X.env)
   standAt pos
   holding [v,ov,iv] (setItem ov iv v)
   release [v,ov,iv] []):=by intro _;rfl):PG3 X (.Subscript o i pos) (Hz to ti t):=by
 refine PG.imp (JG ho hi hs ha) ?_;rintro v Z H Q ⟨t,Z3,H3,Q3,r,ss,sh,h,k⟩;exact⟨Z3,H3,_,ss,sh,h,fun o H1 to H31 le1 sh1 ro q1=>⟨Z3,H31,_,ss.mono le1,sh1,q1,fun i H2 ti H32 le2 sh2 ri q2=>⟨to,ti,t,H32,_,ro.mono le2,ri,r.mono (le1.trans le2),sh2,q2,fun H' H3' le sh' q=>k _ _ _ _ (le1.trans (le2.trans le)) (ss.mono (le1.trans (le2.trans le))) sh' q⟩⟩⟩
end
abbrev TI3:=St3->Hp3->(List T->(Hp3->Prop)->Hp3->Prop)->Prop
def ie (K:Frag) (J:It) (ts:List T) (still:Hp3->Prop) (H:Hp):Prop:=∀H' H3',TupLe K H H'->SimH K H3' H'->still H3' ->
 (∀i,ts.length<=i->J.stop i H')/\∀i t,ts[i]?=some t->J.go i H'/\∀x H'',J.yld i H' x H''->TupLe K H' H''/\SimH K H3' H''/\Rep K H'' t x
def U3 (K:Frag) (t3:TI3):TI:=fun Z H R=>∃Z3 H3 R3,SimS K H Z3 Z/\SimH K H3 H/\t3 Z3 H3 R3/\∀J ts still H' H3',TupLe K H H'->SimH K H3' H'->ie K J ts still H'->R3 ts still H3'->R J H'
def PI3 (X:Cx) (tg iter:Expr) (t:TI3):Prop:=PI X tg iter (U3 X.K t)
theorem PI.imp {X:Cx}{tg e:Expr}{t t':TI}(h:PI X tg e t) (w:∀Z H R,t' Z H R->t Z H R):PI X tg e t':=fun pins s Z H R I q=>h pins s Z H R I (w Z H R q)
def bZ:Hp3->Prop:=fun _=>True
def aV (a:Addr) (ts:List T):Hp3->Prop:=fun H=>H a=some (.lst ts)\/H a=some (.rol ts)
theorem SimH.sqL {K:Frag}{H:Hp}{H3:Hp3}{a:Addr}{ts:List T}(s:SimH K H3 H) (h:aV a ts H3):∃xs,SqL K H a xs/\Reps K H ts xs:=by
 rcases h with h | h
 ·obtain⟨xs,e,r⟩:=s a _ h;exact⟨xs,.of e,r⟩
 obtain⟨xs,e,r⟩:=s a _ h;exact⟨xs,.inl e,r⟩
section
variable {X:Cx}{tg l:Expr}{tl:TE3}{pos p:Pos}
def yN (tl:TE3):TI3:=fun Z H R=>tl Z H fun x H1=>match x with
 |.ref a=>match H1 a with
  |some (.lst ts)=>R ts (aV a ts) H1
  |some (.rol ts)=>R ts (aV a ts) H1
  |_=>False
 |_=>False
theorem mQ {K:Frag}{H:Hp}{a:Addr}{ts:List T}:ie K (Itl K a) ts (aV a ts) H:=fun H' H3' le sh st=>by
 obtain⟨xs,sq,rs⟩:=sh.sqL st;have hl:=rs.length;refine⟨fun i hi=>⟨xs,sq,by omega⟩,fun i t e=>?_⟩;obtain⟨v,ev,rv⟩:=rs.get e;refine⟨⟨xs,v,sq,ev⟩,fun x H'' y=>?_⟩;obtain⟨e1,y⟩:=y;subst e1;have:=y xs sq;rw[ev] at this;cases this;exact⟨.refl,sh,rv⟩
theorem cG (hl:PE3 X l tl):PI3 X tg l (yN tl):=by
 refine PI.imp (Dg hl) ?_;rintro Z H R ⟨Z3,H3,R3,ss,sh,h,k⟩;refine⟨Z3,H3,_,ss,sh,h,fun v H' t H3' le sh' r q=>?_⟩;cases t with
 |ref a =>
  have q':(match H3' a with
   |some (.lst ts)=>R3 ts (aV a ts) H3'
   |some (.rol ts)=>R3 ts (aV a ts) H3'
   |_=>False):=q
  split at q'
  ·
   rename_i ts e
   obtain⟨xs,sq,rs⟩:=sh'.sqL (.inl e)
   exact⟨a,r.ref,⟨xs,sq⟩,k _ ts (aV a ts) H' H3' le sh' mQ q'⟩
  ·
   rename_i ts e
   obtain⟨xs,sq,rs⟩:=sh'.sqL (.inr e)
   exact⟨a,r.ref,⟨xs,sq⟩,k _ ts (aV a ts) H' H3' le sh' mQ q'⟩
  ·
   exact q'.elim
 |_=>exact q.elim
def HB (tl:TE3):TI3:=fun Z H R=>tl Z H fun x H1=>match x with
 |.tup ts=>R ts bZ H1
 |_=>False
theorem yO {K:Frag}{H:Hp}{a:Addr}{ts:List T}{xs:List V}(sq:SqT K H a xs) (rs:Reps K H ts xs):ie K (Itt K a) ts bZ H:=fun H' H3' le sh st=>by
 have hl:=rs.length;refine⟨fun i hi=>⟨xs,le _ _ sq,by omega⟩,fun i t e=>?_⟩;obtain⟨v,ev,rv⟩:=rs.get e;refine⟨⟨xs,v,le _ _ sq,ev⟩,fun x H'' y=>?_⟩;obtain⟨e1,y⟩:=y;subst e1;have:=y xs (le _ _ sq);rw[ev] at this;cases this;exact⟨.refl,sh,rv.mono le⟩
theorem cg (hl:PE3 X l tl):PI3 X tg l (HB tl):=by
 refine PI.imp (JM hl) ?_;rintro Z H R ⟨Z3,H3,R3,ss,sh,h,k⟩;refine⟨Z3,H3,_,ss,sh,h,fun v H' t H3' le sh' r q=>?_⟩;cases t with
 |tup ts=>obtain⟨a,xs,e,sq,rs⟩:=r.tup;exact⟨a,e,⟨xs,sq⟩,k _ ts bZ H' H3' le sh' (yO sq rs) q⟩
 |_=>exact q.elim
def dz (lo:Int) (n:Nat):List T:=(List.range n).map fun (i:Nat)=>T.int (lo+i)
theorem qe {K:Frag}{H:Hp}{lo:Int}{n:Nat}:ie K (Itr lo n) (dz lo n) bZ H:=fun H' H3' le sh st=>by
 refine⟨fun i hi=>by unfold dz at hi;simp at hi;exact hi,fun i t e=>?_⟩;unfold dz at e;rw[List.getElem?_map] at e;by_cases hi:i<n
 ·rw[List.getElem?_range hi] at e;cases e;refine⟨hi,fun x H'' y=>?_⟩;obtain⟨e1,e2⟩:=y;subst e1;subst e2;exact⟨.refl,sh,.ofInt⟩
 rw[List.getElem?_eq_none (by simpa using hi)] at e;cases e
def yP (ta:TA3):TI3:=fun Z H R=>ta Z H fun vs H1=>match vs with
 |[.int j]=>-(2^62)<=j/\j<2^62/\R (dz 0 j.toNat) bZ H1
 |[.int i,.int j]=>(-(2^62)<=i/\i<2^62 /\ -(2^62)<=j/\j<2^62)/\R (dz i (j - i).toNat) bZ H1
 |_=>False
theorem cH {a:Expr}{ta:TA3}(hg:Gl X "range") (hm:X.mg "range"=none) (ha:PA3 X [a] ta) (hs:starEach [a] X.env=[(false,eval a X.env)]:=by rfl):PI3 X tg (.Call (.Name "range" p) [a] [] pos) (yP (fun Z H Q=>ta Z H fun vs H1=>vs.length=1/\Q vs H1)):=by
 refine PI.imp (wG hg hm ha hs) ?_;rintro Z H R ⟨Z3,H3,R3,ss,sh,h,k⟩;refine⟨Z3,H3,_,ss,sh,h,fun vs H' ts H3' le sh' r q=>?_⟩;obtain⟨hl,q⟩:=q;cases ts with
 |nil=>cases hl
 |cons t ts =>
 cases ts with
 |cons _ _=>simp at hl
 |nil =>
 cases t with
 |int j=>obtain⟨v,_,rfl,rv,r0⟩:=r.inv;rw[r0.inv0,rv.int];exact⟨j,rfl,q.1,q.2.1,k _ _ _ H' H3' le sh' qe q.2.2⟩
 |_=>exact q.elim
theorem wY {a b:Expr}{ta:TA3}(hg:Gl X "range") (hm:X.mg "range"=none) (ha:PA3 X [a,b] ta) (hs:starEach [a,b] X.env=[(false,eval a X.env),(false,eval b X.env)]:=by rfl) (hs2:starEach [b] X.env=[(false,eval b X.env)]:=by rfl) :
  PI3 X tg (.Call (.Name "range" p) [a,b] [] pos) (yP (fun Z H Q=>ta Z H fun vs H1=>vs.length=2/\Q vs H1)):=by
 refine PI.imp (wH hg hm ha hs hs2) ?_;rintro Z H R ⟨Z3,H3,R3,ss,sh,h,k⟩;refine⟨Z3,H3,_,ss,sh,h,fun vs H' ts H3' le sh' r q=>?_⟩;obtain⟨hl,q⟩:=q
 match ts,hl,r with
 |[t1,t2],_,r =>
 obtain⟨v,_,rfl,rv,r1⟩:=r.inv;obtain⟨v2,_,rfl,rv2,r2⟩:=r1.inv;cases t1 with
 |int i =>
  cases t2 with
  |int j=>rw[r2.inv0,rv.int,rv2.int];exact⟨i,j,rfl,q.1,k _ _ _ H' H3' le sh' qe q.2⟩
  |_=>exact q.elim
 |_=>cases t2 <;> exact q.elim
end
def iter3 (g:TG3) (tb:TS3) (D:Ends3) (still:Hp3->Prop):List T->St3->Hp3->Prop
 |[],Z,H=>still H/\D.nx Z H
 |t::r,Z,H=>still H/\g t Z H fun Z2 H2=>tb { D with nx:=iter3 g tb D still r,ct:=iter3 g tb D still r,bk:=D.nx} Z2 H2
theorem iter3.st {g:TG3}{tb:TS3}{D:Ends3}{still:Hp3->Prop}{ts:List T}{Z:St3}{H:Hp3}(h:iter3 g tb D still ts Z H):still H:=by
 cases ts with
 |nil=>exact h.1
 |cons t r=>exact h.1
def HD (wi:TI3) (g:TG3) (tb:TS3):TS3:=fun D Z H=>wi Z H fun ts still H1=>iter3 g tb D still ts Z H1
section
variable {X:Cx}{tg iter:Expr}{pos:Pos}
theorem bx {body:List Stmt}{wi:TI3}{g:TG3}{tb:TS3}(hp:PassesOwn (model X.prog X.w) X.A X.env X.xe) (hc:X.calm=true) (hi:PI3 X tg iter wi) (hg:PG3 X tg g) (hb:nW X body tb)
  (hs:∀x,foldedSetIterable iter X.env x=pure x:=by intro _;rfl):PS3 X (.For tg iter body [] pos) (HD wi g tb):=by
 refine PS.imp (JN hp hc hi hg hb hs) ?_;rintro D Z H ⟨Z3,H3,D3,ss,sh,h,k1,k2,k3,k4⟩;refine⟨Z3,H3,_,ss,sh,h,fun J ts still H1 H31 le sh1 wk q=>?_⟩;refine⟨fun i m Z H=>∃Z3 H3,TupLe X.K H1 H/\SimS X.K H Z3 Z/\SimH X.K H3 H/\m=ts.length - i/\i<=ts.length/\iter3 g tb D3 still (ts.drop i) Z3 H3,⟨ts.length,Z3,H31,.refl,ss.mono le,sh1,rfl,Nat.zero_le _,by simpa using q⟩,?_⟩;rintro i m Z H ⟨Z4,H4,le4,ss4,sh4,rfl,hi,it⟩;have w:=wk H H4 le4 sh4 it.st;by_cases hlt:i<ts.length
 ·have e:=List.getElem?_eq_getElem hlt;have ed:ts.drop i=ts[i]::ts.drop (i+1):=List.drop_eq_getElem_cons hlt;rw[ed] at it;obtain⟨st,it⟩:=it;obtain⟨go,yl⟩:=w.2 i _ e;refine .inr ⟨go,fun Z' H'=>∃Z3 H3,TupLe X.K H1 H'/\SimS X.K H' Z3 Z'/\SimH X.K H3 H'/\iter3 g tb D3 still (ts.drop (i+1)) Z3 H3,fun Z' H' ⟨s5,h5,a,b,c,d⟩=>⟨ts.length - (i+1),by omega,s5,h5,a,b,c,rfl,hlt,d⟩,fun x H' y=>?_⟩;obtain⟨le',sh',rx⟩:=yl x H' y;refine⟨ts[i],Z4,H4,_,rx,ss4.mono le',sh',it,fun Z2 H2 Z32 H32 le2 ss2 sh2 q2=>?_⟩;have all:TupLe X.K H1 H2:=le4.trans (le'.trans le2);have nx:∀(B:TupLe X.K H1 H2),KS3 X.K H2 (iter3 g tb D3 still (ts.drop (i+1))) (fun Z' H'=>∃Z3 H3,TupLe X.K H1 H'/\SimS X.K H' Z3 Z'/\SimH X.K H3 H'/\iter3 g tb D3 still (ts.drop (i+1)) Z3 H3) :=
   fun B Z' H' Z3' H3' l s h q=>⟨Z3',H3',B.trans l,s,h,q⟩
  exact⟨Z32,H32,_,ss2,sh2,q2,nx all,k2.at (le.trans all),k1.at (le.trans all),nx all⟩
 have e:i=ts.length:=by omega
 subst e;rw[List.drop_length] at it;exact .inl ⟨w.1 _ (Nat.le_refl _),k1 _ _ _ _ (le.trans le4) ss4 sh4 it.2⟩
def uW (c:TT3) (tb:TS3):TS3:=fun D Z H=>∃W:Nat->St3->Hp3->Prop,(∃m,W m Z H)/\∀m Z H,W m Z H ->
 c Z H fun b H1=>if b=true then tb { D with nx:=fun Z' H'=>∃m',m'<m/\W m' Z' H',ct:=fun Z' H'=>∃m',m'<m/\W m' Z' H',bk:=D.nx} Z H1 else D.nx Z H1
theorem j7 {c:Expr}{body:List Stmt}{tc:TT3}{tb:TS3}(hp:PassesOwn (model X.prog X.w) X.A X.env X.xe) (hc:PT3 X c tc) (hb:nW X body tb):PS3 X (.While c body [] pos) (uW tc tb):=by
 refine PS.imp (ye hp hc hb) ?_;rintro D Z H ⟨Z3,H3,D3,ss,sh,⟨W,⟨m0,w0⟩,turn⟩,k1,k2,k3,k4⟩;refine⟨fun m Z' H'=>∃Z3 H3,TupLe X.K H H'/\SimS X.K H' Z3 Z'/\SimH X.K H3 H'/\W m Z3 H3,⟨m0,Z3,H3,.refl,ss,sh,w0⟩,?_⟩;rintro m Z1 H1 ⟨Z4,H4,le4,ss4,sh4,w4⟩;refine⟨Z4,H4,_,ss4,sh4,turn m Z4 H4 w4,fun b H2 H5 le5 sh5 q=>?_⟩;cases b with
 |true =>
  rw[if_pos rfl] at q ⊢;have nx:KS3 X.K H2 (fun Z' H'=>∃m',m'<m/\W m' Z' H') (fun Z' H'=>∃m',m'<m/\∃Z3 H3,TupLe X.K H H'/\SimS X.K H' Z3 Z'/\SimH X.K H3 H'/\W m' Z3 H3) :=
   fun Z' H' Z3' H3' l s h ⟨m',hm,w⟩=>⟨m',hm,Z3',H3',le4.trans (le5.trans l),s,h,w⟩
  exact⟨_,fun Z' H' h=>h,Z4,H5,_,ss4.mono le5,sh5,q,nx,k2.at (le4.trans le5),k1.at (le4.trans le5),nx⟩
 |false =>
 rw[if_neg Bool.false_ne_true] at q ⊢;exact k1 _ _ _ _ (le4.trans le5) (ss4.mono le5) sh5 q
end
def Ec (X:Cx) (ifs:List Expr) (t:TT3):Prop:=PIf X ifs (wX X.K t)
def uX:TT3:=fun _ H Q=>Q true H
theorem cT {X:Cx}:Ec X [] uX:=fun pins s Z H Q I ⟨Z3,H3,Q3,ss,sh,h,k⟩=>DP pins s Z H Q I (k _ _ _ .refl sh h)
theorem fU {X:Cx}{c:Expr}{t:TT3}(h:PT3 X c t):Ec X [c] t:=DQ h
def n6 (nt:Nat) (cap:List Nat) (Z:St3):St3:=List.replicate nt none++cap.map fun j=>(Z[j]?).getD none
theorem uY {K:Frag}{H:Hp}{Z3:St3}{Z:L2.St}{nt:Nat}{cap:List Nat}(s:SimS K H Z3 Z):SimS K H (n6 nt cap Z3) (lR nt cap Z):=by
 refine⟨by simp [n6,lR],fun i t e=>?_⟩;unfold n6 at e;unfold lR;by_cases hi:i<nt
 ·rw[List.getElem?_append_left (by simpa using hi),List.getElem?_replicate] at e;split at e <;> cases e
 rw[List.getElem?_append_right (by simpa using hi),List.getElem?_map] at e;rw[List.getElem?_append_right (by simpa using hi),List.getElem?_map];simp only[List.length_replicate] at e ⊢;cases q:cap[i - nt]? with
 |none=>rw[q] at e;cases e
 |some j =>
 rw[q] at e;have e':(Z3[j]?).getD none=some t:=Option.some.inj e;have e2:Z3[j]?=some (some t):=by
  cases z:Z3[j]? with
  |none=>rw[z] at e';cases e'
  |some y=>rw[z] at e';exact congrArg some e'
 obtain⟨v,ev,r⟩:=s.at' j t e2;exact⟨v,by simp [ev],r⟩
def cIter3 (g:TG3) (tt:TT3) (te:TE3) (still:Hp3->Prop) (fin:List T->Hp3->Prop):List T->List T->St3->Hp3->Prop
 |[],ys,Z,H=>still H/\ys.length<=sizeLine/\fin ys H
 |t::r,ys,Z,H=>still H/\g t Z H fun Z2 H2=>tt Z2 H2 fun b H3=>if b=true then te Z2 H3 fun y H4=>ys.length<sizeLine/\cIter3 g tt te still fin r (ys++[y]) Z2 H4 else cIter3 g tt te still fin r ys Z2 H3
theorem cIter3.st {g:TG3}{tt:TT3}{te:TE3}{still:Hp3->Prop}{fin:List T->Hp3->Prop}{ts ys:List T}{Z:St3}{H:Hp3}(h:cIter3 g tt te still fin ts ys Z H):still H:=by
 cases ts with
 |nil=>exact h.1
 |cons t r=>exact h.1
theorem yQ {K:Frag}{J:It}{g:TG3}{tt:TT3}{te:TE3}{still:Hp3->Prop}{fin3:List T->Hp3->Prop}{fin:List V->Hp->Prop}{ts:List T}{Z3:St3}{Z:L2.St}{H1:Hp}{H31:Hp3}
  (wk:ie K J ts still H1) (ss:SimS K H1 Z3 Z) (sh:SimH K H31 H1) (h:cIter3 g tt te still fin3 ts [] Z3 H31)
  (hf:∀ys us H' H3',TupLe K H1 H'->SimH K H3' H'->Reps K H' ys us->fin3 ys H3'->fin us H'):uT J (DY K g) (wX K tt) (lft K te) fin Z H1:=by
 refine⟨fun i m us Z H=>∃Z3 H3 ys,TupLe K H1 H/\SimS K H Z3 Z/\SimH K H3 H/\Reps K H ys us/\m=ts.length - i/\i<=ts.length/\cIter3 g tt te still fin3 (ts.drop i) ys Z3 H3,⟨ts.length,Z3,H31,[],.refl,ss,sh,.nil,rfl,Nat.zero_le _,by simpa using h⟩,?_⟩;rintro i m us Z H ⟨Z4,H4,ys,le4,ss4,sh4,ry,rfl,hi,it⟩;have w:=wk H H4 le4 sh4 it.st;by_cases hlt:i<ts.length
 ·have e:=List.getElem?_eq_getElem hlt;have ed:ts.drop i=ts[i]::ts.drop (i+1):=List.drop_eq_getElem_cons hlt;rw[ed] at it;obtain⟨st,it⟩:=it;obtain⟨go,yl⟩:=w.2 i _ e;refine .inr ⟨go,fun x H' y=>?_⟩;obtain⟨le',sh',rx⟩:=yl x H' y;refine⟨ts[i],Z4,H4,_,rx,ss4.mono le',sh',it,fun Z2 H2 Z32 H32 le2 ss2 sh2 q2=>?_⟩;refine⟨Z32,H32,_,ss2,sh2,q2,fun b H3 H33 le3 sh3 q3=>?_⟩;have all:TupLe K H H3:=le'.trans (le2.trans le3);cases b with
  |true=>rw[if_pos rfl] at q3;refine UJ ?_;refine⟨Z32,H33,_,ss2.mono le3,sh3,q3,fun v H5 t H35 le5 sh5 rt q5=>⟨by rw[<- ry.length];exact q5.1,ts.length - (i+1),by omega,Z32,H35,ys++[t],le4.trans (all.trans le5),ss2.mono (le3.trans le5),sh5,(ry.mono (all.trans le5)).append (.cons rt .nil),rfl,hlt,q5.2⟩⟩
  |false =>
  rw[if_neg Bool.false_ne_true] at q3;refine UG ?_;exact⟨ts.length - (i+1),by omega,Z32,H33,ys,le4.trans all,ss2.mono le3,sh3,ry.mono all,rfl,hlt,q3⟩
 have e:i=ts.length:=by omega
 subst e;rw[List.drop_length] at it;exact .inl ⟨w.1 _ (Nat.le_refl _),by rw[<- ry.length];exact it.2.1,hf _ _ _ _ le4 sh4 ry it.2.2⟩
def yR (wi:TI3) (g:TG3) (tt:TT3) (te:TE3) (nt:Nat) (cap:List Nat):TE3:=fun Z H Q=>wi Z H fun ts still H1=>cIter3 g tt te still (fun ys H'=>∀p,H' p=none->Q (.ref p) (up3 H' p (.lst ys))) ts [] (n6 nt cap Z) H1
def mR (wi:TI3) (g:TG3) (tt:TT3) (te:TE3) (nt:Nat) (cap:List Nat) (i:Nat):TS3:=fun D Z H=>wi Z H fun ts still H1=>cIter3 g tt te still (fun ys H'=>∀p,H' p=none->D.nx (Z.set i (some (.ref p))) (up3 H' p (.lst ys))) ts [] (n6 nt cap Z) H1
section
variable {X:Cx}{N':List Str}{nt:Nat}{cap:List Nat}{scope:Scope}{elt tg iter:Expr}{ifs:List Expr}{pos pos' spos:Pos}{wi:TI3}{g:TG3}{tt:TT3}{te:TE3}
theorem bQ (hc:X.calm=true) (S:CompSc X N' nt cap scope) (hi:PI3 X tg iter wi)
  (hX:∀cl pins s H C fp,PG3 (bC X N' scope cl pins s H C fp) tg g/\Ec (bC X N' scope cl pins s H C fp) ifs tt/\PE3 (bC X N' scope cl pins s H C fp) elt te)
  (hs:∀x,foldedSetIterable iter X.env x=pure x:=by intro _;rfl):PE3 X (.ListComp elt [⟨tg,iter,ifs,0⟩] scope pos) (yR wi g tt te nt cap):=by
 refine PE.imp (DW (g:=DY X.K g) (tt:=wX X.K tt) (te:=lft X.K te) hc S hi hX hs) ?_;rintro Z H Q ⟨Z3,H3,Q3,ss,sh,h,k⟩;refine⟨Z3,H3,_,ss,sh,h,fun J ts still H1 H31 le sh1 wk q=>?_⟩;exact yQ wk (uY (ss.mono le)) sh1 q fun ys us H' H3' le' sh' ry q' p hp=>k _ _ _ _ (le.trans (le'.trans (aJ hp))) (sh'.newLst hp ry) .ofRef (q' p (sh'.fresh hp))
theorem uZ {i:Nat}{x:Str}(hc:X.calm=true) (hN:X.N.Nodup) (S:CompSc X N' nt cap scope) (hi:PI3 X tg iter wi)
  (hX:∀cl pins s H C fp,PG3 (bC X N' scope cl pins s H C fp) tg g/\Ec (bC X N' scope cl pins s H C fp) ifs tt/\PE3 (bC X N' scope cl pins s H C fp) elt te)
  (hi':X.N[i]?=some x:=by rfl) (hx:Loc X.env.scope x:=by first | exact Or.inl rfl | exact Or.inr rfl)
  (hsw:swapsWith (.ListComp elt [⟨tg,iter,ifs,0⟩] scope pos) (some (.Name x pos')) spos.line X.env=pure true:=by rfl)
  (hs:∀x,foldedSetIterable iter X.env x=pure x:=by intro _;rfl) (hf:X.fn x=true\/X.env.scope.names.lookup x=some .local:=by first | exact .inl rfl | exact .inr rfl | assumption) :
  PS3 X (.Assign [.Name x pos'] (.ListComp elt [⟨tg,iter,ifs,0⟩] scope pos) spos) (mR wi g tt te nt cap i):=by
 refine PS.imp (DX (g:=DY X.K g) (tt:=wX X.K tt) (te:=lft X.K te) hc hN hi' hx S hi hX hsw hs hf) ?_;rintro D Z H ⟨Z3,H3,D3,ss,sh,h,k1,_⟩;refine⟨Z3,H3,_,ss,sh,h,fun J ts still H1 H31 le sh1 wk q=>?_⟩;exact yQ wk (uY (ss.mono le)) sh1 q fun ys us H' H3' le' sh' ry q' p hp =>
  k1 _ _ _ _ (le.trans (le'.trans (aJ hp))) ((ss.mono (le.trans (le'.trans (aJ hp)))).set .ofRef) (sh'.newLst hp ry) (q' p (sh'.fresh hp))
end
abbrev Sp3:=List T->Hp3->VK3->Prop
def qg (K:Frag) (sp:Sp3):Sp:=fun vs H Q _=>∃ts H3 Q3,Reps K H ts vs/\SimH K H3 H/\sp ts H3 Q3/\KV3 K H Q3 Q
def Sub3 (H H':Hp3):Prop:=∀a o,H a=some o->H' a=some o
theorem Sub3.refl {H:Hp3}:Sub3 H H:=fun _ _ h=>h
theorem Sub3.trans {H H1 H2:Hp3}(a:Sub3 H H1) (b:Sub3 H1 H2):Sub3 H H2:=fun c o h=>b c o (a c o h)
theorem Sub3.new {H:Hp3}{p:Addr}{o:O3}(h:H p=none):Sub3 H (up3 H p o):=fun a u e=>by rw[aC (bf e h)];exact e
theorem SimH.sub {K:Frag}{H3 H3':Hp3}{H:Hp}(s:SimH K H3' H) (h:Sub3 H3 H3'):SimH K H3 H:=fun a o e=>s a o (h a o e)
def Fin3 (Q:VK3):VK3:=fun v H=>∃H',Sub3 H' H/\Q v H'
theorem Fin3.of {Q:VK3}{v:T}{H H':Hp3}(h:Sub3 H' H) (q:Q v H'):Fin3 Q v H:=⟨H',h,q⟩
def aQ (N:List Str) (ts:List T):St3:=ts.map some++List.replicate (N.length - ts.length) none
theorem wZ {K:Frag}{H:Hp}{N:List Str}{ts:List T}{vs:List V}(r:Reps K H ts vs):SimS K H (aQ N ts) (L2.start N vs):=by
 refine⟨by simp [aQ,L2.start,r.length],fun i t e=>?_⟩;unfold aQ at e;unfold L2.start;have hl:=r.length;by_cases hi:i<ts.length
 ·rw[List.getElem?_append_left (by simpa using hi),List.getElem?_map] at e;rw[List.getElem?_append_left (by rw[List.length_map];omega),List.getElem?_map];cases q:ts[i]? with
  |none=>rw[q] at e;cases e
  |some u =>
  rw[q] at e;cases e;obtain⟨v,ev,rv⟩:=r.get q;exact⟨v,by rw[ev];rfl,rv⟩
 rw[List.getElem?_append_right (by simpa using hi),List.getElem?_replicate] at e;split at e <;> cases e
section
variable {X:Cx}{k:Nat}{f:Addr}{fd:FuncData}{ps:List Str}{sp:Sp3}{x:Str}{p pos:Pos}{e:Expr}{es:List Expr}{t:TA3}
def FnOk3 (P:Program) (w:World) (K:Frag) (mg:Str->Option Value) (base:Heap) (k:Nat) (f:Addr) (fd:FuncData) (ps:List Str) (sp:Sp3):Prop:=FnOk P w K mg base CX0 k f fd ps (qg K sp)
theorem FnOk3.mono {P:Program}{w:World}{K:Frag}{mg:Str->Option Value}{base:Heap}{j k:Nat}(F:FnOk3 P w K mg base j f fd ps sp) (h:j<=k):FnOk3 P w K mg base k f fd ps sp:=FnOk.mono F h
def oh (sp:Sp3) (t:TA3):TE3:=fun Z H Q=>t Z H fun vs H1=>sp vs H1 Q
theorem Ed (F:FnOk3 X.prog X.w X.K X.mg X.base k f fd ps sp) (hr:Room k X.A) (hg:Gl X x) (hm:X.mg x=some (.ref f)) (hk:keepIn X.K (.ref f)=true) (hb:Binds X.K fd ps [])
  (ha:PA3 X (e::es) t) (hdb:(x==("__debug__":Str))=false:=by decide) (he:starEach (e::es) X.env=(false,eval e X.env)::starEach es X.env:=by rfl) (hpl:(backTo pos (starEach es X.env)).any (·.1)=false:=by rfl) :
  PE3 X (.Call (.Name x p) (e::es) [] pos) (oh sp t):=by
 refine PE.imp (Dq (dvs:=[]) (E:=E0) F hr hg hm hk hb .nil yD ha hdb he hpl) ?_;rintro Z H Q ⟨Z3,H3,Q3,ss,sh,h,k⟩;refine⟨Z3,H3,_,ss,sh,h,fun vs H' ts H3' le sh' r q=>?_⟩;show qg X.K sp (vs++[]) H' Q E0;rw[List.append_nil];exact⟨ts,H3',Q3,r,sh',q,k.at le⟩
theorem fn3 {P:Program}{w:World}{K:Frag}{mg:Str->Option Value}{base:Heap}{qual:Str}{st:Stmt}{N:List Str}(F:Fun K x qual st f fd) (S:FnScope N ps (aA st)) (len:∀ts H Q,sp ts H Q->ts.length=ps.length)
  (hbody:∀(cdv:Value) (A:Around) (outer:List Env) (s:Shared) (H:Hp) (E:XK) (ts:List T) (H3:Hp3) (Q:VK3),Room k (A.deeper (envOfC qual (aA st) s.heap.objs.size f cdv))->sp ts H3 Q ->
   ∃t,nW (sI CX0 P w K mg base N qual (aA st) f cdv A outer s H E).nox (bB st) t/\t { nx:=fun _ H'=>Fin3 Q .non H',rt:=Fin3 Q} (aQ N ts) H3):FnOk3 P w K mg base (k+1) f fd ps sp:=by
 refine F.ok S (fun vs H Q E ⟨ts,H3,Q3,r,sh,q,k⟩=>by rw[<- r.length];exact len _ _ _ q) fun cdv A outer s H vs Q E hr ⟨ts,H3,Q3,r,sh,q,k⟩=>?_;obtain⟨t,ht,hq⟩:=hbody cdv A outer s H E ts H3 Q3 hr q;exact⟨_,ht,aQ N ts,H3,_,wZ r,sh,hq,fun Z' H' Z3' H3' le ss' sh' ⟨H4,sb,q⟩=>k _ _ _ _ le (sh'.sub sb) .ofNon q,fun v H' t H3' le sh' rv ⟨H4,sb,q⟩=>k _ _ _ _ le (sh'.sub sb) rv q,fun _ _ _ _ _ _ _ z=>z,fun _ _ _ _ _ _ _ z=>z⟩
end
noncomputable instance:DecidableEq T:=fun a b=>Classical.propDecidable (a=b)
def pl:Nat->T->Bool
 |_,.non=>true
 |_,.int _=>true
 |_,.str _=>true
 |d+1,.tup ts=>ts.all (pl d)
 |_,_=>false
section
variable {X:Cx}{pins:List (Addr × Obj)}{Z:L2.St}{H:Hp}{s:Shared}
theorem u5 (I:Inv X pins Z H s):∀(d:Nat) (x y:T) (v:V),pl d x=true->pl d y=true->Rep X.K H x v->Rep X.K H y v->x=y:=by
 intro d;induction d with
 |zero =>
  intro x y v px py rx ry;cases x <;> cases y <;> first
   |rfl
   | (simp only[Rep] at rx ry;subst rx;cases ry <;> rfl)
   | (simp [pl] at px;done)
   | (simp [pl] at py;done)
 |succ d ih =>
 intro x y v px py rx ry;cases x with
 |tup ts =>
  cases y with
  |tup us =>
   obtain⟨a,xs,rfl,sq,r⟩:=rx.tup;obtain⟨b,ys,e,sq',r'⟩:=ry.tup;cases e;have:=I.tuple_inj sq sq';subst this;simp only[pl,List.all_eq_true] at px py;congr 1;have key:∀(ts us:List T) (xs:List V),(∀t∈ts,pl d t=true)->(∀t∈us,pl d t=true)->Reps X.K H ts xs->Reps X.K H us xs->ts=us:=by
    intro ts;induction ts with
    |nil =>
     intro us xs _ _ h h';rw[h.inv0] at h';cases us with
     |nil=>rfl
     |cons u us=>obtain⟨_,_,e,_⟩:=h'.inv;cases e
    |cons t ts ih2 =>
    intro us xs p1 p2 h h';obtain⟨v,r,rfl,a,b⟩:=h.inv;cases us with
    |nil=>exact absurd h'.inv0 (by simp)
    |cons u us =>
    obtain⟨v',r',e,a',b'⟩:=h'.inv;cases e;rw[ih t u v (p1 t List.mem_cons_self) (p2 u List.mem_cons_self) a a',ih2 us r (fun t ht=>p1 t (List.mem_cons_of_mem _ ht)) (fun t ht=>p2 t (List.mem_cons_of_mem _ ht)) b b']
   exact key ts us xs px py r r'
  |_=>first | (simp only[Rep] at rx ry;obtain⟨a,xs,e,_⟩:=rx;subst e;cases ry;done) | (simp [pl] at py;done)
 |_=>cases y <;> first
  |rfl
  | (simp only[Rep] at rx ry;subst rx;cases ry <;> rfl)
  | (simp [pl] at px;done)
  | (simp [pl] at py;done)
  | (simp only[Rep] at rx ry;obtain⟨a,xs,e,_⟩:=ry;subst e;cases rx;done)
theorem units_in1 (A:Around):A.in1.units=A.units+1:=by rfl
theorem j8 {α:Type} [DecidableEq (Option α)] (ts us:List α):((List.range (min ts.length us.length)).all (fun j=>decide (ts[j]?=us[j]?))&&ts.length==us.length)=true↔ts=us:=by
 rw[Bool.and_eq_true,List.all_eq_true,beq_iff_eq];constructor
 ·rintro⟨h,hl⟩;refine List.ext_getElem? fun i=>?_;by_cases hi:i<ts.length
  ·exact of_decide_eq_true (h i (List.mem_range.mpr (by omega)))
  rw[List.getElem?_eq_none (by omega),List.getElem?_eq_none (by omega)]
 rintro rfl;exact⟨fun i _=>by simp,rfl⟩
theorem Ef {us:List Value}{i:Nat}(h:i<us.toArray.size) {v:Value}(e:us[i]?=some v):us.toArray[i]=v:=by
 have:us.toArray[i]?=some v:=by simpa using e
 rw[Array.getElem?_eq_getElem h] at this;exact Option.some.inj this
theorem u6 (I:Inv X pins Z H s):∀(d:Nat) (A:Around) (x y:T) (vx vy:V) (u v:Value),pl d x=true->pl d y=true->Rep X.K H x vx->Rep X.K H y vy->RelV vx u->RelV vy v->A.units+d<cLine->SeqAt.EqAt A s u v (decide (x=y)):=by
 have ik:∀(A:Around) (x y:T) (vx vy:V) (u v:Value),pl 0 x=true->pl 0 y=true->Rep X.K H x vx->Rep X.K H y vy->RelV vx u->RelV vy v->SeqAt.EqAt A s u v (decide (x=y)):=by
  intro A x y vx vy u v px py rx ry ru rv;cases x with
  |non =>
   cases rx.non;cases ru;cases y with
   |non=>cases ry.non;cases rv;simp only[decide_true];exact SeqAt.EqAt.same _
   |int j=>cases ry.int;obtain⟨t',rfl⟩:=rv;rw[decide_eq_false (by simp)];exact SeqAt.EqAt.none_int _ _
   |str j=>cases ry.str;obtain⟨t',rfl⟩:=rv;rw[decide_eq_false (by simp)];exact SeqAt.EqAt.none_str _ _
   |_=>simp [pl] at py
  |int i =>
   cases rx.int;obtain⟨t,rfl⟩:=ru;cases y with
   |non=>cases ry.non;cases rv;rw[decide_eq_false (by simp)];exact SeqAt.EqAt.int_none _ _
   |int j=>cases ry.int;obtain⟨t',rfl⟩:=rv;rw[show decide (T.int i=T.int j)=(i==j) by by_cases h:i=j <;> simp [h]];exact SeqAt.EqAt.int_int _ _ _ _
   |str j=>cases ry.str;obtain⟨t',rfl⟩:=rv;rw[decide_eq_false (by simp)];exact SeqAt.EqAt.int_str _ _ _ _
   |_=>simp [pl] at py
  |str i =>
   cases rx.str;obtain⟨t,rfl⟩:=ru;cases y with
   |non=>cases ry.non;cases rv;rw[decide_eq_false (by simp)];exact SeqAt.EqAt.str_none _ _
   |int j=>cases ry.int;obtain⟨t',rfl⟩:=rv;rw[decide_eq_false (by simp)];exact SeqAt.EqAt.str_int _ _ _ _
   |str j=>cases ry.str;obtain⟨t',rfl⟩:=rv;rw[show decide (T.str i=T.str j)=(i==j) by by_cases h:i=j <;> simp [h]];exact SeqAt.EqAt.str_str _ _ _ _
   |_=>simp [pl] at py
  |_=>simp [pl] at px
 intro d;induction d with
 |zero=>intro A x y vx vy u v px py rx ry ru rv _;exact ik A x y vx vy u v px py rx ry ru rv
 |succ d ih =>
 intro A x y vx vy u v px py rx ry ru rv hu;have hu0:A.units<cLine:=by omega
 cases x with
 |tup ts =>
  obtain⟨a,xs,rfl,sq,r⟩:=rx.tup;cases ru;obtain⟨its,rv1,ht,_⟩:=I.tuple sq;cases y with
  |tup us =>
   obtain⟨b,ys,rfl,sq',r'⟩:=ry.tup;cases rv;obtain⟨its',rv2,ht',_⟩:=I.tuple sq';by_cases hab:a=b
   ·subst hab;have e:T.tup ts=T.tup us:=u5 I (d+1) _ _ (.ref a) px py (.ofTup sq r) (.ofTup sq' r');rw[e,decide_eq_true rfl];exact SeqAt.EqAt.same _
   have l1:=r.length;have l2:=r'.length;have l3:=rv1.length;have l4:=rv2.length;have key:=SeqAt.RcAt.tuples (A:=A) (s:=s) (e:=fun j=>decide (ts[j]?=us[j]?)) (show s.heap.IsTuple a its.toArray from ht) (show s.heap.IsTuple b its'.toArray from ht') hu0 (fun j h1 h2=>by
    rw[List.size_toArray] at h1 h2
    have g1:j<ts.length:=by omega
    have g2:j<us.length:=by omega
    obtain⟨p1,e1,q1⟩:=r.get (List.getElem?_eq_getElem g1)
    obtain⟨p2,e2,q2⟩:=r'.get (List.getElem?_eq_getElem g2)
    obtain⟨z1,f1,w1⟩:=rv1.get e1
    obtain⟨z2,f2,w2⟩:=rv2.get e2
    rw[Ef _ f1,Ef _ f2,List.getElem?_eq_getElem g1,List.getElem?_eq_getElem g2]
    simp only[pl,List.all_eq_true] at px py
    have:=ih A.in1 ts[j] us[j] p1 p2 z1 z2 (px _ (List.getElem_mem g1)) (py _ (List.getElem_mem g2)) q1 q2 w1 w2 (by rw[units_in1];omega)
    rw[show decide (some ts[j]=some us[j])=decide (ts[j]=us[j]) by by_cases h:ts[j]=us[j] <;> simp [h]]
    exact this)
   have eb:((List.range (min its.toArray.size its'.toArray.size)).all (fun j=>decide (ts[j]?=us[j]?))&&its.toArray.size==its'.toArray.size)=decide (T.tup ts=T.tup us):=by
    rw[List.size_toArray,List.size_toArray,<- l3,<- l1,<- l4,<- l2,Bool.eq_iff_iff,j8,decide_eq_true_iff];constructor
    ·rintro rfl;rfl
    intro h;injection h
   rw[eb] at key;exact .of_refs hab key
  |non=>cases ry.non;cases rv;rw[decide_eq_false (by simp)];exact SeqAt.EqAt.tuple_none ht hu0
  |int j=>cases ry.int;obtain⟨t',rfl⟩:=rv;rw[decide_eq_false (by simp)];exact SeqAt.EqAt.tuple_int _ _ ht hu0
  |str j=>cases ry.str;obtain⟨t',rfl⟩:=rv;rw[decide_eq_false (by simp)];exact SeqAt.EqAt.tuple_str _ _ ht hu0
  |_=>simp [pl] at py
 |non =>
  cases y with
  |tup us=>obtain⟨b,ys,rfl,sq',r'⟩:=ry.tup;cases rv;obtain⟨its',rv2,ht',_⟩:=I.tuple sq';cases rx.non;cases ru;rw[decide_eq_false (by simp)];exact SeqAt.EqAt.none_tuple ht' hu0
  |non=>exact ik A _ _ vx vy u v rfl rfl rx ry ru rv
  |int j=>exact ik A _ _ vx vy u v rfl rfl rx ry ru rv
  |str j=>exact ik A _ _ vx vy u v rfl rfl rx ry ru rv
  |_=>simp [pl] at py
 |int i =>
  cases y with
  |tup us=>obtain⟨b,ys,rfl,sq',r'⟩:=ry.tup;cases rv;obtain⟨its',rv2,ht',_⟩:=I.tuple sq';cases rx.int;obtain⟨t,rfl⟩:=ru;rw[decide_eq_false (by simp)];exact SeqAt.EqAt.int_tuple _ _ ht' hu0
  |non=>exact ik A _ _ vx vy u v rfl rfl rx ry ru rv
  |int j=>exact ik A _ _ vx vy u v rfl rfl rx ry ru rv
  |str j=>exact ik A _ _ vx vy u v rfl rfl rx ry ru rv
  |_=>simp [pl] at py
 |str i =>
  cases y with
  |tup us=>obtain⟨b,ys,rfl,sq',r'⟩:=ry.tup;cases rv;obtain⟨its',rv2,ht',_⟩:=I.tuple sq';cases rx.str;obtain⟨t,rfl⟩:=ru;rw[decide_eq_false (by simp)];exact SeqAt.EqAt.str_tuple _ _ ht' hu0
  |non=>exact ik A _ _ vx vy u v rfl rfl rx ry ru rv
  |int j=>exact ik A _ _ vx vy u v rfl rfl rx ry ru rv
  |str j=>exact ik A _ _ vx vy u v rfl rfl rx ry ru rv
  |_=>simp [pl] at py
 |_=>simp [pl] at px
end
def rI3 (C:Int->Int->Prop) (g:Int->Int->T):R3:=fun x y H Q=>match x,y with
 |.int i,.int j=>C i j/\Q (g i j) H
 |_,_=>False
def qi (g:Int->Int->T):R3:=fun x y H Q=>match x,y with
 |.int i,.int j=>Q (g i j) H
 |_,_=>False
section
variable {X:Cx}
theorem Eg {f:Value->Value->Sem Value}{C:Int->Int->Prop}{g:Int->Int->T}{g':Int->Int->V}(h:OpR X f (rI C g')) (hg:∀i j H,Rep X.K H (g i j) (g' i j)):dJ X f (rI3 C g):=by
 refine OpR.imp h ?_;rintro x y H Q ⟨tx,ty,H3,Q3,rx,ry,sh,h,k⟩;cases tx with
 |int i =>
  cases ty with
  |int j=>exact⟨i,j,rx.int,ry.int,h.1,k _ _ _ _ .refl sh (hg i j H) h.2⟩
  |_=>exact h.elim
 |_=>exact h.elim
theorem mU {f:Value->Value->Sem Value}{g:Int->Int->T}{g':Int->Int->V}(h:OpR X f (rI0 g')) (hg:∀i j H,Rep X.K H (g i j) (g' i j)):dJ X f (qi g):=by
 refine OpR.imp h ?_;rintro x y H Q ⟨tx,ty,H3,Q3,rx,ry,sh,h,k⟩;cases tx with
 |int i =>
  cases ty with
  |int j=>exact⟨i,j,rx.int,ry.int,k _ _ _ _ .refl sh (hg i j H) h⟩
  |_=>exact h.elim
 |_=>exact h.elim
def HF (_ j:Int):Prop:=0<j/\j.natAbs.log2<9000
theorem yS:OpR X (binaryOp .FloorDiv) (rI HF fun i j=>.int (i / j)):=opI fun i j _ _ _ _ _ hc q=>by
 have e:i / j=i.fdiv j:=(Int.fdiv_eq_ediv_of_nonneg i (Int.le_of_lt hc.1)).symm;rw[e] at q;exact floordiv_int (Int.ne_of_gt hc.1) q (.inl (PyProof.noPylong_of_log2 hc.2))
theorem ou:dJ X (binaryOp .Sub) (qi fun i j=>.int (i - j)):=mU JR fun _ _ _=>.ofInt
theorem bc:dJ X (binaryOp .FloorDiv) (rI3 HF fun i j=>.int (i / j)):=Eg yS fun _ _ _=>.ofInt
theorem aU:dJ X (binaryOp .Mod) (rI3 (fun _ j=>0<j) fun i j=>.int (i%j)):=Eg JT fun _ _ _=>.ofInt
theorem iu:dJ X (binaryOp .Pow) (rI3 Pu fun i j=>.int (i^j.toNat)):=Eg JV fun _ _ _=>.ofInt
theorem HH:dJ X (compareOp .LtE) (qi fun i j=>.bl (decide (i<=j))):=mU PB fun _ _ _=>.ofBl
theorem yU:dJ X (compareOp .Gt) (qi fun i j=>.bl (decide (j<i))):=mU PJ fun _ _ _=>.ofBl
theorem HJ:dJ X (compareOp .GtE) (qi fun i j=>.bl (decide (j<=i))):=mU PK fun _ _ _=>.ofBl
theorem cM:dJ X (binaryOp .Mult) (rI3 CMul fun i j=>.int (i*j)):=Eg JS fun _ _ _=>.ofInt
def qj:R3:=fun x y H Q=>match x,y with
 |.int i,.int j=>Q (.int (i+j)) H
 |.str i,.str j=>i.length+j.length<=sizeLine/\Q (.str (i++j)) H
 |.ref a,.ref b=>match H a,H b with
  |some (.lst xs),some (.lst ys)=>xs.length+ys.length<=sizeLine/\∀p,H p=none->Q (.ref p) (up3 H p (.lst (xs++ys)))
  |_,_=>False
 |.tup xs,.tup ys=>xs.length+ys.length<=sizeLine/\Q (.tup (xs++ys)) H
 |_,_=>False
theorem yV:OpR X (binaryOp .Add) (fun x y H Q=>∃a b ys,x=.ref a/\y=.ref b/\SqT X.K H a []/\SqT X.K H b ys/\Q (.ref b) H):=by
 intro pins s Z H x y v u Q I rx ry h;obtain⟨a,b,ys,rfl,rfl,ha,hb,q⟩:=h;cases rx;cases ry;obtain⟨its,r1,p1,_⟩:=I.tuple ha;obtain⟨its2,r2,p2,_⟩:=I.tuple hb;cases r1;obtain⟨⟨cls,dd,data,sl⟩,ho,hc,n,hd⟩:=id p1;obtain⟨⟨cls2,dd2,data2,sl2⟩,ho2,hc2,n2,hd2⟩:=id p2;simp only at hc hd hc2 hd2;subst hc hd hc2 hd2;exact concat_meets ⟨_,ho,rfl⟩ ⟨_,ho2,rfl⟩ noFill_tuple_add seq_tuple_add PySem.F.slot_tuple_add PySem.F.entry_tuple_add (PySem.F.args_tuple_add_2 _ _)
   (tuple_addW0 a b _ its2.toArray n n2 dd dd2 sl sl2 (by simp)) ⟨ho,ho2,⟨.ref b,H,I,rfl,q⟩⟩
theorem aY:dJ X (binaryOp .Add) qj:=by
 refine OpR.imp (op_add.or (op_add_str.or (op_cat.or (op_catT.or yV)))) ?_;rintro x y H Q ⟨tx,ty,H3,Q3,rx,ry,sh,h,k⟩;cases tx with
 |int i =>
  cases ty with
  |int j=>exact .inl ⟨i,j,rx.int,ry.int,k _ _ _ _ .refl sh .ofInt h⟩
  |_=>exact h.elim
 |str i =>
  cases ty with
  |str j=>exact .inr (.inl ⟨i,j,rx.str,ry.str,h.1,k _ _ _ _ .refl sh .ofStr h.2⟩)
  |_=>exact h.elim
 |ref a =>
  cases ty with
  |ref b =>
   have h':(match H3 a,H3 b with
    |some (.lst xs),some (.lst ys)=>xs.length+ys.length<=sizeLine/\∀p,H3 p=none->Q3 (.ref p) (up3 H3 p (.lst (xs++ys)))
    |_,_=>False):=h
   split at h'
   ·
    rename_i xs ys e1 e2
    obtain⟨vs,g1,r1⟩:=sh a _ e1
    obtain⟨ws,g2,r2⟩:=sh b _ e2
    refine .inr (.inr (.inl ⟨a,b,vs,ws,rx.ref,ry.ref,g1,g2,by rw[<- r1.length,<- r2.length];exact h'.1,fun p hp=>?_⟩))
    exact k _ _ _ _ (aJ hp) (sh.newLst hp (r1.append r2)) .ofRef (h'.2 p (sh.fresh hp))
   ·
    exact h'.elim
  |_=>exact h.elim
 |tup xs =>
  cases ty with
  |tup ys =>
   obtain⟨a,vs,rfl,s1,r1⟩:=rx.tup;obtain⟨b,ws,rfl,s2,r2⟩:=ry.tup;by_cases hv:vs=[]
   ·subst hv;have e0:xs=[]:=List.eq_nil_of_length_eq_zero r1.length;subst e0;exact .inr (.inr (.inr (.inr ⟨a,b,ws,rfl,rfl,s1,s2,k _ _ _ _ .refl sh (.ofTup s2 r2) h.2⟩)))
   refine .inr (.inr (.inr (.inl ⟨a,b,vs,ws,rfl,rfl,s1,s2,hv,by rw[<- r1.length,<- r2.length];exact h.1,fun hw=>?_,fun hw p hp=>?_⟩)))
   ·have e:ys=[]:=by have:=r2.length;rw[hw] at this;exact List.eq_nil_of_length_eq_zero this
    have q:=h.2;rw[e,List.append_nil] at q;exact k _ _ _ _ .refl sh (.ofTup s1 r1) q
   exact k _ _ _ _ (aJ hp) (sh.new hp) (SimH.newTup (H3:=H3) hp (r1.append r2)) h.2
  |_=>exact h.elim
 |_=>exact h.elim
variable {pins:List (Addr × Obj)}{Z:L2.St}{H:Hp}{s:Shared}
def sY (neg:Bool):R3:=fun x y H Q=>match x,y with
 |.int i,.int j=>Q (.bl (if neg then !decide (i=j) else decide (i=j))) H
 |.str i,.str j=>Q (.bl (if neg then !decide (i=j) else decide (i=j))) H
 |.bl i,.bl j=>Q (.bl (if neg then !decide (i=j) else decide (i=j))) H
 |.non,.non=>Q (.bl (if neg then false else true)) H
 |.tup xs,.tup ys=>xs.all (pl 20)=true/\ys.all (pl 20)=true/\Q (.bl (if neg then !decide (xs=ys) else decide (xs=ys))) H
 |.ref a,.ref b=>match H a,H b with
  |some (.lst xs),some (.lst ys)=>a≠b/\xs.all (pl 20)=true/\ys.all (pl 20)=true/\Q (.bl (if neg then !decide (xs=ys) else decide (xs=ys))) H
  |_,_=>False
 |_,_=>False
theorem iI (I:Inv X pins Z H s) {ts us:List T}{xs ys:List V}{its its':List Value}{A:Around}(hu:A.units+30<cLine) (px:ts.all (pl 20)=true) (py:us.all (pl 20)=true) (r:Reps X.K H ts xs) (r':Reps X.K H us ys) (rv1:Vals xs its) (rv2:Vals ys its') :
  ∀j (h1:j<its.toArray.size) (h2:j<its'.toArray.size),SeqAt.EqAt A.in1 s its.toArray[j] its'.toArray[j] (decide (ts[j]?=us[j]?)):=fun j h1 h2=>by
 have l1:=r.length;have l2:=r'.length;have l3:=rv1.length;have l4:=rv2.length;rw[List.size_toArray] at h1 h2;have g1:j<ts.length:=by omega
 have g2:j<us.length:=by omega
 obtain⟨p1,e1,q1⟩:=r.get (List.getElem?_eq_getElem g1);obtain⟨p2,e2,q2⟩:=r'.get (List.getElem?_eq_getElem g2);obtain⟨z1,f1,w1⟩:=rv1.get e1;obtain⟨z2,f2,w2⟩:=rv2.get e2;rw[Ef _ f1,Ef _ f2,List.getElem?_eq_getElem g1,List.getElem?_eq_getElem g2];rw[List.all_eq_true] at px py;have:=u6 I 20 A.in1 ts[j] us[j] p1 p2 z1 z2 (px _ (List.getElem_mem g1)) (py _ (List.getElem_mem g2)) q1 q2 w1 w2 (by rw[units_in1];omega);rw[show decide (some ts[j]=some us[j])=decide (ts[j]=us[j]) by by_cases h:ts[j]=us[j] <;> simp [h]];exact this
theorem iJ {ts us:List T}:((List.range (min ts.length us.length)).all (fun j=>decide (ts[j]?=us[j]?))&&ts.length==us.length)=decide (ts=us):=by
 rw[Bool.eq_iff_iff,j8,decide_eq_true_iff]
theorem dG (hu:X.A.units+30<cLine):dJ X (compareOp .Eq) (sY false):=by
 intro pins s Z H x y v u Q I rv ru h;obtain⟨tx,ty,H3,Q3,rx,ry,sh,h,k⟩:=h;have sc:∀{x y:V},ik x y=true->RelV x v->RelV y u->(k:Q (.bl (decide (x=y))) H)->wpAny (model X.prog X.w) X.A (compareOp .Eq v u) (EP X pins Z Q) X.xe s:=fun {x y} a r1 r2 q=>Py pins s Z H x y v u Q I r1 r2 ⟨a,q⟩;cases tx with
 |int i =>
  cases ty with
  |int j=>rw[rx.int] at rv;rw[ry.int] at ru;exact sc rfl rv ru (k _ _ _ _ .refl sh (by rw[show decide (V.int i=V.int j)=decide (i=j) by by_cases e:i=j <;> simp [e]];exact .ofBl) h)
  |_=>exact h.elim
 |str i =>
  cases ty with
  |str j=>rw[rx.str] at rv;rw[ry.str] at ru;exact sc rfl rv ru (k _ _ _ _ .refl sh (by rw[show decide (V.str i=V.str j)=decide (i=j) by by_cases e:i=j <;> simp [e]];exact .ofBl) h)
  |_=>exact h.elim
 |bl i =>
  cases ty with
  |bl j=>rw[rx.bl] at rv;rw[ry.bl] at ru;exact sc rfl rv ru (k _ _ _ _ .refl sh (by rw[show decide (V.bl i=V.bl j)=decide (i=j) by by_cases e:i=j <;> simp [e]];exact .ofBl) h)
  |_=>exact h.elim
 |non =>
  cases ty with
  |non=>rw[rx.non] at rv;rw[ry.non] at ru;exact sc rfl rv ru (k _ _ _ _ .refl sh (by rw[show decide (V.non=V.non)=true by simp];exact .ofBl) h)
  |_=>exact h.elim
 |tup ts =>
  cases ty with
  |tup us=>obtain⟨a,xs,rfl,sq,r⟩:=rx.tup;obtain⟨b,ys,rfl,sq',r'⟩:=ry.tup;cases rv;cases ru;obtain⟨its,rv1,ht,_⟩:=I.tuple sq;obtain⟨its',rv2,ht',_⟩:=I.tuple sq';refine SeqAt.eq_tupleAt (e:=fun j=>decide (ts[j]?=us[j]?)) ht ht' (by omega) (iI I hu h.1 h.2.1 r r' rv1 rv2) ⟨.bl _,H,I,rfl,?_⟩;rw[List.size_toArray,List.size_toArray,<- rv1.length,<- rv2.length,<- r.length,<- r'.length,iJ];exact k _ _ _ _ .refl sh .ofBl h.2.2
  |_=>exact h.elim
 |ref a =>
  cases ty with
  |ref b =>
   have h':(match H3 a,H3 b with
    |some (.lst xs),some (.lst ys)=>a≠b/\xs.all (pl 20)=true/\ys.all (pl 20)=true/\Q3 (.bl (decide (xs=ys))) H3
    |_,_=>False):=h
   split at h'
   ·
    rename_i ts us e1 e2
    obtain⟨xs,g1,r⟩:=sh a _ e1
    obtain⟨ys,g2,r'⟩:=sh b _ e2
    cases rx.ref;cases ry.ref;cases rv;cases ru
    obtain⟨its,rv1,ht,_⟩:=I.list (X:=X) (.of g1)
    obtain⟨its',rv2,ht',_⟩:=I.list (X:=X) (.of g2)
    have hl:its.length=ts.length:=by rw[<- rv1.length,<- r.length]
    have hl':its'.length=us.length:=by rw[<- rv2.length,<- r'.length]
    by_cases hsz:ts.length=us.length
    ·
     refine SeqAt.eq_listAt (e:=fun j=>decide (ts[j]?=us[j]?)) ht.isList ht'.isList (by simp;omega) (by omega) (iI I hu h'.2.1 h'.2.2.1 r r' rv1 rv2) ⟨.bl _,H,I,rfl,?_⟩
     have e:=iJ (ts:=ts) (us:=us)
     rw[<- hsz,Nat.min_self,beq_self_eq_true,Bool.and_true] at e
     rw[List.size_toArray,hl,e]
     exact k _ _ _ _ .refl sh .ofBl h'.2.2.2
    ·
     refine SeqAt.eq_list_lengthsAt ht.isList ht'.isList (by simp;omega) (by omega) ⟨.bl false,H,I,rfl,?_⟩
     have e:decide (ts=us)=false:=decide_eq_false fun z=>hsz (by rw[z])
     have q:=h'.2.2.2
     rw[e] at q
     exact k _ _ _ _ .refl sh .ofBl q
   ·
    exact h'.elim
  |_=>exact h.elim
 |_=>exact h.elim
theorem j9 (hu:X.A.units+30<cLine):dJ X (compareOp .NotEq) (sY true):=by
 intro pins s Z H x y v u Q I rv ru h;obtain⟨tx,ty,H3,Q3,rx,ry,sh,h,k⟩:=h;have sc:∀{x y:V},ik x y=true->RelV x v->RelV y u->(k:Q (.bl (!decide (x=y))) H)->wpAny (model X.prog X.w) X.A (compareOp .NotEq v u) (EP X pins Z Q) X.xe s:=fun {x y} a r1 r2 q=>Pz pins s Z H x y v u Q I r1 r2 ⟨a,q⟩;cases tx with
 |int i =>
  cases ty with
  |int j=>rw[rx.int] at rv;rw[ry.int] at ru;exact sc rfl rv ru (k _ _ _ _ .refl sh (by rw[show decide (V.int i=V.int j)=decide (i=j) by by_cases e:i=j <;> simp [e]];exact .ofBl) h)
  |_=>exact h.elim
 |str i =>
  cases ty with
  |str j=>rw[rx.str] at rv;rw[ry.str] at ru;exact sc rfl rv ru (k _ _ _ _ .refl sh (by rw[show decide (V.str i=V.str j)=decide (i=j) by by_cases e:i=j <;> simp [e]];exact .ofBl) h)
  |_=>exact h.elim
 |bl i =>
  cases ty with
  |bl j=>rw[rx.bl] at rv;rw[ry.bl] at ru;exact sc rfl rv ru (k _ _ _ _ .refl sh (by rw[show decide (V.bl i=V.bl j)=decide (i=j) by by_cases e:i=j <;> simp [e]];exact .ofBl) h)
  |_=>exact h.elim
 |non =>
  cases ty with
  |non=>rw[rx.non] at rv;rw[ry.non] at ru;exact sc rfl rv ru (k _ _ _ _ .refl sh (by rw[show decide (V.non=V.non)=true by simp];exact .ofBl) h)
  |_=>exact h.elim
 |tup ts =>
  cases ty with
  |tup us=>obtain⟨a,xs,rfl,sq,r⟩:=rx.tup;obtain⟨b,ys,rfl,sq',r'⟩:=ry.tup;cases rv;cases ru;obtain⟨its,rv1,ht,_⟩:=I.tuple sq;obtain⟨its',rv2,ht',_⟩:=I.tuple sq';refine SeqAt.RcNeAt.tuples (e:=fun j=>decide (ts[j]?=us[j]?)) ht ht' (by omega) (iI I hu h.1 h.2.1 r r' rv1 rv2) _ _ _ _ ⟨.bl _,H,I,rfl,?_⟩;rw[List.size_toArray,List.size_toArray,<- rv1.length,<- rv2.length,<- r.length,<- r'.length,iJ];exact k _ _ _ _ .refl sh .ofBl h.2.2
  |_=>exact h.elim
 |ref a =>
  cases ty with
  |ref b =>
   have h':(match H3 a,H3 b with
    |some (.lst xs),some (.lst ys)=>a≠b/\xs.all (pl 20)=true/\ys.all (pl 20)=true/\Q3 (.bl (!decide (xs=ys))) H3
    |_,_=>False):=h
   split at h'
   ·
    rename_i ts us e1 e2
    obtain⟨xs,g1,r⟩:=sh a _ e1
    obtain⟨ys,g2,r'⟩:=sh b _ e2
    cases rx.ref;cases ry.ref;cases rv;cases ru
    obtain⟨its,rv1,ht,_⟩:=I.list (X:=X) (.of g1)
    obtain⟨its',rv2,ht',_⟩:=I.list (X:=X) (.of g2)
    have hl:its.length=ts.length:=by rw[<- rv1.length,<- r.length]
    have hl':its'.length=us.length:=by rw[<- rv2.length,<- r'.length]
    by_cases hsz:ts.length=us.length
    ·
     refine SeqAt.RcNeAt.lists (e:=fun j=>decide (ts[j]?=us[j]?)) ht.isList ht'.isList (by simp;omega) (by omega) (iI I hu h'.2.1 h'.2.2.1 r r' rv1 rv2) _ _ _ _ ⟨.bl _,H,I,rfl,?_⟩
     have e:=iJ (ts:=ts) (us:=us)
     rw[<- hsz,Nat.min_self,beq_self_eq_true,Bool.and_true] at e
     rw[List.size_toArray,hl,e]
     exact k _ _ _ _ .refl sh .ofBl h'.2.2.2
    ·
     refine SeqAt.RcNeAt.lists_lengths ht.isList ht'.isList (by simp;omega) (by omega) _ _ _ _ ⟨.bl true,H,I,rfl,?_⟩
     have e:decide (ts=us)=false:=decide_eq_false fun z=>hsz (by rw[z])
     have q:=h'.2.2.2
     rw[e] at q
     exact k _ _ _ _ .refl sh .ofBl q
   ·
    exact h'.elim
  |_=>exact h.elim
 |_=>exact h.elim
def du (neg:Bool) (x:T) (ts:List T):Bool:=if neg then !decide (x∈ts) else decide (x∈ts)
def occ (neg:Bool) (i j:Str):Bool:=if neg then !(!(Builtin.Str.occurrences j i 0 j.length 1).isEmpty) else !(Builtin.Str.occurrences j i 0 j.length 1).isEmpty
def sZ (neg:Bool):R3:=fun x y H Q=>match y with
 |.tup ts=>pl 20 x=true/\ts.all (pl 20)=true/\Q (.bl (du neg x ts)) H
 |.ref a=>match H a with
  |some (.lst ts)=>pl 20 x=true/\ts.all (pl 20)=true/\Q (.bl (du neg x ts)) H
  |some (.rol ts)=>pl 20 x=true/\ts.all (pl 20)=true/\Q (.bl (du neg x ts)) H
  |_=>False
 |.str j=>match x with
  |.str i=>Q (.bl (occ neg i j)) H
  |_=>False
 |_=>False
theorem oA (I:Inv X pins Z H s) {x:T}{ts:List T}{xs:List V}{its:List Value}(px:pl 20 x=true) (pts:ts.all (pl 20)=true) (r:Reps X.K H ts xs) (rv:Vals xs its) (A:Around) (hu:A.units+30<cLine) {vx:V}{u:Value}(rx:Rep X.K H x vx) (ru:RelV vx u) :
  ∃e:Value->Bool,(∀y,y∈its->SeqAt.EqAt A s y u (e y))/\its.any e=decide (x∈ts):=by
 rw[List.all_eq_true] at pts;have own:∀y,y∈its->∃t v,t∈ts/\Rep X.K H t v/\RelV v y:=fun y hy=>by
  obtain⟨i,hi,e⟩:=List.mem_iff_getElem.mp hy;have hl:=rv.length;have e':its[i]?=some y:=by rw[List.getElem?_eq_getElem hi,e]
  have hx:xs[i]?=some xs[i]:=List.getElem?_eq_getElem (by omega);obtain⟨z,ez,rz⟩:=rv.get hx;rw[e'] at ez;cases ez;obtain⟨t,et,rt⟩:=r.get' hx;exact⟨t,_,List.mem_of_getElem? et,rt,rz⟩
 have dec:∀t v y,t∈ts->Rep X.K H t v->RelV v y->(@decide (∃v,RelV v y/\Rep X.K H x v) (Classical.propDecidable _)=true↔t=x):=fun t v y ht rt ry=>by
  rw[@decide_eq_true_iff _ (Classical.propDecidable _)];constructor
  ·rintro⟨v',r1,r2⟩;cases r1.inj ry;exact u5 I 20 t x _ (pts t ht) px rt r2
  rintro rfl;exact⟨v,ry,rt⟩
 refine⟨fun y=>@decide (∃v,RelV v y/\Rep X.K H x v) (Classical.propDecidable _),fun y hy=>?_,?_⟩
 ·obtain⟨t,v,ht,rt,ry⟩:=own y hy;have q:=u6 I 20 A t x v vx y u (pts t ht) px rt rx ry ru (by omega);have e:@decide (∃v,RelV v y/\Rep X.K H x v) (Classical.propDecidable _)=decide (t=x):=by rw[Bool.eq_iff_iff,dec t v y ht rt ry,decide_eq_true_iff]
  show SeqAt.EqAt A s y u (@decide (∃v,RelV v y/\Rep X.K H x v) (Classical.propDecidable _));rw[e];exact q
 rw[Bool.eq_iff_iff,List.any_eq_true,decide_eq_true_iff];constructor
 ·rintro⟨y,hy,e⟩;obtain⟨t,v,ht,rt,ry⟩:=own y hy;rw[<- (dec t v y ht rt ry).mp e];exact ht
 intro hx;obtain⟨i,hi,e⟩:=List.mem_iff_getElem.mp hx;obtain⟨v,ev,rvv⟩:=r.get (show ts[i]?=some x by rw[List.getElem?_eq_getElem hi,e]);obtain⟨y,ey,ry⟩:=rv.get ev;exact⟨y,List.mem_of_getElem? ey,(dec x v y hx rvv ry).mpr rfl⟩
theorem mV (hu:X.A.units+31<cLine):dJ X (compareOp .In) (sZ false):=by
 intro pins s Z H x y v u Q I rv ru h;obtain⟨tx,ty,H3,Q3,rx,ry,sh,h,k⟩:=h;have hu':X.A.in1.units+30<cLine:=by rw[units_in1];omega
 have lst:∀{a:Addr} {ts:List T} {xs:List V},SqL X.K H a xs->Reps X.K H ts xs->u=.ref a->pl 20 tx=true->ts.all (pl 20)=true->Q3 (.bl (du false tx ts)) H3->wpAny (model X.prog X.w) X.A (compareOp .In v u) (EP X pins Z Q) X.xe s:=by intro a ts xs sq r e p1 p2 q;subst e;obtain⟨its,rvs,ht,_⟩:=I.list sq;obtain⟨e,he,ea⟩:=oA I p1 p2 r rvs X.A.in1 hu' rx rv;refine SeqAt.in_listAt e ht.isList (fun y hy=>he y (by simpa using hy)) ⟨.bl _,H,I,rfl,?_⟩;rw[show its.toArray.any e=its.any e by simp,ea];exact k _ _ _ _ .refl sh .ofBl q
 cases ty with
 |tup ts=>obtain⟨a,xs,rfl,sq,r⟩:=ry.tup;cases ru;obtain⟨its,rvs,ht,_⟩:=I.tuple sq;obtain⟨e,he,ea⟩:=oA I h.1 h.2.1 r rvs X.A.in1 hu' rx rv;refine SeqAt.in_tupleAt e ht (fun y hy=>he y (by simpa using hy)) ⟨.bl _,H,I,rfl,?_⟩;rw[show its.toArray.any e=its.any e by simp,ea];exact k _ _ _ _ .refl sh .ofBl h.2.2
 |ref a =>
  have h':(match H3 a with
   |some (.lst ts)=>pl 20 tx=true/\ts.all (pl 20)=true/\Q3 (.bl (du false tx ts)) H3
   |some (.rol ts)=>pl 20 tx=true/\ts.all (pl 20)=true/\Q3 (.bl (du false tx ts)) H3
   |_=>False):=h
  rw[ry.ref] at ru
  split at h'
  ·
   rename_i ts e
   obtain⟨xs,sq,r⟩:=sh.sqL (.inl e)
   exact lst sq r ru h'.1 h'.2.1 h'.2.2
  ·
   rename_i ts e
   obtain⟨xs,sq,r⟩:=sh.sqL (.inr e)
   exact lst sq r ru h'.1 h'.2.1 h'.2.2
  ·
   exact h'.elim
 |str j =>
  cases tx with
  |str i=>exact wJ pins s Z H x y v u Q I rv ru ⟨i,j,rx.str,ry.str,k _ _ _ _ .refl sh .ofBl h⟩
  |_=>exact h.elim
 |_=>exact h.elim
theorem ql (hu:X.A.units+31<cLine):dJ X (compareOp .NotIn) (sZ true):=by
 intro pins s Z H x y v u Q I rv ru h;obtain⟨tx,ty,H3,Q3,rx,ry,sh,h,k⟩:=h;have hu':X.A.in1.units+30<cLine:=by rw[units_in1];omega
 have lst:∀{a:Addr} {ts:List T} {xs:List V},SqL X.K H a xs->Reps X.K H ts xs->u=.ref a->pl 20 tx=true->ts.all (pl 20)=true->Q3 (.bl (du true tx ts)) H3->wpAny (model X.prog X.w) X.A (compareOp .NotIn v u) (EP X pins Z Q) X.xe s:=by intro a ts xs sq r e p1 p2 q;subst e;obtain⟨its,rvs,ht,_⟩:=I.list sq;obtain⟨e,he,ea⟩:=oA I p1 p2 r rvs X.A.in1 hu' rx rv;refine SeqAt.notIn_listAt e ht.isList (fun y hy=>he y (by simpa using hy)) ⟨.bl _,H,I,rfl,?_⟩;rw[show its.toArray.any e=its.any e by simp,ea];exact k _ _ _ _ .refl sh .ofBl q
 cases ty with
 |tup ts=>obtain⟨a,xs,rfl,sq,r⟩:=ry.tup;cases ru;obtain⟨its,rvs,ht,_⟩:=I.tuple sq;obtain⟨e,he,ea⟩:=oA I h.1 h.2.1 r rvs X.A.in1 hu' rx rv;refine SeqAt.notIn_tupleAt e ht (fun y hy=>he y (by simpa using hy)) ⟨.bl _,H,I,rfl,?_⟩;rw[show its.toArray.any e=its.any e by simp,ea];exact k _ _ _ _ .refl sh .ofBl h.2.2
 |ref a =>
  have h':(match H3 a with
   |some (.lst ts)=>pl 20 tx=true/\ts.all (pl 20)=true/\Q3 (.bl (du true tx ts)) H3
   |some (.rol ts)=>pl 20 tx=true/\ts.all (pl 20)=true/\Q3 (.bl (du true tx ts)) H3
   |_=>False):=h
  rw[ry.ref] at ru
  split at h'
  ·
   rename_i ts e
   obtain⟨xs,sq,r⟩:=sh.sqL (.inl e)
   exact lst sq r ru h'.1 h'.2.1 h'.2.2
  ·
   rename_i ts e
   obtain⟨xs,sq,r⟩:=sh.sqL (.inr e)
   exact lst sq r ru h'.1 h'.2.1 h'.2.2
  ·
   exact h'.elim
 |str j =>
  cases tx with
  |str i=>exact nM pins s Z H x y v u Q I rv ru ⟨i,j,rx.str,ry.str,k _ _ _ _ .refl sh .ofBl h⟩
  |_=>exact h.elim
 |_=>exact h.elim
def oq {α:Type}(o:Option α) (Q:α->Prop):Prop:=match o with
 |some v=>Q v
 |none=>False
def qm:R3:=fun x y H Q=>match x,y with
 |.ref a,.int i=>match H a with
  |some (.lst ts)=>oq (atI ts i) fun t=>Q t H
  |some (.rol ts)=>oq (atI ts i) fun t=>Q t H
  |_=>False
 |.tup ts,.int i=>oq (atI ts i) fun t=>Q t H
 |.str z,.int i=>z.length<=sizeLine/\oq (atI z.cps.toList i) fun c=>Q (.str ⟨#[c]⟩) H
 |_,_=>False
theorem vd {K:Frag}{H:Hp}{ts:List T}{xs:List V}{i:Int}{t:T}(r:Reps K H ts xs) (h:atI ts i=some t):∃v,atI xs i=some v/\Rep K H t v:=by
 unfold atI at h ⊢;rw[<- r.length];cases e:ixN ts.length i with
 |none=>rw[e] at h;cases h
 |some j =>
 rw[e] at h;exact r.get h
theorem ix3:Qq X qm:=by
 refine IxR.imp J7 ?_;rintro x y H Q ⟨tx,ty,H3,Q3,rx,ry,sh,h,k⟩;have lst:∀{a:Addr} {ts:List T} {xs:List V} {i:Int},SqL X.K H a xs->Reps X.K H ts xs->x=.ref a->y=.int i->oq (atI ts i) (fun t=>Q3 t H3)->rIx X.K x y H Q:=by
  intro a ts xs i sq r e1 e2 q;cases e:atI ts i with
  |none=>rw[e] at q;exact q.elim
  |some t =>
  rw[e] at q;obtain⟨v,ev,rv⟩:=vd r e;exact .inl ⟨a,xs,i,v,e1,e2,sq,ev,k _ _ _ _ .refl sh rv q⟩
 cases tx with
 |ref a =>
  cases ty with
  |int i =>
   have h':(match H3 a with
    |some (.lst ts)=>oq (atI ts i) fun t=>Q3 t H3
    |some (.rol ts)=>oq (atI ts i) fun t=>Q3 t H3
    |_=>False):=h
   split at h'
   ·
    rename_i ts e
    obtain⟨xs,sq,r⟩:=sh.sqL (.inl e)
    exact lst sq r rx.ref ry.int h'
   ·
    rename_i ts e
    obtain⟨xs,sq,r⟩:=sh.sqL (.inr e)
    exact lst sq r rx.ref ry.int h'
   ·
    exact h'.elim
  |_=>exact h.elim
 |tup ts =>
  cases ty with
  |int i =>
   have h':oq (atI ts i) fun t=>Q3 t H3:=h
   cases e:atI ts i with
   |none=>rw[e] at h';exact h'.elim
   |some t =>
    rw[e] at h'
    obtain⟨a,xs,e1,sq,r⟩:=rx.tup
    obtain⟨v,ev,rv⟩:=vd r e
    exact .inr (.inl ⟨a,xs,i,v,e1,ry.int,sq,ev,k _ _ _ _ .refl sh rv h'⟩)
  |_=>exact h.elim
 |str z =>
  cases ty with
  |int i =>
   have h':z.length<=sizeLine/\oq (atI z.cps.toList i) fun c=>Q3 (.str ⟨#[c]⟩) H3:=h
   cases e:atI z.cps.toList i with
   |none=>rw[e] at h';exact h'.2.elim
   |some c =>
    rw[e] at h'
    exact .inr (.inr ⟨z,i,c,rx.str,ry.int,h'.1,e,k _ _ _ _ .refl sh .ofStr h'.2⟩)
  |_=>exact h.elim
 |_=>exact h.elim
def yW:qd:=fun o i v H Q=>match o,i with
 |.ref a,.int k=>match H a with
  |some (.lst ts)=>oq (ixN ts.length k) fun j=>Q (up3 H a (.lst (ts.set j v)))
  |_=>False
 |_,_=>False
theorem SimH.wrL {K:Frag}{H:Hp}{H3:Hp3}{a:Addr}{xs:List V}{ts:List T}{xs':List V}(s:SimH K H3 H) (hH:H a=some (.lst xs)) (r:Reps K H ts xs'):SimH K (up3 H3 a (.lst ts)) (upd H a (.lst xs')):=fun b o e=>by
 have le:TupLe K H (upd H a (.lst xs')):=bN (by rw[hH];exact trivial);by_cases hb:b=a
 ·subst hb;rw[aq] at e;cases e;exact⟨xs',bJ,r.mono le⟩
 rw[aC hb] at e;exact (s b o e).stay le fun u q=>by rw[aN hb];exact q
theorem mW:Hy X yW:=by
 refine PSet.imp set_list ?_;rintro o i v H Q ⟨to,ti,tv,H3,Q3,ro,ri,rv,sh,h,k⟩;cases to with
 |ref a =>
  cases ti with
  |int n =>
   have h':(match H3 a with
    |some (.lst ts)=>oq (ixN ts.length n) fun j=>Q3 (up3 H3 a (.lst (ts.set j tv)))
    |_=>False):=h
   split at h'
   ·
    rename_i ts e
    obtain⟨xs,hH,r⟩:=sh a _ e
    cases ej:ixN ts.length n with
    |none=>rw[ej] at h';exact h'.elim
    |some j =>
     rw[ej] at h'
     exact⟨a,xs,n,j,ro.ref,ri.int,hH,by rw[<- r.length];exact ej,k _ _ (bN (by rw[hH];exact trivial)) (sh.wrL hH (r.set j rv)) h'⟩
   ·
    exact h'.elim
  |_=>exact h.elim
 |_=>exact h.elim
abbrev TO3:=St3->Hp3->(Option Int->Hp3->Prop)->Prop
def U4 (K:Frag) (t3:TO3):TO:=fun Z H Q=>∃Z3 H3 Q3,SimS K H Z3 Z/\SimH K H3 H/\t3 Z3 H3 Q3/\∀o H' H3',TupLe K H H'->SimH K H3' H'->Q3 o H3'->Q o H'
def PO3 (X:Cx) (e:Option Expr) (t:TO3):Prop:=PO X e (U4 X.K t)
theorem PO.imp {e:Option Expr}{t t':TO}(h:PO X e t) (w:∀Z H Q,t' Z H Q->t Z H Q):PO X e t':=fun pins s Z H Q I q=>h pins s Z H Q I (w Z H Q q)
def qp:TO3:=fun _ H Q=>Q none H
def yX (t:TE3):TO3:=fun Z H Q=>t Z H fun x H1=>match x with
 |.int i=>Q (some i) H1
 |_=>False
theorem iK:PO3 X none qp:=by
 refine PO.imp Du ?_;rintro Z H Q ⟨Z3,H3,Q3,ss,sh,h,k⟩;exact k _ _ _ .refl sh h
theorem iM {e:Expr}{te:TE3}(h:PE3 X e te):PO3 X (some e) (yX te):=by
 refine PO.imp (Dv h) ?_;rintro Z H Q ⟨Z3,H3,Q3,ss,sh,h,k⟩;refine⟨Z3,H3,_,ss,sh,h,fun v H' t H3' le sh' r q=>?_⟩;cases t with
 |int i=>exact⟨i,r.int,k _ _ _ le sh' q⟩
 |_=>exact q.elim
theorem Km:SlR X (fun x lo hi H Q=>∃z,x=.str z/\z.length<=sizeLine/\Q (.str (Txt.slice z lo hi)) H):=by
 intro pins s Z H x v vl vu lo hi sl Q I rx hs pl pu h;obtain⟨z,rfl,hz,q⟩:=h;obtain⟨t,rfl⟩:=rx;refine⟨"str",_,F.slot_str_getitem.lookup,typeIs_str _ _ _,?_⟩;obtain⟨o,e,c,d⟩:=hs;have fin:∀(t':Tok) (k:Nat),EP X pins Z Q (.str (Txt.slice z lo hi) t') { s with toks:=k}:=fun t' k=>⟨.str _,H,I.tok k,⟨t',rfl⟩,q⟩;cases pl with
 |none =>
  cases pu with
  |none=>exact wpAny_getItem_str_slice (l:=none) (u:=none) (st:=none) ⟨o,e,c,d⟩ rfl (post_val_or_str ⟨Nat.le_trans (Txt.slice_le z _ _) hz,fin⟩)
  |int j uj=>exact wpAny_getItem_str_slice (l:=none) (u:=some (j,uj)) (st:=none) ⟨o,e,c,d⟩ rfl (post_val_or_str ⟨Nat.le_trans (Txt.slice_le z _ _) hz,fin⟩)
 |int i ui =>
 cases pu with
 |none=>exact wpAny_getItem_str_slice (l:=some (i,ui)) (u:=none) (st:=none) ⟨o,e,c,d⟩ rfl (post_val_or_str ⟨Nat.le_trans (Txt.slice_le z _ _) hz,fin⟩)
 |int j uj=>exact wpAny_getItem_str_slice (l:=some (i,ui)) (u:=some (j,uj)) (st:=none) ⟨o,e,c,d⟩ rfl (post_val_or_str ⟨Nat.le_trans (Txt.slice_le z _ _) hz,fin⟩)
def gU (ts:List T) (lo hi:Option Int):List T:=(ts.drop (HT.sIx ts.length 0 lo)).take (HT.sIx ts.length ts.length hi - HT.sIx ts.length 0 lo)
def Eh:T->Option Int->Option Int->Hp3->VK3->Prop:=fun x lo hi H Q=>match x with
 |.ref a=>match H a with
  |some (.lst ts)=>∀p,H p=none->Q (.ref p) (up3 H p (.lst (gU ts lo hi)))
  |some (.rol ts)=>∀p,H p=none->Q (.ref p) (up3 H p (.lst (gU ts lo hi)))
  |_=>False
 |.tup ts=>¬(HT.sIx ts.length 0 lo=0/\HT.sIx ts.length ts.length hi=ts.length)/\Q (.tup (gU ts lo hi)) H
 |.str z=>z.length<=sizeLine/\Q (.str (Txt.slice z lo hi)) H
 |_=>False
def Qu (te:TE3) (tl th:TO3):TE3:=fun Z H Q=>te Z H fun x H1=>tl Z H1 fun l H2=>th Z H2 fun u H3=>Eh x l u H3 Q
theorem oE {K:Frag}{H:Hp}{ts:List T}{xs:List V}(r:Reps K H ts xs) (lo hi:Option Int):Reps K H (gU ts lo hi) (pM xs lo hi):=by
 unfold gU pM;rw[<- r.length];exact (r.drop _).take _
theorem iQ {e:Expr}{lo hi:Option Expr}{te:TE3}{tl th:TO3}{p2 pos:Pos}(he:PE3 X e te) (hl:PO3 X lo tl) (hu:PO3 X hi th):PE3 X (.Subscript e (.Slice lo hi none p2) pos) (Qu te tl th):=by
 refine PE.imp (yr (sl_list.or (sl_tup.or Km)) he hl hu) ?_;rintro Z H Q ⟨Z3,H3,Q3,ss,sh,h,k⟩;refine⟨Z3,H3,_,ss,sh,h,fun x H1 tx H31 le1 sh1 rx q1=>⟨Z3,H31,_,ss.mono le1,sh1,q1,fun l H2 H32 le2 sh2 q2=>⟨Z3,H32,_,ss.mono (le1.trans le2),sh2,q2,fun u H4 H34 le4 sh4 q4=>?_⟩⟩⟩;have k':=k.at (le1.trans (le2.trans le4));have rx':=rx.mono (le2.trans le4);cases tx with
 |ref a =>
  have h':(match H34 a with
   |some (.lst ts)=>∀p,H34 p=none->Q3 (.ref p) (up3 H34 p (.lst (gU ts l u)))
   |some (.rol ts)=>∀p,H34 p=none->Q3 (.ref p) (up3 H34 p (.lst (gU ts l u)))
   |_=>False):=q4
  split at h'
  ·
   rename_i ts e
   obtain⟨xs,sq,r⟩:=sh4.sqL (.inl e)
   exact .inl ⟨a,xs,rx'.ref,sq,fun p hp=>k' _ _ _ _ (aJ hp) (sh4.newLst hp (oE r l u)) .ofRef (h' p (sh4.fresh hp))⟩
  ·
   rename_i ts e
   obtain⟨xs,sq,r⟩:=sh4.sqL (.inr e)
   exact .inl ⟨a,xs,rx'.ref,sq,fun p hp=>k' _ _ _ _ (aJ hp) (sh4.newLst hp (oE r l u)) .ofRef (h' p (sh4.fresh hp))⟩
  ·
   exact h'.elim
 |tup ts=>obtain⟨a,xs,rfl,sq,r⟩:=rx'.tup;refine .inr (.inl ⟨a,xs,rfl,sq,by rw[<- r.length];exact q4.1,fun p hp=>k' _ _ _ _ (aJ hp) (sh4.new hp) (SimH.newTup (H3:=H34) hp (oE r l u)) q4.2⟩)
 |str z=>exact .inr (.inr ⟨z,rx'.str,q4.1,k' _ _ _ _ .refl sh4 .ofStr q4.2⟩)
 |_=>exact q4.elim
def aL (k:Str):List (Str × T)->Option T
 |[]=>none
 | (k',v)::r=>if k'=k then some v else aL k r
def put3 (k:Str) (v:T) (kvs:List (Str × T)):List (Str × T) :=
 if (kvs.any fun kv=>decide (kv.1=k))=true then kvs.map (fun kv=>if kv.1=k then (kv.1,v) else kv) else kvs++[(k,v)]
def r3D:R3:=fun x y H Q=>match x,y with
 |.ref a,.str k=>match H a with
  |some (.dct kvs)=>oq (aL k kvs) fun t=>Q t H
  |_=>False
 |_,_=>False
theorem qt {K:Frag}{H:Hp}{k:Str}:∀{kvs:List (Str × T)}{vs:List (Key × V)}{t:T},RepD K H kvs vs->aL k kvs=some t->∃v,dW vs (Sum.inr k:Key)=some v/\Rep K H t v
 |[],_,_,_,e=>by cases e
 | (k',t')::r,_,t,.cons (b:=(kk,v')) ⟨e1,rv⟩ rr,e=>by
  simp only at e1 rv
  subst e1
  unfold aL at e
  by_cases hk:k'=k
  ·
   rw[if_pos hk] at e
   cases e
   exact⟨v',by rw[dX (by rw[hk])],rv⟩
  ·
   rw[if_neg hk] at e
   obtain⟨v,ev,q⟩:=qt rr e
   exact⟨v,by rw[dY (by intro z;exact hk (Sum.inr.inj z))];exact ev,q⟩
theorem fV {o i:Expr}{to ti:TE3}{pos:Pos}(hu:X.A.units+1<cLine) (ho:PE3 X o to) (hi:PE3 X i ti) (hs:Dz i:=by exact fun _ _=>rfl):PE3 X (.Subscript o i pos) (p7 r3D to ti):=by
 refine PE.imp (uP hu ho hi hs) ?_;rintro Z H Q ⟨Z3,H3,Q3,ss,sh,h,k⟩;refine⟨Z3,H3,_,ss,sh,h,fun x H1 tx H31 le1 sh1 rx q1=>⟨Z3,H31,_,ss.mono le1,sh1,q1,fun y H2 ty H32 le2 sh2 ry q2=>?_⟩⟩;cases tx with
 |ref a =>
  cases ty with
  |str key =>
   have h':(match H32 a with
    |some (.dct kvs)=>oq (aL key kvs) fun t=>Q3 t H32
    |_=>False):=q2
   split at h'
   ·
    rename_i kvs e
    obtain⟨vs,hH,r⟩:=sh2 a _ e
    cases el:aL key kvs with
    |none=>rw[el] at h';exact h'.elim
    |some t =>
     rw[el] at h'
     obtain⟨v,ev,rv⟩:=qt r el
     refine⟨a,v,rx.ref,?_,k.at (le1.trans le2) _ _ _ _ .refl sh2 rv h'⟩
     rw[ry.str,<- ev]
     exact DGet.k (k:=Sum.inr key) hH
   ·
    exact h'.elim
  |_=>exact q2.elim
 |_=>exact q2.elim
def yZ (td ty tv:TE3):TS3:=fun D Z H=>tv Z H fun v H1=>td Z H1 fun x H2=>ty Z H2 fun y H3=>match x,y with
 |.ref a,.str k=>match H3 a with
  |some (.dct kvs)=>kvs.length<sizeLine/\D.nx Z (up3 H3 a (.dct (put3 k v kvs)))
  |_=>False
 |_,_=>False
theorem Ei {K:Frag}{H:Hp}{k:Str}{t:T}{v:V}(rv:Rep K H t v) {kvs:List (Str × T)}{vs:List (Key × V)}(r:RepD K H kvs vs):RepD K H (put3 k t kvs) (putK vs (Sum.inr k:Key) v):=by
 have e:∀{kvs:List (Str × T)} {vs:List (Key × V)},RepD K H kvs vs->(kvs.any fun kv=>decide (kv.1=k))=(vs.any fun kv=>decide (kv.1=(Sum.inr k:Key)))/\RepD K H (kvs.map (fun kv=>if kv.1=k then (kv.1,t) else kv)) (vs.map (fun kv=>if kv.1=(Sum.inr k:Key) then (kv.1,v) else kv)):=by
  intro kvs;induction kvs with
  |nil=>intro vs r;cases r;exact⟨rfl,.nil⟩
  |cons p l ih =>
  intro vs r;cases r with
  |cons q rr =>
  rename_i b l2;obtain⟨e1,e2⟩:=ih rr;obtain⟨q1,q2⟩:=q;obtain⟨bk,bv⟩:=b;simp only at q1 q2;subst q1;by_cases hk:p.1=k
  ·refine⟨by simp [hk],?_⟩;simp only[List.map_cons,hk,if_true];exact .cons ⟨rfl,rv⟩ e2
  have hk':¬(Sum.inr p.1:Key)=Sum.inr k:=fun z=>hk (Sum.inr.inj z);refine⟨by simp only[List.any_cons,hk,hk',decide_false,Bool.false_or];exact e1,?_⟩;simp only[List.map_cons,hk,hk',if_false];exact .cons ⟨rfl,q2⟩ e2
 obtain⟨e1,e2⟩:=e r;unfold put3 putK;rw[e1];split
 ·exact e2
 have app:∀{a:List (Str × T)} {b:List (Key × V)},RepD K H a b->RepD K H (a++[(k,t)]) (b++[((Sum.inr k:Key),v)]):=fun h=>Paired.snoc h ⟨rfl,rv⟩;exact app r
theorem SimH.wrD {K:Frag}{H:Hp}{H3:Hp3}{a:Addr}{kv:List (Key × V)}{kvs:List (Str × T)}{kv':List (Key × V)}(s:SimH K H3 H) (hH:H a=some (.dK kv)) (r:RepD K H kvs kv'):SimH K (up3 H3 a (.dct kvs)) (upd H a (.dK kv')):=fun b o e=>by
 have le:TupLe K H (upd H a (.dK kv')):=bN (by rw[hH];exact trivial);by_cases hb:b=a
 ·subst hb;rw[aq] at e;cases e;exact⟨kv',bJ,r.mono le⟩
 rw[aC hb] at e;exact (s b o e).stay le fun u q=>by rw[aN hb];exact q
theorem vf {o i value:Expr}{td ty tv:TE3}{pos pos':Pos}(hu:X.A.units+1<cLine) (ho:PE3 X o td) (hi:PE3 X i ty) (hv:PE3 X value tv) (hs:swapsWith value (some (.Subscript o i pos')) pos.line X.env=pure false:=by rfl) :
  PS3 X (.Assign [.Subscript o i pos'] value pos) (yZ td ty tv):=by
 refine PS.imp (DN hu ho hi hv hs) ?_;rintro D Z H ⟨Z3,H3,D3,ss,sh,h,k1,_⟩;refine⟨Z3,H3,_,ss,sh,h,fun v H1 tv H31 le1 sh1 rv q1=>⟨Z3,H31,_,ss.mono le1,sh1,q1,fun x H2 tx H32 le2 sh2 rx q2=>⟨Z3,H32,_,ss.mono (le1.trans le2),sh2,q2,fun y H4 ty H34 le4 sh4 ry q4=>?_⟩⟩⟩;cases tx with
 |ref a =>
  cases ty with
  |str key =>
   have h':(match H34 a with
    |some (.dct kvs)=>kvs.length<sizeLine/\D3.nx Z3 (up3 H34 a (.dct (put3 key tv kvs)))
    |_=>False):=q4
   split at h'
   ·
    rename_i kvs e
    obtain⟨vs,hH,r⟩:=sh4 a _ e
    have rvv:=rv.mono (le2.trans le4)
    have le5:TupLe X.K H4 (upd H4 a (.dK (putK vs (Sum.inr key:Key) v))):=bN (by rw[hH];exact trivial)
    refine⟨a,_,(rx.mono le4).ref,?_,k1 _ _ _ _ (le1.trans (le2.trans (le4.trans le5))) (ss.mono (le1.trans (le2.trans (le4.trans le5)))) (sh4.wrD hH (Ei rvv r)) h'.2⟩
    rw[ry.str]
    exact DPut.k (k:=Sum.inr key) hH (by rw[<- Paired.length r];exact h'.1)
   ·
    exact h'.elim
  |_=>exact q4.elim
 |_=>exact q4.elim
def za:List (Str × TE3)->St3->Hp3->(List (Str × T)->Hp3->Prop)->Prop
 |[],_,H,Q=>Q [] H
 | (k,tv)::r,Z,H,Q=>tv Z H fun y H2=>za r Z H2 fun ps H3=>Q ((k,y)::ps) H3
def U5 (kvs more:List (Str × T)):List (Str × T):=more.foldl (fun acc kv=>put3 kv.1 kv.2 acc) kvs
def Ko (trs:List (Str × TE3)):TE3:=fun Z H Q=>∀p,H p=none->za trs Z (up3 H p (.dct [])) fun ps H2=>H2 p=some (.dct [])/\ps.length<=15/\Q (.ref p) (up3 H2 p (.dct (U5 [] ps)))
variable {x:Str}{p pos:Pos}{e:Expr}{es:List Expr}{t:TA3}{id Ty:String}{r:List T->Hp3->VK3->Prop}
def Kp (r:List T->Hp3->VK3->Prop) (t:TA3):TE3:=fun Z H Q=>t Z H fun vs H1=>r vs H1 Q
theorem aO (hc:cV X (.builtin id) r) (hg:Gl X x) (hm:X.mg x=none) (hv:bootBuiltins x=some (.builtin id)) (ha:PA3 X (e::es) t) (hn:x≠"__name__":=by decide) (hdb:(x==("__debug__":Str))=false:=by decide)
  (he:starEach (e::es) X.env=(false,eval e X.env)::starEach es X.env:=by rfl) (hpl:(backTo pos (starEach es X.env)).any (·.1)=false:=by rfl):PE3 X (.Call (.Name x p) (e::es) [] pos) (Kp r t):=by
 refine PE.imp (yp hc hg hm hv ha hn hdb he hpl) ?_;rintro Z H Q ⟨Z3,H3,Q3,ss,sh,h,k⟩;exact⟨Z3,H3,_,ss,sh,h,fun vs H' ts H3' le sh' r q=>⟨ts,H3',Q3,r,sh',q,k.at le⟩⟩
theorem bL (hc:cV X (.type Ty) r) (hg:Gl X x) (hm:X.mg x=none) (hv:bootBuiltins x=some (.type Ty)) (ha:PA3 X (e::es) t) (hn:x≠"__name__":=by decide) (hdb:(x==("__debug__":Str))=false:=by decide)
  (he:starEach (e::es) X.env=(false,eval e X.env)::starEach es X.env:=by rfl) (hpl:(backTo pos (starEach es X.env)).any (·.1)=false:=by rfl):PE3 X (.Call (.Name x p) (e::es) [] pos) (Kp r t):=by
 refine PE.imp (wO hc hg hm hv ha hn hdb he hpl) ?_;rintro Z H Q ⟨Z3,H3,Q3,ss,sh,h,k⟩;exact⟨Z3,H3,_,ss,sh,h,fun vs H' ts H3' le sh' r q=>⟨ts,H3',Q3,r,sh',q,k.at le⟩⟩
theorem zb {n:String}(hg:Gl X x) (hm:X.mg x=none) (hv:bootBuiltins x=some (.type n)) (hn:x≠"__name__":=by decide) (hdb:(x==("__debug__":Str))=false:=by decide):PE3 X (.Name x pos) (tC3 (.ty n)):=by
 refine PE.imp (CV (v:=.ty n) hg hm hv rfl hn hdb) ?_;rintro Z H Q ⟨Z3,H3,Q3,ss,sh,h,k⟩;exact k _ _ _ H3 .refl sh .ofTy h
theorem Reps.one' {K:Frag}{H:Hp}{t:T}{vs:List V}(r:Reps K H [t] vs):∃v,vs=[v]/\Rep K H t v:=by
 obtain⟨v,_,rfl,a,b⟩:=r.inv;rw[b.inv0];exact⟨v,rfl,a⟩
theorem Reps.two' {K:Frag}{H:Hp}{t u:T}{vs:List V}(r:Reps K H [t,u] vs):∃v w,vs=[v,w]/\Rep K H t v/\Rep K H u w:=by
 obtain⟨v,_,rfl,a,b⟩:=r.inv;obtain⟨w,rfl,c⟩:=b.one';exact⟨v,w,rfl,a,c⟩
def vg:List T->Hp3->VK3->Prop:=fun ts H Q=>match ts with
 |[.ref a]=>match H a with
  |some (.lst xs)=>Q (.int xs.length) H
  |some (.rol xs)=>Q (.int xs.length) H
  |_=>False
 |[.tup xs]=>Q (.int xs.length) H
 |[.str z]=>z.length<=sizeLine/\Q (.int z.length) H
 |_=>False
theorem cC:cV X (.builtin "len") vg:=by
 refine CallR.imp (call_len_seq.or nQ) ?_;rintro xs H Q ⟨ts,H3,Q3,r,sh,h,k⟩
 match ts,h,r with
 |[.ref a],h,r =>
  obtain⟨v,rfl,rv⟩:=r.one';have h':(match H3 a with
   |some (.lst xs)=>Q3 (.int xs.length) H3
   |some (.rol xs)=>Q3 (.int xs.length) H3
   |_=>False):=h
  split at h'
  ·rename_i us e;obtain⟨ys,sq,rs⟩:=sh.sqL (.inl e);exact .inl ⟨a,ys,by rw[rv.ref],.inl sq,by rw[<- rs.length];exact k _ _ _ _ .refl sh .ofInt h'⟩
  ·rename_i us e;obtain⟨ys,sq,rs⟩:=sh.sqL (.inr e);exact .inl ⟨a,ys,by rw[rv.ref],.inl sq,by rw[<- rs.length];exact k _ _ _ _ .refl sh .ofInt h'⟩
  exact h'.elim
 |[.tup us],h,r=>obtain⟨v,rfl,rv⟩:=r.one';obtain⟨a,ys,rfl,sq,rs⟩:=rv.tup;exact .inl ⟨a,ys,rfl,.inr sq,by rw[<- rs.length];exact k _ _ _ _ .refl sh .ofInt h⟩
 |[.str z],h,r =>
 obtain⟨v,rfl,rv⟩:=r.one';exact .inr ⟨z,by rw[rv.str],h.1,k _ _ _ _ .refl sh .ofInt h.2⟩
def tu:List T->Hp3->VK3->Prop:=fun ts H Q=>match ts with
 |[.ref a]=>match H a with
  |some (.lst xs)=>∀p,H p=none->Q (.ref p) (up3 H p (.lst xs))
  |some (.rol xs)=>∀p,H p=none->Q (.ref p) (up3 H p (.lst xs))
  |_=>False
 |[.tup xs]=>∀p,H p=none->Q (.ref p) (up3 H p (.lst xs))
 |_=>False
theorem vh:cV X (.type "list") tu:=by
 refine CallR.imp nR ?_;rintro xs H Q ⟨ts,H3,Q3,r,sh,h,k⟩
 match ts,h,r with
 |[.ref a],h,r =>
  obtain⟨v,rfl,rv⟩:=r.one';have h':(match H3 a with
   |some (.lst xs)=>∀p,H3 p=none->Q3 (.ref p) (up3 H3 p (.lst xs))
   |some (.rol xs)=>∀p,H3 p=none->Q3 (.ref p) (up3 H3 p (.lst xs))
   |_=>False):=h
  split at h'
  ·rename_i us e;obtain⟨ys,sq,rs⟩:=sh.sqL (.inl e);exact⟨a,ys,by rw[rv.ref],.inl sq,fun l hl=>k _ _ _ _ (aJ hl) (sh.newLst hl rs) .ofRef (h' l (sh.fresh hl))⟩
  ·rename_i us e;obtain⟨ys,sq,rs⟩:=sh.sqL (.inr e);exact⟨a,ys,by rw[rv.ref],.inl sq,fun l hl=>k _ _ _ _ (aJ hl) (sh.newLst hl rs) .ofRef (h' l (sh.fresh hl))⟩
  exact h'.elim
 |[.tup us],h,r =>
 obtain⟨v,rfl,rv⟩:=r.one';obtain⟨a,ys,rfl,sq,rs⟩:=rv.tup;exact⟨a,ys,rfl,.inr sq,fun l hl=>k _ _ _ _ (aJ hl) (sh.newLst hl rs) .ofRef (h l (sh.fresh hl))⟩
def oF:List T->Hp3->VK3->Prop:=fun ts H Q=>match ts with
 |[.ref a]=>match H a with
  |some (.lst xs)=>Q (.tup xs) H
  |some (.rol xs)=>Q (.tup xs) H
  |_=>False
 |[.tup xs]=>Q (.tup xs) H
 |_=>False
theorem dh:cV X (.type "tuple") oF:=by
 refine CallR.imp lQ ?_;rintro xs H Q ⟨ts,H3,Q3,r,sh,h,k⟩
 match ts,h,r with
 |[.ref a],h,r =>
  obtain⟨v,rfl,rv⟩:=r.one';have h':(match H3 a with
   |some (.lst xs)=>Q3 (.tup xs) H3
   |some (.rol xs)=>Q3 (.tup xs) H3
   |_=>False):=h
  split at h'
  ·rename_i us e;obtain⟨ys,sq,rs⟩:=sh.sqL (.inl e);exact⟨a,ys,by rw[rv.ref],.inl ⟨sq,fun l hl=>k _ _ _ _ (aJ hl) (sh.new hl) (SimH.newTup (H3:=H3) hl rs) h'⟩⟩
  ·rename_i us e;obtain⟨ys,sq,rs⟩:=sh.sqL (.inr e);exact⟨a,ys,by rw[rv.ref],.inl ⟨sq,fun l hl=>k _ _ _ _ (aJ hl) (sh.new hl) (SimH.newTup (H3:=H3) hl rs) h'⟩⟩
  exact h'.elim
 |[.tup us],h,r =>
 obtain⟨v,rfl,rv⟩:=r.one';obtain⟨a,ys,rfl,sq,rs⟩:=rv.tup;exact⟨a,ys,rfl,.inr ⟨sq,k _ _ _ _ .refl sh (.ofTup sq rs) h⟩⟩
def zc:List T->Hp3->VK3->Prop:=fun ts H Q=>match ts with
 |[.int i]=>Q (.int i) H
 |[.bl b]=>Q (.int (if b then 1 else 0)) H
 |_=>False
theorem Ej:cV X (.type "int") zc:=by
 refine CallR.imp wK ?_;rintro xs H Q ⟨ts,H3,Q3,r,sh,h,k⟩
 match ts,h,r with
 |[.int i],h,r=>obtain⟨v,rfl,rv⟩:=r.one';exact .inl ⟨i,by rw[rv.int],k _ _ _ _ .refl sh .ofInt h⟩
 |[.bl b],h,r =>
 obtain⟨v,rfl,rv⟩:=r.one';exact .inr ⟨b,by rw[rv.bl],k _ _ _ _ .refl sh .ofInt h⟩
def Qv:List T->Hp3->VK3->Prop:=fun ts H Q=>match ts with
 |[.int i]=>i.natAbs.log2<1920/\Q (.str (toString i)) H
 |_=>False
def ints3:List T->Option (List Int)
 |[]=>some []
 |.int i::r=>(ints3 r).map (i::·)
 |_=>none
theorem gK:∀(ns:List Int),ints3 (ns.map T.int)=some ns
 |[]=>rfl
 |n::r=>by simp [ints3,gK r]
theorem iw {K:Frag}{H:Hp}:∀{ts:List T}{xs:List V}{us:List Value}{ns:List Int},ints3 ts=some ns->Reps K H ts xs->Vals xs us->IntsAre us ns
 |[],xs,us,ns,e,r,v=>by
  cases e
  rw[r.inv0] at v
  cases v
  exact .nil
 |.int i::l,xs,us,ns,e,r,v=>by
  obtain⟨x,xr,rfl,rx,rr⟩:=r.inv
  cases v with
  |cons a b =>
   rw[rx.int] at a
   obtain⟨t,rfl⟩:=a
   cases hl:ints3 l with
   |none=>simp [ints3,hl] at e
   |some ms =>
    simp [ints3,hl] at e
    subst e
    exact .cons _ _ (iw hl rr b)
 |.non::_,_,_,_,e,_,_=>by simp [ints3] at e
 |.bl _::_,_,_,_,e,_,_=>by simp [ints3] at e
 |.str _::_,_,_,_,e,_,_=>by simp [ints3] at e
 |.tup _::_,_,_,_,e,_,_=>by simp [ints3] at e
 |.ref _::_,_,_,_,e,_,_=>by simp [ints3] at e
 |.ty _::_,_,_,_,e,_,_=>by simp [ints3] at e
def HN:List T->Hp3->VK3->Prop:=fun ts H Q=>match ts with
 |[.ref a]=>match H a with
  |some (.lst xs)=>oq (ints3 xs) fun ns=>Q (.int ns.sum) H
  |some (.rol xs)=>oq (ints3 xs) fun ns=>Q (.int ns.sum) H
  |_=>False
 |_=>False
theorem Kq (hc:X.calm=true):cV X (.builtin "sum") HN:=by
 intro pins s Z H xs us Q I rv h;obtain⟨ts,H3,Q3,r,sh,h,k⟩:=h
 match ts,h,r with
 |[.ref a],h,r =>
 obtain⟨v,rfl,rv'⟩:=r.one';obtain⟨u,rfl,ru⟩:=vals1 rv;rw[rv'.ref] at ru;cases ru;have main:∀{ls:List T} {ys:List V},SqL X.K H a ys->Reps X.K H ls ys->oq (ints3 ls) (fun ns=>Q3 (.int ns.sum) H3)->wpAny (model X.prog X.w) X.A (call (.builtin "sum") [.ref a]) (EP X pins Z Q) X.xe s:=by
  intro ls ys sq rs q;cases e:ints3 ls with
  |none=>rw[e] at q;exact q.elim
  |some ns =>
  rw[e] at q;obtain⟨its,rvs,hl,_⟩:=I.list sq;have hi:=iw e rs rvs;have hall:AllInts its.toArray:=hi.allInts;obtain⟨zs,ez⟩:=hall.items;have hls:s.heap.IsList a (intItems zs):=by rw[<- ez];exact hl.isList
  refine sum_intListG (I.ok.hd hc) hls fun h' tk t' hk=>?_;have es:preSum (numAt zs) zs.size=ns.sum:=by have e1:=nums_intItems zs;rw[<- ez,show its.toArray.toList=its from rfl,hi.numsOf] at e1;rw[preSum_eq,List.take_of_length_le (by simp),<- e1]
  rw[es];exact⟨.int ns.sum,H,I.kept hk,⟨t',rfl⟩,k _ _ _ _ .refl sh .ofInt q⟩
 have h':(match H3 a with
  |some (.lst xs)=>oq (ints3 xs) fun ns=>Q3 (.int ns.sum) H3
  |some (.rol xs)=>oq (ints3 xs) fun ns=>Q3 (.int ns.sum) H3
  |_=>False):=h
 split at h'
 ·rename_i ls e;obtain⟨ys,sq,rs⟩:=sh.sqL (.inl e);exact main sq rs h'
 ·rename_i ls e;obtain⟨ys,sq,rs⟩:=sh.sqL (.inr e);exact main sq rs h'
 exact h'.elim
def isT (n:String):T->Hp3->Option Bool:=fun x H=>match x with
 |.non=>some (n=="NoneType")
 |.bl _=>some (n=="bool"||n=="int")
 |.int _=>some (n=="int")
 |.str _=>some (n=="str")
 |.tup _=>some (n=="tuple")
 |.ref a=>match H a with
  |some (.lst _)=>some (n=="list")
  |some (.dct _)=>some (n=="dict")
  |_=>none
 |.ty _=>none
def kh:List T->Hp3->VK3->Prop:=fun ts H Q=>match ts with
 |[x,.ty n]=>(n="str"\/n="int"\/n="bool"\/n="tuple"\/n="list")/\oq (isT n x H) fun b=>Q (.bl b) H
 |_=>False
theorem iy (K:Frag) (a b:String) (ha:a="NoneType"\/a="bool"\/a="int"\/a="str"\/a="tuple"\/a="list"\/a="dict") (hb:b="str"\/b="int"\/b="bool"\/b="tuple"\/b="list") :
  kitOne K (.type a) (.type b)=some (a==b||(a=="bool"&&b=="int")):=by
 rcases ha with rfl | rfl | rfl | rfl | rfl | rfl | rfl <;> rcases hb with rfl | rfl | rfl | rfl | rfl <;> rfl
theorem tD:cV X (.builtin "isinstance") kh:=by
 intro pins s Z H xs us Q I rv h;obtain⟨ts,H3,Q3,r,sh,h,k⟩:=h
 match ts,h,r with
 |[x,.ty n],h,r =>
 obtain⟨v,w,rfl,r1,r2⟩:=r.two';obtain⟨u1,u2,rfl,q1,q2⟩:=vals2 rv;rw[r2.ty] at q2;cases q2;obtain⟨hn,h⟩:=h;have fin:∀{b:Bool},Q3 (.bl b) H3->∀tk,EP X pins Z Q (.bool b) { s with toks:=tk}:=fun q tk=>⟨.bl _,H,I.tok tk,rfl,k _ _ _ _ .refl sh .ofBl q⟩;cases x with
 |non=>exact dO I q1 (by rw[r1.non];exact .non) (iy X.K "NoneType" n (by simp) hn) (fin (by rcases hn with rfl | rfl | rfl | rfl | rfl <;> exact h))
 |bl b=>exact dO I q1 (by rw[r1.bl];exact .bl b) (iy X.K "bool" n (by simp) hn) (fin (by rcases hn with rfl | rfl | rfl | rfl | rfl <;> exact h))
 |int i=>exact dO I q1 (by rw[r1.int];exact .int i) (iy X.K "int" n (by simp) hn) (fin (by rcases hn with rfl | rfl | rfl | rfl | rfl <;> exact h))
 |str z=>exact dO I q1 (by rw[r1.str];exact .str z) (iy X.K "str" n (by simp) hn) (fin (by rcases hn with rfl | rfl | rfl | rfl | rfl <;> exact h))
 |tup us=>obtain⟨a,ys,rfl,sq,rs⟩:=r1.tup;cases q1;obtain⟨its,_,⟨o,h1,h2,_⟩,_⟩:=I.tuple sq;exact kia_one kitx_tuple I.kIn ⟨o,h1,h2⟩ (iy X.K "tuple" n (by simp) hn) (fun z=>nomatch z) (fin (by rcases hn with rfl | rfl | rfl | rfl | rfl <;> exact h))
 |ref a =>
  have h':oq (match H3 a with
   |some (.lst _)=>some (n=="list")
   |some (.dct _)=>some (n=="dict")
   |_=>none) fun b=>Q3 (.bl b) H3:=h
  rw[r1.ref] at q1
  cases e:H3 a with
  |none=>rw[e] at h';exact h'.elim
  |some o =>
   rw[e] at h'
   cases o with
   |lst ls =>
    obtain⟨zs,hH,_⟩:=sh a _ e
    exact dO I q1 (.lst hH) (iy X.K "list" n (by simp) hn) (fin (by rcases hn with rfl | rfl | rfl | rfl | rfl <;> exact h'))
   |dct ls =>
    obtain⟨zs,hH,_⟩:=sh a _ e
    exact dO I q1 (.dK hH) (iy X.K "dict" n (by simp) hn) (fin (by rcases hn with rfl | rfl | rfl | rfl | rfl <;> exact h'))
   |rol ls=>exact h'.elim
   |dcp ls=>exact h'.elim
   |exc _ _=>exact h'.elim
   |xdt _=>exact h'.elim
   |dci _=>exact h'.elim
   |dif _ _=>exact h'.elim
   |ins _ _=>exact h'.elim
 |ty m=>exact h.elim
variable {o:Expr}{to:TE3}{name:Str}{apos cpos:Pos}{m:T->List T->Hp3->VK3->Prop}
def ty3 (Ty:String):T->Hp3->Prop:=fun x H=>match x with
 |.str _=>Ty="str"
 |.tup _=>Ty="tuple"
 |.ref a=>Ty="list"/\match H a with
  |some (.lst _)=>True
  |some (.rol _)=>True
  |_=>False
 |_=>False
theorem HQ {K:Frag}{H:Hp}{H3:Hp3}{t:T}{v:V}(sh:SimH K H3 H) (r:Rep K H t v) (h:ty3 Ty t H3):tyV K Ty v H:=by
 cases t with
 |str z=>rw[r.str];exact h
 |tup ts=>obtain⟨a,xs,rfl,sq,_⟩:=r.tup;exact .inr (.inl ⟨h,xs,sq⟩)
 |ref a =>
  rw[r.ref];refine .inl ⟨h.1,?_⟩;have h2:=h.2;cases e:H3 a with
  |none=>rw[e] at h2;exact h2.elim
  |some o =>
  rw[e] at h2;cases o with
  |lst ts=>obtain⟨xs,sq,_⟩:=sh.sqL (.inl e);exact⟨xs,sq⟩
  |rol ts=>obtain⟨xs,sq,_⟩:=sh.sqL (.inr e);exact⟨xs,sq⟩
  |dct _=>exact h2.elim
  |dcp _=>exact h2.elim
  |exc _ _=>exact h2.elim
  |xdt _=>exact h2.elim
  |dci _=>exact h2.elim
  |dif _ _=>exact h2.elim
  |ins _ _=>exact h2.elim
 |_=>exact h.elim
def Qw (Ty:String) (m:T->List T->Hp3->VK3->Prop) (to:TE3) (t:TA3):TE3:=fun Z H Q=>to Z H fun x H1=>ty3 Ty x H1/\t Z H1 fun xs H2=>m x xs H2 Q
theorem d9 (pa:PlainAttrs Ty) (slot:Slot Ty name id) (hty:typeOf (.builtin id)=pure (.type "method_descriptor")) (hm:yG X id m) (ho:PE3 X o to) (ha:PA3 X (e::es) t)
  (hbase:attributeBase o name X.env (eval o X.env)=eval o X.env:=by rfl)
  (hfew:((backTo cpos (starEach (e::es) X.env)).all (fun x=>!x.1)&&(backToKw cpos (keywordEach [] X.env)).all (fun x=>x.1.isSome)
   && decide ((e::es).length+([]:List Keyword).length+(if ([]:List Keyword).isEmpty then 0 else 1)<30))=true:=by rfl)
  (hline:(apos.endLine==cpos.line)=true:=by rfl) (hs:starEach (e::es) X.env=(false,eval e X.env)::starEach es X.env:=by rfl) (hplain:(backTo cpos (starEach es X.env)).any (·.1)=false:=by rfl) :
  PE3 X (.Call (.Attribute o name apos) (e::es) [] cpos) (Qw Ty m to t):=by
 refine PE.imp (Qi pa slot hty hm ho ha hbase hfew hline hs hplain) ?_;rintro Z H Q ⟨Z3,H3,Q3,ss,sh,h,k⟩;exact⟨Z3,H3,_,ss,sh,h,fun x H1 tx H31 le1 sh1 rx q1=>⟨HQ sh1 rx q1.1,Z3,H31,_,ss.mono le1,sh1,q1.2,fun vs H2 ts H32 le2 sh2 rs q2=>⟨tx,ts,H32,Q3,rx.mono le2,rs,sh2,q2,k.at (le1.trans le2)⟩⟩⟩
def HR:T->List T->Hp3->VK3->Prop:=fun x ts H Q=>match x,ts with
 |.ref a,[t]=>match H a with
  |some (.lst xs)=>xs.length<sizeLine/\Q .non (up3 H a (.lst (xs++[t])))
  |_=>False
 |_,_=>False
theorem bG:yG X "list.append" HR:=by
 refine MtR.imp wQ ?_;rintro x xs H Q ⟨tx,ts,H3,Q3,rx,rs,sh,h,k⟩
 match tx,ts,h,rx,rs with
 |.ref a,[t],h,rx,rs =>
 obtain⟨v,rfl,rv⟩:=rs.one';have h':(match H3 a with
  |some (.lst xs)=>xs.length<sizeLine/\Q3 .non (up3 H3 a (.lst (xs++[t])))
  |_=>False):=h
 split at h'
 ·rename_i ls e;obtain⟨ys,hH,r⟩:=sh a _ e;exact⟨a,ys,v,rx.ref,rfl,hH,by rw[<- r.length];exact h'.1,k _ _ _ _ (bN (by rw[hH];exact trivial)) (sh.wrL hH (r.append (.cons rv .nil))) .ofNon h'.2⟩
 exact h'.elim
def Qx:T->List T->Hp3->VK3->Prop:=fun x ts H Q=>match x,ts with
 |.ref a,[.ref b]=>match H a,H b with
  |some (.lst xs),some (.lst ys)=>xs.length+ys.length<=sizeLine/\Q .non (up3 H a (.lst (xs++ys)))
  |_,_=>False
 |_,_=>False
def Ek:T->List T->Hp3->VK3->Prop:=fun x ts H Q=>match x,ts with
 |.ref a,[.int i]=>match H a with
  |some (.lst xs)=>oq (ixN xs.length i) fun j=>oq (xs[j]?) fun t=>Q t (up3 H a (.lst (xs.eraseIdx j)))
  |_=>False
 |_,_=>False
def jx:List T->Option (List Str)
 |[]=>some []
 |.str x::r=>(jx r).map (x::·)
 |_=>none
def jOk (z:Str) (ys:List Str):Prop:=(ys.map (·.length)).sum+ys.length*z.length<=16777216
def zf:T->List T->Hp3->VK3->Prop:=fun x ts H Q=>match x,ts with
 |.str z,[.ref a]=>match H a with
  |some (.lst xs)=>oq (jx xs) fun ys=>jOk z ys/\Q (.str (Txt.join z ys)) H
  |some (.rol xs)=>oq (jx xs) fun ys=>jOk z ys/\Q (.str (Txt.join z ys)) H
  |_=>False
 |.str z,[.tup xs]=>oq (jx xs) fun ys=>jOk z ys/\Q (.str (Txt.join z ys)) H
 |_,_=>False
def vm:T->List T->Hp3->VK3->Prop:=fun x ts H Q=>match x,ts with
 |.str z,[.str y]=>match Builtin.Str.occurrences z y 0 z.length 1 with
  |i::_=>Q (.int i) H
  |[]=>False
 |_,_=>False
theorem zg:yG X "str.index" vm:=by
 intro pins s Z H x xs v us Q I rx0 rs0 hh;obtain⟨tx,ts,H3,Q3,rx,rs,sh,h,k⟩:=hh
 match tx,ts,h,rx,rs with
 |.str z,[.str y],h,rx,rs =>
 obtain⟨w,rfl,rv⟩:=rs.one';obtain⟨u,rfl,ru⟩:=vals1 rs0;rw[rv.str] at ru;obtain⟨t',rfl⟩:=ru;rw[rx.str] at rx0;obtain⟨t,rfl⟩:=rx0;have h':(match Builtin.Str.occurrences z y 0 z.length 1 with
  |i::_=>Q3 (.int i) H3
  |[]=>False):=h
 split at h'
 ·rename_i i rest e;exact SC.index e ⟨.int i,H,I.tok _,⟨_,rfl⟩,k _ _ _ _ .refl sh .ofInt h'⟩
 exact h'.elim
end
def compLook (n0:List (Str × NameKind)) (N:List Str) (kind:Bool) (names:List (Str × NameKind)) (N':List Str) (nt:Nat) (cap:List Nat):Bool :=
 kind&&names.all (fun y=>y.2 != .cell||names.lookup y.1==some .cell)&&names.all (fun x=>x.2 != .local||names.lookup x.1==some .local)&&names.all (fun y=>y.2 != .free||n0.lookup y.1==some .cell||n0.lookup y.1==some .free)
  && N'.length==nt+cap.length&&(List.range cap.length).all fun j=>match N'[nt+j]?,cap[j]? with
   |some x,some i=>N[i]?==some x&&names.lookup x==some .free
   |_,_=>false
theorem cj {X:Cx}{N':List Str}{nt:Nat}{cap:List Nat}{scope:Scope}{n0:List (Str × NameKind)}{N:List Str}(h0:X.env.scope.names=n0) (hN:X.N=N)
  (h:compLook n0 N (scope.kind==.function) scope.names N' nt cap=true):CompSc X N' nt cap scope:=by
 unfold compLook at h;simp only[Bool.and_eq_true,List.all_eq_true,beq_iff_eq,bne_iff_ne,Bool.or_eq_true,List.mem_range] at h;obtain⟨⟨⟨⟨⟨h1,h2⟩,h3⟩,h4⟩,h5⟩,h6⟩:=h;refine⟨h1,fun y hy e=>(h2 y hy).resolve_left fun z=>z e,fun x hx e=>(h3 x hx).resolve_left fun z=>z e,fun y hy e=>?_,h5,fun j x e=>?_⟩
 ·show X.env.scope.names.lookup y.1=_\/X.env.scope.names.lookup y.1=_;rw[h0];rcases h4 y hy with (z | z) | z
  ·exact absurd e z
  ·exact .inl z
  exact .inr z
 have hj:j<cap.length:=by have:=(List.getElem?_eq_some_iff.mp e).1;omega
 have q:=h6 j hj;rw[e] at q;cases ec:cap[j]? with
 |none=>rw[ec] at q;cases q
 |some i =>
 rw[ec] at q;simp only[Bool.and_eq_true,beq_iff_eq] at q;exact⟨i,rfl,by rw[hN];exact q.1,q.2⟩
structure G3 (K:Frag) (mg:Str->Option Value) (x:Str) (st:Stmt) (ps:List Str) (f:Addr) (fd:FuncData):Prop where
 fn:Fun K x x st f fd
 b:Binds K fd ps []
 m:mg x=some (.ref f)
structure Bl (mg:Str->Option Value):Prop where
 len_:mg "len"=none
 sum_:mg "sum"=none
 isinstance_:mg "isinstance"=none
 all_:mg "all"=none
 any_:mg "any"=none
 list_:mg "list"=none
 tuple_:mg "tuple"=none
 int_:mg "int"=none
 str_:mg "str"=none
 bool_:mg "bool"=none
 range_:mg "range"=none
 zip_:mg "zip"=none
 reversed_:mg "reversed"=none
 enumerate_:mg "enumerate"=none
 set_:mg "set"=none
 sorted_:mg "sorted"=none
 min_:mg "min"=none
 max_:mg "max"=none
 dict_:mg "dict"=none
 repr_:mg "repr"=none
theorem cD:bootBuiltins "len"=some (.builtin "len"):=by decide +kernel
theorem Kr:bootBuiltins "sum"=some (.builtin "sum"):=by decide +kernel
theorem eX:bootBuiltins "isinstance"=some (.builtin "isinstance"):=by decide +kernel
theorem Ks:bootBuiltins "any"=some (.builtin "any"):=by decide +kernel
theorem oG:bootBuiltins "list"=some (.type "list"):=by decide +kernel
theorem cF:bootBuiltins "tuple"=some (.type "tuple"):=by decide +kernel
theorem Ku:bootBuiltins "int"=some (.type "int"):=by decide +kernel
theorem Kv:bootBuiltins "str"=some (.type "str"):=by decide +kernel
theorem Room.u30 {k:Nat}{A:Around}(r:Room k A):A.units+30<cLine:=by have:=r.un;omega
theorem Room.u31 {k:Nat}{A:Around}(r:Room k A):A.units+31<cLine:=by have:=r.un;omega
theorem Room.u1 {k:Nat}{A:Around}(r:Room k A):A.units+1<cLine:=by have:=r.un;omega
section
variable {H:Hp3}{Q:VK3}{Z:St3}
def vq (o:Option (Option T)) (Q:T->Prop):Prop:=match o with
 |some (some t)=>Q t
 |_=>False
theorem U6 (t:T) (Q:T->Prop):vq (some (some t)) Q=Q t:=rfl
theorem zj (i:Nat):pZ i Z H Q=vq (Z[i]?) fun t=>Q t H:=rfl
def bq (x:T) (Q:Bool->Prop):Prop:=match x with
 |.bl k=>Q k
 |_=>False
theorem eZ (b:Bool) (Q:Bool->Prop):bq (.bl b) Q=Q b:=rfl
theorem Kz (t:TE3) (Q:Bool->Hp3->Prop):ji t Z H Q=t Z H fun x H'=>bq x fun k=>Q k H':=rfl
theorem El (r r':R3) (ta tb tc:TE3):Eb r r' ta tb tc Z H Q=ta Z H fun x H1=>tb Z H1 fun y H2=>r x y H2 fun z H3=>bq z fun k=>if k=true then tc Z H3 fun w H4=>r' y w H4 Q else Q (.bl false) H3:=rfl
theorem KD (ta tb:TE3):Ke ta tb Z H Q=ta Z H fun x H1=>bq x fun c=>if c=true then tb Z H1 Q else Q (.bl false) H1:=rfl
theorem Qy (ta tb:TE3):Hr ta tb Z H Q=ta Z H fun x H1=>bq x fun c=>if c=true then Q (.bl true) H1 else tb Z H1 Q:=rfl
theorem KH (ta:TE3):Kf ta Z H Q=ta Z H fun x H1=>bq x fun c=>Q (.bl (!c)) H1:=rfl
theorem fZ {α:Type}(v:α) (Q:α->Prop):oq (some v) Q=Q v:=rfl
theorem q_I (C:Int->Int->Prop) (g:Int->Int->T) (i j:Int):rI3 C g (.int i) (.int j) H Q=(C i j/\Q (g i j) H):=rfl
theorem U7 (g:Int->Int->T) (i j:Int):qi g (.int i) (.int j) H Q=Q (g i j) H:=rfl
theorem KJ (i j:Int):qj (.int i) (.int j) H Q=Q (.int (i+j)) H:=rfl
theorem KN (i j:Str):qj (.str i) (.str j) H Q=(i.length+j.length<=sizeLine/\Q (.str (i++j)) H):=rfl
theorem KQ (xs ys:List T):qj (.tup xs) (.tup ys) H Q=(xs.length+ys.length<=sizeLine/\Q (.tup (xs++ys)) H):=rfl
def Qz (o u:Option O3) (H:Hp3) (Q:VK3):Prop:=match o,u with
 |some (.lst xs),some (.lst ys)=>xs.length+ys.length<=sizeLine/\∀p,H p=none->Q (.ref p) (up3 H p (.lst (xs++ys)))
 |_,_=>False
theorem zm (a b:Addr):qj (.ref a) (.ref b) H Q=Qz (H a) (H b) H Q:=rfl
theorem jj (xs ys:List T):Qz (some (.lst xs)) (some (.lst ys)) H Q=(xs.length+ys.length<=sizeLine/\∀p,H p=none->Q (.ref p) (up3 H p (.lst (xs++ys)))):=rfl
theorem QB (n:Bool) (i j:Int):sY n (.int i) (.int j) H Q=Q (.bl (if n then !decide (i=j) else decide (i=j))) H:=rfl
theorem QC (n:Bool) (i j:Str):sY n (.str i) (.str j) H Q=Q (.bl (if n then !decide (i=j) else decide (i=j))) H:=rfl
theorem QD (n:Bool) (i j:Bool):sY n (.bl i) (.bl j) H Q=Q (.bl (if n then !decide (i=j) else decide (i=j))) H:=rfl
theorem QF (n:Bool) (xs ys:List T):sY n (.tup xs) (.tup ys) H Q=(xs.all (pl 20)=true/\ys.all (pl 20)=true/\Q (.bl (if n then !decide (xs=ys) else decide (xs=ys))) H):=rfl
def eqH (n:Bool) (a b:Addr) (o u:Option O3) (H:Hp3) (Q:VK3):Prop:=match o,u with
 |some (.lst xs),some (.lst ys)=>a≠b/\xs.all (pl 20)=true/\ys.all (pl 20)=true/\Q (.bl (if n then !@decide (xs=ys) (instDecidableEqList xs ys) else @decide (xs=ys) (instDecidableEqList xs ys))) H
 |_,_=>False
theorem HS (n:Bool) (a b:Addr):sY n (.ref a) (.ref b) H Q=eqH n a b (H a) (H b) H Q:=rfl
theorem qu (n:Bool) (a b:Addr) (xs ys:List T):eqH n a b (some (.lst xs)) (some (.lst ys)) H Q=(a≠b/\xs.all (pl 20)=true/\ys.all (pl 20)=true/\Q (.bl (if n then !decide (xs=ys) else decide (xs=ys))) H):=rfl
theorem HW (n:Bool) (x:T) (ts:List T):sZ n x (.tup ts) H Q=(pl 20 x=true/\ts.all (pl 20)=true/\Q (.bl (du n x ts)) H):=rfl
theorem QG (n:Bool) (i j:Str):sZ n (.str i) (.str j) H Q=Q (.bl (occ n i j)) H:=rfl
def inH (n:Bool) (x:T) (o:Option O3) (H:Hp3) (Q:VK3):Prop:=match o with
 |some (.lst ts)=>pl 20 x=true/\ts.all (pl 20)=true/\Q (.bl (du n x ts)) H
 |some (.rol ts)=>pl 20 x=true/\ts.all (pl 20)=true/\Q (.bl (du n x ts)) H
 |_=>False
theorem HX (n:Bool) (x:T) (a:Addr):sZ n x (.ref a) H Q=inH n x (H a) H Q:=rfl
theorem HY (n:Bool) (x:T) (ts:List T):inH n x (some (.lst ts)) H Q=(pl 20 x=true/\ts.all (pl 20)=true/\Q (.bl (du n x ts)) H):=rfl
def ixH (o:Option O3) (i:Int) (H:Hp3) (Q:VK3):Prop:=match o with
 |some (.lst ts)=>oq (atI ts i) fun t=>Q t H
 |some (.rol ts)=>oq (atI ts i) fun t=>Q t H
 |_=>False
theorem zp (a:Addr) (i:Int):qm (.ref a) (.int i) H Q=ixH (H a) i H Q:=rfl
theorem vo (ts:List T) (i:Int):ixH (some (.lst ts)) i H Q=oq (atI ts i) fun t=>Q t H:=rfl
theorem QH (ts:List T) (i:Int):qm (.tup ts) (.int i) H Q=oq (atI ts i) fun t=>Q t H:=rfl
theorem QJ (z:Str) (i:Int):qm (.str z) (.int i) H Q=(z.length<=sizeLine/\oq (atI z.cps.toList i) fun c=>Q (.str ⟨#[c]⟩) H):=rfl
def stH (o:Option O3) (a:Addr) (k:Int) (v:T) (H:Hp3) (Q:Hp3->Prop):Prop:=match o with
 |some (.lst ts)=>oq (ixN ts.length k) fun j=>Q (up3 H a (.lst (ts.set j v)))
 |_=>False
theorem KR (a:Addr) (k:Int) (v:T) (Q:Hp3->Prop):yW (.ref a) (.int k) v H Q=stH (H a) a k v H Q:=rfl
theorem QK (ts:List T) (a:Addr) (k:Int) (v:T) (Q:Hp3->Prop):stH (some (.lst ts)) a k v H Q=oq (ixN ts.length k) fun j=>Q (up3 H a (.lst (ts.set j v))):=rfl
def pq (x:T) (Q:Option Int->Prop):Prop:=match x with
 |.int i=>Q (some i)
 |_=>False
theorem U8 (i:Int) (Q:Option Int->Prop):pq (.int i) Q=Q (some i):=rfl
theorem KY (t:TE3) (Q:Option Int->Hp3->Prop):yX t Z H Q=t Z H fun x H1=>pq x fun o=>Q o H1:=rfl
def slH (o:Option O3) (lo hi:Option Int) (H:Hp3) (Q:VK3):Prop:=match o with
 |some (.lst ts)=>∀p,H p=none->Q (.ref p) (up3 H p (.lst (gU ts lo hi)))
 |some (.rol ts)=>∀p,H p=none->Q (.ref p) (up3 H p (.lst (gU ts lo hi)))
 |_=>False
theorem QL (a:Addr) (lo hi:Option Int):Eh (.ref a) lo hi H Q=slH (H a) lo hi H Q:=rfl
theorem Ia (ts:List T) (lo hi:Option Int):slH (some (.lst ts)) lo hi H Q=∀p,H p=none->Q (.ref p) (up3 H p (.lst (gU ts lo hi))):=rfl
theorem KZ (ts:List T) (lo hi:Option Int):slH (some (.rol ts)) lo hi H Q=∀p,H p=none->Q (.ref p) (up3 H p (.lst (gU ts lo hi))):=rfl
theorem QM (ts:List T) (lo hi:Option Int):Eh (.tup ts) lo hi H Q=(¬(HT.sIx ts.length 0 lo=0/\HT.sIx ts.length ts.length hi=ts.length)/\Q (.tup (gU ts lo hi)) H):=rfl
theorem QQ (z:Str) (lo hi:Option Int):Eh (.str z) lo hi H Q=(z.length<=sizeLine/\Q (.str (Txt.slice z lo hi)) H):=rfl
def dgH (o:Option O3) (k:Str) (H:Hp3) (Q:VK3):Prop:=match o with
 |some (.dct kvs)=>oq (aL k kvs) fun t=>Q t H
 |_=>False
theorem q_D (a:Addr) (k:Str):r3D (.ref a) (.str k) H Q=dgH (H a) k H Q:=rfl
theorem QR (kvs:List (Str × T)) (k:Str):dgH (some (.dct kvs)) k H Q=oq (aL k kvs) fun t=>Q t H:=rfl
def dpH (x y v:T) (H:Hp3) (Q:Hp3->Prop):Prop:=match x,y with
 |.ref a,.str k=>match H a with
  |some (.dct kvs)=>kvs.length<sizeLine/\Q (up3 H a (.dct (put3 k v kvs)))
  |_=>False
 |_,_=>False
def dpO (o:Option O3) (a:Addr) (k:Str) (v:T) (H:Hp3) (Q:Hp3->Prop):Prop:=match o with
 |some (.dct kvs)=>kvs.length<sizeLine/\Q (up3 H a (.dct (put3 k v kvs)))
 |_=>False
theorem K1 (td ty tv:TE3) (D:Ends3):yZ td ty tv D Z H=tv Z H fun v H1=>td Z H1 fun x H2=>ty Z H2 fun y H3=>dpH x y v H3 fun H4=>D.nx Z H4:=rfl
theorem QS (a:Addr) (k:Str) (v:T) (Q:Hp3->Prop):dpH (.ref a) (.str k) v H Q=dpO (H a) a k v H Q:=rfl
theorem QT (kvs:List (Str × T)) (a:Addr) (k:Str) (v:T) (Q:Hp3->Prop):dpO (some (.dct kvs)) a k v H Q=(kvs.length<sizeLine/\Q (up3 H a (.dct (put3 k v kvs)))):=rfl
def lnH (o:Option O3) (H:Hp3) (Q:VK3):Prop:=match o with
 |some (.lst xs)=>Q (.int xs.length) H
 |some (.rol xs)=>Q (.int xs.length) H
 |_=>False
theorem K3 (a:Addr):vg [.ref a] H Q=lnH (H a) H Q:=rfl
theorem QV (xs:List T):lnH (some (.lst xs)) H Q=Q (.int xs.length) H:=rfl
theorem K4 (xs:List T):vg [.tup xs] H Q=Q (.int xs.length) H:=rfl
theorem K5 (z:Str):vg [.str z] H Q=(z.length<=sizeLine/\Q (.int z.length) H):=rfl
def liH (o:Option O3) (H:Hp3) (Q:VK3):Prop:=match o with
 |some (.lst xs)=>∀p,H p=none->Q (.ref p) (up3 H p (.lst xs))
 |some (.rol xs)=>∀p,H p=none->Q (.ref p) (up3 H p (.lst xs))
 |_=>False
theorem Em (a:Addr):tu [.ref a] H Q=liH (H a) H Q:=rfl
theorem QW (xs:List T):liH (some (.lst xs)) H Q=∀p,H p=none->Q (.ref p) (up3 H p (.lst xs)):=rfl
theorem En (xs:List T):tu [.tup xs] H Q=∀p,H p=none->Q (.ref p) (up3 H p (.lst xs)):=rfl
def tpH (o:Option O3) (H:Hp3) (Q:VK3):Prop:=match o with
 |some (.lst xs)=>Q (.tup xs) H
 |some (.rol xs)=>Q (.tup xs) H
 |_=>False
theorem K6 (a:Addr):oF [.ref a] H Q=tpH (H a) H Q:=rfl
theorem QX (xs:List T):tpH (some (.lst xs)) H Q=Q (.tup xs) H:=rfl
theorem K7 (xs:List T):oF [.tup xs] H Q=Q (.tup xs) H:=rfl
theorem K8 (i:Int):zc [.int i] H Q=Q (.int i) H:=rfl
theorem K9 (b:Bool):zc [.bl b] H Q=Q (.int (if b then 1 else 0)) H:=rfl
theorem La (i:Int):Qv [.int i] H Q=(i.natAbs.log2<1920/\Q (.str (toString i)) H):=rfl
def smH (o:Option O3) (H:Hp3) (Q:VK3):Prop:=match o with
 |some (.lst xs)=>oq (ints3 xs) fun ns=>Q (.int ns.sum) H
 |some (.rol xs)=>oq (ints3 xs) fun ns=>Q (.int ns.sum) H
 |_=>False
theorem Lb (a:Addr):HN [.ref a] H Q=smH (H a) H Q:=rfl
theorem QZ (xs:List T):smH (some (.lst xs)) H Q=oq (ints3 xs) fun ns=>Q (.int ns.sum) H:=rfl
theorem qw (x:T) (n:String):kh [x,.ty n] H Q=((n="str"\/n="int"\/n="bool"\/n="tuple"\/n="list")/\oq (isT n x H) fun b=>Q (.bl b) H):=rfl
theorem Q0 (Ty:String) (z:Str):ty3 Ty (.str z) H=(Ty="str"):=rfl
def tyH (o:Option O3):Prop:=match o with
 |some (.lst _)=>True
 |some (.rol _)=>True
 |_=>False
theorem Q4 (Ty:String) (a:Addr):ty3 Ty (.ref a) H=(Ty="list"/\tyH (H a)):=rfl
theorem Q5 (xs:List T):tyH (some (.lst xs))=True:=rfl
def apH (o:Option O3) (a:Addr) (t:T) (H:Hp3) (Q:VK3):Prop:=match o with
 |some (.lst xs)=>xs.length<sizeLine/\Q .non (up3 H a (.lst (xs++[t])))
 |_=>False
theorem Q6 (a:Addr) (t:T):HR (.ref a) [t] H Q=apH (H a) a t H Q:=rfl
theorem zq (xs:List T) (a:Addr) (t:T):apH (some (.lst xs)) a t H Q=(xs.length<sizeLine/\Q .non (up3 H a (.lst (xs++[t])))):=rfl
def exH (o u:Option O3) (a:Addr) (H:Hp3) (Q:VK3):Prop:=match o,u with
 |some (.lst xs),some (.lst ys)=>xs.length+ys.length<=sizeLine/\Q .non (up3 H a (.lst (xs++ys)))
 |_,_=>False
theorem Q7 (a b:Addr):Qx (.ref a) [.ref b] H Q=exH (H a) (H b) a H Q:=rfl
theorem Q8 (xs ys:List T) (a:Addr):exH (some (.lst xs)) (some (.lst ys)) a H Q=(xs.length+ys.length<=sizeLine/\Q .non (up3 H a (.lst (xs++ys)))):=rfl
def poH (o:Option O3) (a:Addr) (i:Int) (H:Hp3) (Q:VK3):Prop:=match o with
 |some (.lst xs)=>oq (ixN xs.length i) fun j=>oq (xs[j]?) fun t=>Q t (up3 H a (.lst (xs.eraseIdx j)))
 |_=>False
theorem Q9 (a:Addr) (i:Int):Ek (.ref a) [.int i] H Q=poH (H a) a i H Q:=rfl
theorem Rg (xs:List T) (a:Addr) (i:Int):poH (some (.lst xs)) a i H Q=oq (ixN xs.length i) fun j=>oq (xs[j]?) fun t=>Q t (up3 H a (.lst (xs.eraseIdx j))):=rfl
def joH (o:Option O3) (z:Str) (H:Hp3) (Q:VK3):Prop:=match o with
 |some (.lst xs)=>oq (jx xs) fun ys=>jOk z ys/\Q (.str (Txt.join z ys)) H
 |some (.rol xs)=>oq (jx xs) fun ys=>jOk z ys/\Q (.str (Txt.join z ys)) H
 |_=>False
theorem Eo (z:Str) (a:Addr):zf (.str z) [.ref a] H Q=joH (H a) z H Q:=rfl
theorem Rh (xs:List T) (z:Str):joH (some (.lst xs)) z H Q=oq (jx xs) fun ys=>jOk z ys/\Q (.str (Txt.join z ys)) H:=rfl
theorem Ep (z:Str) (xs:List T):zf (.str z) [.tup xs] H Q=oq (jx xs) fun ys=>jOk z ys/\Q (.str (Txt.join z ys)) H:=rfl
def idH (o:List Nat) (H:Hp3) (Q:VK3):Prop:=match o with
 |i::_=>Q (.int i) H
 |[]=>False
theorem Er (z y:Str):vm (.str z) [.str y] H Q=idH (Builtin.Str.occurrences z y 0 z.length 1) H Q:=rfl
theorem Ri (i:Nat) (r:List Nat):idH (i::r) H Q=Q (.int i) H:=rfl
def rgq (vs:List T) (H:Hp3) (R:List T->(Hp3->Prop)->Hp3->Prop):Prop:=match vs with
 |[.int j]=>-(2^62)<=j/\j<2^62/\R (dz 0 j.toNat) bZ H
 |[.int i,.int j]=>(-(2^62)<=i/\i<2^62 /\ -(2^62)<=j/\j<2^62)/\R (dz i (j - i).toNat) bZ H
 |_=>False
theorem Rj (ta:TA3) (R:List T->(Hp3->Prop)->Hp3->Prop):yP ta Z H R=ta Z H fun vs H1=>rgq vs H1 R:=rfl
theorem Rk (j:Int) (R:List T->(Hp3->Prop)->Hp3->Prop):rgq [.int j] H R=(-(2^62)<=j/\j<2^62/\R (dz 0 j.toNat) bZ H):=rfl
theorem Rm (i j:Int) (R:List T->(Hp3->Prop)->Hp3->Prop):rgq [.int i,.int j] H R=((-(2^62)<=i/\i<2^62 /\ -(2^62)<=j/\j<2^62)/\R (dz i (j - i).toNat) bZ H):=rfl
def tuq (x:T) (H:Hp3) (R:List T->(Hp3->Prop)->Hp3->Prop):Prop:=match x with
 |.tup ts=>R ts bZ H
 |_=>False
theorem Ld (tl:TE3) (R:List T->(Hp3->Prop)->Hp3->Prop):HB tl Z H R=tl Z H fun x H1=>tuq x H1 R:=rfl
theorem Rn (ts:List T) (R:List T->(Hp3->Prop)->Hp3->Prop):tuq (.tup ts) H R=R ts bZ H:=rfl
def liq (x:T) (H:Hp3) (R:List T->(Hp3->Prop)->Hp3->Prop):Prop:=match x with
 |.ref a=>match H a with
  |some (.lst ts)=>R ts (aV a ts) H
  |some (.rol ts)=>R ts (aV a ts) H
  |_=>False
 |_=>False
def liO (o:Option O3) (a:Addr) (H:Hp3) (R:List T->(Hp3->Prop)->Hp3->Prop):Prop:=match o with
 |some (.lst ts)=>R ts (aV a ts) H
 |some (.rol ts)=>R ts (aV a ts) H
 |_=>False
theorem Es (tl:TE3) (R:List T->(Hp3->Prop)->Hp3->Prop):yN tl Z H R=tl Z H fun x H1=>liq x H1 R:=rfl
theorem Ib (a:Addr) (R:List T->(Hp3->Prop)->Hp3->Prop):liq (.ref a) H R=liO (H a) a H R:=rfl
theorem vp (ts:List T) (a:Addr) (R:List T->(Hp3->Prop)->Hp3->Prop):liO (some (.lst ts)) a H R=R ts (aV a ts) H:=rfl
theorem Le (Q:St3->Hp3->Prop):yK [] Z H Q=Q Z H:=rfl
theorem Et (t:TG3) (u:lU) (x:T) (r:List T) (Q:St3->Hp3->Prop):nZ t u (x::r) Z H Q=t x Z H fun Z' H'=>u r Z' H' Q:=rfl
theorem Lf (n:Nat) (g:lU) (ts:List T) (Q:St3->Hp3->Prop):yL n g (.tup ts) Z H Q=(ts.length=n/\g ts Z H Q):=rfl
end
theorem oH {n j:Nat}(h:j<n):ixN n (j:Int)=some j:=by
 unfold ixN;rw[if_pos (Int.natCast_nonneg j),if_pos (by omega),Int.toNat_natCast]
theorem U9 (n:Nat):ixN (n+1) 0=some 0:=oH (j:=0) (Nat.succ_pos n)
theorem at0 {α:Type}(a:α) (r:List α):atI (a::r) 0=some a:=bV (j:=0) rfl
theorem at1 {α:Type}(a b:α) (r:List α):atI (a::b::r) 1=some b:=bV (j:=1) rfl
theorem at2 {α:Type}(a b c:α) (r:List α):atI (a::b::c::r) 2=some c:=bV (j:=2) rfl
theorem at3 {α:Type}(a b c d:α) (r:List α):atI (a::b::c::d::r) 3=some d:=bV (j:=3) rfl
theorem gM {g:TG3}{tb:TS3}{D:Ends3}{still:Hp3->Prop}{ts:List T}{Z:St3}{H:Hp3}(I:List T->St3->Hp3->Prop) (h0:I ts Z H) (hn:∀Z H,I [] Z H->still H/\D.nx Z H)
  (hs:∀t r Z H (N:St3->Hp3->Prop),I (t::r) Z H->(∀Z' H',I r Z' H'->N Z' H')->still H/\g t Z H fun Z2 H2=>tb { D with nx:=N,ct:=N,bk:=D.nx} Z2 H2):iter3 g tb D still ts Z H:=by
 induction ts generalizing Z H with
 |nil=>exact hn Z H h0
 |cons t r ih=>exact hs t r Z H (iter3 g tb D still r) h0 fun Z' H' h=>ih h
theorem kj {g:TG3}{tt:TT3}{te:TE3}{still:Hp3->Prop}{fin:List T->Hp3->Prop}{ts ys:List T}{Z:St3}{H:Hp3}(I:List T->List T->St3->Hp3->Prop) (h0:I ts ys Z H) (hn:∀ys Z H,I [] ys Z H->still H/\ys.length<=sizeLine/\fin ys H)
  (hs:∀t r ys Z H (N:List T->St3->Hp3->Prop),I (t::r) ys Z H->(∀ys' Z' H',I r ys' Z' H'->N ys' Z' H') ->
   still H/\g t Z H fun Z2 H2=>tt Z2 H2 fun b H3=>if b=true then te Z2 H3 fun y H4=>ys.length<sizeLine/\N (ys++[y]) Z2 H4 else N ys Z2 H3):cIter3 g tt te still fin ts ys Z H:=by
 induction ts generalizing Z H ys with
 |nil=>exact hn ys Z H h0
 |cons t r ih=>exact hs t r ys Z H (cIter3 g tt te still fin r) h0 fun ys' Z' H' h=>ih h
theorem Lg (Z:St3) (H:Hp3) (Q:List (Str × T)->Hp3->Prop):za [] Z H Q=Q [] H:=rfl
theorem Lh (k:Str) (tv:TE3) (r:List (Str × TE3)) (Z:St3) (H:Hp3) (Q:List (Str × T)->Hp3->Prop):za ((k,tv)::r) Z H Q=tv Z H fun y H2=>za r Z H2 fun ps H3=>Q ((k,y)::ps) H3:=rfl
theorem sx0 (n:Nat):HT.sIx n 0 none=0:=rfl
theorem zr {ts:List T}{k:Nat}:gU ts none (some (k:Int))=ts.take k:=by
 unfold gU;rw[sx0,HT.sIx_nat,List.drop_zero,Nat.sub_zero];by_cases h:k<=ts.length
 ·rw[Nat.min_eq_left h]
 rw[Nat.min_eq_right (by omega),List.take_length,List.take_of_length_le (by omega)]
theorem zu {ts:List T}{k:Nat}:gU ts (some (k:Int)) none=ts.drop k:=by
 unfold gU;rw[HT.sIx_none,HT.sIx_nat];by_cases h:k<=ts.length
 ·rw[Nat.min_eq_left h,List.take_of_length_le (by simp)]
 rw[Nat.min_eq_right (by omega),List.drop_of_length_le (Nat.le_refl _),List.drop_of_length_le (by omega),List.take_nil]
theorem cu {H:Hp3}{a b:Addr}{o:O3}(h:up3 H a o b=none):b≠a/\H b=none:=by
 by_cases e:b=a
 ·subst e;rw[aq] at h;cases h
 rw[aC e] at h;exact⟨e,h⟩
theorem zx {H:Hp3}{a b:Addr}{o u:O3}(h:a≠b):up3 (up3 H a o) b u=up3 (up3 H b u) a o:=by
 funext c;by_cases h1:c=b
 ·subst h1;rw[aq,aC (Ne.symm h),aq]
 rw[aC h1];by_cases h2:c=a
 ·subst h2;rw[aq,aq]
 rw[aC h2,aC h2,aC h1]
theorem bT {α:Type}(enc f:α->T) (as:List α) (rest:St3) {te:TE3}{still:Hp3->Prop}{fin:List T->Hp3->Prop}{v:Option T}{H:Hp3}(hst:still H) (hl:as.length<=sizeLine)
  (ht:∀a∈as,∀Q:VK3,Q (f a) H->te (some (enc a)::rest) H Q) (hfin:fin (as.map f) H):cIter3 (gA 0) uX te still fin (as.map enc) [] (v::rest) H:=by
 refine kj (fun r ys Z H'=>∃(rs ds:List α) (v:Option T),Z=v::rest/\r=rs.map enc/\ys=ds.map f/\ds++rs=as/\H'=H) ⟨as,[],v,rfl,rfl,rfl,rfl,rfl⟩ ?_ ?_
 ·rintro ys Z H' ⟨rs,ds,v,rfl,hrs,rfl,hsp,rfl⟩;have hrs':rs=[]:=List.map_eq_nil_iff.mp hrs.symm;subst hrs';rw[List.append_nil] at hsp;subst hsp;exact⟨hst,by rw[List.length_map];exact hl,hfin⟩
 rintro x r ys Z H' N ⟨rs,ds,v,rfl,hrs,rfl,hsp,rfl⟩ hN;cases rs with
 |nil=>cases hrs
 |cons t rs =>
 injection hrs with e1 e2;subst e1 e2;refine⟨hst,?_⟩;show te (some (enc t)::rest) H' _;refine ht t (by rw[<- hsp];simp) _ ⟨?_,hN _ _ _ ⟨rs,ds++[t],_,rfl,rfl,by simp,by rw[<- hsp];simp,rfl⟩⟩;have:=congrArg List.length hsp;simp only[List.length_append,List.length_cons] at this;rw[List.length_map];omega
section
variable {X:Cx}
def bU:List T->Option (List Bool)
 |[]=>some []
 |.bl x::r=>(bU r).map (x::·)
 |_=>none
theorem km:∀(ns:List Bool),bU (ns.map T.bl)=some ns
 |[]=>rfl
 |n::r=>by simp [bU,km r]
theorem jy {K:Frag}{H:Hp}:∀{ts:List T}{xs:List V}{us:List Value}{bs:List Bool},bU ts=some bs->Reps K H ts xs->Vals xs us->us=bs.map Value.bool
 |[],xs,us,bs,e,r,v=>by
  cases e
  rw[r.inv0] at v
  cases v
  rfl
 |.bl i::l,xs,us,bs,e,r,v=>by
  obtain⟨x,xr,rfl,rx,rr⟩:=r.inv
  cases v with
  |cons a b =>
   rw[rx.bl] at a
   cases hl:bU l with
   |none=>simp [bU,hl] at e
   |some ms =>
    simp [bU,hl] at e
    subst e
    cases a
    rw[jy hl rr b]
    rfl
 |.non::_,_,_,_,e,_,_=>by simp [bU] at e
 |.int _::_,_,_,_,e,_,_=>by simp [bU] at e
 |.str _::_,_,_,_,e,_,_=>by simp [bU] at e
 |.tup _::_,_,_,_,e,_,_=>by simp [bU] at e
 |.ref _::_,_,_,_,e,_,_=>by simp [bU] at e
 |.ty _::_,_,_,_,e,_,_=>by simp [bU] at e
def alH (o:Option O3) (H:Hp3) (Q:VK3):Prop:=match o with
 |some (.lst xs)=>oq (bU xs) fun bs=>Q (.bl (bs.all id)) H
 |some (.rol xs)=>oq (bU xs) fun bs=>Q (.bl (bs.all id)) H
 |_=>False
def Ro:List T->Hp3->VK3->Prop:=fun ts H Q=>match ts with
 |[.ref a]=>alH (H a) H Q
 |_=>False
theorem Rp (a:Addr) {H:Hp3}{Q:VK3}:Ro [.ref a] H Q=alH (H a) H Q:=rfl
theorem Rq (xs:List T) {H:Hp3}{Q:VK3}:alH (some (.lst xs)) H Q=oq (bU xs) fun bs=>Q (.bl (bs.all id)) H:=rfl
end
def Va:T->Option Key
 |.int i=>some (.inl i)
 |.str x=>some (.inr x)
 |_=>none
def zy:List T->Option (List Key)
 |[]=>some []
 |t::r=>match Va t,zy r with
  |some k,some ks=>some (k::ks)
  |_,_=>none
def zz (k:List Key):List (List Key × T)->Option T
 |[]=>none
 | (k',v)::r=>if k'=k then some v else zz k r
def putP (k:List Key) (v:T) (kvs:List (List Key × T)):List (List Key × T) :=
 if (kvs.any fun kv=>decide (kv.1=k))=true then kvs.map (fun kv=>if kv.1=k then (kv.1,v) else kv) else kvs++[(k,v)]
def Li (o:Option O3) (ts:List T) (H:Hp3) (Q:VK3):Prop:=match o with
 |some (.dcp kvs)=>oq (zy ts) fun ks=>oq (zz ks kvs) fun t=>Q t H
 |_=>False
def dgP (x:T) (ts:List T) (H:Hp3) (Q:VK3):Prop:=match x with
 |.ref a=>Li (H a) ts H Q
 |_=>False
def Eu (td:TE3) (ta:TA3):TE3:=fun Z H Q=>td Z H fun x H1=>ta Z H1 fun ts H2=>ts.length<=sizeLine/\dgP x ts H2 Q
def Lj (o:Option O3) (a:Addr) (ts:List T) (v:T) (H:Hp3) (Q:Hp3->Prop):Prop:=match o with
 |some (.dcp kvs)=>oq (zy ts) fun ks=>kvs.length<sizeLine/\Q (up3 H a (.dcp (putP ks v kvs)))
 |_=>False
def dpP (x:T) (ts:List T) (v:T) (H:Hp3) (Q:Hp3->Prop):Prop:=match x with
 |.ref a=>Lj (H a) a ts v H Q
 |_=>False
def Ew (td:TE3) (ta:TA3) (tv:TE3):TS3:=fun D Z H=>tv Z H fun v H1=>td Z H1 fun x H2=>ta Z H2 fun ts H3=>ts.length<=sizeLine/\dpP x ts v H3 fun H4=>D.nx Z H4
section
variable {H:Hp3}{Q:VK3}{Z:St3}
theorem Rr (a:Addr) (ts:List T):dgP (.ref a) ts H Q=Li (H a) ts H Q:=rfl
theorem Lk (kvs:List (List Key × T)) (x y:Str):Li (some (.dcp kvs)) [.str x,.str y] H Q=oq (zz [Sum.inr x,Sum.inr y] kvs) fun t=>Q t H:=rfl
theorem Rt (a:Addr) (ts:List T) (v:T) (Q:Hp3->Prop):dpP (.ref a) ts v H Q=Lj (H a) a ts v H Q:=rfl
theorem Ln (kvs:List (List Key × T)) (a:Addr) (x y:Str) (v:T) (Q:Hp3->Prop):Lj (some (.dcp kvs)) a [.str x,.str y] v H Q=(kvs.length<sizeLine/\Q (up3 H a (.dcp (putP [Sum.inr x,Sum.inr y] v kvs)))):=rfl
variable {X:Cx}{o i k value:Expr}{es:List Expr}{td ti tk tv:TE3}{ta:TA3}{pos pos' p2:Pos}{x1:Nat}
def zA:TE3:=fun _ H Q=>∀p,H p=none->Q (.ref p) (up3 H p (.dct []))
def Ex:TE3:=fun _ H Q=>∀p,H p=none->Q (.ref p) (up3 H p (.dcp []))
theorem SimH.newD {K:Frag}{H:Hp}{H3:Hp3}{p:Addr}(s:SimH K H3 H) (hp:H p=none):SimH K (up3 H3 p (.dct [])) (upd H p (.dK [])):=fun a o e=>by
 by_cases ha:a=p
 ·subst ha;rw[aq] at e;cases e;exact⟨[],bJ,.nil⟩
 rw[aC ha] at e;exact s.new hp a o e
theorem Ey:PE3 X (.Dict [] [] pos) zA:=by
 refine PE.imp pW ?_;rintro Z H Q ⟨Z3,H3,Q3,ss,sh,h,k⟩ p hp;exact k _ _ _ _ (aJ hp) (sh.newD hp) .ofRef (h p (sh.fresh hp))
def d1q (y:T) (p:Addr) (v:T) (H:Hp3) (Q:VK3):Prop:=match y with
 |.str k=>H p=some (.dct [])/\Q (.ref p) (up3 H p (.dct [(k,v)]))
 |_=>False
def zB (tk tv:TE3):TE3:=fun Z H Q=>∀p,H p=none->tk Z (up3 H p (.dct [])) fun y H1=>tv Z H1 fun v H2=>d1q y p v H2 Q
theorem Ru (x:Str) (p:Addr) (v:T) {H:Hp3}{Q:VK3}:d1q (.str x) p v H Q=(H p=some (.dct [])/\Q (.ref p) (up3 H p (.dct [(x,v)]))):=rfl
theorem zE {v:Expr}(hk:PE3 X k tk) (hv:PE3 X v tv):PE3 X (.Dict [some k] [v] pos) (zB tk tv):=by
 refine PE.imp (uR (pX hk hv uQ) rfl rfl (by simp) (by show 1<=15;decide)) ?_;rintro Z H Q ⟨Z3,H3,Q3,ss,sh,h,k⟩ p hp;have le0:TupLe X.K H (upd H p (.dK [])):=aJ hp;refine⟨Z3,up3 H3 p (.dct []),_,ss.mono le0,sh.newD hp,h p (sh.fresh hp),fun y H1 ty H31 le1 sh1 ry q1=>?_⟩;refine⟨Z3,H31,_,ss.mono (le0.trans le1),sh1,q1,fun z H2 tz H32 le2 sh2 rz q2=>?_⟩;cases ty with
 |str key =>
  have h':H32 p=some (.dct [])/\Q3 (.ref p) (up3 H32 p (.dct [(key,tz)])):=q2
  obtain⟨ws,hH,r⟩:=sh2 p _ h'.1
  cases r
  refine⟨hH,[(Sum.inr key,z)],by rw[(ry.mono le2).str];rfl,by show 1<=15;decide,?_⟩
  have e:il [] [((Sum.inr key:Key),z)]=[((Sum.inr key:Key),z)]:=rfl
  rw[e]
  exact k _ _ _ _ (le0.trans (le1.trans (le2.trans (bN (by rw[hH];exact trivial))))) (sh2.wrD hH (.cons ⟨rfl,rz⟩ .nil)) .ofRef h'.2
 |_=>exact q2.elim
def diH (neg:Bool) (y:T) (o:Option O3) (H:Hp3) (Q:VK3):Prop:=match y,o with
 |.str k,some (.dct kvs)=>Q (.bl (if neg then !(aL k kvs).isSome else (aL k kvs).isSome)) H
 |_,_=>False
def diq (neg:Bool) (y x:T) (H:Hp3) (Q:VK3):Prop:=match x with
 |.ref a=>diH neg y (H a) H Q
 |_=>False
def zF (neg:Bool) (ti to:TE3):TE3:=fun Z H Q=>ti Z H fun y H1=>to Z H1 fun x H2=>diq neg y x H2 Q
theorem Rv (neg:Bool) (y:T) (a:Addr) {H:Hp3}{Q:VK3}:diq neg y (.ref a) H Q=diH neg y (H a) H Q:=rfl
theorem Rw (neg:Bool) (k:Str) (kvs:List (Str × T)) {H:Hp3}{Q:VK3}:diH neg (.str k) (some (.dct kvs)) H Q=Q (.bl (if neg then !(aL k kvs).isSome else (aL k kvs).isSome)) H:=rfl
theorem mX {K:Frag}{H:Hp}{k:Str}:∀{kvs:List (Str × T)}{vs:List (Key × V)},RepD K H kvs vs->(dW vs (Sum.inr k:Key)).isSome=(aL k kvs).isSome
 |[],_,.nil=>rfl
 | (k',t')::r,_,.cons (b:=(kk,v')) ⟨e1,rv⟩ rr=>by
  simp only at e1 rv
  subst e1
  unfold aL
  by_cases hk:k'=k
  ·
   rw[if_pos hk,dX (by rw[hk])];rfl
  ·
   rw[if_neg hk,dY (by intro z;exact hk (Sum.inr.inj z))]
   exact mX rr
theorem vz {neg:Bool}{H:Hp}{H3:Hp3}{x y:V}{tx ty:T}{Q3:VK3}(sh:SimH X.K H3 H) (rx:Rep X.K H tx x) (ry:Rep X.K H ty y) (q:diq neg ty tx H3 Q3) :
  ∃a ov b,x=.ref a/\DGet H a y ov/\(if neg then !ov.isSome else ov.isSome)=b/\Q3 (.bl b) H3:=by
 cases tx with
 |ref a =>
  have h':diH neg ty (H3 a) H3 Q3:=q
  cases ty with
  |str k =>
   cases e:H3 a with
   |none=>rw[e] at h';exact h'.elim
   |some ob =>
    rw[e] at h'
    cases ob with
    |dct kvs =>
     obtain⟨ws,hH,r⟩:=sh a _ e
     refine⟨a,dW ws (Sum.inr k:Key),_,rx.ref,by rw[ry.str];exact DGet.k (k:=Sum.inr k) hH,rfl,?_⟩
     rw[mX r]
     exact h'
    |_=>exact h'.elim
  |_=>exact h'.elim
 |_=>exact q.elim
theorem kE (hu:X.A.units+1<cLine) (hi:PE3 X i ti) (ho:PE3 X o td) (hm:behindInMarks .In o=false:=by rfl):PT3 X (.Compare i [.In] [o] pos) (ji (zF false ti td)):=by
 refine PT.imp (rY (Ka hu hi ho) hm) ?_;rintro Z H Q ⟨Z3,H3,Q3,ss,sh,h,k⟩;refine⟨Z3,H3,_,ss,sh,h,fun y H1 ty H31 le1 sh1 ry q1=>⟨Z3,H31,_,ss.mono le1,sh1,q1,fun x H2 tx H32 le2 sh2 rx q2=>?_⟩⟩;obtain⟨a,ov,b,e,g,eb,q⟩:=vz sh2 rx (ry.mono le2) q2;exact⟨a,ov,e,g,b,by rw[show ov.isSome=b from eb],k _ _ _ (le1.trans le2) sh2 q⟩
theorem mY (hu:X.A.units+1<cLine) (hi:PE3 X i ti) (ho:PE3 X o td) (hm:behindInMarks .NotIn o=false:=by rfl):PT3 X (.Compare i [.NotIn] [o] pos) (ji (zF true ti td)):=by
 refine PT.imp (rY (mL hu hi ho) hm) ?_;rintro Z H Q ⟨Z3,H3,Q3,ss,sh,h,k⟩;refine⟨Z3,H3,_,ss,sh,h,fun y H1 ty H31 le1 sh1 ry q1=>⟨Z3,H31,_,ss.mono le1,sh1,q1,fun x H2 tx H32 le2 sh2 rx q2=>?_⟩⟩;obtain⟨a,ov,b,e,g,eb,q⟩:=vz sh2 rx (ry.mono le2) q2;exact⟨a,ov,e,g,b,by rw[show (!ov.isSome)=b from eb],k _ _ _ (le1.trans le2) sh2 q⟩
end
def w5 (x:T) (H:Hp3) (R:List T->(Hp3->Prop)->Hp3->Prop):Prop:=match x with
 |.tup ts=>R ts bZ H
 |.ref a=>liO (H a) a H R
 |_=>False
theorem Lp (ts:List T) {H:Hp3}{R:List T->(Hp3->Prop)->Hp3->Prop}:w5 (.tup ts) H R=R ts bZ H:=rfl
theorem Lq (a:Addr) {H:Hp3}{R:List T->(Hp3->Prop)->Hp3->Prop}:w5 (.ref a) H R=liO (H a) a H R:=rfl
def zG (i:Nat):TI3:=fun Z H R=>vq (Z[i]?) fun x=>w5 x H R
theorem Ez (i:Nat) {Z:St3}{H:Hp3}{R:List T->(Hp3->Prop)->Hp3->Prop}:zG i Z H R=vq (Z[i]?) fun x=>w5 x H R:=rfl
theorem EY {X:Cx}{tg:Expr}(i:Nat) {x:Str}{pos:Pos}(hN:X.N[i]?=some x:=by rfl) (hv:Vis X.env.scope x:=by first | exact Or.inl rfl | exact Or.inr (Or.inl rfl) | exact Or.inr (Or.inr rfl)) (hd:(x==("__debug__":Str))=false:=by decide)
  (hcd:(x==("__classdict__":Str))=false:=by decide):PI3 X tg (.Name x pos) (zG i):=by
 intro pins s Z H R I q;obtain⟨Z3,H3,R3,ss,sh,h,k⟩:=q;have h':vq (Z3[i]?) fun x=>w5 x H3 R3:=h;cases e:Z3[i]? with
 |none=>rw[e] at h';exact h'.elim
 |some o =>
 cases o with
 |none=>rw[e] at h';exact h'.elim
 |some t =>
 rw[e] at h';cases t with
 |tup ts=>exact cg (v3 i hN hv hd hcd) pins s Z H R I ⟨Z3,H3,R3,ss,sh,by show pZ i Z3 H3 _;rw[zj,e];exact h',k⟩
 |ref a=>exact cG (v3 i hN hv hd hcd) pins s Z H R I ⟨Z3,H3,R3,ss,sh,by show pZ i Z3 H3 _;rw[zj,e];exact h',k⟩
 |_=>exact h'.elim
theorem aZ {α:Type}(enc:α->T) (xs:List α) {g:TG3}{tb:TS3}{D:Ends3}{still:Hp3->Prop}{Z:St3}{H:Hp3}(I:List α->St3->Hp3->Prop) (h0:I [] Z H) (hn:∀Z H,I xs Z H->still H/\D.nx Z H)
  (hs:∀A x B Z H (N:St3->Hp3->Prop),xs=A++x::B->I A Z H->(∀Z' H',I (A++[x]) Z' H'->N Z' H')->still H/\g (enc x) Z H fun Z2 H2=>tb { D with nx:=N,ct:=N,bk:=D.nx} Z2 H2):iter3 g tb D still (xs.map enc) Z H:=by
 have:∀(B A:List α) (Z:St3) (H:Hp3),xs=A++B->I A Z H->iter3 g tb D still (B.map enc) Z H:=by
  intro B;induction B with
  |nil=>intro A Z H e h;rw[List.append_nil] at e;subst e;exact hn Z H h
  |cons x B ih =>
  intro A Z H e h;exact hs A x B Z H (iter3 g tb D still (B.map enc)) e h fun Z' H' h'=>ih (A++[x]) Z' H' (by rw[e];simp) h'
 exact this xs [] Z H rfl h0
theorem fc {α:Type}(enc:α->T) (xs:List α) {g:TG3}{tt:TT3}{te:TE3}{still:Hp3->Prop}{fin:List T->Hp3->Prop}{Z:St3}{H:Hp3}(I:List α->List T->St3->Hp3->Prop) (h0:I [] [] Z H) (hn:∀ys Z H,I xs ys Z H->still H/\ys.length<=sizeLine/\fin ys H)
  (hs:∀A x B ys Z H (N:List T->St3->Hp3->Prop),xs=A++x::B->I A ys Z H->(∀ys' Z' H',I (A++[x]) ys' Z' H'->N ys' Z' H') ->
   still H/\g (enc x) Z H fun Z2 H2=>tt Z2 H2 fun b H3=>if b=true then te Z2 H3 fun y H4=>ys.length<sizeLine/\N (ys++[y]) Z2 H4 else N ys Z2 H3):cIter3 g tt te still fin (xs.map enc) [] Z H:=by
 have:∀(B A:List α) (ys:List T) (Z:St3) (H:Hp3),xs=A++B->I A ys Z H->cIter3 g tt te still fin (B.map enc) ys Z H:=by
  intro B;induction B with
  |nil=>intro A ys Z H e h;rw[List.append_nil] at e;subst e;exact hn ys Z H h
  |cons x B ih =>
  intro A ys Z H e h;exact hs A x B ys Z H (cIter3 g tt te still fin (B.map enc)) e h fun ys' Z' H' h'=>ih (A++[x]) ys' Z' H' (by rw[e];simp) h'
 exact this xs [] [] Z H rfl h0
section
variable {prog:Program}{w:World}{A:Around}{E:Value->Shared->Prop}{s:Shared}
variable {X:Cx}{e:Expr}{te:TE}{p1 p2 pos pos':Pos}
theorem Fb {it t:Addr}{i:Nat}{items:Array Value}{x:Value}{Q:Value->Shared->Prop}(hit:s.heap.IsTupleIter it t i) (ht:s.heap.IsTuple t items) (hx:items[i]?=some x)
  (hQ:∀h',h'.IsTupleIter it t (i+1)->Heap.SameBut it s.heap h'->Q x { s with heap:=h'}):wpAny (model prog w) A (Builtin.SmallTypes.nextOf (.ref it)) Q E s:=by
 obtain⟨o,ho,hc,hd⟩:=id hit;obtain⟨ol,hol,_,nl,hdl⟩:=ht;unfold Builtin.SmallTypes.nextOf;refine wpAny_bind (wpAny_callSpecial?_slot (name:=Str.ofString "__next__") hit.typeIs F.slot_tuple_iterator_next
  (wpAny_call_entry F.slot_tuple_iterator_next hit.typeIs F.entry_tuple_iterator_next ?_ (F.args_tuple_iterator_next_1 _)))
 show wpAny _ _ (field (.ref it) 0 >>= _) _ _ s;refine wpAny_bind (wpAny_field ho hd (x:=.ref t) rfl ?_);show wpAny _ _ (if (Value.ref t==Value.none)=true then _ else _) _ _ s;rw[if_neg (show ¬((Value.ref t==Value.none)=true) from Bool.false_ne_true)];show wpAny _ _ (field (.ref it) 1 >>= _) _ _ s;refine wpAny_bind (wpAny_field ho hd (x:=.int i 0) rfl ?_);show wpAny _ _ (seqItems? (.ref t) >>= _) _ _ s;refine wpAny_bind (wpAny_seqItems hol hdl ?_);simp only[Int.toNat_natCast,hx];refine wpAny_bind (wpAny_setField ho hd (by simp) (wpAny_pure ⟨x,rfl,wpAny_pure (hQ _ ?_ (Heap.SameBut.update ..))⟩));refine⟨_,Heap.get?_update_self _ ho (Obj.isFreed_of_fields (Obj.data_mapFields hd _)),(Obj.cls_mapFields ..).trans hc,?_⟩;rw[Obj.data_mapFields hd];simp [rawInt]
theorem zH {it t:Addr}{i:Nat}{items:Array Value}{Q:Value->Shared->Prop}(hh:A.handled=none) (hit:s.heap.IsTupleIter it t i) (ht:s.heap.IsTuple t items) (hx:items[i]?=none)
  (hE:∀h' e,Heap.ExtBut it s.heap h'->(∃o,h'.get? e=some o/\o.cls=.type "StopIteration")->E (.ref e) { s with heap:=h'}):wpAny (model prog w) A (Builtin.SmallTypes.nextOf (.ref it)) Q E s:=by
 obtain⟨o,ho,hc,hd⟩:=id hit;obtain⟨ol,hol,_,nl,hdl⟩:=ht;unfold Builtin.SmallTypes.nextOf;refine wpAny_bind (wpAny_callSpecial?_slot (name:=Str.ofString "__next__") hit.typeIs F.slot_tuple_iterator_next
  (wpAny_call_entry F.slot_tuple_iterator_next hit.typeIs F.entry_tuple_iterator_next ?_ (F.args_tuple_iterator_next_1 _)))
 show wpAny _ _ (field (.ref it) 0 >>= _) _ _ s;refine wpAny_bind (wpAny_field ho hd (x:=.ref t) rfl ?_);show wpAny _ _ (if (Value.ref t==Value.none)=true then _ else _) _ _ s;rw[if_neg (show ¬((Value.ref t==Value.none)=true) from Bool.false_ne_true)];show wpAny _ _ (field (.ref it) 1 >>= _) _ _ s;refine wpAny_bind (wpAny_field ho hd (x:=.int i 0) rfl ?_);show wpAny _ _ (seqItems? (.ref t) >>= _) _ _ s;refine wpAny_bind (wpAny_seqItems hol hdl ?_);simp only[Int.toNat_natCast,hx];refine wpAny_bind (wpAny_rule (wpAny_bind (wpAny_setField ho hd (by simp) ?_)));show wpAny _ _ (newExc (.type "StopIteration") [] >>= _) _ _ _;refine wpAny_bind ?_;simp only[newExc,newTuple];refine wpAny_bind (wpAny_newObj_type ?_ (by size_fits));refine wpAny_bind (m:=firstArgMember _ _) (wpAny_of_eq (a:=Value.none) (by first | rfl | (simp only[firstArgMember];rfl)) ?_);refine wpAny_newObj_type ?_ (by size_fits);simp only[raiseNew];refine wpAny_bind (wpAny_handled ?_);first | rw[show A.in1.handled=none from hh] | rw[hh]
 refine wpAny_bind (wpAny_pure (wpAny_throw ?_));exact hE _ _ (((Heap.SameBut.update ..).extBut.push _).push _) ⟨_,Heap.get?_push_size _ rfl,rfl⟩
end
theorem tE {prog:Program}{w:World}{A:Around}(hh:A.handled=none) (it t:Addr) (hne:t≠it) (items:Array Value) :
  Draws prog w A it [it,t] items.size (fun i v=>items[i]?=some v) (fun i h=>h.IsTupleIter it t i/\h.IsTuple t items) where
 live:=fun _ _ st=>let ⟨o,ho,_⟩:=st.1;⟨o,ho⟩
 frame:=fun _ _ _ st hk=>⟨st.1.at fun o e=>hk it (by simp) o e,st.2.at fun o e=>hk t (by simp) o e⟩
 item:=fun i s Q E hi st hQ=>by
  refine Fb st.1 st.2 (x:=items[i]) (by simp [hi]) fun h' hit' hs'=>?_
  exact hQ _ h' s.toks (by simp [hi]) ⟨hit',st.2.extBut hs'.extBut hne⟩ hs'
 done:=fun s Q E st hE=>zH hh st.1 st.2 (by simp) hE
structure ZAp (z ti to i1 i2:Addr) (f1 f2:List Addr):Prop where
 ne:ti≠z/\to≠z/\ti≠to/\i1≠i2
 m1:i1∈f1
 m2:i2∈f2
 n1:z∉f1/\ti∉f1/\to∉f1/\i2∉f1
 n2:z∉f2/\ti∉f2/\to∉f2/\i1∉f2
section
variable {z ti to i1 i2:Addr}{f1 f2:List Addr}
theorem ZAp.i1z (D:ZAp z ti to i1 i2 f1 f2):i1≠z:=fun e=>D.n1.1 (e▸D.m1)
theorem ZAp.i2z (D:ZAp z ti to i1 i2 f1 f2):i2≠z:=fun e=>D.n2.1 (e▸D.m2)
theorem ZAp.i1ti (D:ZAp z ti to i1 i2 f1 f2):i1≠ti:=fun e=>D.n1.2.1 (e▸D.m1)
theorem ZAp.i2ti (D:ZAp z ti to i1 i2 f1 f2):i2≠ti:=fun e=>D.n2.2.1 (e▸D.m2)
theorem ZAp.i1to (D:ZAp z ti to i1 i2 f1 f2):i1≠to:=fun e=>D.n1.2.2.1 (e▸D.m1)
theorem ZAp.i2to (D:ZAp z ti to i1 i2 f1 f2):i2≠to:=fun e=>D.n2.2.2.1 (e▸D.m2)
variable {prog:Program}{w:World}{A:Around}{E:Value->Shared->Prop}{s:Shared}{n1 n2 k:Nat}{P1 P2:Nat->Value->Prop}{S1 S2:Nat->Heap->Prop}
theorem z_item {a b:Value}{Q:Value->Shared->Prop}(D1:Draws prog w A i1 f1 n1 P1 S1) (D2:Draws prog w A i2 f2 n2 P2 S2) (D:ZAp z ti to i1 i2 f1 f2)
  (hz:IsZip s.heap z ti to .none) (hI:IsPair s.heap ti (.ref i1) (.ref i2)) (hO:IsPair s.heap to a b) (h1:S1 k s.heap) (h2:S2 k s.heap) (k1:k<n1) (k2:k<n2)
  (hQ:∀x y h' tk,P1 k x->P2 k y->IsZip h' z ti to (rawInt s.heap.objs.size)->IsPair h' to x y->S1 (k+1) h'->S2 (k+1) h'->IsPair h' s.heap.objs.size x y->h'.objs.size=s.heap.objs.size+1 ->
   (∀c o,c∉[z,to,i1,i2]->s.heap.get? c=some o->h'.get? c=some o)->Q (.ref s.heap.objs.size) { s with heap:=h',toks:=tk}) :
  wpAny (model prog w) A (Builtin.«zip.__next__» ⟨[.ref z],[]⟩) (fun fin s'=>∃v,fin=.done (.ret v)/\Q v s') E s:=by
 show wpAny _ _ (field (.ref z) 2 >>= _) _ _ _;refine wpAny_bind (wpAny_field hz rfl (x:=.bool false) rfl ?_);show wpAny _ _ (field (.ref z) 3 >>= _) _ _ _;refine wpAny_bind (wpAny_field hz rfl (x:=.ref ti) rfl ?_);refine wpAny_bind (wpAny_seqItems hI rfl ?_);show wpAny _ _ (Builtin.SmallTypes.ownedTupleIsFree (.ref z) >>= _) _ _ _;refine wpAny_bind ?_;unfold Builtin.SmallTypes.ownedTupleIsFree;refine wpAny_bind (wpAny_field hz rfl (x:=.none) rfl (wpAny_pure ?_));try simp only[if_true]
 refine wpAny_bind (wpAny_rule ?_);refine wpAny_bind (wpAny_field hz rfl (x:=.ref to) rfl ?_);refine wpAny_bind (wpAny_setField_rec hz (by simp) fun ha hza hsa=>?_);replace hza:IsZip ha z ti to .ellipsis:=hza;refine wpAny_bind ?_;simp only[List.zipIdx_cons,List.zipIdx_nil,List.forIn_cons,List.forIn_nil];refine wpAny_bind (wpAny_bind (wpAny_onRaise ?_));show wpAny _ _ (Builtin.SmallTypes.nextOf (.ref i1) >>= _) _ _ _;have fr1:∀{i:Nat} {h h':Heap} {c:Addr},S1 i h->Heap.SameBut c h h'->c∉f1->S1 i h':=fun st sb nc=>D1.frame _ _ _ st fun b hb o e=>(sb.2 b fun q=>nc (q▸hb)).trans e;have fr2:∀{i:Nat} {h h':Heap} {c:Addr},S2 i h->Heap.SameBut c h h'->c∉f2->S2 i h':=fun st sb nc=>D2.frame _ _ _ st fun b hb o e=>(sb.2 b fun q=>nc (q▸hb)).trans e;refine wpAny_bind (D1.item k _ _ _ k1 (fr1 h1 hsa D.n1.1) fun x hb tb px sb1 hsb=>wpAny_pure ?_);have hOb:IsPair hb to a b:=(hsb.2 to (Ne.symm D.i1to)).trans ((hsa.2 to D.ne.2.1).trans hO);refine wpAny_bind (wpAny_seqItems hOb rfl ?_);refine wpAny_bind (wpAny_updateSeq_pair hOb fun hc hOc hsc=>?_);replace hOc:IsPair hc to x b:=hOc;refine wpAny_bind (wpAny_letGo (wpAny_pure ?_));refine wpAny_bind (wpAny_bind (wpAny_onRaise ?_));show wpAny _ _ (Builtin.SmallTypes.nextOf (.ref i2) >>= _) _ _ _;have s2c:S2 k hc:=fr2 (fr2 (fr2 h2 hsa D.n2.1) hsb D.n2.2.2.2) hsc D.n2.2.2.1;refine wpAny_bind (D2.item k _ _ _ k2 s2c fun y hd td py sd2 hsd=>wpAny_pure ?_);have hOd:IsPair hd to x b:=(hsd.2 to (Ne.symm D.i2to)).trans hOc;refine wpAny_bind (wpAny_seqItems hOd rfl ?_);refine wpAny_bind (wpAny_updateSeq_pair hOd fun he hOe hse=>?_);replace hOe:IsPair he to x y:=hOe;refine wpAny_bind (wpAny_letGo (wpAny_pure (wpAny_pure ?_)));refine wpAny_bind (wpAny_seqItems hOe rfl ?_);refine wpAny_bind (wpAny_newTuple ?_);have hsz:he.objs.size=s.heap.objs.size:=by rw[hse.1,hsd.1,hsc.1,hsb.1,hsa.1]
 have hze:IsZip he z ti to .ellipsis:=(hse.2 z (Ne.symm D.ne.2.1)).trans ((hsd.2 z (Ne.symm D.i2z)).trans ((hsc.2 z (Ne.symm D.ne.2.1)).trans ((hsb.2 z (Ne.symm D.i1z)).trans hza)));have hke:∀c o,c∉[z,to,i1,i2]->s.heap.get? c=some o->he.get? c=some o:=fun c o hc e=>by simp only[List.mem_cons,List.not_mem_nil,or_false,not_or] at hc;exact (hse.2 c hc.2.1).trans ((hsd.2 c hc.2.2.2).trans ((hsc.2 c hc.2.1).trans ((hsb.2 c hc.2.2.1).trans ((hsa.2 c hc.1).trans e))))
 have s1e:S1 (k+1) he:=fr1 (fr1 (fr1 sb1 hsc D.n1.2.2.1) hsd D.n1.2.2.2) hse D.n1.2.2.1;have s2e:S2 (k+1) he:=fr2 sd2 hse D.n2.2.2.1;have hzl:z<he.objs.size:=Heap.lt_size hze;show wpAny _ _ (Builtin.SmallTypes.ownedTupleHandOut (.ref z) (.ref he.objs.size) >>= _) _ _ _;refine wpAny_bind ?_;unfold Builtin.SmallTypes.ownedTupleHandOut;have hzf:IsZip (he.push { cls:=.type "tuple",data:=.seq #[x,y]}) z ti to .ellipsis:=Heap.get?_push_of_some _ hze;refine wpAny_bind (wpAny_setField_rec hzf (by simp) fun hg hzg hsg=>?_);replace hzg:IsZip hg z ti to (rawInt he.objs.size):=hzg;refine wpAny_setField_rec hzg (by simp) fun hh hzh hsh=>?_;replace hzh:IsZip hh z ti to (rawInt he.objs.size):=hzh;have up:∀c o,c≠z->he.get? c=some o->hh.get? c=some o:=fun c o c1 e=>(hsh.2 c c1).trans ((hsg.2 c c1).trans (Heap.get?_push_of_some _ e));have hTh:IsPair hh he.objs.size x y:=(hsh.2 _ (Nat.ne_of_gt hzl)).trans ((hsg.2 _ (Nat.ne_of_gt hzl)).trans (Heap.get?_push_size _ rfl));have hzz:hh.objs.size=he.objs.size+1:=by rw[hsh.1,hsg.1,Heap.size_push]
 rw[hsz] at hzh hTh hzz;refine wpAny_pure ⟨_,rfl,?_⟩;show Q (.ref he.objs.size) _;rw[hsz];exact hQ x y hh _ px py hzh (up _ _ D.ne.2.1 hOe) (D1.frame _ _ _ s1e fun b hb o e=>up b o (fun q=>D.n1.1 (q▸hb)) e) (D2.frame _ _ _ s2e fun b hb o e=>up b o (fun q=>D.n2.1 (q▸hb)) e) hTh hzz fun c o hc e=>up c o (fun q=>hc (q▸List.mem_cons_self)) (hke c o hc e)
theorem z_end {a b:Value}{Q:Fin->Shared->Prop}(D1:Draws prog w A i1 f1 n1 P1 S1) (D2:Draws prog w A i2 f2 n2 P2 S2) (D:ZAp z ti to i1 i2 f1 f2)
  (hz:IsZip s.heap z ti to .none) (hI:IsPair s.heap ti (.ref i1) (.ref i2)) (hO:IsPair s.heap to a b) (h1:S1 k s.heap) (h2:S2 k s.heap) (hk:k=n1\/(k<n1/\k=n2))
  (hE:∀h' e tk,(∀c o,c∉[z,to,i1,i2]->s.heap.get? c=some o->h'.get? c=some o)->(∃o,h'.get? e=some o/\o.cls=.type "StopIteration")->E (.ref e) { s with heap:=h',toks:=tk}) :
  wpAny (model prog w) A (Builtin.«zip.__next__» ⟨[.ref z],[]⟩) Q E s:=by
 show wpAny _ _ (field (.ref z) 2 >>= _) _ _ _;refine wpAny_bind (wpAny_field hz rfl (x:=.bool false) rfl ?_);show wpAny _ _ (field (.ref z) 3 >>= _) _ _ _;refine wpAny_bind (wpAny_field hz rfl (x:=.ref ti) rfl ?_);refine wpAny_bind (wpAny_seqItems hI rfl ?_);show wpAny _ _ (Builtin.SmallTypes.ownedTupleIsFree (.ref z) >>= _) _ _ _;refine wpAny_bind ?_;unfold Builtin.SmallTypes.ownedTupleIsFree;refine wpAny_bind (wpAny_field hz rfl (x:=.none) rfl (wpAny_pure ?_));try simp only[if_true]
 refine wpAny_bind (wpAny_rule ?_);refine wpAny_bind (wpAny_field hz rfl (x:=.ref to) rfl ?_);refine wpAny_bind (wpAny_setField_rec hz (by simp) fun ha hza hsa=>?_);replace hza:IsZip ha z ti to .ellipsis:=hza;refine wpAny_bind ?_;simp only[List.zipIdx_cons,List.zipIdx_nil,List.forIn_cons,List.forIn_nil];refine wpAny_bind (wpAny_bind (wpAny_onRaise ?_));show wpAny _ _ (Builtin.SmallTypes.nextOf (.ref i1) >>= _) _ _ _;have fr1:∀{i:Nat} {h h':Heap} {c:Addr},S1 i h->Heap.SameBut c h h'->c∉f1->S1 i h':=fun st sb nc=>D1.frame _ _ _ st fun b hb o e=>(sb.2 b fun q=>nc (q▸hb)).trans e;have fr2:∀{i:Nat} {h h':Heap} {c:Addr},S2 i h->Heap.SameBut c h h'->c∉f2->S2 i h':=fun st sb nc=>D2.frame _ _ _ st fun b hb o e=>(sb.2 b fun q=>nc (q▸hb)).trans e;rcases hk with rfl | ⟨k1,rfl⟩
 ·refine wpAny_bind (D1.done _ _ _ (fr1 h1 hsa D.n1.1) fun hb e hsb ⟨oe,hoe,hce⟩=>?_);have hzb:IsZip hb z ti to .ellipsis:=hsb z _ (Ne.symm D.i1z) hza;have hez:e≠z:=fun x=>by subst x;rw[hzb] at hoe;cases hoe;simp at hce
  refine wpAny_setField_rec hzb (by simp) fun hc _ hsc=>hE hc e _ (fun c o nc x=>?_) ⟨oe,(hsc.2 e hez).trans hoe,hce⟩;simp only[List.mem_cons,List.not_mem_nil,or_false,not_or] at nc;exact (hsc.2 c nc.1).trans (hsb c _ nc.2.2.1 ((hsa.2 c nc.1).trans x))
 refine wpAny_bind (D1.item k _ _ _ k1 (fr1 h1 hsa D.n1.1) fun x hb tb px sb1 hsb=>wpAny_pure ?_);have hOb:IsPair hb to a b:=(hsb.2 to (Ne.symm D.i1to)).trans ((hsa.2 to D.ne.2.1).trans hO);refine wpAny_bind (wpAny_seqItems hOb rfl ?_);refine wpAny_bind (wpAny_updateSeq_pair hOb fun hc hOc hsc=>?_);refine wpAny_bind (wpAny_letGo (wpAny_pure ?_));refine wpAny_bind (wpAny_bind (wpAny_onRaise ?_));show wpAny _ _ (Builtin.SmallTypes.nextOf (.ref i2) >>= _) _ _ _;have s2c:S2 k hc:=fr2 (fr2 (fr2 h2 hsa D.n2.1) hsb D.n2.2.2.2) hsc D.n2.2.2.1;refine wpAny_bind (D2.done _ _ _ s2c fun hd e hsd ⟨oe,hoe,hce⟩=>?_);have hzd:IsZip hd z ti to .ellipsis:=hsd z _ (Ne.symm D.i2z) ((hsc.2 z (Ne.symm D.ne.2.1)).trans ((hsb.2 z (Ne.symm D.i1z)).trans hza));have hez:e≠z:=fun x=>by subst x;rw[hzd] at hoe;cases hoe;simp at hce
 refine wpAny_setField_rec hzd (by simp) fun he _ hse=>hE he e _ (fun c o nc x=>?_) ⟨oe,(hse.2 e hez).trans hoe,hce⟩;simp only[List.mem_cons,List.not_mem_nil,or_false,not_or] at nc;exact (hse.2 c nc.1).trans (hsd c _ nc.2.2.2 ((hsc.2 c nc.2.1).trans ((hsb.2 c nc.2.2.1).trans ((hsa.2 c nc.1).trans x))))
theorem vA {a b:Value}{Q:Option Value->Shared->Prop}(D1:Draws prog w A.in1 i1 f1 n1 P1 S1) (D2:Draws prog w A.in1 i2 f2 n2 P2 S2) (D:ZAp z ti to i1 i2 f1 f2)
  (hz:IsZip s.heap z ti to .none) (hI:IsPair s.heap ti (.ref i1) (.ref i2)) (hO:IsPair s.heap to a b) (h1:S1 k s.heap) (h2:S2 k s.heap) (k1:k<n1) (k2:k<n2)
  (hQ:∀x y h' tk,P1 k x->P2 k y->IsZip h' z ti to (rawInt s.heap.objs.size)->IsPair h' to x y->S1 (k+1) h'->S2 (k+1) h'->IsPair h' s.heap.objs.size x y->h'.objs.size=s.heap.objs.size+1 ->
   (∀c o,c∉[z,to,i1,i2]->s.heap.get? c=some o->h'.get? c=some o)->Q (some (.ref s.heap.objs.size)) { s with heap:=h',toks:=tk}):wpAny (model prog w) A (pyNext (.ref z)) Q E s:=by
 have hT:s.TypeIs (.ref z) "zip":=⟨_,hz,rfl⟩;unfold pyNext;exact wpAny_bind (wpAny_attempt (wpAny_callSpecial?_slot (name:=Str.ofString "__next__") hT F.slot_zip_next
  (wpAny_call_entry F.slot_zip_next hT F.entry_zip_next (z_item D1 D2 D hz hI hO h1 h2 k1 k2 fun x y h' tk a1 a2 a3 a4 a5 a6 a7 a8 a9=>wpAny_pure (hQ x y h' tk a1 a2 a3 a4 a5 a6 a7 a8 a9)) (F.args_zip_next_1 _))))
theorem oJ {a b:Value}{Q:Option Value->Shared->Prop}(D1:Draws prog w A.in1 i1 f1 n1 P1 S1) (D2:Draws prog w A.in1 i2 f2 n2 P2 S2) (D:ZAp z ti to i1 i2 f1 f2)
  (hz:IsZip s.heap z ti to .none) (hI:IsPair s.heap ti (.ref i1) (.ref i2)) (hO:IsPair s.heap to a b) (h1:S1 k s.heap) (h2:S2 k s.heap) (hk:k=n1\/(k<n1/\k=n2))
  (hQ:∀h' tk,(∀c o,c∉[z,to,i1,i2]->s.heap.get? c=some o->h'.get? c=some o)->Q none { s with heap:=h',toks:=tk}):wpAny (model prog w) A (pyNext (.ref z)) Q E s:=by
 have hT:s.TypeIs (.ref z) "zip":=⟨_,hz,rfl⟩;unfold pyNext;refine wpAny_bind (wpAny_attempt (wpAny_callSpecial?_slot (name:=Str.ofString "__next__") hT F.slot_zip_next
  (wpAny_call_entry F.slot_zip_next hT F.entry_zip_next (z_end D1 D2 D hz hI hO h1 h2 hk fun h' e tk kp ⟨o,ho,hc⟩=>?_) (F.args_zip_next_1 _))))
 refine wpAny_bind (wpAny_isInstance (T:="StopIteration") (b:=true) ⟨o,ho,hc⟩ isSubtype_stop ?_);exact wpAny_pure (hQ _ _ kp)
end
abbrev Ie (t:Addr):Obj:={ cls:=.type "tuple_iterator",data:=.fields #[.ref t,.int 0 0]}
section
variable {prog:Program}{w:World}{A:Around}{E:Value->Shared->Prop}{s:Shared}
end
theorem zJ {prog:Program}{w:World}{A:Around}(hh:A.handled=none) (it t:Addr) (hne:t≠it) (items:Array Value) (k:Nat) (hk:items[k]?=none) :
  Draws prog w A it [it,t] k (fun _ _=>True) (fun i h=>i=k/\h.IsTupleIter it t i/\h.IsTuple t items) where
 live:=fun _ _ st=>let ⟨o,ho,_⟩:=st.2.1;⟨o,ho⟩
 frame:=fun _ _ _ st hk=>⟨st.1,st.2.1.at fun o e=>hk it (by simp) o e,st.2.2.at fun o e=>hk t (by simp) o e⟩
 item:=fun i s Q E hi st hQ=>absurd st.1 (Nat.ne_of_lt hi)
 done:=fun s Q E st hE=>zH hh st.2.1 st.2.2 hk hE
section
variable {X:Cx}{pins:List (Addr × Obj)}{Z:L2.St}{H:Hp}{s:Shared}{h':Heap}
theorem eN {ch:List Addr}{t':Nat}(I:Inv X pins Z H s) (k:∀b o,b∉ch->s.heap.get? b=some o->h'.get? b=some o) (hf:∀b∈ch,jF X pins H b):Inv X pins Z H { s with heap:=h',toks:=t'}:=by
 have nit:∀b u,H b=some u->b∉ch:=fun b u e z=>by rw[(hf b z).1] at e;cases e
 refine I.step (g':=s.gens) (d':=s.drawn) (ch:=ch) (fun b hb=>?_) (fun b o _ _ hc e _=>k b o hc e) (fun b o _ _ hc e _=>⟨o.slots,k b o hc e⟩) (fun _ _ _ _ n=>n)
  (fun b o hc e=>⟨o,k b o hc e⟩) (fun _ _ e=>e) (fun _ _ _ e=>e) (fun b ps e=>⟨#[],by rw[e];simp⟩) (fun m hm=>?_) (fun b u e=>?_) I.bare
 ·obtain⟨_,f1,_,f3,f4,f5⟩:=hf b hb;exact⟨f3,f1,f4,f5⟩
 ·obtain⟨o,es,ep,ho,r⟩:=hm;exact⟨o,es,ep,k _ o (fun z=>(hf _ z).2.1 rfl) ho,r⟩
 refine (I.hok b u e).stay (fun c v hc q=>k c v ?_ q) (fun _ q=>q) fun _ _ q=>q;rcases hc with z | z
 ·rw[z];exact nit b u e
 exact nit c _ z
end
theorem nm2 {x p q:Addr}(h1:x≠p) (h2:x≠q):x∉[p,q]:=fun h=>by
 rcases List.mem_cons.mp h with e | e
 ·exact h1 e
 exact h2 (List.mem_singleton.mp e)
theorem zap {a b z ti to i1 i2:Addr}(l1:a<i1/\b<i1) (l2:i1<i2) (l3:i2<ti) (l4:ti<to) (l5:to<z):ZAp z ti to i1 i2 [i1,a] [i2,b] :=
 have t1:i1<ti:=Nat.lt_trans l2 l3
 have t2:i1<to:=Nat.lt_trans t1 l4
 have t3:i1<z:=Nat.lt_trans t2 l5
 have t4:i2<to:=Nat.lt_trans l3 l4
 have t5:i2<z:=Nat.lt_trans t4 l5
 have t6:ti<z:=Nat.lt_trans l4 l5
 ⟨⟨Nat.ne_of_lt t6,Nat.ne_of_lt l5,Nat.ne_of_lt l4,Nat.ne_of_lt l2⟩,List.mem_cons_self,List.mem_cons_self,
  ⟨nm2 (Nat.ne_of_gt t3) (Nat.ne_of_gt (Nat.lt_trans l1.1 t3)),nm2 (Nat.ne_of_gt t1) (Nat.ne_of_gt (Nat.lt_trans l1.1 t1)),nm2 (Nat.ne_of_gt t2) (Nat.ne_of_gt (Nat.lt_trans l1.1 t2)),nm2 (Nat.ne_of_gt l2) (Nat.ne_of_gt (Nat.lt_trans l1.1 l2))⟩,
  ⟨nm2 (Nat.ne_of_gt t5) (Nat.ne_of_gt (Nat.lt_trans l1.2 t3)),nm2 (Nat.ne_of_gt l3) (Nat.ne_of_gt (Nat.lt_trans l1.2 t1)),nm2 (Nat.ne_of_gt t4) (Nat.ne_of_gt (Nat.lt_trans l1.2 t2)),nm2 (Nat.ne_of_lt l2) (Nat.ne_of_gt l1.2)⟩⟩
section
variable {X:Cx}{elts:List Expr}{x1:Nat}{tpos pos p:Pos}{ea eb:Expr}
def d7:List T->List T->List T
 |x::xs,y::ys=>.tup [x,y]::d7 xs ys
 |_,_=>[]
theorem kI:∀(xs ys:List T) (i:Nat),(d7 xs ys)[i]?=(match xs[i]?,ys[i]? with
  |some x,some y=>some (.tup [x,y])
  |_,_=>none)
 |[],ys,i=>by simp [d7]
 |x::xs,[],i=>by
  simp only[d7,List.getElem?_nil]
  cases (x::xs)[i]? <;> rfl
 |x::xs,y::ys,0=>by simp [d7]
 |x::xs,y::ys,i+1=>by simp only[d7,List.getElem?_cons_succ];exact kI xs ys i
theorem kJ:∀(xs ys:List T),(d7 xs ys).length=min xs.length ys.length
 |[],ys=>by simp [d7]
 |x::xs,[]=>by simp [d7]
 |x::xs,y::ys=>by simp [d7,kJ xs ys]
theorem zK:bootBuiltins "zip"=some (.type "zip"):=by decide +kernel
end
theorem qz {α:Type}(e1 e2 f:α->T) (as:List α) (rest:St3) {te:TE3}{still:Hp3->Prop}{fin:List T->Hp3->Prop}{v u:Option T}{H:Hp3}(hst:still H) (hl:as.length<=sizeLine)
  (ht:∀a∈as,∀Q:VK3,Q (f a) H->te (some (e1 a)::some (e2 a)::rest) H Q) (hfin:fin (as.map f) H) :
  cIter3 (yL 2 (nZ (gA 0) (nZ (gA 1) yK))) uX te still fin (as.map fun a=>.tup [e1 a,e2 a]) [] (v::u::rest) H:=by
 refine kj (fun r ys Z H'=>∃(rs ds:List α) (v u:Option T),Z=v::u::rest/\r=rs.map (fun a=>.tup [e1 a,e2 a])/\ys=ds.map f/\ds++rs=as/\H'=H) ⟨as,[],v,u,rfl,rfl,rfl,rfl,rfl⟩ ?_ ?_
 ·rintro ys Z H' ⟨rs,ds,v,u,rfl,hrs,rfl,hsp,rfl⟩;have hrs':rs=[]:=List.map_eq_nil_iff.mp hrs.symm;subst hrs';rw[List.append_nil] at hsp;subst hsp;exact⟨hst,by rw[List.length_map];exact hl,hfin⟩
 rintro x r ys Z H' N ⟨rs,ds,v,u,rfl,hrs,rfl,hsp,rfl⟩ hN;cases rs with
 |nil=>cases hrs
 |cons t rs =>
 injection hrs with a1 a2;subst a1 a2;refine⟨hst,rfl,?_⟩;show te (some (e1 t)::some (e2 t)::rest) H' _;refine ht t (by rw[<- hsp];simp) _ ⟨?_,hN _ _ _ ⟨rs,ds++[t],_,_,rfl,rfl,by simp,by rw[<- hsp];simp,rfl⟩⟩;have:=congrArg List.length hsp;simp only[List.length_append,List.length_cons] at this;rw[List.length_map];omega
theorem mZ:∀(ts:List T),d7 ts ts=ts.map fun t=>.tup [t,t]
 |[]=>rfl
 |t::r=>by rw[d7,mZ r];rfl
section
variable {H:Hp3}{Q:VK3}
theorem Lr (x:T):kh [x,.ty "str"] H Q=oq (isT "str" x H) fun b=>Q (.bl b) H:=by rw[qw];exact propext ⟨fun h=>h.2,fun h=>⟨by simp,h⟩⟩
theorem tG (x:Str):isT "str" (.str x) H=some true:=rfl
theorem tH (x:Int):isT "str" (.int x) H=some false:=rfl
theorem tK (x:List T):isT "str" (.tup x) H=some false:=rfl
theorem w6 (x:Bool):isT "str" (.bl x) H=some false:=rfl
theorem tL  : isT "str" (.non) H=some false:=rfl
theorem Ls (x:T):kh [x,.ty "int"] H Q=oq (isT "int" x H) fun b=>Q (.bl b) H:=by rw[qw];exact propext ⟨fun h=>h.2,fun h=>⟨by simp,h⟩⟩
theorem tM (x:Str):isT "int" (.str x) H=some false:=rfl
theorem tO (x:Int):isT "int" (.int x) H=some true:=rfl
theorem tQ (x:List T):isT "int" (.tup x) H=some false:=rfl
theorem xf (x:Bool):isT "int" (.bl x) H=some true:=rfl
theorem tR  : isT "int" (.non) H=some false:=rfl
theorem Fd (x:T):kh [x,.ty "bool"] H Q=oq (isT "bool" x H) fun b=>Q (.bl b) H:=by rw[qw];exact propext ⟨fun h=>h.2,fun h=>⟨by simp,h⟩⟩
theorem qC (x:Str):isT "bool" (.str x) H=some false:=rfl
theorem qD (x:Int):isT "bool" (.int x) H=some false:=rfl
theorem qF (x:List T):isT "bool" (.tup x) H=some false:=rfl
theorem tU (x:Bool):isT "bool" (.bl x) H=some true:=rfl
theorem qG  : isT "bool" (.non) H=some false:=rfl
theorem zL (x:T):kh [x,.ty "tuple"] H Q=oq (isT "tuple" x H) fun b=>Q (.bl b) H:=by rw[qw];exact propext ⟨fun h=>h.2,fun h=>⟨by simp,h⟩⟩
theorem oK (x:Str):isT "tuple" (.str x) H=some false:=rfl
theorem oM (x:Int):isT "tuple" (.int x) H=some false:=rfl
theorem oN (x:List T):isT "tuple" (.tup x) H=some true:=rfl
theorem qH (x:Bool):isT "tuple" (.bl x) H=some false:=rfl
theorem oO  : isT "tuple" (.non) H=some false:=rfl
theorem Fe (x:T):kh [x,.ty "list"] H Q=oq (isT "list" x H) fun b=>Q (.bl b) H:=by rw[qw];exact propext ⟨fun h=>h.2,fun h=>⟨by simp,h⟩⟩
theorem qI (x:Str):isT "list" (.str x) H=some false:=rfl
theorem qJ (x:Int):isT "list" (.int x) H=some false:=rfl
theorem qK (x:List T):isT "list" (.tup x) H=some false:=rfl
theorem tV (x:Bool):isT "list" (.bl x) H=some false:=rfl
theorem qL  : isT "list" (.non) H=some false:=rfl
theorem jN {α:Type} [DecidableEq α] (a:α):decide (a=a)=true:=decide_eq_true rfl
end
open L2 PySem.Builtin PySem.Builtin.Str
section
variable {prog:Program}{w:World}{A:Around}{E:Value->Shared->Prop}{s:Shared}{x y:Str}{t u:Tok}{Q:Value->Shared->Prop}
variable {X:Cx}
variable {elts:List Expr}{x1 j:Nat}{tpos pos p cp kp:Pos}{e:Expr}
theorem oR:bootBuiltins "enumerate"=some (.type "enumerate"):=by decide +kernel
variable {tg l:Expr}
variable {te:TE}{p1 p2 pos':Pos}
variable {pins:List (Addr × Obj)}{Z:L2.St}{H:Hp}
variable {a:Expr}{ta:TE3}
def ngq (x:T) (H:Hp3) (Q:VK3):Prop:=match x with
 |.int i=>Q (.int (-i)) H
 |_=>False
def Ig (ta:TE3):TE3:=fun Z H Q=>ta Z H fun x H1=>ngq x H1 Q
theorem Rx (ta:TE3) {Z:St3}{H:Hp3}{Q:VK3}:Ig ta Z H Q=ta Z H fun x H1=>ngq x H1 Q:=rfl
theorem Ry (i:Int) {H:Hp3}{Q:VK3}:ngq (.int i) H Q=Q (.int (-i)) H:=rfl
theorem zM (ha:PE3 X a ta):PE3 X (.UnaryOp .USub a pos) (Ig ta):=by
 refine PE.imp (Pq JX ha) ?_;rintro Z H Q ⟨Z3,H3,Q3,ss,sh,h,k⟩;refine⟨Z3,H3,_,ss,sh,h,fun v H' t H3' le sh' r q=>?_⟩;cases t with
 |int i=>exact⟨i,r.int,k _ _ _ _ le sh' .ofInt q⟩
 |_=>exact q.elim
def Lw:List T->Hp3->VK3->Prop:=fun ts H Q=>match ts with
 |[.str x]=>x.length<=640/\oq (intText? x) fun n=>Q (.int n) H
 |_=>False
theorem Lx (x:Str) {H:Hp3}{Q:VK3}:Lw [.str x] H Q=(x.length<=640/\oq (intText? x) fun n=>Q (.int n) H):=rfl
def eO (k:Int):List T->List T
 |[]=>[]
 |x::r=>.tup [.int k,x]::eO (k+1) r
theorem m5:∀(k:Int) (xs:List T) (i:Nat),(eO k xs)[i]?=xs[i]?.map fun x=>.tup [.int (k+i),x]
 |_,[],i=>by simp [eO]
 |k,x::xs,0=>by simp [eO]
 |k,x::xs,i+1=>by
  simp only[eO,List.getElem?_cons_succ]
  rw[m5 (k+1) xs i]
  have:k+1+(i:Int)=k+((i+1:Nat):Int):=by omega
  rw[this]
theorem m6:∀(k:Int) (xs:List T),(eO k xs).length=xs.length
 |_,[]=>rfl
 |k,x::xs=>by simp [eO,m6 (k+1) xs]
def Ly (o:Option O3) (a:Addr) (H:Hp3) (R:List T->(Hp3->Prop)->Hp3->Prop):Prop:=match o with
 |some (.lst ts)=>R (eO 0 ts) (aV a ts) H
 |_=>False
def Lz (x:T) (H:Hp3) (R:List T->(Hp3->Prop)->Hp3->Prop):Prop:=match x with
 |.ref a=>Ly (H a) a H R
 |_=>False
def Ff (te:TE3):TI3:=fun Z H R=>te Z H fun x H1=>Lz x H1 R
theorem zN (te:TE3) {Z:St3}{H:Hp3}{R:List T->(Hp3->Prop)->Hp3->Prop}:Ff te Z H R=te Z H fun x H1=>Lz x H1 R:=rfl
theorem LC (a:Addr) {H:Hp3}{R:List T->(Hp3->Prop)->Hp3->Prop}:Lz (.ref a) H R=Ly (H a) a H R:=rfl
theorem LK (ts:List T) (a:Addr) {H:Hp3}{R:List T->(Hp3->Prop)->Hp3->Prop}:Ly (some (.lst ts)) a H R=R (eO 0 ts) (aV a ts) H:=rfl
end
theorem qM (l:Addr) (items:Array Value) (n:Nat) (dct:Option Addr) (sl:Array (Option Value)) :
  Meets (Builtin.«enumerate.__new__» ⟨[.type "enumerate",.ref l],[]⟩) (fun _ R s=>s.heap.get? l=some { cls:=.type "tuple",dict:=dct,data:=.seq items n,slots:=sl} /\
   R (.ok (.ret (.ref (s.heap.push { cls:=.type "tuple_iterator",data:=.fields #[.ref l,.int 0 0]}).objs.size)))
    { s with heap:=(s.heap.push { cls:=.type "tuple_iterator",data:=.fields #[.ref l,.int 0 0]}).push { cls:=.type "enumerate",data:=.fields #[.none,.bool false,.ref s.heap.objs.size,rawInt 0,.none,.none]}}) :=
 .of_wp fun prog w A R s h=>by
  obtain⟨hp,g,d,tk,os⟩:=s;obtain⟨hl,h⟩:=h;have hsub:=sub_enumerate;have hL:Heap.IsTuple (Shared.heap ⟨hp,g,d,tk,os⟩) l items:=⟨_,hl,rfl,n,rfl⟩
  wp_walk using AutoSeq1.wpAny_loadPart' hl
  refine wpAny_stack_any fun st=>wpAny_pure ?_;split
  ·rename_i c _ _ _ _ _;cases (c==Value.type "enumerate")
   ·wp_walk using AutoSeq1.wpAny_loadPart' hl,wpAny_pyIter_tuple hL
    exact⟨_,rfl,h⟩
   wp_walk using AutoSeq1.wpAny_loadPart' hl,wpAny_pyIter_tuple hL
   exact⟨_,rfl,h⟩
  wp_walk using AutoSeq1.wpAny_loadPart' hl,wpAny_pyIter_tuple hL
  exact⟨_,rfl,h⟩
theorem iz {prog:Program}{w:World}{A:Around}{E:Value->Shared->Prop}{s:Shared}{l:Addr}{items:Array Value}{Q:Value->Shared->Prop}(hL:s.heap.IsTuple l items)
  (h:∀h',IsEnum h' (s.heap.objs.size+1) s.heap.objs.size 0 .none->h'.IsTupleIter s.heap.objs.size l 0->h'.objs.size=s.heap.objs.size+2 ->
   (∀b o,s.heap.get? b=some o->h'.get? b=some o)->Q (.ref (s.heap.objs.size+1)) { s with heap:=h'}) :
  wpAny (model prog w) A (call (.type "enumerate") [.ref l]) Q E s:=by
 obtain⟨⟨c,dct,dt,sl⟩,hl,hc,n,hd⟩:=hL;replace hc:c=.type "tuple":=hc;replace hd:dt=.seq items n:=hd;subst hc hd;refine callType_new F.called_enumerate (by decide) (F.typeCall_enumerate_1 _) (F.newCall_enumerate_1 _) (fun obj=>F.args_object_init_2 obj _) F.entry_enumerate_new
  (qM l items n dct sl) ⟨hl,?_⟩
 have hz:(s.heap.push { cls:=.type "tuple_iterator",data:=.fields #[.ref l,.int 0 0]}).objs.size=s.heap.objs.size+1:=Heap.size_push ..;show _/\_;rw[hz];have he:IsEnum ((s.heap.push { cls:=.type "tuple_iterator",data:=.fields #[.ref l,.int 0 0]}).push
   { cls:=.type "enumerate",data:=.fields #[.none,.bool false,.ref s.heap.objs.size,rawInt 0,.none,.none]}) (s.heap.objs.size+1) s.heap.objs.size 0 .none:=by
  have:=Heap.get?_push_size (s.heap.push { cls:=.type "tuple_iterator",data:=.fields #[.ref l,.int 0 0]})
   (o:={ cls:=.type "enumerate",data:=.fields #[.none,.bool false,.ref s.heap.objs.size,rawInt 0,.none,.none]}) rfl
  rw[hz] at this;exact this
 refine⟨⟨_,he,rfl⟩,h _ he ⟨_,Heap.get?_push_of_some _ (Heap.get?_push_size _ rfl),rfl,rfl⟩ (by rw[Heap.size_push,hz]) fun b o x=>Heap.get?_push_of_some _ (Heap.get?_push_of_some _ x)⟩
def LQ (K:Frag) (a:Addr):It :=
 ⟨fun i H=>∃xs x,SqT K H a xs/\xs[i]?=some x,
  fun i H v H'=>∃p x,v=.ref p/\H p=none/\H'=upd H p (.tup [.int (i:Int),x])/\∀xs,SqT K H a xs->xs[i]?=some x,
  fun i H=>∃xs,SqT K H a xs/\xs.length<=i⟩
theorem tW {P:Program}{w:World}{K:Frag}{elts:List Expr}{x1:Nat}{pos:Pos}(a it e:Addr) (l1:a<it) (l2:it<e) :
  Turn P w K (.Tuple elts x1 pos) (LQ K a) [e,it] e (fun i h=>(∃old,IsEnum h e it (i:Int) old)/\h.IsTupleIter it a i) where
 mem:=List.mem_cons_self
 obj:=fun i h st c hc=>by
  obtain⟨⟨old,he⟩,⟨o1,e1,_,d1⟩⟩:=st
  simp only[List.mem_cons,List.not_mem_nil,or_false] at hc
  rcases hc with rfl | rfl
  ·
   exact⟨_,he,fun v z=>by cases z⟩
  ·
   exact⟨_,e1,fun v z=>by rw[d1] at z;cases z⟩
 keep:=fun i h h' st k=>by
  obtain⟨⟨old,he⟩,h1⟩:=st
  exact⟨⟨old,k e (by simp) _ he⟩,h1.at fun o q=>k it (by simp) o q⟩
 item:=by
  intro X hP hw hK hc i pins s Z H E I hf st hg
  subst hP hw hK
  obtain⟨xs,x,hq,hx⟩:=hg
  obtain⟨its,rv,p,hz⟩:=I.tuple hq
  obtain⟨u,hu,ru⟩:=rv.get hx
  obtain⟨⟨old,he⟩,h1⟩:=st
  have hu':its.toArray[i]?=some u:=by simpa using hu
  have hai:a≠it:=Nat.ne_of_lt l1
  have hei:e≠it:=Nat.ne_of_gt l2
  have hea:e≠a:=Nat.ne_of_gt (Nat.lt_trans l1 l2)
  have hef:e∉[it,a]:=by simp [hei,hea]
  have D:=tE (prog:=X.prog) (w:=X.w) (A:=X.A.in1) (I.ok.hd hc) it a hai its.toArray
  refine wpAny_pyNext_enum_itemD (i:=i) D he ⟨h1,p⟩ (Array.getElem?_eq_some_iff.mp hu').1 hei hef fun x' h' tk px ho hs' hT hsz kp=>?_
  have e1:x'=u:=Option.some.inj (px.symm.trans hu')
  subst e1
  obtain⟨hs1,hs2⟩:=hs'
  refine⟨_,rfl,wpAny_letOwnedTupleGo_enum ho fun h2' hz2' sb=>?_⟩
  have kp2:∀c o,c∉[e,it]->s.heap.get? c=some o->h2'.get? c=some o:=fun c o nc q=>(sb.2 c fun z=>nc (z▸List.mem_cons_self)).trans (kp c o (fun z=>nc (z▸List.mem_cons_self)) (fun z=>nc (by simp [z])) q)
  have lt:∀{c o},s.heap.get? c=some o->s.heap.objs.size≠c:=fun q=>Nat.ne_of_gt (Heap.lt_size q)
  have lt1:∀{c:Addr},c∈[e,it]->c≠s.heap.objs.size:=fun {c} hc=>by
   simp only[List.mem_cons,List.not_mem_nil,or_false] at hc
   rcases hc with q | q <;> subst q
   ·
    exact Ne.symm (lt he)
   ·
    obtain⟨o,q,_⟩:=h1;exact Ne.symm (lt q)
  have hTe:s.heap.objs.size≠e:=lt he
  have I1:Inv X pins Z (upd H s.heap.objs.size (.tup [.int (i:Int),x])) { s with heap:=s.heap.push { cls:=.type "tuple",data:=.seq #[.int (i:Int) tk,x']},toks:=tk+1} :=
   I.laid (t':=tk+1) (fun b o q=>Heap.get?_push_of_some _ q) (Nat.le_refl _) (show ObjOk X.prog X.w _ _ _ (.tup [.int (i:Int),x]) from ⟨by show 2<=sizeLine;decide,[.int (i:Int) tk,x'],.cons ⟨tk,rfl⟩ (.cons ru .nil),Tup0.new _ _⟩)
  have I2:Inv X pins Z (upd H s.heap.objs.size (.tup [.int (i:Int),x])) { s with heap:=h2',toks:=tk+1}:=eN (s:={ s with heap:=s.heap.push { cls:=.type "tuple",data:=.seq #[.int (i:Int) tk,x']},toks:=tk+1}) (ch:=[e,it]) (t':=tk+1) I1 (fun c o nc q=>by
   by_cases z:c=s.heap.objs.size
   ·
    subst z
    have q':(s.heap.push { cls:=.type "tuple",data:=.seq #[.int (i:Int) tk,x']}).get? s.heap.objs.size=some o:=q
    rw[Heap.get?_push_size _ rfl] at q'
    cases q'
    exact (sb.2 _ hTe).trans hT
   ·
    have q':(s.heap.push { cls:=.type "tuple",data:=.seq #[.int (i:Int) tk,x']}).get? c=some o:=q
    rw[Heap.get?_push_ne _ _ _ z] at q'
    exact kp2 c o nc q') fun c hc=>⟨by rw[aN (lt1 hc)];exact (hf c hc).1,(hf c hc).2⟩
  refine⟨.ref s.heap.objs.size,_,I2,rfl,⟨s.heap.objs.size,x,rfl,I.hok.fresh (Nat.le_refl _),rfl,fun zs hq'=>by rw[I.tuple_inj hq' hq];exact hx⟩,⟨⟨x',?_⟩,hs1.at fun o q=>(sb.2 it (Ne.symm hei)).trans q⟩,fun c hc=>by rw[aN (lt1 hc)];exact (hf c hc).1⟩
  exact hz2'
 done:=by
  intro X hP hw hK hc i pins s Z H E I hf st hg
  subst hP hw hK
  obtain⟨xs,hq,hx⟩:=hg
  obtain⟨its,rv,p,hz⟩:=I.tuple hq
  obtain⟨⟨old,he⟩,h1⟩:=st
  have hl:=rv.length
  have hai:a≠it:=Nat.ne_of_lt l1
  have D:=zJ (prog:=X.prog) (w:=X.w) (A:=X.A.in1) (I.ok.hd hc) it a hai its.toArray i (by simp;omega)
  exact wpAny_pyNext_enum_endD D he ⟨rfl,h1,p⟩ fun h' eb=>⟨rfl,eN (ch:=[e,it]) (t':=s.toks) I (fun b o nb q=>eb b o (fun z=>nb (by simp [z])) q) hf⟩
 self:=fun _ _ _ _ _ st h=>wpAny_pyIter_enum st.1.choose_spec h
section
variable {X:Cx}{elts:List Expr}{x1:Nat}{tpos pos p:Pos}{e:Expr}
def LR (K:Frag) (te:TE):TI:=fun Z H R=>te Z H fun x H1=>∃a,x=.ref a/\(∃xs,SqT K H1 a xs)/\R (LQ K a) H1
theorem zO {te:TE}(hg:Gl X "enumerate") (hm:X.mg "enumerate"=none) (he:PE X e te)
  (hs:starEach [e] X.env=(false,eval e X.env)::starEach [] X.env:=by rfl) (hpl:(backTo pos (starEach [] X.env)).any (·.1)=false:=by rfl) :
  PI X (.Tuple elts x1 tpos) (.Call (.Name "enumerate" p) [e] [] pos) (LR X.K te):=by
 intro pins s Z H R I h;refine wpAny_Call_Name_kw (dU I hg hm oR ?_ (by decide) (by decide));refine PyProof.Rows.callWith_type1 ?_ hs hpl;rw[hs];show wpAny _ _ (spliced ((false,eval e X.env)::backTo pos (starEach [] X.env))) _ _ s;refine Calls.spliced_cons (thn (he pins s Z H _ I h) fun u s2 ⟨x,H2,I2,r1,a,ea,⟨xs,hl⟩,q⟩=>?_);subst ea;cases r1;refine Calls.spliced_nil ?_;obtain⟨its,rv,ho,_⟩:=I2.tuple hl;have la:a<s2.heap.objs.size:=let ⟨o,e,_⟩:=ho;Heap.lt_size e;refine iz ho fun h' hE hL l1 kp=>wpAny_pyIter_enum hE ?_;refine⟨s2.heap.objs.size+1,[s2.heap.objs.size+1,s2.heap.objs.size],_,_,H2,rfl,I2.kept (t':=s2.toks) kp,tW a s2.heap.objs.size (s2.heap.objs.size+1) la (Nat.lt_succ_self _),⟨⟨.none,hE⟩,hL⟩,fun c hc=>?_,q⟩;have hc':s2.heap.objs.size<=c:=by
  simp only[List.mem_cons,List.not_mem_nil,or_false] at hc;rcases hc with z | z <;> subst z
  ·exact Nat.le_succ _
  exact Nat.le_refl _
 exact I2.fpOk hc' (I2.hok.fresh hc')
def Ma (x:T) (H:Hp3) (R:List T->(Hp3->Prop)->Hp3->Prop):Prop:=match x with
 |.tup ts=>R (eO 0 ts) bZ H
 |_=>False
def vB (te:TE3):TI3:=fun Z H R=>te Z H fun x H1=>Ma x H1 R
theorem zP (te:TE3) {Z:St3}{H:Hp3}{R:List T->(Hp3->Prop)->Hp3->Prop}:vB te Z H R=te Z H fun x H1=>Ma x H1 R:=rfl
theorem Mf (ts:List T) {H:Hp3}{R:List T->(Hp3->Prop)->Hp3->Prop}:Ma (.tup ts) H R=R (eO 0 ts) bZ H:=rfl
theorem tX {K:Frag}{H:Hp}{a:Addr}{ts:List T}{xs:List V}(sq:SqT K H a xs) (rs:Reps K H ts xs):ie K (LQ K a) (eO 0 ts) bZ H:=fun H' H3' le sh st=>by
 have hl:=rs.length;have sq':=le _ _ sq;refine⟨fun i hi=>⟨xs,sq',by rw[m6] at hi;omega⟩,fun i t e=>?_⟩;rw[m5] at e;cases q:ts[i]? with
 |none=>rw[q] at e;cases e
 |some x =>
 rw[q] at e;cases e;obtain⟨v,ev,rv⟩:=rs.get q;refine⟨⟨xs,v,sq',ev⟩,fun z H'' y=>?_⟩;obtain⟨p,x',rfl,hp,rfl,q1⟩:=y;have:=(q1 xs sq').symm.trans ev;cases this;refine⟨aJ hp,sh.new hp,?_⟩;rw[show (0:Int)+(i:Int)=(i:Int) from by omega];exact SimH.newTup (H3:=H3') hp (.cons .ofInt (.cons (rv.mono le) .nil))
theorem zQ {te:TE3}(hg:Gl X "enumerate") (hm:X.mg "enumerate"=none) (he:PE3 X e te) (hs:starEach [e] X.env=(false,eval e X.env)::starEach [] X.env:=by rfl) (hpl:(backTo pos (starEach [] X.env)).any (·.1)=false:=by rfl) :
  PI3 X (.Tuple elts x1 tpos) (.Call (.Name "enumerate" p) [e] [] pos) (vB te):=by
 refine PI.imp (zO hg hm he hs hpl) ?_;rintro Z H R ⟨Z3,H3,R3,ss,sh,h,k⟩;refine⟨Z3,H3,_,ss,sh,h,fun v H' t H3' le sh' r q=>?_⟩;cases t with
 |tup ts=>obtain⟨a,xs,rfl,sq,rs⟩:=r.tup;exact⟨a,rfl,⟨xs,sq⟩,k _ _ bZ H' H3' le sh' (tX sq rs) q⟩
 |_=>exact q.elim
def anH (o:Option O3) (H:Hp3) (Q:VK3):Prop:=match o with
 |some (.lst xs)=>oq (bU xs) fun bs=>Q (.bl (bs.any id)) H
 |some (.rol xs)=>oq (bU xs) fun bs=>Q (.bl (bs.any id)) H
 |_=>False
def Ih:List T->Hp3->VK3->Prop:=fun ts H Q=>match ts with
 |[.ref a]=>anH (H a) H Q
 |_=>False
theorem Rz (a:Addr) {H:Hp3}{Q:VK3}:Ih [.ref a] H Q=anH (H a) H Q:=rfl
theorem RB (xs:List T) {H:Hp3}{Q:VK3}:anH (some (.lst xs)) H Q=oq (bU xs) fun bs=>Q (.bl (bs.any id)) H:=rfl
theorem any_range (bs:List Bool):(List.range bs.length).any (fun i=>bs.getD i true)=bs.any id:=by
 rw[Bool.eq_iff_iff,List.any_eq_true,List.any_eq_true];constructor
 ·rintro⟨i,hi,h⟩;have hi':=List.mem_range.mp hi;refine⟨bs[i],List.getElem_mem hi',?_⟩;simpa [List.getD,hi'] using h
 rintro⟨b,hb,h⟩;obtain⟨i,hi,rfl⟩:=List.mem_iff_getElem.mp hb;refine⟨i,List.mem_range.mpr hi,?_⟩;simpa [List.getD,hi] using h
theorem Mg (hc:X.calm=true):cV X (.builtin "any") Ih:=by
 intro pins s Z H xs us Q I rv h;obtain⟨ts,H3,Q3,r,sh,h,k⟩:=h
 match ts,h,r with
 |[.ref a],h,r =>
 obtain⟨v,rfl,rv'⟩:=r.one';obtain⟨u,rfl,ru⟩:=vals1 rv;rw[rv'.ref] at ru;cases ru;have main:∀{ls:List T} {ys:List V},SqL X.K H a ys->Reps X.K H ls ys->oq (bU ls) (fun bs=>Q3 (.bl (bs.any id)) H3)->wpAny (model X.prog X.w) X.A (call (.builtin "any") [.ref a]) (EP X pins Z Q) X.xe s:=by
  intro ls ys sq rs q;cases e:bU ls with
  |none=>rw[e] at q;exact q.elim
  |some bs =>
  rw[e] at q;obtain⟨its,rvs,hl,_⟩:=I.list sq;have hi:=jy e rs rvs;subst hi;have hlI:a≠s.heap.objs.size:=fun z=>by obtain⟨o,n,eo,_⟩:=hl;have:=Heap.lt_size eo;rw[z] at this;exact Nat.lt_irrefl _ this
  refine call_any_walk (wpAny_pyIter_list hl.isList ?_);refine⟨s.heap.objs.size,_,_,_,_,_,fun i=>bs.getD i true,rfl,Walks.list (A:=X.A.in1) (I.ok.hd hc) s.heap.objs.size a hlI (bs.map Value.bool).toArray,⟨⟨_,Heap.get?_push_size _ rfl,rfl,rfl⟩,hl.isList.push _⟩,fun i v s' Q' E' hv hq=>?_,fun h' tk hk=>?_⟩
  ·have hv':(bs.map Value.bool)[i]?=some v:=by simpa using hv
   rw[List.getElem?_map] at hv';cases eb:bs[i]? with
   |none=>rw[eb] at hv';cases hv'
   |some b =>
   rw[eb] at hv';cases hv';have:bs.getD i true=b:=by simp [List.getD,eb]
   dsimp only at hq;rw[this] at hq;exact wpAny_truthy_bool hq
  have hn:(bs.map Value.bool).toArray.size=bs.length:=by simp
  rw[hn,any_range];refine⟨.bl (bs.any id),H,I.kept fun b o e=>hk b o (fun z=>?_) (Heap.get?_push_of_some _ e),rfl,k _ _ _ _ .refl sh .ofBl q⟩;have:=Heap.lt_size e;rw[List.mem_singleton.mp z] at this;exact Nat.lt_irrefl _ this
 have h':anH (H3 a) H3 Q3:=h;cases eo:H3 a with
 |none=>rw[eo] at h';exact h'.elim
 |some o =>
 rw[eo] at h';cases o with
 |lst ls=>obtain⟨ys,sq,rs⟩:=sh.sqL (.inl eo);exact main sq rs h'
 |rol ls=>obtain⟨ys,sq,rs⟩:=sh.sqL (.inr eo);exact main sq rs h'
 |_=>exact h'.elim
def zR:List T->Hp3->VK3->Prop:=fun ts H Q=>match ts with
 |[.int i,.int j]=>Q (.int (if j>i then j else i)) H
 |_=>False
def zT:List T->Hp3->VK3->Prop:=fun ts H Q=>match ts with
 |[.int i,.int j]=>Q (.int (if j<i then j else i)) H
 |_=>False
theorem Mh (i j:Int) {H:Hp3}{Q:VK3}:zR [.int i,.int j] H Q=Q (.int (if j>i then j else i)) H:=rfl
theorem Mi (i j:Int) {H:Hp3}{Q:VK3}:zT [.int i,.int j] H Q=Q (.int (if j<i then j else i)) H:=rfl
theorem Fg (hc:X.calm=true):cV X (.builtin "max") zR:=by
 intro pins s Z H xs us Q I rv h;obtain⟨ts,H3,Q3,r,sh,h,k⟩:=h
 match ts,h,r with
 |[.int i,.int j],h,r =>
 obtain⟨v,v2,rfl,r1,r2⟩:=r.two';obtain⟨u1,u2,rfl,q1,q2⟩:=vals2 rv;rw[r1.int] at q1;rw[r2.int] at q2;obtain⟨t1,rfl⟩:=q1;obtain⟨t2,rfl⟩:=q2;refine max_two_ints (I.ok.hd hc) fun h' tk hk=>?_;refine⟨.int (if j>i then j else i),H,I.kept hk,?_,k _ _ _ _ .refl sh .ofInt h⟩;by_cases z:j>i
 ·rw[if_pos z,if_pos z];exact⟨_,rfl⟩
 rw[if_neg z,if_neg z];exact⟨_,rfl⟩
theorem Fi (hc:X.calm=true):cV X (.builtin "min") zT:=by
 intro pins s Z H xs us Q I rv h;obtain⟨ts,H3,Q3,r,sh,h,k⟩:=h
 match ts,h,r with
 |[.int i,.int j],h,r =>
 obtain⟨v,v2,rfl,r1,r2⟩:=r.two';obtain⟨u1,u2,rfl,q1,q2⟩:=vals2 rv;rw[r1.int] at q1;rw[r2.int] at q2;obtain⟨t1,rfl⟩:=q1;obtain⟨t2,rfl⟩:=q2;refine min_two_ints (I.ok.hd hc) fun h' tk hk=>?_;refine⟨.int (if j<i then j else i),H,I.kept hk,?_,k _ _ _ _ .refl sh .ofInt h⟩;by_cases z:j<i
 ·rw[if_pos z,if_pos z];exact⟨_,rfl⟩
 rw[if_neg z,if_neg z];exact⟨_,rfl⟩
theorem zU:dJ X (binaryOp .BitAnd) (qi fun i j=>.int (Builtin.bitAnd i j)):=mU JW fun _ _ _=>.ofInt
theorem RC:dJ X (binaryOp .BitOr) (qi fun i j=>.int (Builtin.bitOr i j)):=mU Px fun _ _ _=>.ofInt
theorem jk:bootBuiltins "max"=some (.builtin "max"):=by decide +kernel
theorem Mj:bootBuiltins "min"=some (.builtin "min"):=by decide +kernel
end
theorem bu {N P:List Str}{sc:Scope}(a:sc.kind=.function:=by rfl) (b:sc.isCoroutine=false:=by rfl) (c:sc.isGenerator=false:=by rfl) (d:N.Nodup:=by decide +kernel) (e:N.take P.length=P:=by rfl)
 (f:∀x∈P,sc.names.lookup x=some .local\/sc.names.lookup x=some .cell:=by decide +kernel) (g:∀y∈sc.names,y.2≠.free:=by decide +kernel):FnScope N P sc:=⟨a,b,c,d,e,f,g⟩
theorem qN {p:Prop} [Decidable p] (h:¬p):¬(decide p=true) := fun e=>h (of_decide_eq_true e)
theorem upa {H:Hp3}{a q:Addr}{o u:O3}(h:H a=some u) (hq:H q=none):up3 H q o a=some u := by rw[aC (bf h hq)];exact h
structure Cal (P:Program) (w:World) (K:Frag) (mg:Str->Option Value) (base:Heap) (k:Nat) (x:Str) (st:Stmt) (ps:List Str) (sp:Sp3):Prop where
 ex:∃(f:Addr) (fd:FuncData),G3 K mg x st ps f fd/\FnOk3 P w K mg base k f fd ps sp
theorem Ml {X:Cx}{k:Nat}{ps:List Str}{sp:Sp3}{st:Stmt}{x:Str}{p pos:Pos}{e:Expr}{es:List Expr}{t:TA3}(D:Cal X.prog X.w X.K X.mg X.base k x st ps sp) (hr:Room k X.A) (hg:Gl X x)
  (ha:PA3 X (e::es) t) (hdb:(x==("__debug__":Str))=false:=by decide) (he:starEach (e::es) X.env=(false,eval e X.env)::starEach es X.env:=by rfl) (hpl:(backTo pos (starEach es X.env)).any (·.1)=false:=by rfl) :
  PE3 X (.Call (.Name x p) (e::es) [] pos) (oh sp t):=by
 obtain⟨f,fd,g,F⟩:=D.ex;exact Ed F hr hg g.m g.fn.kp g.b ha hdb he hpl
theorem aP {X:Cx}{k j:Nat}{ps:List Str}{sp:Sp3}{st:Stmt}{x:Str}{p pos:Pos}{e:Expr}{es:List Expr}{t:TA3}(D:Cal X.prog X.w X.K X.mg X.base k x st ps sp) (hr:Room j X.A) (hg:Gl X x) (ha:PA3 X (e::es) t) (hk:k<=j:=by decide) (hdb:(x==("__debug__":Str))=false:=by decide) (he:starEach (e::es) X.env=(false,eval e X.env)::starEach es X.env:=by rfl) (hpl:(backTo pos (starEach es X.env)).any (·.1)=false:=by rfl):PE3 X (.Call (.Name x p) (e::es) [] pos) (oh sp t):=Ml D (hr.mono hk) hg ha hdb he hpl
section
variable {X:Cx}{pins:List (Addr × Obj)}{Z:L2.St}{H:Hp}{s:Shared}
theorem Mm {c:Nat}:∀{xs:List Nat},(∀x∈xs,x<=c)->xs.sum<=xs.length*c
 |[],_=>by simp
 |x::xs,h=>by
  have a:=h x List.mem_cons_self
  have b:=Mm (xs:=xs) fun y hy=>h y (List.mem_cons_of_mem _ hy)
  simp only[List.sum_cons,List.length_cons,Nat.succ_mul]
  omega
def rpH (o:Option O3) (k:Int) (H:Hp3) (Q:VK3):Prop:=match o with
 |some (.lst xs)=>(-(2^63)<=k/\k<2^63/\xs.length*k.toNat<=sizeLine)/\∀p,H p=none->Q (.ref p) (up3 H p (.lst (List.replicate k.toNat xs).flatten))
 |_=>False
def Ii:R3:=fun x y H Q=>match x,y with
 |.ref a,.int k=>rpH (H a) k H Q
 |_,_=>False
theorem Ij (a:Addr) (k:Int) (H:Hp3) (Q:VK3):Ii (.ref a) (.int k) H Q=rpH (H a) k H Q:=rfl
theorem Ik (xs:List T) (k:Int) (H:Hp3) (Q:VK3):rpH (some (.lst xs)) k H Q=((-(2^63)<=k/\k<2^63/\xs.length*k.toNat<=sizeLine)/\∀p,H p=none->Q (.ref p) (up3 H p (.lst (List.replicate k.toNat xs).flatten))):=rfl
theorem Reps.rep {K:Frag}{H:Hp}{ts:List T}{vs:List V}(r:Reps K H ts vs):∀k:Nat,Reps K H (List.replicate k ts).flatten (List.replicate k vs).flatten
 |0=>.nil
 |k+1=>by rw[List.replicate_succ,List.replicate_succ,List.flatten_cons,List.flatten_cons];exact r.append (Reps.rep r k)
theorem tY:dJ X (binaryOp .Mult) Ii:=by
 refine OpR.imp J9 ?_;rintro x y H Q ⟨tx,ty,H3,Q3,rx,ry,sh,h,k⟩;cases tx with
 |ref a =>
  cases ty with
  |int n =>
   rw[Ij] at h;cases e:H3 a with
   |none=>rw[e] at h;exact h.elim
   |some o =>
   rw[e] at h;cases o with
   |lst xs=>rw[Ik] at h;obtain⟨vs,g1,r1⟩:=sh a _ e;obtain⟨⟨h1,h2,h3⟩,h'⟩:=h;refine⟨a,n,vs,rx.ref,ry.int,g1,h1,h2,by rw[<- r1.length];exact h3,fun p hp=>?_⟩;exact k _ _ _ _ (aJ hp) (sh.newLst hp (r1.rep n.toNat)) .ofRef (h' p (sh.fresh hp))
   |_=>exact h.elim
  |_=>exact h.elim
 |_=>exact h.elim
end
theorem lr_hint:Slot "list_reverseiterator" "__length_hint__" "list_reverseiterator.__length_hint__":=.of (owner:="list_reverseiterator") (n:="__length_hint__") (by rw[typeLookup_type,builtinLookup_eq_fast];kernel_rfl) (by decide +kernel) (by decide +kernel) (by decide +kernel)
 (by first | exact .inr (by decide +kernel) | exact .inl (by decide +kernel)) (by rw[isSubtype_type];kernel_rfl)
theorem zV:typeLookup (.type "list_reverseiterator") "__len__"=pure none:=by rw[typeLookup_type,builtinLookup_eq_fast];kernel_rfl
theorem Mp:isSubtype (.type "list_reverseiterator") (.type "list_reverseiterator")=pure true:=by rw[isSubtype_type];kernel_rfl
theorem zW {items acc:Array Value}(h:ItemsOf (fun i v=>items[items.size - 1 - i]?=some v) acc items.size):acc=items.reverse:=by
 refine Array.ext (by rw[h.1];simp) fun j h1 h2=>?_;have q:items[items.size - 1 - j]?=some acc[j]:=h.2 j acc[j] (Array.getElem?_eq_getElem h1);have hj:j<items.size:=by rw[<- h.1];exact h1
 rw[Array.getElem?_eq_getElem (by omega)] at q;rw[Array.getElem_reverse];exact (Option.some.inj q).symm
section
variable {prog:Program}{w:World}{A:Around}{E:Value->Shared->Prop}{s:Shared}
theorem xg {R:Result->Shared->Prop}{I l S:Addr}{items:Array Value}{res:Value}{c₀:Nat}(hh:A.handled=none) (hne:l≠I) (hsz:items.size<=sizeLine) (hSf:S∉[I,l]) (hit:s.heap.IsRevIter I l ((items.size:Int) - 1)) (hl:s.heap.IsList l items)
  (hS:s.heap.get? S=some { cls:=.type "list",data:=.seq #[] c₀})
  (hR:∀s' acc' c',Moved (S::[I]) (fun a b=>b=a) s s'->s'.heap.get? S=some { cls:=.type "list",dict:=none,data:=.seq acc' c',slots:=#[]}->ItemsOf (fun i v=>items[items.size - 1 - i]?=some v) acc' items.size->R (.ok (.ret res)) s') :
  wpAny (model prog w) A.in1 (Builtin.List.listExtendWith (.ref S) (.ref I) res)
   (fun fin s'=>match fin with | .done f=>R (.ok f) s' | .again c'=>c'.quiet=true/\codeAny (model prog w) A c' R s') (fun e s'=>R (.error e) s') s:=by
 have W:=(Walks.listRev (prog:=prog) (w:=w) (A:=A.in1) hh I l hne items).toS;have hSI:S≠I:=fun e=>hSf (e▸List.mem_cons_self);have st:(fun (i:Nat) (s:Shared)=>i<=items.size/\s.heap.IsRevIter I l ((items.size:Int) - 1 - (i:Int))/\s.heap.IsList l items) 0 s:=⟨Nat.zero_le _,by simpa using hit,hl⟩;have hty:s.TypeIs (.ref I) "list_reverseiterator":=hit.typeIs;unfold Builtin.List.listExtendWith;refine wpAny_bind (wpAny_typeOf hty ?_);have n1:Builtin.List.listSameRef (.ref S) (.ref I)=false:=by simp [Builtin.List.listSameRef,hSI]
 have n2:(Value.type "list_reverseiterator"==Value.type "list")=false:=by decide
 have n3:(Value.type "list_reverseiterator"==Value.type "tuple")=false:=by decide
 simp only[n1,n2,n3,Bool.or_false,Bool.false_eq_true,if_false];refine wpAny_bind (wpAny_pyIter_revIter hit ?_);refine wpAny_bind (wpAny_holding ?_);unfold Builtin.List.listLengthHint;refine wpAny_bind (wpAny_specialOf hty zV ?_);show wpAny _ A.in1 (specialOf (Value.ref I) (Str.ofString "__length_hint__") >>= _) _ _ _;refine wpAny_bind (wpAny_specialOf hty lr_hint.lookup ?_);generalize hid:("list_reverseiterator.__length_hint__":String)=id0
 (fail_if_success (clear hid id0))
 wp_delta
 rw[show splitId id0=some ("list_reverseiterator","__length_hint__") from by subst hid;decide +kernel];subst hid;refine wpAny_bind (wpAny_isInstance (b:=true) hty Mp ?_);rw[if_neg (show ¬(!true)=true from Bool.false_ne_true)];dsimp only;rw[if_pos (by decide +kernel)];rw[if_neg (show ¬((Value.builtin "list_reverseiterator.__length_hint__"==Value.builtin "range_iterator.__length_hint__")=true) from by decide)];refine wpAny_pure ?_;try rw[if_neg Bool.false_ne_true]
 refine wpAny_pure ⟨plainId_quiet F.plain_extend_loop _,?_⟩;exact codeAny_extend_loopS W hsz _ hSf _ items.size 0 _ _ _ rfl (Nat.zero_le _) st hS (ItemsOf.nil _) fun s' acc' c' hm hS' hacc=>hR s' acc' c' hm hS' hacc
theorem Fj {R:Result->Shared->Prop}{I l S:Addr}{items:Array Value}(hh:A.handled=none) (hne:l≠I) (hsz:items.size<=sizeLine) (hSf:S∉[I,l]) (hit:s.heap.IsRevIter I l ((items.size:Int) - 1)) (hl:s.heap.IsList l items)
  (hS:s.heap.get? S=some { cls:=.type "list",data:=.seq #[]})
  (hR:∀s' acc' c',Moved (S::[I]) (fun a b=>b=a) s s'->s'.heap.get? S=some { cls:=.type "list",dict:=none,data:=.seq acc' c',slots:=#[]}->ItemsOf (fun i v=>items[items.size - 1 - i]?=some v) acc' items.size->R (.ok (.ret .none)) s') :
  wpAny (model prog w) A.in1 (Builtin.«list.__init__» ⟨[.ref S,.ref I],[]⟩)
   (fun fin s'=>match fin with | .done f=>R (.ok f) s' | .again c'=>c'.quiet=true/\codeAny (model prog w) A c' R s') (fun e s'=>R (.error e) s') s:=by
 show wpAny _ A.in1 (do let old <- Builtin.List.listItems (.ref S);Builtin.List.listUpdate (.ref S) (fun _=>#[]);letGo old.toList.reverse;Builtin.List.listExtendWith (.ref S) (.ref I) .none) _ _ s;refine wpAny_bind ?_;unfold Builtin.List.listItems;refine wpAny_bind (wpAny_seqItems hS rfl (wpAny_pure ?_));show wpAny _ A.in1 (updateSeq S (fun _=>#[]) >>= fun _=>letGo (#[]:Array Value).toList.reverse >>= fun _=>Builtin.List.listExtendWith (.ref S) (.ref I) .none) _ _ s;refine wpAny_bind (wpAny_updateSeq hS rfl ?_);have hS₂:=Heap.get?_update_self (Obj.mapSeq (fun _=>(#[]:Array Value))) hS rfl;have oth:∀b o,b≠S->s.heap.get? b=some o->(s.heap.update S (Obj.mapSeq (fun _=>(#[]:Array Value)))).get? b=some o :=
  fun b o hb e=>(Heap.get?_update_other _ _ (Ne.symm hb)).trans e
 refine wpAny_bind (wpAny_letGo ?_);have nI:I≠S:=fun e=>hSf (by simp [e]);have nl:l≠S:=fun e=>hSf (by simp [e]);refine xg hh hne hsz hSf (hit.at fun o e=>oth _ o nI e) (hl.at fun o e=>oth _ o nl e) hS₂ fun s' acc' c' hm hS' hacc=>?_;exact hR s' acc' c' (Moved.trans (G:=fun a b=>b=a) (fun a b c h1 h2=>h2.trans h1) ((Moved.refl (G:=fun a b=>b=a) fun _=>rfl).then_heap (Nat.le_refl _) fun b o hb e=>oth b o (fun h=>hb (h▸List.mem_cons_self)) e) hm) hS' hacc
theorem lV {Q:Value->Shared->Prop}{I l:Addr}{items:Array Value}(hh:A.handled=none) (hne:l≠I) (hsz:items.size<=sizeLine) (hit:s.heap.IsRevIter I l ((items.size:Int) - 1)) (hl:s.heap.IsList l items)
  (hQ:∀s' c',Moved (s.heap.objs.size::[I]) (fun a b=>b=a) { s with heap:=s.heap.push { cls:=.type "list",data:=.seq #[]}} s' ->
   s'.heap.get? s.heap.objs.size=some { cls:=.type "list",dict:=none,data:=.seq items.reverse c',slots:=#[]}->Q (.ref s.heap.objs.size) s') :
  wpAny (model prog w) A (call (.type "list") [.ref I]) Q E s:=by
 have hIl:I<s.heap.objs.size:=by obtain⟨o,ho,_⟩:=hit;exact Heap.lt_size ho
 have htl:l<s.heap.objs.size:=by obtain⟨o,ho,_⟩:=hl;exact Heap.lt_size ho
 have hSf:s.heap.objs.size∉[I,l]:=fun hm=>by
  rcases List.mem_cons.mp hm with e | e
  ·rw[<- e] at hIl;exact Nat.lt_irrefl _ hIl
  rw[<- List.mem_singleton.mp e] at htl;exact Nat.lt_irrefl _ htl
 refine callType_codes (Q₁:=fun obj s₁=>obj=.ref s.heap.objs.size/\s₁={ s with heap:=s.heap.push { cls:=.type "list",data:=.seq #[]}}) F.called_list (F.typeCall_list_1 _) F.entry_list_init
  (code_list_new _ ⟨rfl,rfl⟩) fun obj s₁ h₁=>?_
 obtain⟨rfl,rfl⟩:=h₁;have hS:(s.heap.push { cls:=.type "list",data:=.seq #[]}).get? s.heap.objs.size=some { cls:=.type "list",data:=.seq #[]}:=Heap.get?_push_size _ rfl;refine⟨⟨_,hS,rfl⟩,F.args_list_init_2 _ _,Fj (A:=A.in1) hh hne hsz hSf (hit.at fun o e=>Heap.get?_push_of_some _ e) (hl.at fun o e=>Heap.get?_push_of_some _ e) hS fun s' acc' c' hm hS' hacc=>?_⟩;refine⟨rfl,hQ s' c' hm ?_⟩;rw[<- zW hacc];exact hS'
end
def Itv (K:Frag) (a:Addr) (n:Nat):It :=
 ⟨fun i H=>∃xs x,SqL K H a xs/\xs.length=n/\i<n/\xs[n - 1 - i]?=some x,fun i H x H'=>H'=H/\∀xs,SqL K H a xs->xs[n - 1 - i]?=some x,fun i _=>n<=i⟩
theorem zX {P:Program}{w:World}{K:Frag}{tg:Expr}(a it:Addr) (n:Nat):Turn P w K tg (Itv K a n) [it] it (fun i h=>i<=n/\h.IsRevIter it a ((n:Int) - 1 - (i:Int))) where
 mem:=by simp
 obj:=fun i h st b hb=>by
  have e:b=it:=by simpa using hb
  subst e
  obtain⟨_,o,e,c,d⟩:=st
  exact⟨o,e,fun v z=>by rw[d] at z;cases z⟩
 keep:=fun i h h' st k=>⟨st.1,st.2.at fun o e=>k it (by simp) o e⟩
 item:=by
  intro X hP hw hK hc i pins s Z H E I hf st hg
  subst hP hw hK
  obtain⟨xs,x,hq,hn,hi,hx⟩:=hg
  obtain⟨its,rv,p,hz⟩:=I.list hq
  obtain⟨u,hu,ru⟩:=rv.get hx
  obtain⟨f0,f1,f2,f3,f4,f5⟩:=hf it (by simp)
  have e:(n:Int) - 1 - (i:Int)=((n - 1 - i:Nat):Int):=by omega
  obtain⟨_,st⟩:=st
  rw[e] at st
  refine wpAny_pyNext_rev_item st p.isList (x:=u) (by simpa using hu) fun h' st' sb=>?_
  have I1:Inv X pins Z H { s with heap:=h'}:=I.turned (t':=s.toks) (fun b o hb e=>(sb.2 b hb).trans e) f0 f1 f3 f4 f5
  obtain⟨o,e',c,d⟩:=id st'
  have e2:((n - 1 - i:Nat):Int) - 1=(n:Int) - 1 - ((i+1:Nat):Int):=by omega
  rw[e2] at st'
  exact⟨u,rfl,uI (s:={ s with heap:=h'}) e' c d (by decide) ⟨x,H,I1,ru,⟨rfl,fun ys hy=>by rw[I.list_inj hy hq];exact hx⟩,⟨hi,st'⟩,fun b hb=>(hf b hb).1⟩⟩
 done:=by
  intro X hP hw hK hc i pins s Z H E I hf st hg
  subst hP hw hK
  obtain⟨f0,f1,f2,f3,f4,f5⟩:=hf it (by simp)
  obtain⟨hle,st⟩:=st
  have hge:n<=i:=hg
  have e:(n:Int) - 1 - (i:Int) = -1:=by omega
  rw[e] at st
  exact wpAny_pyNext_rev_end (I.ok.hd hc) st fun h' eb=>⟨rfl,I.turned (t':=s.toks) (fun b o hb e=>eb b o hb e) f0 f1 f3 f4 f5⟩
 self:=fun _ _ _ _ _ st h=>wpAny_pyIter_revIter st.2 h
theorem jz:bootBuiltins "reversed"=some (.type "reversed"):=by decide +kernel
section
variable {X:Cx}{tg e:Expr}{p p1 p2 pos pos':Pos}
def Vb (K:Frag) (te:TE):TI:=fun Z H R=>te Z H fun x H1=>∃a xs,x=.ref a/\SqL K H1 a xs/\R (Itv K a xs.length) H1
theorem Mq {te:TE}(hg:Gl X "reversed") (hm:X.mg "reversed"=none) (he:PE X e te)
  (hs:starEach [e] X.env=(false,eval e X.env)::starEach [] X.env:=by rfl) (hpl:(backTo pos (starEach [] X.env)).any (·.1)=false:=by rfl) :
  PI X tg (.Call (.Name "reversed" p) [e] [] pos) (Vb X.K te):=by
 intro pins s Z H R I h;refine wpAny_Call_Name_kw (dU I hg hm jz ?_ (by decide) (by decide));refine PyProof.Rows.callWith_type1 ?_ hs hpl;rw[hs];show wpAny _ _ (spliced ((false,eval e X.env)::backTo pos (starEach [] X.env))) _ _ s;refine Calls.spliced_cons (thn (he pins s Z H _ I h) fun u s2 ⟨x,H2,I2,r1,a,xs,ea,hq,q⟩=>?_);subst ea;cases r1;refine Calls.spliced_nil ?_;obtain⟨its,rv,hl,hz⟩:=I2.list hq;have hlen:=rv.length;refine call_reversed_list hl.isList ?_;have eI:((its.toArray.size:Nat):Int) - 1=(xs.length:Int) - 1:=by simp [hlen]
 rw[eI];have hI:(s2.heap.push (revObj a ((xs.length:Int) - 1))).IsRevIter s2.heap.objs.size a ((xs.length:Int) - 1):=⟨_,Heap.get?_push_size _ rfl,rfl,rfl⟩;refine wpAny_pyIter_revIter hI ?_;refine⟨s2.heap.objs.size,[s2.heap.objs.size],_,_,H2,rfl,I2.kept (t':=s2.toks) fun b o e=>Heap.get?_push_of_some _ e,zX a s2.heap.objs.size xs.length,⟨Nat.zero_le _,by simpa using hI⟩,fun b hb=>?_,q⟩;have e:b=s2.heap.objs.size:=by simpa using hb
 subst e;exact I2.fpOk (Nat.le_refl _) (I2.hok.fresh (Nat.le_refl _))
def reO (o:Option O3) (a:Addr) (H:Hp3) (R:List T->(Hp3->Prop)->Hp3->Prop):Prop:=match o with
 |some (.lst ts)=>R ts.reverse (aV a ts) H
 |_=>False
def Il (te:TE3):TI3:=fun Z H R=>te Z H fun x H1=>match x with
 |.ref a=>reO (H1 a) a H1 R
 |_=>False
theorem zY {K:Frag}{H:Hp}{a:Addr}{ts:List T}{xs:List V}(rs:xs.length=ts.length):ie K (Itv K a xs.length) ts.reverse (aV a ts) H:=fun H' H3' le sh st=>by
 obtain⟨ys,sq,rs'⟩:=sh.sqL st;have hl:=rs'.length;rw[rs];refine⟨fun i hi=>by rw[List.length_reverse] at hi;exact hi,fun i t e=>?_⟩;have hi:i<ts.length:=by have:=(List.getElem?_eq_some_iff.mp e).1;rw[List.length_reverse] at this;exact this
 rw[List.getElem?_reverse hi] at e;obtain⟨v,ev,rv⟩:=rs'.get e;refine⟨⟨ys,v,sq,hl.symm,hi,ev⟩,fun x H'' y=>?_⟩;obtain⟨e1,y⟩:=y;subst e1;have:=y ys sq;rw[ev] at this;cases this;exact⟨.refl,sh,rv⟩
theorem Mr {te:TE3}(hg:Gl X "reversed") (hm:X.mg "reversed"=none) (he:PE3 X e te)
  (hs:starEach [e] X.env=(false,eval e X.env)::starEach [] X.env:=by rfl) (hpl:(backTo pos (starEach [] X.env)).any (·.1)=false:=by rfl) :
  PI3 X tg (.Call (.Name "reversed" p) [e] [] pos) (Il te):=by
 refine PI.imp (Mq hg hm he hs hpl) ?_;rintro Z H R ⟨Z3,H3,R3,ss,sh,h,k⟩;refine⟨Z3,H3,_,ss,sh,h,fun v H' t H3' le sh' r q=>?_⟩;cases t with
 |ref a =>
  have q':reO (H3' a) a H3' R3:=q
  cases e:H3' a with
  |none=>rw[e] at q';exact q'.elim
  |some o =>
   rw[e] at q'
   cases o with
   |lst ts =>
    obtain⟨xs,sq,rs⟩:=sh'.sqL (.inl e)
    exact⟨a,xs,r.ref,sq,k _ _ (aV a ts) H' H3' le sh' (zY rs.length.symm) q'⟩
   |_=>exact q'.elim
 |_=>exact q.elim
theorem Ms (te:TE3) {Z:St3}{H:Hp3}{R:List T->(Hp3->Prop)->Hp3->Prop}:Il te Z H R=te Z H fun x H1=>match x with
 |.ref a=>reO (H1 a) a H1 R
 |_=>False:=rfl
theorem RD (ts:List T) (a:Addr) (H:Hp3) (R:List T->(Hp3->Prop)->Hp3->Prop):reO (some (.lst ts)) a H R=R ts.reverse (aV a ts) H:=rfl
def Mt (te:TE):TE:=fun Z H Q=>te Z H fun x H1=>∃p ys,x=.ref p/\SqL X.K H1 p ys/\∀l,H1 l=none->Q (.ref l) (upd H1 l (.lst ys.reverse))
theorem zZ {te:TE}(hc:X.calm=true) (hgt:Gl X "list") (hmt:X.mg "list"=none) (hgr:Gl X "reversed") (hmr:X.mg "reversed"=none) (ha:PE X e te)
  (he:starEach [e] X.env=(false,eval e X.env)::starEach [] X.env:=by rfl) (hpl:(backTo pos (starEach [] X.env)).any (·.1)=false:=by rfl) (hpl':(backTo pos' (starEach [] X.env)).any (·.1)=false:=by rfl) :
  PE X (.Call (.Name "list" p1) [.Call (.Name "reversed" p2) [e] [] pos'] [] pos) (Mt (X:=X) te):=by
 intro pins s Z H Q I h;refine wpAny_Call_Name_kw (dU I hgt hmt oG ?_ (by decide) (by decide));refine PyProof.Rows.callWith_type1 ?_ rfl hpl;show wpAny _ _ (spliced ((false,eval (.Call (.Name "reversed" p2) [e] [] pos') X.env)::backTo pos (starEach [] X.env))) _ _ s;refine Calls.spliced_cons ?_;refine wpAny_Call_Name_kw (dU I hgr hmr jz ?_ (by decide) (by decide));refine PyProof.Rows.callWith_type1 ?_ he hpl';rw[he];show wpAny _ _ (spliced ((false,eval e X.env)::backTo pos' (starEach [] X.env))) _ _ s;refine Calls.spliced_cons (thn (ha pins s Z H _ I h) fun u s1 ⟨x,H1,I1,r1,p,ys,hx,sq,q⟩=>?_);subst hx;cases r1;obtain⟨its,rv,hl,hz⟩:=I1.list sq;have hlen:=rv.length;have hsz:its.toArray.size<=sizeLine:=by simp only[List.size_toArray];omega
 refine Calls.spliced_nil ?_;refine call_reversed_list hl.isList ?_;refine Calls.spliced_nil ?_;have hpl:p<s1.heap.objs.size:=by obtain⟨o,eo,_⟩:=hl.isList;exact Heap.lt_size eo
 have hI0:(s1.heap.push (revObj p ((its.toArray.size:Int) - 1))).IsRevIter s1.heap.objs.size p ((its.toArray.size:Int) - 1):=⟨_,Heap.get?_push_size _ rfl,rfl,rfl⟩;refine lV (s:={ s1 with heap:=s1.heap.push (revObj p ((its.toArray.size:Int) - 1))}) (I1.ok.hd hc) (Nat.ne_of_lt hpl) hsz hI0 (hl.isList.at fun o e=>Heap.get?_push_of_some _ e) fun s' c' hm hS=>?_;generalize hz0:(s1.heap.push (revObj p ((its.toArray.size:Int) - 1))).objs.size=z at hm hS;have hz1:s1.heap.objs.size<z:=by rw[<- hz0];simp [Heap.push]
 have kp:∀b u,s1.heap.get? b=some u->s'.heap.get? b=some u:=fun b u eb=>hm.heap b u (fun hb=>by
  have:=Heap.lt_size eb
  rcases List.mem_cons.mp hb with e | e
  ·
   rw[e] at this;exact absurd (Nat.lt_trans this hz1) (Nat.lt_irrefl _)
  ·
   rw[List.mem_singleton.mp e] at this;exact Nat.lt_irrefl _ this) (Heap.get?_push_of_some _ (Heap.get?_push_of_some _ eb))
 have e1:s'={ s1 with heap:=s'.heap,toks:=s'.toks}:=by
  obtain⟨a1,a2,a3,a4,a5⟩:=s';have:=hm.gens;have:=hm.drawn;have:=hm.os
  simp_all
 have I3:Inv X pins Z (upd H1 z (.lst ys.reverse)) { s1 with heap:=s'.heap,toks:=s'.toks} :=
  I1.laid (t':=s'.toks) kp (Nat.le_of_lt hz1) ⟨by rw[List.length_reverse];exact hz,its.reverse,c',rv.reverse,by simpa using hS⟩
 rw[e1];exact⟨.ref z,_,I3,rfl,q _ (I1.hok.fresh (Nat.le_of_lt hz1))⟩
def lrO (o:Option O3) (H:Hp3) (Q:VK3):Prop:=match o with
 |some (.lst xs)=>∀p,H p=none->Q (.ref p) (up3 H p (.lst xs.reverse))
 |_=>False
def vC (te:TE3):TE3:=fun Z H Q=>te Z H fun x H1=>match x with
 |.ref a=>lrO (H1 a) H1 Q
 |_=>False
theorem z6 {te:TE3}(hc:X.calm=true) (hgt:Gl X "list") (hmt:X.mg "list"=none) (hgr:Gl X "reversed") (hmr:X.mg "reversed"=none) (ha:PE3 X e te)
  (he:starEach [e] X.env=(false,eval e X.env)::starEach [] X.env:=by rfl) (hpl:(backTo pos (starEach [] X.env)).any (·.1)=false:=by rfl) (hpl':(backTo pos' (starEach [] X.env)).any (·.1)=false:=by rfl) :
  PE3 X (.Call (.Name "list" p1) [.Call (.Name "reversed" p2) [e] [] pos'] [] pos) (vC te):=by
 refine PE.imp (zZ hc hgt hmt hgr hmr ha he hpl hpl') ?_;rintro Z H Q ⟨Z3,H3,Q3,ss,sh,h,k⟩;refine⟨Z3,H3,_,ss,sh,h,fun v H' t H3' le sh' r q=>?_⟩;cases t with
 |ref a =>
  have q':lrO (H3' a) H3' Q3:=q
  cases e:H3' a with
  |none=>rw[e] at q';exact q'.elim
  |some o =>
   rw[e] at q'
   cases o with
   |lst ts =>
    obtain⟨xs,sq,rs⟩:=sh'.sqL (.inl e)
    exact⟨a,xs,r.ref,sq,fun l hl=>k _ _ _ _ (le.trans (aJ hl)) (sh'.newLst hl rs.reverse) .ofRef (q' l (sh'.fresh hl))⟩
   |_=>exact q'.elim
 |_=>exact q.elim
theorem Fl (te:TE3) {Z:St3}{H:Hp3}{Q:VK3}:vC te Z H Q=te Z H fun x H1=>match x with
 |.ref a=>lrO (H1 a) H1 Q
 |_=>False:=rfl
theorem RG (xs:List T) (H:Hp3) (Q:VK3):lrO (some (.lst xs)) H Q=∀p,H p=none->Q (.ref p) (up3 H p (.lst xs.reverse)):=rfl
variable {o:Expr}{to:TE3}{name:Str}{apos cpos:Pos}{m:T->List T->Hp3->VK3->Prop}{Ty id:String}
def Im (Ty:String) (m:T->List T->Hp3->VK3->Prop) (to:TE3):TE3:=fun Z H Q=>to Z H fun x H1=>ty3 Ty x H1/\m x [] H1 Q
theorem z7 (pa:PlainAttrs Ty) (slot:Slot Ty name id) (hty:typeOf (.builtin id)=pure (.type "method_descriptor")) (hm:yG X id m) (ho:PE3 X o to)
  (hbase:attributeBase o name X.env (eval o X.env)=eval o X.env:=by rfl) (hline:(apos.endLine==cpos.line)=true:=by rfl) :
  PE3 X (.Call (.Attribute o name apos) [] [] cpos) (Im Ty m to):=by
 refine PE.imp (J8 pa slot hty hm ho hbase hline) ?_;rintro Z H Q ⟨Z3,H3,Q3,ss,sh,h,k⟩;exact⟨Z3,H3,_,ss,sh,h,fun x H1 tx H31 le1 sh1 rx q1=>⟨HQ sh1 rx q1.1,tx,[],H31,Q3,rx,.nil,sh1,q1.2,k.at le1⟩⟩
def clO (o:Option O3) (a:Addr) (H:Hp3) (Q:VK3):Prop:=match o with
 |some (.lst _)=>Q .non (up3 H a (.lst []))
 |_=>False
def RJ:T->List T->Hp3->VK3->Prop:=fun x ts H Q=>match x,ts with
 |.ref a,[]=>clO (H a) a H Q
 |_,_=>False
theorem RK (a:Addr) (H:Hp3) (Q:VK3):RJ (.ref a) [] H Q=clO (H a) a H Q:=rfl
theorem RL (xs:List T) (a:Addr) (H:Hp3) (Q:VK3):clO (some (.lst xs)) a H Q=Q .non (up3 H a (.lst [])):=rfl
def Mu (o:Option O3) (a:Addr) (i:Int) (t:T) (H:Hp3) (Q:VK3):Prop:=match o with
 |some (.lst xs)=>(0<=i/\i<=xs.length/\xs.length<sizeLine)/\Q .non (up3 H a (.lst (xs.take i.toNat++t::xs.drop i.toNat)))
 |_=>False
def RM:T->List T->Hp3->VK3->Prop:=fun x ts H Q=>match x,ts with
 |.ref a,[.int i,t]=>Mu (H a) a i t H Q
 |_,_=>False
theorem RN (a:Addr) (i:Int) (t:T) (H:Hp3) (Q:VK3):RM (.ref a) [.int i,t] H Q=Mu (H a) a i t H Q:=rfl
theorem Mv (xs:List T) (a:Addr) (i:Int) (t:T) (H:Hp3) (Q:VK3):Mu (some (.lst xs)) a i t H Q=((0<=i/\i<=xs.length/\xs.length<sizeLine)/\Q .non (up3 H a (.lst (xs.take i.toNat++t::xs.drop i.toNat)))):=rfl
def mxH (o:Option O3) (H:Hp3) (Q:VK3):Prop:=match o with
 |some (.lst xs)=>oq (ints3 xs) fun ns=>ns≠[]/\∀M,M∈ns->(∀a∈ns,a<=M)->Q (.int M) H
 |_=>False
def z8:List T->Hp3->VK3->Prop:=fun ts H Q=>match ts with
 |[.ref a]=>mxH (H a) H Q
 |_=>False
theorem z9 (a:Addr) (H:Hp3) (Q:VK3):z8 [.ref a] H Q=mxH (H a) H Q:=rfl
theorem Io (xs:List T) (H:Hp3) (Q:VK3):mxH (some (.lst xs)) H Q=oq (ints3 xs) fun ns=>ns≠[]/\∀M,M∈ns->(∀a∈ns,a<=M)->Q (.int M) H:=rfl
theorem iR (hc:X.calm=true):cV X (.builtin "max") z8:=by
 intro pins s Z H xs us Q I rv h;obtain⟨ts,H3,Q3,r,sh,h,k⟩:=h;cases ts with
 |nil=>exact h.elim
 |cons t ts =>
 cases ts with
 |cons _ _=>cases t <;> exact h.elim
 |nil =>
 cases t with
 |ref a =>
  rw[z9] at h;obtain⟨v,rfl,rv'⟩:=r.one';obtain⟨u,rfl,ru⟩:=vals1 rv;rw[rv'.ref] at ru;cases ru;cases e:H3 a with
  |none=>rw[e] at h;exact h.elim
  |some o =>
  rw[e] at h;cases o with
  |lst ls =>
   rw[Io] at h;obtain⟨ys,sq,rs⟩:=sh.sqL (.inl e);cases e2:ints3 ls with
   |none=>rw[e2] at h;exact h.elim
   |some ns =>
   rw[e2,fZ] at h;obtain⟨hne,h⟩:=h;obtain⟨its,rvs,hl,_⟩:=I.list sq;have hi:=iw e2 rs rvs;have hall:AllInts its.toArray:=hi.allInts;obtain⟨zs,ez⟩:=hall.items;have hls:s.heap.IsList a (intItems zs):=by rw[<- ez];exact hl.isList
   have e1:=nums_intItems zs;rw[<- ez,show its.toArray.toList=its from rfl,hi.numsOf] at e1;have hz:0<zs.size:=by have:=congrArg List.length e1;simp at this;have:=List.length_pos_iff.mpr hne;omega
   refine max_intList (I.ok.hd hc) hls hz fun v h' tk hv hk=>?_;obtain⟨t,rfl⟩:=intItems_at hv;obtain⟨h1,h2⟩:=argBest_gt (numAt zs) (zs.size - 1);refine⟨.int _,H,I.kept hk,⟨t,rfl⟩,k _ _ _ _ .refl sh .ofInt (h _ ?_ fun a ha=>?_)⟩
   ·rw[e1,numAt_eq];exact getD_mem (by rw[List.length_map,Array.length_toList];omega)
   rw[e1] at ha;obtain⟨j,hj,rfl⟩:=mem_getD ha;rw[List.length_map,Array.length_toList] at hj;rw[<- numAt_eq];exact h2 j (by omega)
  |_=>exact h.elim
 |_=>cases h
end
open L2 HT
section
variable {prog:Program}{w:World}{A:Around}{E:Value->Shared->Prop}{s:Shared}
variable {X:Cx}
variable {e st:Expr}{p2 pos:Pos}
variable {p1 pos':Pos}
variable {l:Addr}{xs:Array (Int × Tok)}
def Mw:List T->Hp3->VK3->Prop:=fun ts H Q=>match ts with
 |[.tup xs]=>oq (ints3 xs) fun ns=>Q (.int ns.sum) H
 |_=>False
theorem Mx (xs:List T) (H:Hp3) (Q:VK3):Mw [.tup xs] H Q=oq (ints3 xs) fun ns=>Q (.int ns.sum) H:=rfl
def isN:T->Bool
 |.non=>true
 |_=>false
def RP:R3:=fun x y H Q=>match y with
 |.non=>Q (.bl (isN x)) H
 |_=>False
theorem Vc (x:T) (H:Hp3) (Q:VK3):RP x .non H Q=Q (.bl (isN x)) H:=rfl
theorem Fo:isN .non=true:=rfl
theorem Fp (i:Int):isN (.int i)=false:=rfl
theorem Fq (x:Str):isN (.str x)=false:=rfl
theorem Ft (ts:List T):isN (.tup ts)=false:=rfl
theorem Mz (b:Bool):isN (.bl b)=false:=rfl
theorem RQ:dJ X (compareOp .Is) RP:=by
 refine OpR.imp JZ ?_;rintro x y H Q ⟨tx,ty,H3,Q3,rx,ry,sh,h,k⟩;cases ty with
 |non =>
  refine⟨ry.non,?_⟩;have e:decide (x=.non)=isN tx:=by
   cases tx with
   |non=>rw[rx.non];rfl
   |int i=>rw[rx.int];rfl
   |str i=>rw[rx.str];rfl
   |bl i=>rw[rx.bl];rfl
   |ref a=>rw[rx.ref];rfl
   |tup ts=>obtain⟨a,vs,rfl,_⟩:=rx.tup;rfl
   |ty n=>rw[rx.ty];rfl
  rw[e];exact k _ _ _ _ .refl sh .ofBl h
 |_=>exact h.elim
end
end L3
namespace L2
section
variable {X:Cx}{a b:Expr}{rest:List Expr}{ta tb:TE}{pos:Pos}
end
end L2
namespace L3
open L2
section
variable {X:Cx}{a b:Expr}{rest:List Expr}{ta tb:TE3}{pos:Pos}
end
end L3
namespace L2
section
variable {prog:Program}{w:World}{K:Type} [DecidableEq K] {knd:KeyKind prog w K}
end
end L2
namespace L3
open L2
section
variable {X:Cx}
def MF:R3:=fun x y H Q=>match x,y with
 |.non,.non=>Q (.bl false) H
 |_,_=>False
theorem MJ (H:Hp3) (Q:VK3):MF .non .non H Q=Q (.bl false) H:=rfl
variable {pins:List (Addr × Obj)}{Z:L2.St}{H:Hp}{s:Shared}{a:Addr}
theorem Inv.freeze {kvs:List (Key × V)}(I:Inv X pins Z H s) (e:H a=some (.dK kvs)):∃o,s.heap.get? a=some o/\Inv X pins Z (upd H a (.frz o (.dK kvs))) s:=by
 have z:=I.hok a _ e;obtain⟨z1,z2,vs,rel,o,es,ep,ho,ex,r⟩:=id (show ObjOk X.prog X.w H s.heap a (.dK kvs) from z);have ne:∀b u,H b=some u->(∀ks,u≠.dK ks)->b≠a:=fun b u q n w=>by subst w;rw[e] at q;cases q;exact n _ rfl
 refine⟨o,ho,?_⟩;have:=I.step (h':=s.heap) (g':=s.gens) (d':=s.drawn) (t':=s.toks) (H':=upd H a (.frz o (.dK kvs))) (ch:=[]) (fun _ z=>nomatch z) (fun b o _ _ _ q _=>q) (fun b o _ _ _ q _=>⟨_,q⟩)
  (fun b o _ _ n=>by rw[aN (fun w=>by subst w;rw[e] at n;cases n)];exact n) (fun b o _ q=>⟨_,q⟩)
  (fun b xs q=>by rw[aN (ne b _ q fun _=>nofun)];exact q) (fun b o u q=>by rw[aN (ne b _ q fun _=>nofun)];exact q)
  (fun b ps q=>⟨#[],by rw[aN (ne b _ q fun _=>nofun),Array.append_empty];exact q⟩) (fun _ q=>q) (fun b u q=>?_) I.bare
 ·exact this
 by_cases hb:b=a
 ·subst hb;rw[bJ] at q;cases q;exact⟨ho,z1,z2,vs,rel,o,es,ep,ho,ex,r⟩
 rw[aN hb] at q;exact (I.hok b u q).stay (fun _ _ _ r=>r) (fun c r=>by rw[aN (ne c _ r fun _=>nofun)];exact r) fun c xs r=>by rw[aN (ne c _ r fun _=>nofun)];exact r
end
theorem RV {P:Program}{w:World}{k:Key}{u:Value}(h:(bj P w).is k u=true):RelV (kV k) u:=by
 rcases bz h with ⟨i,t,e1,e2⟩ | ⟨y,t,e1,e2⟩
 ·subst e1 e2;exact⟨t,rfl⟩
 subst e1 e2;exact⟨t,rfl⟩
theorem iB {α β:Type}{F:α->β->Prop}:∀{l₁:List α}{l₂:List β}{i:Nat}{x:α},Paired F l₁ l₂->l₁[i]?=some x->∃y,l₂[i]?=some y/\F x y
 |_,_,i,x,.nil,e=>by simp at e
 |_,_,0,x,.cons (b:=b) h t,e=>by simp at e;subst e;exact⟨b,rfl,h⟩
 |_,_,i+1,x,.cons h t,e=>by simpa using iB t (by simpa using e)
def Iti (d:Addr) (o:Obj):It :=
 ⟨fun i H=>∃kvs kv,H d=some (.frz o (.dK kvs))/\kvs[i]?=some kv,
  fun i H v H'=>∃p k x,v=.ref p/\H p=none/\H'=upd H p (.tup [kV k,x])/\∀kvs,H d=some (.frz o (.dK kvs))->kvs[i]?=some (k,x),
  fun i H=>∃kvs,H d=some (.frz o (.dK kvs))/\kvs.length<=i⟩
theorem xj:entryFor table "dict_itemiterator.__iter__"=some Builtin.«dict_keyiterator.__iter__» :=
 entryFor_alias (id':="dict_keyiterator.__iter__") (by kernel_rfl) rfl (by decide +kernel) (by kernel_rfl)
theorem Aa {X:Cx}{pins:List (Addr × Obj)}{Z:L2.St}{H:Hp}{s:Shared}{d:Addr}{o:Obj}{kvs:List (Key × V)}{es:Array DictEntry}{ep:Nat}(I:Inv X pins Z H s) (e:H d=some (.frz o (.dK kvs))) (hd:o.data=.dict es ep) :
  ∃vs,KV kvs vs/\s.heap.DictAt (bj X.prog X.w) d vs ep/\vs.length=es.size:=by
 obtain⟨ho,_,_,vs,rel,o',es',ep',ho',ex,hd',hk,hp,hn⟩:=(show ObjOk X.prog X.w H s.heap d (.frz o (.dK kvs)) from I.hok d _ e);rw[ho] at ho';cases ho';rw[hd] at hd';cases hd';exact⟨vs,rel,⟨o,es,ho,ex,hd,hk,hp,hn⟩,by rw[<- hp.length];simp⟩
theorem tZ {P:Program}{w:World}{K:Frag}{elts:List Expr}{x1:Nat}{pos:Pos}(d it:Addr) (o:Obj) (es:Array DictEntry) (ep:Nat) (hd:o.data=.dict es ep) :
  Turn P w K (.Tuple elts x1 pos) (Iti d o) [it] it (fun i h=>∃ok ov,IsItemIter h it d i es.size ep ok ov) where
 mem:=List.mem_cons_self
 obj:=fun i h st c hc=>by
  obtain⟨ok,ov,he⟩:=st
  rw[List.mem_singleton.mp hc]
  exact⟨_,he,fun v z=>by cases z⟩
 keep:=fun i h h' st k=>by
  obtain⟨ok,ov,he⟩:=st
  exact⟨ok,ov,k it (by simp) _ he⟩
 item:=by
  intro X hP hw hK hc i pins s Z H E I hf st hg
  subst hP hw hK
  obtain⟨kvs,⟨k,x⟩,hq,hx⟩:=hg
  obtain⟨ok,ov,he⟩:=st
  obtain⟨vs,rel,hm,hsz0⟩:=Aa I hq hd
  obtain⟨⟨k',u⟩,hu,ek,ru⟩:∃q,vs[i]?=some q/\k=q.1/\RelV x q.2:=iB rel hx
  subst ek
  rw[<- hsz0] at he
  refine wpAny_pyNext_items_item he hm hu fun key h' hk ho hT hsz kp=>?_
  refine⟨_,rfl,wpAny_letOwnedTupleGo_items ho fun h2' hz2' sb=>?_⟩
  have lt:∀{c o},s.heap.get? c=some o->s.heap.objs.size≠c:=fun q=>Nat.ne_of_gt (Heap.lt_size q)
  have hTe:s.heap.objs.size≠it:=lt he
  have lt1:∀{c:Addr},c∈[it]->c≠s.heap.objs.size:=fun {c} hc=>by rw[List.mem_singleton.mp hc];exact Ne.symm hTe
  have kp2:∀c o,c∉[it]->s.heap.get? c=some o->h2'.get? c=some o:=fun c o nc q=>(sb.2 c fun z=>nc (z▸List.mem_cons_self)).trans (kp c o (fun z=>nc (z▸List.mem_cons_self)) q)
  have I1:Inv X pins Z (upd H s.heap.objs.size (.tup [kV k,x])) { s with heap:=s.heap.push { cls:=.type "tuple",data:=.seq #[key,u]},toks:=s.toks} :=
   I.laid (t':=s.toks) (fun b o q=>Heap.get?_push_of_some _ q) (Nat.le_refl _) (show ObjOk X.prog X.w _ _ _ (.tup [kV k,x]) from ⟨by show 2<=sizeLine;decide,[key,u],.cons (RV hk) (.cons ru .nil),Tup0.new _ _⟩)
  have I2:Inv X pins Z (upd H s.heap.objs.size (.tup [kV k,x])) { s with heap:=h2'}:=eN (s:={ s with heap:=s.heap.push { cls:=.type "tuple",data:=.seq #[key,u]}}) (ch:=[it]) (t':=s.toks) I1 (fun c o nc q=>by
   by_cases z:c=s.heap.objs.size
   ·
    subst z
    have q':(s.heap.push { cls:=.type "tuple",data:=.seq #[key,u]}).get? s.heap.objs.size=some o:=q
    rw[Heap.get?_push_size _ rfl] at q'
    cases q'
    exact (sb.2 _ hTe).trans hT
   ·
    have q':(s.heap.push { cls:=.type "tuple",data:=.seq #[key,u]}).get? c=some o:=q
    rw[Heap.get?_push_ne _ _ _ z] at q'
    exact kp2 c o nc q') fun c hc=>⟨by rw[aN (lt1 hc)];exact (hf c hc).1,(hf c hc).2⟩
  refine⟨.ref s.heap.objs.size,_,I2,rfl,⟨s.heap.objs.size,k,x,rfl,I.hok.fresh (Nat.le_refl _),rfl,fun zs hq'=>by rw[hq] at hq';cases hq';exact hx⟩,⟨key,u,?_⟩,fun c hc=>by rw[aN (lt1 hc)];exact (hf c hc).1⟩
  rw[<- hsz0]
  exact hz2'
 done:=by
  intro X hP hw hK hc i pins s Z H E I hf st hg
  subst hP hw hK
  obtain⟨kvs,hq,hx⟩:=hg
  obtain⟨ok,ov,he⟩:=st
  obtain⟨vs,rel,hm,hsz0⟩:=Aa I hq hd
  have hl:=rel.length
  rw[<- hsz0] at he
  exact wpAny_pyNext_items_end (I.ok.hd hc) he hm (List.getElem?_eq_none (by omega)) fun h' eb=>⟨rfl,eN (ch:=[it]) (t':=s.toks) I (fun b o nb q=>eb b o (fun z=>nb (by simp [z])) q) hf⟩
 self:=fun A i s Q E st h=>by
  obtain⟨ok,ov,he⟩:=st
  have hT:s.TypeIs (.ref it) "dict_itemiterator":=⟨_,he,rfl⟩
  refine wpAny_pyIter_slot hT PySem.F.slot_dict_itemiterator_iter (wpAny_call_entry PySem.F.slot_dict_itemiterator_iter hT xj ?_ (PySem.F.args_dict_itemiterator_iter_1 _))
  show wpAny _ _ (ret (.ref it)) _ _ s
  exact wpAny_pure ⟨_,rfl,"dict_itemiterator",_,hT,PySem.F.slot_dict_itemiterator_next.lookup,h⟩
section
variable {X:Cx}{elts:List Expr}{x1:Nat}{tpos pos apos cpos:Pos}{e:Expr}
def MK (te:TE):TI:=fun Z H R=>te Z H fun x H1=>∃a kvs,x=.ref a/\H1 a=some (.dK kvs)/\∀o,R (Iti a o) (upd H1 a (.frz o (.dK kvs)))
theorem Ab {te:TE}(he:PE X e te) (hbase:attributeBase e "items" X.env (eval e X.env)=eval e X.env:=by rfl) (hline:(apos.endLine==cpos.line)=true:=by rfl) :
  PI X (.Tuple elts x1 tpos) (.Call (.Attribute e "items" apos) [] [] cpos) (MK te):=by
 intro pins s Z H R I h;refine wpAny_Call_method0_late hbase hline (thn (he pins s Z H _ I h) fun v s1 ⟨x,H1,I1,r1,a,kvs,ea,hl,q⟩=>?_);subst ea;cases r1;obtain⟨z,hsys,vs,rel,dd⟩:=pQ I1.hok hl;obtain⟨o,ho,I2⟩:=Inv.freeze I1 hl;obtain⟨t1,t2,_⟩:=yz I1 (a:=a) (.inl ⟨kvs,.inl hl⟩);refine⟨"dict","dict.items",PySem.F.plainAttrs_dict,PySem.F.slot_dict_items,PySem.F.type_dict_items,t1,t2,Calls.callWith_builtin rfl (PySem.evalArgs_none (call_meetsIn PySem.F.slot_dict_items t1 PySem.F.entry_dict_items (PySem.F.args_dict_items_1 _) (meets_dict_items (bj X.prog X.w) a hsys) ⟨⟨vs,dd⟩,?_⟩))⟩;obtain⟨o',es,ep,ho',ex,hd',hk,hp,hn⟩:=id dd;rw[ho] at ho';cases ho';have hsz:es.size=vs.length:=by rw[<- hp.length];simp
 have I3:Inv X pins Z (upd H1 a (.frz o (.dK kvs))) { s1 with heap:=s1.heap.push { cls:=.type "dict_items",data:=.fields #[.ref a]}}:=I2.kept (t':=s1.toks) fun b o q=>Heap.get?_push_of_some _ q;refine wpAny_pyIter_items (knd:=bj X.prog X.w) (d:=a) (kvs:=vs) (ep:=ep) ⟨_,Heap.get?_push_size _ rfl,rfl,rfl⟩ ⟨o,es,Heap.get?_push_of_some _ ho,ex,hd',hk,hp,hn⟩ ?_;refine⟨_,[_],_,Iti a o,_,rfl,I3.kept (t':=s1.toks) fun b o q=>Heap.get?_push_of_some _ q,tZ a _ o es ep hd',⟨.none,.none,?_⟩,fun c hc=>?_,q o⟩
 ·rw[hsz];exact Heap.get?_push_size _ rfl
 rw[List.mem_singleton.mp hc];exact I3.fpOk (Nat.le_refl _) (I3.hok.fresh (Nat.le_refl _))
variable {o f:Expr}{td ty tx:TE}
def RW (td ty tx:TE):TE:=fun Z H Q=>td Z H fun x H1=>∃a,x=.ref a/\IsD H1 a/\ty Z H1 fun y H2=>tx Z H2 fun z H3=>∃kvs k,H3 a=some (.dK kvs)/\y=kV k/\kvs.length<sizeLine /\
 (∀v,dW kvs k=some v->Q v H3)/\(dW kvs k=none->Q z (upd H3 a (.dK (putK kvs k z))))
theorem Fv (ho:PE X o td) (he:PE X e ty) (hf:PE X f tx) (m:M2 X o "setdefault" apos e f cpos):PE X (.Call (.Attribute o "setdefault" apos) [e,f] [] cpos) (RW td ty tx):=by
 intro pins s Z H Q I h;refine wpAny_Call_method m.base m.few m.line PySem.F.plainAttrs_dict PySem.F.slot_dict_setdefault PySem.F.type_dict_setdefault (thn (ho pins s Z H _ I h) fun u s1 ⟨x,H1,I1,rx,a,ex,d,q1⟩=>?_);subst ex;obtain rfl:u=Value.ref a:=rx;obtain⟨t1,t2,_⟩:=yz I1 d;refine⟨t1,t2,?_⟩;rw[m.trees];refine Calls.callWith_builtin rfl (Calls.evalArgs_plain (Calls.spliced_cons (thn (he pins s1 Z H1 _ I1 q1) fun iv s2 ⟨y,H2,I2,ry,q2⟩ =>
  Calls.spliced_cons (thn (hf pins s2 Z H2 _ I2 q2) fun fv s3 ⟨z,H3,I3,rz,kvs,k,ea,ey,l,q3,q4⟩=>Calls.spliced_nil ?_))))
 subst ey;obtain⟨zl,hd,vs,rel,dd⟩:=pQ I3.hok ea;have rv:=rel.val k;refine call_meetsIn PySem.F.slot_dict_setdefault dd.typeIs PySem.F.entry_dict_setdefault (PySem.F.args_dict_setdefault_3 _ _ _) (kt_meets_setdefault (bj X.prog X.w) a (jY ry) hd fv) ⟨vs,dd,by rw[<- rel.length];exact zl,fun v hv=>?_,fun hn h' dd' hs=>?_⟩
 ·cases hvv:dW kvs k with
  |none=>rw[hvv,hv] at rv;exact (show False from rv).elim
  |some w =>
  rw[hvv,hv] at rv;exact⟨w,H3,I3.tok _,rv,q3 w hvv⟩
 have hvv:dW kvs k=none:=by
  cases hvv:dW kvs k with
  |none=>rfl
  |some w=>rw[hvv,hn] at rv;exact (show False from rv).elim
 have he:∃q,h'.get? a=some q:=let ⟨q,_,_,hq,_⟩:=dd';⟨q,hq⟩;have hl:(putK kvs k z).length<=sizeLine:=by have:=d8 kvs k z;omega
 exact⟨z,_,jM I3 (by rw[ea];exact True.intro) hs he (sV hl hd (rel.put k rz) dd'),rz,q4 hvv⟩
end
def cN (k:Int):List (Int × T)->Option T
 |[]=>none
 | (k',v)::r=>if k'=k then some v else cN k r
def oU (k:Int) (v:T) (kvs:List (Int × T)):List (Int × T) :=
 if (kvs.any fun kv=>decide (kv.1=k))=true then kvs.map (fun kv=>if kv.1=k then (kv.1,v) else kv) else kvs++[(k,v)]
theorem gO {K:Frag}{H:Hp}{k:Int}:∀{kvs:List (Int × T)}{vs:List (Key × V)}{t:T},RepI K H kvs vs->cN k kvs=some t->∃v,dW vs (Sum.inl k:Key)=some v/\Rep K H t v
 |[],_,_,_,e=>by cases e
 | (k',t')::r,_,t,.cons (b:=(kk,v')) ⟨e1,rv⟩ rr,e=>by
  simp only at e1 rv
  subst e1
  unfold cN at e
  by_cases hk:k'=k
  ·
   rw[if_pos hk] at e
   cases e
   exact⟨v',by rw[dX (by rw[hk])],rv⟩
  ·
   rw[if_neg hk] at e
   obtain⟨v,ev,q⟩:=gO rr e
   exact⟨v,by rw[dY (by intro z;exact hk (Sum.inl.inj z))];exact ev,q⟩
theorem fW {K:Frag}{H:Hp}{k:Int}:∀{kvs:List (Int × T)}{vs:List (Key × V)},RepI K H kvs vs->(dW vs (Sum.inl k:Key)).isSome=(cN k kvs).isSome
 |[],_,.nil=>rfl
 | (k',t')::r,_,.cons (b:=(kk,v')) ⟨e1,rv⟩ rr=>by
  simp only at e1 rv
  subst e1
  unfold cN
  by_cases hk:k'=k
  ·
   rw[if_pos hk,dX (by rw[hk])];rfl
  ·
   rw[if_neg hk,dY (by intro z;exact hk (Sum.inl.inj z))]
   exact fW rr
theorem Ac {K:Frag}{H:Hp}{k:Int}{t:T}{v:V}(rv:Rep K H t v) {kvs:List (Int × T)}{vs:List (Key × V)}(r:RepI K H kvs vs):RepI K H (oU k t kvs) (putK vs (Sum.inl k:Key) v):=by
 have e:∀{kvs:List (Int × T)} {vs:List (Key × V)},RepI K H kvs vs->(kvs.any fun kv=>decide (kv.1=k))=(vs.any fun kv=>decide (kv.1=(Sum.inl k:Key)))/\RepI K H (kvs.map (fun kv=>if kv.1=k then (kv.1,t) else kv)) (vs.map (fun kv=>if kv.1=(Sum.inl k:Key) then (kv.1,v) else kv)):=by
  intro kvs;induction kvs with
  |nil=>intro vs r;cases r;exact⟨rfl,.nil⟩
  |cons p l ih =>
  intro vs r;cases r with
  |cons q rr =>
  rename_i b l2;obtain⟨e1,e2⟩:=ih rr;obtain⟨q1,q2⟩:=q;obtain⟨bk,bv⟩:=b;simp only at q1 q2;subst q1;by_cases hk:p.1=k
  ·refine⟨by simp [hk],?_⟩;simp only[List.map_cons,hk,if_true];exact .cons ⟨rfl,rv⟩ e2
  have hk':¬(Sum.inl p.1:Key)=Sum.inl k:=fun z=>hk (Sum.inl.inj z);refine⟨by simp only[List.any_cons,hk,hk',decide_false,Bool.false_or];exact e1,?_⟩;simp only[List.map_cons,hk,hk',if_false];exact .cons ⟨rfl,q2⟩ e2
 obtain⟨e1,e2⟩:=e r;unfold oU putK;rw[e1];split
 ·exact e2
 exact Paired.snoc r ⟨rfl,rv⟩
section
variable {K:Frag}{H:Hp}{H3:Hp3}{a p:Addr}
theorem SimH.wrI {kv kv':List (Key × V)}{kvs:List (Int × T)}(s:SimH K H3 H) (hH:H a=some (.dK kv)) (r:RepI K H kvs kv'):SimH K (up3 H3 a (.dci kvs)) (upd H a (.dK kv')):=fun b o e=>by
 have le:TupLe K H (upd H a (.dK kv')):=bN (by rw[hH];exact trivial);by_cases hb:b=a
 ·subst hb;rw[aq] at e;cases e;exact⟨kv',bJ,r.mono le⟩
 rw[aC hb] at e;exact (s b o e).stay le fun u q=>by rw[aN hb];exact q
theorem SimH.newI (s:SimH K H3 H) (hp:H p=none):SimH K (up3 H3 p (.dci [])) (upd H p (.dK [])):=fun a o e=>by
 by_cases ha:a=p
 ·subst ha;rw[aq] at e;cases e;exact⟨[],bJ,.nil⟩
 rw[aC ha] at e;exact s.new hp a o e
theorem SimH.frzI {kv:List (Key × V)}{kvs:List (Int × T)}{o:Obj}(s:SimH K H3 H) (hH:H a=some (.dK kv)) (r:RepI K H kvs kv):SimH K (up3 H3 a (.dif o kvs)) (upd H a (.frz o (.dK kv))):=fun b u e=>by
 have le:TupLe K H (upd H a (.frz o (.dK kv))):=bN (by rw[hH];exact trivial);by_cases hb:b=a
 ·subst hb;rw[aq] at e;cases e;exact⟨kv,bJ,r.mono le⟩
 rw[aC hb] at e;exact (s b u e).stay le fun u q=>by rw[aN hb];exact q
end
section
variable {X:Cx}{o i e f value k v:Expr}{td ty tv tx ti tk:TE3}{pos pos' apos cpos tpos:Pos}{elts:List Expr}{x1:Nat}{Z:St3}{H:Hp3}{Q:VK3}
def vD:TE3:=fun _ H Q=>∀p,H p=none->Q (.ref p) (up3 H p (.dci []))
theorem Ad:PE3 X (.Dict [] [] pos) vD:=by
 refine PE.imp pW ?_;rintro Z H Q ⟨Z3,H3,Q3,ss,sh,h,k⟩ p hp;exact k _ _ _ _ (aJ hp) (sh.newI hp) .ofRef (h p (sh.fresh hp))
def d1i (y:T) (p:Addr) (v:T) (H:Hp3) (Q:VK3):Prop:=match y with
 |.int k=>H p=some (.dci [])/\Q (.ref p) (up3 H p (.dci [(k,v)]))
 |_=>False
def oV (tk tv:TE3):TE3:=fun Z H Q=>∀p,H p=none->tk Z (up3 H p (.dci [])) fun y H1=>tv Z H1 fun v H2=>d1i y p v H2 Q
theorem RX (x:Int) (p:Addr) (v:T):d1i (.int x) p v H Q=(H p=some (.dci [])/\Q (.ref p) (up3 H p (.dci [(x,v)]))):=rfl
theorem xm (hk:PE3 X k tk) (hv:PE3 X v tv):PE3 X (.Dict [some k] [v] pos) (oV tk tv):=by
 refine PE.imp (uR (pX hk hv uQ) rfl rfl (by simp) (by show 1<=15;decide)) ?_;rintro Z H Q ⟨Z3,H3,Q3,ss,sh,h,k⟩ p hp;have le0:TupLe X.K H (upd H p (.dK [])):=aJ hp;refine⟨Z3,up3 H3 p (.dci []),_,ss.mono le0,sh.newI hp,h p (sh.fresh hp),fun y H1 ty H31 le1 sh1 ry q1=>?_⟩;refine⟨Z3,H31,_,ss.mono (le0.trans le1),sh1,q1,fun z H2 tz H32 le2 sh2 rz q2=>?_⟩;cases ty with
 |int key =>
  have h':H32 p=some (.dci [])/\Q3 (.ref p) (up3 H32 p (.dci [(key,tz)])):=q2
  obtain⟨ws,hH,r⟩:=sh2 p _ h'.1
  cases r
  refine⟨hH,[(Sum.inl key,z)],by rw[(ry.mono le2).int];rfl,by show 1<=15;decide,?_⟩
  have e:il [] [((Sum.inl key:Key),z)]=[((Sum.inl key:Key),z)]:=rfl
  rw[e]
  exact k _ _ _ _ (le0.trans (le1.trans (le2.trans (bN (by rw[hH];exact trivial))))) (sh2.wrI hH (.cons ⟨rfl,rz⟩ .nil)) .ofRef h'.2
 |_=>exact q2.elim
def dgI (o:Option O3) (k:Int) (H:Hp3) (Q:VK3):Prop:=match o with
 |some (.dci kvs)=>oq (cN k kvs) fun t=>Q t H
 |some (.dif _ kvs)=>oq (cN k kvs) fun t=>Q t H
 |_=>False
def RZ:R3:=fun x y H Q=>match x,y with
 |.ref a,.int k=>dgI (H a) k H Q
 |_,_=>False
theorem Vd (a:Addr) (k:Int):RZ (.ref a) (.int k) H Q=dgI (H a) k H Q:=rfl
theorem Ip (kvs:List (Int × T)) (k:Int):dgI (some (.dci kvs)) k H Q=oq (cN k kvs) fun t=>Q t H:=rfl
theorem Ae (o:Obj) (kvs:List (Int × T)) (k:Int):dgI (some (.dif o kvs)) k H Q=oq (cN k kvs) fun t=>Q t H:=rfl
theorem Af {to:TE3}(hu:X.A.units+1<cLine) (ho:PE3 X o to) (hi:PE3 X i ti) (hs:Dz i:=by exact fun _ _=>rfl):PE3 X (.Subscript o i pos) (p7 RZ to ti):=by
 refine PE.imp (uP hu ho hi hs) ?_;rintro Z H Q ⟨Z3,H3,Q3,ss,sh,h,k⟩;refine⟨Z3,H3,_,ss,sh,h,fun x H1 tx H31 le1 sh1 rx q1=>⟨Z3,H31,_,ss.mono le1,sh1,q1,fun y H2 ty H32 le2 sh2 ry q2=>?_⟩⟩;cases tx with
 |ref a =>
  cases ty with
  |int key =>
   have h':dgI (H32 a) key H32 Q3:=q2
   cases e:H32 a with
   |none=>rw[e] at h';exact h'.elim
   |some ob =>
    rw[e] at h'
    cases ob with
    |dci kvs =>
     rw[Ip] at h'
     obtain⟨vs,hH,r⟩:=sh2 a _ e
     cases el:cN key kvs with
     |none=>rw[el] at h';exact h'.elim
     |some t =>
      rw[el] at h'
      obtain⟨v,ev,rv⟩:=gO r el
      refine⟨a,v,rx.ref,?_,k.at (le1.trans le2) _ _ _ _ .refl sh2 rv h'⟩
      rw[ry.int,<- ev]
      exact DGet.k (k:=Sum.inl key) hH
    |dif oo kvs =>
     rw[Ae] at h'
     obtain⟨vs,hH,r⟩:=sh2 a _ e
     cases el:cN key kvs with
     |none=>rw[el] at h';exact h'.elim
     |some t =>
      rw[el] at h'
      obtain⟨v,ev,rv⟩:=gO r el
      refine⟨a,v,rx.ref,?_,k.at (le1.trans le2) _ _ _ _ .refl sh2 rv h'⟩
      rw[ry.int,<- ev]
      exact .inl ⟨vs,Sum.inl key,.inr ⟨_,hH⟩,rfl,rfl⟩
    |_=>exact h'.elim
  |_=>exact q2.elim
 |_=>exact q2.elim
def dpI (x y v:T) (H:Hp3) (Q:Hp3->Prop):Prop:=match x,y with
 |.ref a,.int k=>match H a with
  |some (.dci kvs)=>kvs.length<sizeLine/\Q (up3 H a (.dci (oU k v kvs)))
  |_=>False
 |_,_=>False
def Sd (o:Option O3) (a:Addr) (k:Int) (v:T) (H:Hp3) (Q:Hp3->Prop):Prop:=match o with
 |some (.dci kvs)=>kvs.length<sizeLine/\Q (up3 H a (.dci (oU k v kvs)))
 |_=>False
def Fw (td ty tv:TE3):TS3:=fun D Z H=>tv Z H fun v H1=>td Z H1 fun x H2=>ty Z H2 fun y H3=>dpI x y v H3 fun H4=>D.nx Z H4
theorem Sg (a:Addr) (k:Int) (v:T) (Q:Hp3->Prop):dpI (.ref a) (.int k) v H Q=Sd (H a) a k v H Q:=rfl
theorem MN (kvs:List (Int × T)) (a:Addr) (k:Int) (v:T) (Q:Hp3->Prop):Sd (some (.dci kvs)) a k v H Q=(kvs.length<sizeLine/\Q (up3 H a (.dci (oU k v kvs)))):=rfl
def diI (neg:Bool) (y:T) (o:Option O3) (H:Hp3) (Q:VK3):Prop:=match y,o with
 |.int k,some (.dci kvs)=>Q (.bl (if neg then !(cN k kvs).isSome else (cN k kvs).isSome)) H
 |_,_=>False
def MP (neg:Bool) (y x:T) (H:Hp3) (Q:VK3):Prop:=match x with
 |.ref a=>diI neg y (H a) H Q
 |_=>False
def Ag (neg:Bool) (ti to:TE3):TE3:=fun Z H Q=>ti Z H fun y H1=>to Z H1 fun x H2=>MP neg y x H2 Q
theorem MT (neg:Bool) (y:T) (a:Addr):MP neg y (.ref a) H Q=diI neg y (H a) H Q:=rfl
theorem Sh (neg:Bool) (k:Int) (kvs:List (Int × T)):diI neg (.int k) (some (.dci kvs)) H Q=Q (.bl (if neg then !(cN k kvs).isSome else (cN k kvs).isSome)) H:=rfl
theorem Ah {neg:Bool}{H:Hp}{H3:Hp3}{x y:V}{tx ty:T}{Q3:VK3}(sh:SimH X.K H3 H) (rx:Rep X.K H tx x) (ry:Rep X.K H ty y) (q:MP neg ty tx H3 Q3) :
  ∃a ov b,x=.ref a/\DGet H a y ov/\(if neg then !ov.isSome else ov.isSome)=b/\Q3 (.bl b) H3:=by
 cases tx with
 |ref a =>
  have h':diI neg ty (H3 a) H3 Q3:=q
  cases ty with
  |int k =>
   cases e:H3 a with
   |none=>rw[e] at h';exact h'.elim
   |some ob =>
    rw[e] at h'
    cases ob with
    |dci kvs =>
     obtain⟨ws,hH,r⟩:=sh a _ e
     refine⟨a,dW ws (Sum.inl k:Key),_,rx.ref,by rw[ry.int];exact DGet.k (k:=Sum.inl k) hH,rfl,?_⟩
     rw[fW r]
     exact h'
    |_=>exact h'.elim
  |_=>exact h'.elim
 |_=>exact q.elim
theorem t7 (hu:X.A.units+1<cLine) (hi:PE3 X i ti) (ho:PE3 X o td) (hm:behindInMarks .NotIn o=false:=by rfl):PT3 X (.Compare i [.NotIn] [o] pos) (ji (Ag true ti td)):=by
 refine PT.imp (rY (mL hu hi ho) hm) ?_;rintro Z H Q ⟨Z3,H3,Q3,ss,sh,h,k⟩;refine⟨Z3,H3,_,ss,sh,h,fun y H1 ty H31 le1 sh1 ry q1=>⟨Z3,H31,_,ss.mono le1,sh1,q1,fun x H2 tx H32 le2 sh2 rx q2=>?_⟩⟩;obtain⟨a,ov,b,e,g,eb,q⟩:=Ah sh2 rx (ry.mono le2) q2;exact⟨a,ov,e,g,by rw[show (!ov.isSome)=b from eb];exact⟨b,rfl,k _ _ _ (le1.trans le2) sh2 q⟩⟩
def sdO (o:Option O3) (a:Addr) (k:Int) (v:T) (H:Hp3) (Q:VK3):Prop:=match o with
 |some (.dci kvs)=>kvs.length<sizeLine/\match cN k kvs with
  |some t=>Q t H
  |none=>Q v (up3 H a (.dci (oU k v kvs)))
 |_=>False
def sdq (x y v:T) (H:Hp3) (Q:VK3):Prop:=match x,y with
 |.ref a,.int k=>sdO (H a) a k v H Q
 |_,_=>False
def M3 (o:Option O3):Prop:=match o with
 |some (.dci _)=>True
 |_=>False
def Sq (x:T) (H:Hp3):Prop:=match x with
 |.ref a=>M3 (H a)
 |_=>False
def Ai (td ty tv:TE3):TE3:=fun Z H Q=>td Z H fun x H1=>Sq x H1/\ty Z H1 fun y H2=>tv Z H2 fun v H3=>sdq x y v H3 Q
theorem ue (a:Addr):Sq (.ref a) H=M3 (H a):=rfl
theorem M4 (kvs:List (Int × T)):M3 (some (.dci kvs))=True:=rfl
theorem Ir (a:Addr) (k:Int) (v:T):sdq (.ref a) (.int k) v H Q=sdO (H a) a k v H Q:=rfl
theorem Iu (kvs:List (Int × T)) (a:Addr) (k:Int) (v:T):sdO (some (.dci kvs)) a k v H Q=(kvs.length<sizeLine/\match cN k kvs with
  |some t=>Q t H
  |none=>Q v (up3 H a (.dci (oU k v kvs)))):=rfl
theorem Fx (ho:PE3 X o td) (he:PE3 X e ty) (hf:PE3 X f tv) (m:M2 X o "setdefault" apos e f cpos:=by exact⟨rfl,rfl,rfl,rfl⟩):PE3 X (.Call (.Attribute o "setdefault" apos) [e,f] [] cpos) (Ai td ty tv):=by
 refine PE.imp (Fv ho he hf m) ?_;rintro Z H Q ⟨Z3,H3,Q3,ss,sh,h,k⟩;refine⟨Z3,H3,_,ss,sh,h,fun x H1 tx H31 le1 sh1 rx q1=>?_⟩;obtain⟨d1,q1⟩:=q1;cases tx with
 |ref a =>
  cases e1:H31 a with
  |none=>rw[ue,e1] at d1;exact d1.elim
  |some ob =>
  rw[ue,e1] at d1;cases ob with
  |dci kvs0 =>
   obtain⟨vs0,hH0,_⟩:=sh1 a _ e1;refine⟨a,rx.ref,.inl ⟨vs0,.inl hH0⟩,Z3,H31,_,ss.mono le1,sh1,q1,fun y H2 ty H32 le2 sh2 ry q2=>⟨Z3,H32,_,ss.mono (le1.trans le2),sh2,q2,fun z H4 tz H34 le4 sh4 rz q4=>?_⟩⟩;cases ty with
   |int key =>
    rw[Ir] at q4;cases e:H34 a with
    |none=>rw[e] at q4;exact q4.elim
    |some ob =>
    rw[e] at q4;cases ob with
    |dci kvs =>
     rw[Iu] at q4;obtain⟨vs,hH,r⟩:=sh4 a _ e;have le:=le1.trans (le2.trans le4);refine⟨vs,Sum.inl key,hH,(ry.mono le4).int,by rw[<- Paired.length r];exact q4.1,fun v hv=>?_,fun hn=>?_⟩
     ·have h0:=fW (k:=key) r;cases el:cN key kvs with
      |none=>rw[el,hv] at h0;cases h0
      |some t =>
      rw[el] at q4;obtain⟨v',ev,rv⟩:=gO r el;rw[hv] at ev;cases ev;exact k _ _ _ _ le sh4 rv q4.2
     have h0:=fW (k:=key) r;cases el:cN key kvs with
     |some t=>rw[el,hn] at h0;cases h0
     |none =>
     rw[el] at q4;have le5:TupLe X.K H4 (upd H4 a (.dK (putK vs (Sum.inl key:Key) z))):=bN (by rw[hH];exact trivial);exact k _ _ _ _ (le.trans le5) (sh4.wrI hH (Ac rz r)) (rz.mono le5) q4.2
    |_=>exact q4.elim
   |_=>exact q4.elim
  |_=>exact d1.elim
 |_=>exact d1.elim
def itT (kv:Int × T):T:=.tup [.int kv.1,kv.2]
def uf (a:Addr) (o:Obj) (kvs:List (Int × T)):Hp3->Prop:=fun H=>H a=some (.dif o kvs)
def itO (u:Option O3) (a:Addr) (H:Hp3) (R:List T->(Hp3->Prop)->Hp3->Prop):Prop:=match u with
 |some (.dci kvs)=>∀o,R (kvs.map itT) (uf a o kvs) (up3 H a (.dif o kvs))
 |_=>False
def itq (x:T) (H:Hp3) (R:List T->(Hp3->Prop)->Hp3->Prop):Prop:=match x with
 |.ref a=>itO (H a) a H R
 |_=>False
def vG (te:TE3):TI3:=fun Z H R=>te Z H fun x H1=>itq x H1 R
theorem Aj (te:TE3) {R:List T->(Hp3->Prop)->Hp3->Prop}:vG te Z H R=te Z H fun x H1=>itq x H1 R:=rfl
theorem Iv (a:Addr) {R:List T->(Hp3->Prop)->Hp3->Prop}:itq (.ref a) H R=itO (H a) a H R:=rfl
theorem Iw (kvs:List (Int × T)) (a:Addr) {R:List T->(Hp3->Prop)->Hp3->Prop}:itO (some (.dci kvs)) a H R=∀o,R (kvs.map itT) (uf a o kvs) (up3 H a (.dif o kvs)):=rfl
theorem ug {K:Frag}{H:Hp}{a:Addr}{o:Obj}{kvs:List (Int × T)}:ie K (Iti a o) (kvs.map itT) (uf a o kvs) H:=fun H' H3' le sh st=>by
 obtain⟨vs,hH,r⟩:=sh a _ st;have hl:=Paired.length r;refine⟨fun i hi=>⟨vs,hH,by rw[List.length_map] at hi;omega⟩,fun i t e=>?_⟩;rw[List.getElem?_map] at e;cases q:kvs[i]? with
 |none=>rw[q] at e;cases e
 |some kv =>
 rw[q] at e;cases e;obtain⟨⟨kk,v⟩,ev,e1,rv⟩:=iB r q;simp only at e1 rv;subst e1;refine⟨⟨vs,_,hH,ev⟩,fun z H'' y=>?_⟩;obtain⟨p,k',x',rfl,hp,rfl,q1⟩:=y;have:=(q1 vs hH).symm.trans ev;cases this;exact⟨aJ hp,sh.new hp,SimH.newTup (H3:=H3') hp (.cons .ofInt (.cons rv .nil))⟩
theorem Ak {te:TE3}(he:PE3 X e te) (hbase:attributeBase e "items" X.env (eval e X.env)=eval e X.env:=by rfl) (hline:(apos.endLine==cpos.line)=true:=by rfl) :
  PI3 X (.Tuple elts x1 tpos) (.Call (.Attribute e "items" apos) [] [] cpos) (vG te):=by
 refine PI.imp (Ab he hbase hline) ?_;rintro Z H R ⟨Z3,H3,R3,ss,sh,h,k⟩;refine⟨Z3,H3,_,ss,sh,h,fun v H' t H3' le sh' r q=>?_⟩;cases t with
 |ref a =>
  rw[Iv] at q;cases eo:H3' a with
  |none=>rw[eo] at q;exact q.elim
  |some ob =>
  rw[eo] at q;cases ob with
  |dci kvs=>rw[Iw] at q;obtain⟨vs,hH,rs⟩:=sh' a _ eo;exact⟨a,vs,r.ref,hH,fun o=>k _ _ _ _ _ (le.trans (bN (by rw[hH];exact trivial))) (sh'.frzI hH rs) ug (q o)⟩
  |_=>exact q.elim
 |_=>exact q.elim
end
theorem m7 {K:Frag}{H:Hp}{f:Str}:∀{fs:List (Str × T)}{vs:List (Str × V)}{t:T},RepF K H fs vs->aL f fs=some t->∃v,vs.lookup f=some v/\Rep K H t v
 |[],_,_,_,e=>by cases e
 | (g,t')::r,_,t,.cons (b:=(g',v')) ⟨e1,rv⟩ rr,e=>by
  simp only at e1 rv
  subst e1
  unfold aL at e
  by_cases hk:g'=f
  ·
   rw[if_pos hk] at e
   cases e
   exact⟨v',by rw[List.lookup_cons,show (f==g')=true from beq_iff_eq.mpr hk.symm],rv⟩
  ·
   rw[if_neg hk] at e
   obtain⟨v,ev,q⟩:=m7 rr e
   exact⟨v,by rw[List.lookup_cons,show (f==g')=false from beq_eq_false_iff_ne.mpr (Ne.symm hk)];exact ev,q⟩
theorem kO {K:Frag}{H:Hp}{f:Str}:∀{fs:List (Str × T)}{vs:List (Str × V)},RepF K H fs vs->aL f fs=none->vs.lookup f=none
 |[],_,.nil,_=>rfl
 | (g,t')::r,_,.cons (b:=(g',v')) ⟨e1,rv⟩ rr,e=>by
  simp only at e1 rv
  subst e1
  unfold aL at e
  by_cases hk:g'=f
  ·
   rw[if_pos hk] at e;cases e
  ·
   rw[if_neg hk] at e
   rw[List.lookup_cons,show (f==g')=false from beq_eq_false_iff_ne.mpr (Ne.symm hk)]
   exact kO rr e
def dm (f:Str) (v:T):List (Str × T)->List (Str × T)
 |[]=>[(f,v)]
 | (g,x)::r=>if g=f then (g,v)::r else (g,x)::dm f v r
theorem qO {K:Frag}{H:Hp}{f:Str}{t:T}{v:V}(rv:Rep K H t v):∀{fs:List (Str × T)}{vs:List (Str × V)},RepF K H fs vs->RepF K H (dm f t fs) (fJ f v vs)
 |[],_,.nil=>.cons ⟨rfl,rv⟩ .nil
 | (g,t')::r,_,.cons (b:=(g',v')) ⟨e1,r1⟩ rr=>by
  simp only at e1 r1
  subst e1
  unfold dm fJ
  by_cases hk:g'=f
  ·
   rw[if_pos hk,if_pos hk];exact .cons ⟨rfl,rv⟩ rr
  ·
   rw[if_neg hk,if_neg hk];exact .cons ⟨rfl,r1⟩ (qO rv rr)
structure InsC (K:Frag) (C:Addr) (ns:List Str):Prop where
 cls:Cls K C
 no:∀n∈ns,NoAttr K C n
structure MtC (P:Program) (w:World) (K:Frag) (mg:Str->Option Value) (base:Heap) (C:Addr) (k:Nat) (m:Str) (ps:List Str) (sp:Sp3):Prop where
 cls:Cls K C
 ex:∃(f:Addr) (fd:FuncData),Meth K C m f/\Binds K fd ps []/\FnOk3 P w K mg base k f fd ps sp
structure MkC (P:Program) (w:World) (K:Frag) (mg:Str->Option Value) (base:Heap) (C:Addr) (k:Nat) (x:Str) (ps:List Str) (sp:Sp3):Prop where
 at_:mg x=some (.ref C)
 ex:∃(f:Addr) (fd:FuncData),Mk K C f/\Binds K fd ps []/\FnOk3 P w K mg base k f fd ps sp
structure GM (K:Frag) (C:Addr) (m qual:Str) (st:Stmt) (ps:List Str) (f:Addr) (fd:FuncData):Prop where
 cls:Cls K C
 fn:Fun K m qual st f fd
 b:Binds K fd ps []
 mt:Meth K C m f
structure GI (K:Frag) (mg:Str->Option Value) (C:Addr) (x qual:Str) (st:Stmt) (ps:List Str) (f:Addr) (fd:FuncData):Prop where
 mk_:Mk K C f
 fn:Fun K "__init__" qual st f fd
 b:Binds K fd ps []
 at_:mg x=some (.ref C)
theorem SimH.wrO {K:Frag}{H:Hp}{H3:Hp3}{a C dx:Addr}{fs:List (Str × T)}{vs vs':List (Str × V)}(s:SimH K H3 H) (hH:H a=some (.ins C dx vs)) (r:RepF K H fs vs'):SimH K (up3 H3 a (.ins C fs)) (upd H a (.ins C dx vs')):=fun b o e=>by
 have le:TupLe K H (upd H a (.ins C dx vs')):=bN (by rw[hH];exact trivial);by_cases hb:b=a
 ·subst hb;rw[aq] at e;cases e;exact⟨dx,vs',bJ,r.mono le⟩
 rw[aC hb] at e;exact (s b o e).stay le fun u q=>by rw[aN hb];exact q
section
variable {X:Cx}{o e value:Expr}{es:List Expr}{ta tv:TE3}{t:TA3}{C:Addr}{f m x:Str}{ns ps:List Str}{sp:Sp3}{n:Nat}{pos pos' apos p:Pos}{H:Hp3}{Q:VK3}
def M5 (C:Addr) (f:Str) (u:Option O3) (H:Hp3) (Q:VK3):Prop:=match u with
 |some (.ins C' fs)=>C'=C/\oq (aL f fs) fun t=>Q t H
 |_=>False
def Ss (C:Addr) (f:Str) (x:T) (H:Hp3) (Q:VK3):Prop:=match x with
 |.ref a=>M5 C f (H a) H Q
 |_=>False
def Iz (C:Addr) (f:Str) (ta:TE3):TE3:=fun Z H Q=>ta Z H fun x H1=>Ss C f x H1 Q
theorem Al (a:Addr):Ss C f (.ref a) H Q=M5 C f (H a) H Q:=rfl
theorem M6 (fs:List (Str × T)):M5 C f (some (.ins C fs)) H Q=oq (aL f fs) fun t=>Q t H:=propext ⟨fun h=>h.2,fun h=>⟨rfl,h⟩⟩
theorem gB (c:InsC X.K C ns) (he:PE3 X e ta) (hf:f∈ns:=by simp) (hb:attributeBase e f X.env (eval e X.env)=eval e X.env:=by rfl):PE3 X (.Attribute e f pos) (Iz C f ta):=by
 refine PE.imp (J0 he hb) ?_;rintro Z H Q ⟨Z3,H3,Q3,ss,sh,h,k⟩;refine⟨Z3,H3,_,ss,sh,h,fun v H' t H3' le sh' r q=>?_⟩;cases t with
 |ref a =>
  rw[Al] at q;cases eo:H3' a with
  |none=>rw[eo] at q;exact q.elim
  |some ob =>
  rw[eo] at q;cases ob with
  |ins C' fs =>
   obtain⟨rfl,q1⟩:=(show C'=C/\oq (aL f fs) fun t=>Q3 t H3' from q);clear q;obtain⟨dx,vs,hH,rs⟩:=sh' a _ eo;cases el:aL f fs with
   |none=>rw[el] at q1;exact q1.elim
   |some t =>
   rw[el,fZ] at q1;obtain⟨v',ev,rv⟩:=m7 rs el;exact⟨a,C',dx,vs,v',r.ref,hH,c.cls,c.no f hf,ev,k _ _ _ _ le sh' rv q1⟩
  |_=>exact q.elim
 |_=>exact q.elim
def sfO (C:Addr) (f:Str) (a:Addr) (y:T) (u:Option O3) (H:Hp3) (Q:Hp3->Prop):Prop:=match u with
 |some (.ins C' fs)=>C'=C/\fs.length<1000/\Q (up3 H a (.ins C (dm f y fs)))
 |_=>False
def sfq (C:Addr) (f:Str) (x y:T) (H:Hp3) (Q:Hp3->Prop):Prop:=match x with
 |.ref a=>sfO C f a y (H a) H Q
 |_=>False
def IK (C:Addr) (f:Str) (ta tv:TE3):TS3:=fun D Z H=>tv Z H fun y H1=>ta Z H1 fun x H2=>sfq C f x y H2 fun H3=>D.nx Z H3
theorem IV (a:Addr) (y:T) (Q:Hp3->Prop):sfq C f (.ref a) y H Q=sfO C f a y (H a) H Q:=rfl
theorem Su (a:Addr) (y:T) (fs:List (Str × T)) (Q:Hp3->Prop):sfO C f a y (some (.ins C fs)) H Q=(fs.length<1000/\Q (up3 H a (.ins C (dm f y fs)))):=propext ⟨fun h=>h.2,fun h=>⟨rfl,h⟩⟩
theorem oW (c:InsC X.K C ns) (ha:PE3 X o ta) (hv:PE3 X value tv) (hf:f∈ns:=by simp) (hs:swapsWith value (some (.Attribute o f pos')) pos.line X.env=pure false:=by rfl):PS3 X (.Assign [.Attribute o f pos'] value pos) (IK C f ta tv):=by
 refine PS.imp (J1 ha hv hs) ?_;rintro D Z H ⟨Z3,H3,D3,ss,sh,h,k1,_⟩;refine⟨Z3,H3,_,ss,sh,h,fun y H1 ty H31 le1 sh1 ry q1=>⟨Z3,H31,_,ss.mono le1,sh1,q1,fun x H2 tx H32 le2 sh2 rx q2=>?_⟩⟩;cases tx with
 |ref a =>
  rw[IV] at q2;cases eo:H32 a with
  |none=>rw[eo] at q2;exact q2.elim
  |some ob =>
  rw[eo] at q2;cases ob with
  |ins C' fs=>obtain⟨rfl,hl,q⟩:=(show C'=C/\fs.length<1000/\D3.nx Z3 (up3 H32 a (.ins C (dm f ty fs))) from q2);obtain⟨dx,vs,hH,rs⟩:=sh2 a _ eo;have le5:TupLe X.K H2 (upd H2 a (.ins C' dx (fJ f y vs))):=bN (by rw[hH];exact trivial);exact⟨a,C',dx,vs,rx.ref,hH,c.cls,c.no f hf,by rw[<- Paired.length rs];exact hl,k1 _ _ _ _ (le1.trans (le2.trans le5)) (ss.mono (le1.trans (le2.trans le5))) (sh2.wrO hH (qO (ry.mono le2) rs)) q⟩
  |_=>exact q2.elim
 |_=>exact q2.elim
def mtO (C:Addr) (m:Str) (u:Option O3) (q:Prop):Prop:=match u with
 |some (.ins C' fs)=>C'=C/\aL m fs=none/\q
 |_=>False
def mtq (C:Addr) (m:Str) (x:T) (H:Hp3) (q:Prop):Prop:=match x with
 |.ref a=>mtO C m (H a) q
 |_=>False
def Am (C:Addr) (m:Str) (sp:Sp3) (ta:TE3) (t:TA3):TE3:=fun Z H Q=>ta Z H fun x H1=>mtq C m x H1 (t Z H1 fun vs H2=>sp (x::vs) H2 Q)
theorem IW (a:Addr) (q:Prop):mtq C m (.ref a) H q=mtO C m (H a) q:=rfl
theorem Ja (fs:List (Str × T)) (q:Prop):mtO C m (some (.ins C fs)) q=(aL m fs=none/\q):=propext ⟨fun h=>h.2,fun h=>⟨rfl,h⟩⟩
theorem oX {pl:Sem Bool}(M:MtC X.prog X.w X.K X.mg X.base C n m ps sp) (hr:Room n X.A) (he:PE3 X o ta) (ha:PA3 X (e::es) t)
  (hst:starEach (e::es) X.env=(false,eval e X.env)::starEach es X.env:=by rfl) (hpl:(backTo pos (starEach es X.env)).any (·.1)=false:=by rfl)
  (ht:eval (.Call (.Attribute o m apos) (e::es) [] pos) X.env=(do
   let ov <- eval o X.env
   standAt apos.atName
   let (f,first) <- holding [ov] (getMethod ov m pl)
   callWith pos f first (backTo pos (starEach (e::es) X.env)) (backToKw pos (keywordEach [] X.env))):=by rfl) :
  PE3 X (.Call (.Attribute o m apos) (e::es) [] pos) (Am C m sp ta t):=by
 obtain⟨f,fd,hm,hb,F⟩:=M.ex;refine PE.imp (Dr (dvs:=[]) (E:=E0) he M.cls hm F hr hb .nil yD ha hst hpl ht) ?_;rintro Z H Q ⟨Z3,H3,Q3,ss,sh,h,k⟩;refine⟨Z3,H3,_,ss,sh,h,fun v H' t H3' le sh' r q=>?_⟩;cases t with
 |ref a =>
  rw[IW] at q;cases eo:H3' a with
  |none=>rw[eo] at q;exact q.elim
  |some ob =>
  rw[eo] at q;cases ob with
  |ins C' fs=>obtain⟨rfl,hl,q⟩:=q;obtain⟨dx,vs,hH,rs⟩:=sh' a _ eo;refine⟨a,dx,vs,r.ref,hH,kO rs hl,Z3,H3',_,ss.mono le,sh',q,fun us H2 ts H32 le2 sh2 rr q2=>?_⟩;show qg X.K sp (v::(us++[])) H2 Q E0;rw[List.append_nil];exact⟨_,H32,Q3,.cons (r.mono le2) rr,sh2,q2,k.at (le.trans le2)⟩
  |_=>exact q.elim
 |_=>exact q.elim
def An (C:Addr) (sp:Sp3) (t:TA3):TE3:=fun Z H Q=>t Z H fun vs H1=>∀a,H1 a=none->sp (.ref a::vs) (up3 H1 a (.ins C [])) fun v H2=>v=.non/\Q (.ref a) H2
theorem Fy (M:MkC X.prog X.w X.K X.mg X.base C n x ps sp) (hr:Room (n+1) X.A) (hg:Gl X x) (ha:PA3 X (e::es) t) (hdb:(x==("__debug__":Str))=false:=by decide)
  (he:starEach (e::es) X.env=(false,eval e X.env)::starEach es X.env:=by rfl) (hpl:(backTo pos (starEach es X.env)).any (·.1)=false:=by rfl):PE3 X (.Call (.Name x p) (e::es) [] pos) (An C sp t):=by
 obtain⟨f,fd,hm,hb,F⟩:=M.ex;refine PE.imp (Ds (dvs:=[]) (E:=E0) hm F hr hg M.at_ hb .nil yD ha hdb he hpl) ?_;rintro Z H Q ⟨Z3,H3,Q3,ss,sh,h,k⟩;refine⟨Z3,H3,_,ss,sh,h,fun us H' ts H3' le sh' rr q=>fun a dx ha hdx hne=>?_⟩;show qg X.K sp (V.ref a::(us++[])) _ _ E0;rw[List.append_nil];have hp:upd H' dx (.own a) a=none:=by rw[aN (Ne.symm hne)];exact ha
 have le1:TupLe X.K H' (upd H' dx (.own a)):=aJ hdx;have le2:TupLe X.K (upd H' dx (.own a)) (upd (upd H' dx (.own a)) a (.ins C dx [])):=aJ hp;refine⟨T.ref a::ts,up3 H3' a (.ins C []),_,.cons .ofRef (rr.mono (le1.trans le2)),fun b ob eb=>?_,q a (sh'.fresh ha),fun v H2 t2 H32 le3 sh2 r2 q2=>⟨?_,?_⟩⟩
 ·by_cases hb:b=a
  ·subst hb;rw[aq] at eb;cases eb;exact⟨dx,[],bJ,.nil⟩
  rw[aC hb] at eb;exact ((sh'.new hdx).new hp) b ob eb
 ·obtain⟨rfl,_⟩:=q2;exact r2.non
 exact k _ _ _ _ (le.trans (le1.trans (le2.trans le3))) sh2 .ofRef q2.2
def Jb:R3:=fun x y H Q=>match y with
 |.non=>Q (.bl (!isN x)) H
 |_=>False
theorem Sv (x:T) (H:Hp3) (Q:VK3):Jb x .non H Q=Q (.bl (!isN x)) H:=rfl
theorem M7:dJ X (compareOp .IsNot) Jb:=by
 refine OpR.imp Di ?_;rintro x y H Q ⟨tx,ty,H3,Q3,rx,ry,sh,h,k⟩;cases ty with
 |non =>
  refine⟨ry.non,?_⟩;have e:decide (x=.non)=isN tx:=by
   cases tx with
   |non=>rw[rx.non];rfl
   |int i=>rw[rx.int];rfl
   |str i=>rw[rx.str];rfl
   |bl i=>rw[rx.bl];rfl
   |ref a=>rw[rx.ref];rfl
   |tup ts=>obtain⟨a,vs,rfl,_⟩:=rx.tup;rfl
   |ty n=>rw[rx.ty];rfl
  rw[e];exact k _ _ _ _ .refl sh .ofBl h
 |_=>exact h.elim
def mnI (o:Option O3) (H:Hp3) (Q:VK3):Prop:=match o with
 |some (.lst xs)=>oq (ints3 xs) fun ns=>ns≠[]/\∀M,M∈ns->(∀a∈ns,M<=a)->Q (.int M) H
 |_=>False
def M8:List T->Hp3->VK3->Prop:=fun ts H Q=>match ts with
 |[.ref a]=>mnI (H a) H Q
 |_=>False
theorem M9 (a:Addr) (H:Hp3) (Q:VK3):M8 [.ref a] H Q=mnI (H a) H Q:=rfl
theorem Sw (xs:List T) (H:Hp3) (Q:VK3):mnI (some (.lst xs)) H Q=oq (ints3 xs) fun ns=>ns≠[]/\∀M,M∈ns->(∀a∈ns,M<=a)->Q (.int M) H:=rfl
end
open L2 PySem.W
section
variable {O:KeyOrd}{key:Nat->O.α}{n:Nat}
def Kw (O:KeyOrd) (key:Nat->O.α) (n:Nat) {α:Type}:KasT α->(α->Prop)->Prop
 |.ret a,Q=>Q a
 |.ask i j k,Q=>i<n/\j<n/\Kw O key n (k (O.blt (key i) (key j))) Q
theorem Kw.mono {α:Type}{Q Q':α->Prop}(hq:∀a,Q a->Q' a):∀{t:KasT α},Kw O key n t Q->Kw O key n t Q'
 |.ret a,h=>hq a h
 |.ask i j k,h=>⟨h.1,h.2.1,Kw.mono hq h.2.2⟩
theorem Kw.bind {α β:Type}{f:α->KasT β}{Q:β->Prop}:∀{t:KasT α},Kw O key n t (fun a=>Kw O key n (f a) Q)->Kw O key n (t.bind f) Q
 |.ret a,h=>h
 |.ask i j k,h=>⟨h.1,h.2.1,Kw.bind h.2.2⟩
theorem Kw.wp {α:Type}{cmp:Nat->Nat->(Bool->Shared->Prop)->Shared->Prop}{s:Shared}(hc:∀i j (C:Bool->Shared->Prop),i<n->j<n->C (O.blt (key i) (key j)) s->cmp i j C s) {Q:α->Prop}{R:α->Shared->Prop}(hq:∀a,Q a->R a s) :
  ∀{t:KasT α},Kw O key n t Q->t.kasWp cmp R s
 |.ret a,h=>hq a h
 |.ask i j k,h=>hc i j _ h.1 h.2.1 (Kw.wp hc hq h.2.2)
structure Pm (n:Nat) (p:Array Nat):Prop where
 pm:p.toList.Perm (List.range n)
 n1:1<=n
theorem Pm.sz {p:Array Nat}(h:Pm n p):p.size=n:=by
 have:=h.pm.length_eq;rw[List.length_range] at this;simpa using this
theorem Pm.lt {p:Array Nat}(h:Pm n p) (i:Nat):p.getD i 0<n:=by
 rw[Array.getD_eq_getD_getElem?];by_cases hi:i<p.size
 ·rw[Array.getElem?_eq_getElem hi];exact List.mem_range.mp (h.pm.mem_iff.mp (by simp))
 rw[Array.getElem?_eq_none (by omega)];exact h.n1
theorem Pm.by {p q:Array Nat}(h:Pm n p) (e:q.Perm p):Pm n q:=⟨(Array.perm_iff_toList_perm.mp e).trans h.pm,h.n1⟩
def Ky (O:KeyOrd) (key:Nat->O.α) (p:Array Nat) (i:Nat):O.α:=key (p.getD i 0)
def Up (O:KeyOrd) (key:Nat->O.α) (p:Array Nat) (k:Nat):Prop:=∀i j,i<=j->j<k->O.kle (Ky O key p i) (Ky O key p j)
def Dn (O:KeyOrd) (key:Nat->O.α) (p:Array Nat) (k:Nat):Prop:=∀i j,i<=j->j<k->O.kle (Ky O key p j) (Ky O key p i)
theorem Ky.congr {p q:Array Nat}{i j:Nat}(h:p[i]?=q[j]?):Ky O key p i=Ky O key q j:=by unfold Ky;rw[Array.getD_eq_getD_getElem?,Array.getD_eq_getD_getElem?,h]
theorem Ky.mir {p:Array Nat}{i j:Nat}(hj:j<=p.size) (k:Nat):Ky O key (kas_rev p i j) k=if i<=k/\k<j then Ky O key p (i+j - 1 - k) else Ky O key p k:=by
 have e:=getElem?_mirror_all (i:=i) hj k;split at e <;> rename_i h
 ·rw[if_pos h];exact Ky.congr e
 rw[if_neg h];exact Ky.congr e
theorem Ky.mirEq {p:Array Nat}{i j:Nat}(hj:j<=p.size) (he:∀k,i<=k->k<j->Ky O key p k=Ky O key p (j - 1)) (k:Nat):Ky O key (kas_rev p i j) k=Ky O key p k:=by
 rw[Ky.mir hj];split
 ·rw[he _ (by omega) (by omega),he k (by omega) (by omega)]
 rfl
theorem Ky.bub {p:Array Nat}{s d:Nat}(hs:s<p.size) (hd:d<=s) (k:Nat):Ky O key (bubble p s d) k=if k=s - d then Ky O key p s else if s - d<k/\k<=s then Ky O key p (k - 1) else Ky O key p k:=by
 have e:=getElem?_bubble hs d hd k;by_cases h1:k=s - d
 ·rw[if_pos h1] at e ⊢;exact Ky.congr e
 rw[if_neg h1] at e ⊢;by_cases h2:s - d<k/\k<=s
 ·rw[if_pos h2] at e ⊢;exact Ky.congr e
 rw[if_neg h2] at e ⊢;exact Ky.congr e
theorem Pm.rev {p:Array Nat}(h:Pm n p) (i j:Nat):Pm n (kas_rev p i j):=h.by (mirror_perm _ _ _ _)
theorem Up.one {p:Array Nat}:Up O key p 1:=fun i j h1 h2=>by
 obtain rfl:i=j:=by omega
 exact KeyOrd.kle_refl _
theorem Up.more {p:Array Nat}{k:Nat}(hk:1<=k) (h:Up O key p k) (e:O.kle (Ky O key p (k - 1)) (Ky O key p k)):Up O key p (k+1):=fun i j h1 h2=>by
 by_cases hj:j<k
 ·exact h i j h1 hj
 obtain rfl:j=k:=by omega
 by_cases hi:i=j
 ·subst hi;exact KeyOrd.kle_refl _
 exact KeyOrd.kle_trans (h i (j - 1) (by omega) (by omega)) e
theorem Dn.more {p:Array Nat}{k:Nat}(hk:1<=k) (h:Dn O key p k) (e:O.kle (Ky O key p k) (Ky O key p (k - 1))):Dn O key p (k+1):=fun i j h1 h2=>by
 by_cases hj:j<k
 ·exact h i j h1 hj
 obtain rfl:j=k:=by omega
 by_cases hi:i=j
 ·subst hi;exact KeyOrd.kle_refl _
 exact KeyOrd.kle_trans e (h i (j - 1) (by omega) (by omega))
theorem uh {p:Array Nat}{Q:Nat->Prop}(hp:Pm n p):∀(f a:Nat),1<=a->Up O key p a->(∀m,a<=m->m<=a+f->Up O key p m->m=a+f\/O.klt (Ky O key p m) (Ky O key p (m - 1))->Q m)->Kw O key n (kas_asc p f a) Q
 |0,a,_,h,k=>k a (Nat.le_refl _) (Nat.le_refl _) h (.inl rfl)
 |f+1,a,ha,h,k=>by
  refine⟨hp.lt _,hp.lt _,?_⟩
  cases e:O.blt (key (p.getD a 0)) (key (p.getD (a - 1) 0)) with
  |true=>exact k a (Nat.le_refl _) (by omega) h (.inr e)
  |false=>exact uh hp f (a+1) (by omega) (h.more ha e) fun m h1 h2 h3 h4=>k m (by omega) (by omega) h3 (h4.imp (fun q=>by omega) id)
theorem jO {Q:Array Nat × Nat × Nat->Prop}:∀(f:Nat) (p:Array Nat) (a q:Nat),Pm n p->1<=a->a+f<=n->Dn O key p a->q+1<=a->(∀i,a - (q+1)<=i->i<a->Ky O key p i=Ky O key p (a - 1)) ->
  (∀p' m r,Pm n p'->a<=m->m<=a+f->Dn O key p' m->r+1<=m->(∀i,m - (r+1)<=i->i<m->Ky O key p' i=Ky O key p' (m - 1))->Q (p',m,r))->Kw O key n (kas_desc f p a q) Q
 |0,p,a,q,hp,_,_,h,hq,he,k=>k p a q hp (Nat.le_refl _) (Nat.le_refl _) h hq he
 |f+1,p,a,q,hp,ha,hn,h,hq,he,k=>by
  refine⟨hp.lt _,hp.lt _,?_⟩
  cases e:O.blt (key (p.getD a 0)) (key (p.getD (a - 1) 0)) with
  |true =>
   have sz:a<=p.size:=by rw[hp.sz];omega
   have one:∀p':Array Nat,∀i,a+1 - (0+1)<=i->i<a+1->Ky O key p' i=Ky O key p' (a+1 - 1):=fun p' i h1 h2=>by rw[show i=a+1 - 1 by omega]
   dsimp only
   rw[if_pos rfl]
   by_cases hq0:q>0
   ·
    rw[if_pos hq0]
    have ke:=Ky.mirEq (O:=O) (key:=key) (i:=a - (q+1)) sz he
    refine jO f _ (a+1) 0 (hp.rev _ _) (by omega) (by omega) (Dn.more ha (fun i j h1 h2=>by rw[ke,ke];exact h i j h1 h2) (by rw[ke,ke];exact KeyOrd.kle_of_klt e)) (by omega) (one _) fun p' m r a1 a2 a3 a4 a5 a6=>k p' m r a1 (by omega) (by omega) a4 a5 a6
   ·
    rw[if_neg hq0]
    exact jO f p (a+1) 0 hp (by omega) (by omega) (h.more ha (KeyOrd.kle_of_klt e)) (by omega) (one _) fun p' m r a1 a2 a3 a4 a5 a6=>k p' m r a1 (by omega) (by omega) a4 a5 a6
  |false =>
   dsimp only
   rw[if_neg Bool.false_ne_true]
   refine⟨hp.lt _,hp.lt _,?_⟩
   cases e2:O.blt (key (p.getD (a - 1) 0)) (key (p.getD a 0)) with
   |true=>exact k p a q hp (Nat.le_refl _) (by omega) h hq he
   |false =>
    dsimp only
    rw[if_neg Bool.false_ne_true]
    have eq:Ky O key p a=Ky O key p (a - 1):=KeyOrd.kle_antisymm e2 e
    refine jO f p (a+1) (q+1) hp (by omega) (by omega) (h.more ha (by rw[eq];exact KeyOrd.kle_refl _)) (by omega) (fun i h1 h2=>?_) fun p' m r a1 a2 a3 a4 a5 a6=>k p' m r a1 (by omega) (by omega) a4 a5 a6
    rw[show a+1 - 1=a by omega]
    by_cases hi:i=a
    ·
     rw[hi]
    ·
     rw[eq];exact he i (by omega) (by omega)
theorem vH {p:Array Nat}{a:Nat}{Q:Nat × Array Nat->Prop}(hp:Pm n p) (ha:1<=a) (hn:a<=n) (h:Dn O key p a) (k:∀m p',Pm n p'->1<=m->m<=n->Up O key p' m->Q (m,p')):Kw O key n (kas_tail3 a n p) Q:=by
 refine Kw.bind (uh (hp.rev 0 a) _ a ha (fun i j h1 h2=>?_) fun m h1 h2 h3 _=>k m _ (hp.rev 0 a) (by omega) (by omega) h3);have sz:a<=p.size:=by rw[hp.sz];exact hn
 rw[Ky.mir sz,Ky.mir sz,if_pos (by omega),if_pos (by omega)];exact h _ _ (by omega) (by omega)
theorem jA {p:Array Nat}{a:Nat}{Q:Nat × Array Nat->Prop}(hp:Pm n p) (hn:a+1<=n) (h:Dn O key p (a+1)) (k:∀m p',Pm n p'->1<=m->m<=n->Up O key p' m->Q (m,p')):Kw O key n (kas_descPart a n p) Q:=by
 refine Kw.bind (jO _ p (a+1) 0 hp (by omega) (by omega) h (by omega) (fun i h1 h2=>by rw[show i=a+1 - 1 by omega]) fun p' m r a1 a2 a3 a4 a5 a6=>?_);dsimp only;have sz:m<=p'.size:=by rw[a1.sz];omega
 by_cases hr:r>0
 ·rw[if_pos hr];have ke:=Ky.mirEq (O:=O) (key:=key) (i:=m - (r+1)) sz a6;exact vH (a1.rev _ _) (by omega) (by omega) (fun i j h1 h2=>by rw[ke,ke];exact a4 i j h1 h2) k
 rw[if_neg hr];exact vH a1 (by omega) (by omega) a4 k
theorem Ao {p:Array Nat}{Q:Nat × Array Nat->Prop}(hp:Pm n p) (k:∀m p',Pm n p'->1<=m->m<=n->Up O key p' m->Q (m,p')):Kw O key n (kas_count n p) Q:=by
 have n1:=hp.n1;refine Kw.bind (uh hp _ 1 (Nat.le_refl _) Up.one fun m h1 h2 h3 h4=>?_);by_cases hm:m=n
 ·rw[if_pos (by simpa using hm)];exact k m p hp h1 (by omega) h3
 rw[if_neg (by simpa using hm)];have hlt:O.klt (Ky O key p m) (Ky O key p (m - 1)):=h4.resolve_left (by omega);by_cases h5:m>1
 ·rw[if_pos h5];refine⟨hp.lt _,hp.lt _,?_⟩;cases e:O.blt (key (p.getD 0 0)) (key (p.getD (m - 1) 0)) with
  |true=>exact k m p hp h1 (by omega) h3
  |false =>
  dsimp only;rw[if_neg Bool.false_ne_true];have sz:m<=p.size:=by rw[hp.sz];omega
  have all:∀i,0<=i->i<m->Ky O key p i=Ky O key p (m - 1):=fun i _ hi=>KeyOrd.kle_antisymm (h3 i (m - 1) (by omega) (by omega)) (KeyOrd.kle_trans e (h3 0 i (by omega) hi));have ke:=Ky.mirEq (O:=O) (key:=key) (i:=0) sz all;refine jA (hp.rev _ _) (by omega) (Dn.more h1 (fun i j q1 q2=>?_) ?_) k
  ·rw[ke,ke,all i (by omega) (by omega),all j (by omega) (by omega)];exact KeyOrd.kle_refl _
  rw[ke,ke];exact KeyOrd.kle_of_klt hlt
 rw[if_neg h5];obtain rfl:m=1:=by omega
 refine jA hp (by omega) (Dn.more (Nat.le_refl _) (fun i j q1 q2=>?_) (KeyOrd.kle_of_klt hlt)) k;obtain rfl:i=j:=by omega
 exact KeyOrd.kle_refl _
theorem kW {p:Array Nat}{k:Nat}{Q:Nat->Prop}(hp:Pm n p):∀(f l r:Nat),l<=r->r<=k->r - l<=f->(∀i,i<l->O.kle (Ky O key p i) (Ky O key p k))->(∀i,r<=i->i<k->O.klt (Ky O key p k) (Ky O key p i))->Up O key p k ->
  (∀l,l<=k->(∀i,i<l->O.kle (Ky O key p i) (Ky O key p k))->(∀i,l<=i->i<k->O.klt (Ky O key p k) (Ky O key p i))->Q l)->Kw O key n (kas_place p k f l r) Q
 |0,l,r,h1,h2,h3,lo,hi,_,q=>by
  obtain rfl:l=r:=by omega
  exact q l h2 lo hi
 |f+1,l,r,h1,h2,h3,lo,hi,hu,q=>by
  unfold kas_place
  by_cases h:l ≥ r
  ·
   obtain rfl:l=r:=by omega
   rw[if_pos h]
   exact q l h2 lo hi
  ·
   rw[if_neg h]
   refine⟨hp.lt _,hp.lt _,?_⟩
   cases e:O.blt (key (p.getD k 0)) (key (p.getD ((l+r) / 2) 0)) with
   |true=>exact kW hp f l ((l+r) / 2) (by omega) (by omega) (by omega) lo (fun i a1 a2=>KeyOrd.klt_of_klt_of_kle e (hu _ i a1 a2)) hu q
   |false=>exact kW hp f ((l+r) / 2+1) r (by omega) h2 (by omega) (fun i a1=>KeyOrd.kle_trans (hu i ((l+r) / 2) (by omega) (by omega)) e) hi hu q
theorem Aq {Q:Array Nat->Prop}:∀(f:Nat) (p:Array Nat) (k:Nat),Pm n p->k+f=n->Up O key p k->(∀p',Pm n p'->Up O key p' n->Q p')->Kw O key n (kas_bin f p k) Q
 |0,p,k,hp,e,h,q=>by
  obtain rfl:k=n:=by omega
  exact q p hp h
 |f+1,p,k,hp,e,h,q=>by
  have sz:k<p.size:=by rw[hp.sz];omega
  refine Kw.bind (kW hp k 0 k (Nat.zero_le _) (Nat.le_refl _) (by omega) (fun _ z=>absurd z (Nat.not_lt_zero _)) (fun _ z1 z2=>absurd z2 (by omega)) h fun l hl lo hi=>?_)
  refine Aq f _ (k+1) (hp.by (bubble_perm _ _ _)) (by omega) (fun i j h1 h2=>?_) q
  rw[Ky.bub sz (by omega),Ky.bub sz (by omega),show k - (k - l)=l by omega]
  by_cases i1:i=l
  ·
   rw[if_pos i1]
   by_cases j1:j=l
   ·
    rw[if_pos j1];exact KeyOrd.kle_refl _
   ·
    rw[if_neg j1,if_pos (by omega)];exact KeyOrd.kle_of_klt (hi _ (by omega) (by omega))
  ·
   rw[if_neg i1]
   by_cases i2:l<i/\i<=k
   ·
    rw[if_pos i2,if_neg (by omega),if_pos (by omega)];exact h _ _ (by omega) (by omega)
   ·
    rw[if_neg i2]
    by_cases j1:j=l
    ·
     rw[if_pos j1];exact lo i (by omega)
    ·
     rw[if_neg j1]
     by_cases j2:l<j/\j<=k
     ·
      rw[if_pos j2];exact h _ _ (by omega) (by omega)
     ·
      rw[if_neg j2];exact h _ _ h1 (by omega)
theorem Fz (n1:1<=n):Kw O key n (kas_sort n) fun p=>Pm n p/\Up O key p n:=by
 have p0:Pm n (List.toArray (List.range n)):=⟨.refl _,n1⟩;refine Kw.bind (Ao p0 fun m p hp h1 h2 h3=>?_);dsimp only;by_cases h:m<n
 ·rw[if_pos h,show max m 1=m by omega];exact Aq _ p m hp (by omega) h3 fun p' a b=>⟨a,b⟩
 rw[if_neg h];obtain rfl:m=n:=by omega
 exact⟨hp,h3⟩
end
def LtAt (A:Around) (s:Shared) (y x:Value) (b:Bool):Prop :=
 ∀(P:Program) (w:World) (E Q:Value->Shared->Prop),Q (.bool b) s->wpAny (model P w) A (richCompare .Lt y x) Q E s
def um (e l:Nat->Bool) (fin:Bool):List Nat->Bool
 |[]=>fin
 |i::r=>if e i=true then um e l fin r else l i
theorem range_drop {n i:Nat}(h:i<n):(List.range n).drop i=i::(List.range n).drop (i+1):=by
 rw[List.drop_eq_getElem_cons (by simpa using h)];simp
section
variable {A:Around}{s:Shared}
theorem LtAt.strs (i j:Str) (t u:Tok):LtAt A s (.str i t) (.str j u) (decide (i.cps.toList<j.cps.toList)):=fun P w E Q h=>(PyProof.Rows.lt_str h:wpAny (model P w) A (compareOp .Lt _ _) Q E s)
variable {X:Cx}{pins:List (Addr × Obj)}{Z:L2.St}{H:Hp}
variable {P:Program}{w:World}{R:Result->Shared->Prop}{I S:Addr}{fp wr:List Addr}{n:Nat}{V:Nat->Value->Prop}{St:Nat->Heap->Prop}{bt:Nat->Nat->Bool}{s0:Shared}
def Kpt (h h':Heap):Prop:=∀b o,h.get? b=some o->h'.get? b=some o
end
theorem jl:bootBuiltins "sorted"=some (.builtin "sorted"):=by decide +kernel
def Srt (O:KeyOrd) (key:Nat->O.α) (n:Nat) (ps:List Nat):Prop:=ps.Perm (List.range n)/\∀i j,i<=j->j<n->O.kle (key (ps.getD i 0)) (key (ps.getD j 0))
theorem Srt.of {O:KeyOrd}{key:Nat->O.α}{n:Nat}{p:Array Nat}(h:Pm n p) (u:Up O key p n):Srt O key n p.toList:=⟨h.pm,fun i j h1 h2=>by
 have:=u i j h1 h2;unfold Ky at this;rw[Array.getD_eq_getD_getElem?,Array.getD_eq_getD_getElem?] at this;rw[List.getD_eq_getElem?_getD,List.getD_eq_getElem?_getD,Array.getElem?_toList,Array.getElem?_toList];exact this⟩
section
variable {P:Program}{w:World}{A:Around}{E:Value->Shared->Prop}{s:Shared}{O:KeyOrd}{key:Nat->O.α}
theorem kY {a:Addr}{vs:List Value}{c:Nat}{R:PySem.Fin->Shared->Prop}(ho:s.heap.get? a=some (seqObj "list" vs.toArray c)) (h64:vs.length<64)
  (hk:2<=vs.length->∀h',(∀b o,b≠a->s.heap.get? b=some o->h'.get? b=some o)->wpAny (model P w) A (keyKind' vs.toArray) (fun κ s'=>s'={ s with heap:=h'}/\∀i j (C:Bool->Shared->Prop),i<vs.length->j<vs.length->C (O.blt (key i) (key j)) { s with heap:=h'}->kas_ask P w A κ vs i j C { s with heap:=h'}) (fun _ _=>False) { s with heap:=h'})
  (h:∀ps,Srt O key vs.length ps->R (.done (.ret .none)) { s with heap:=sortedHeap s.heap a vs (ps.map fun i=>vs.getD i Value.none).toArray}):wpAny (model P w) A (Builtin.«list.sort» ⟨[.ref a],[]⟩) R E s:=by
 have ha:a<s.heap.objs.size:=Heap.lt_size ho;have hz:vs.length<=sizeLine:=by rw[sizeLine_eq];omega
 rw[list_sort_plain];refine wpAny_bind (listItems_at ho rfl ?_);refine wpAny_bind (listUpdate_at ho rfl ?_ (by rw[List.size_toArray];omega) (Nat.zero_le _));obtain⟨e1,ho1⟩:∃e1,(s.heap.update a (Obj.mapSeq fun _=>(#[]:Array Value))).get? a=some (seqObj "list" #[] e1):=⟨_,get?_update_seq ho fun _=>#[]⟩;refine wpAny_bind (seqEpoch_at ho1 rfl ?_);refine wpAny_bind (wpAny_newTuple ?_ hz);refine wpAny_bind (wpAny_newList ?_ (Nat.zero_le _));refine wpAny_holding ?_;have ho6:(((s.heap.update a (Obj.mapSeq fun _=>(#[]:Array Value))).push (seqObj "tuple" vs.toArray 0)).push (seqObj "list" #[] 0)).get? a=some (seqObj "list" #[] e1):=Heap.get?_push_of_some _ (Heap.get?_push_of_some _ ho1);show wpAny (model P w) A _ R E { s with heap:=((s.heap.update a (Obj.mapSeq fun _=>(#[]:Array Value))).push (seqObj "tuple" vs.toArray 0)).push (seqObj "list" #[] 0)};dsimp only;by_cases h2:vs.toArray.size<2
 ·rw[if_pos h2,if_pos h2];refine wpAny_bind (wpAny_pure ?_);rw[StateT.run_pure];refine wpAny_bind (wpAny_pure ?_);dsimp only;rw[List.size_toArray] at h2;refine wpAny_bind (seqEpoch_at ho6 rfl ?_);have e:((vs.toArray.zip vs.toArray).map (·.2))=((List.range vs.length).map fun i=>vs.getD i Value.none).toArray:=by
   match vs,h2 with
   |[],_=>simp
   |[v],_=>simp [List.range_succ]
  show wpAny (model P w) A (Builtin.List.listUpdate (.ref a) (fun _=>(vs.toArray.zip vs.toArray).map (·.2)) >>= _) R E _;rw[e];refine wpAny_bind (listUpdate_at ho6 rfl ?_ (Nat.zero_le _) (by rw[List.size_toArray,List.length_map,List.length_range];omega));simp only[bne_self_eq_false,Bool.false_eq_true,if_false];refine wpAny_pure (h (List.range vs.length) ⟨.refl _,fun i j h1 h3=>?_⟩);obtain rfl:i=j:=by omega
  exact KeyOrd.kle_refl _
 rw[if_neg h2,if_neg h2];rw[List.size_toArray] at h2;refine wpAny_bind (wpAny_mono (hk (by omega) _ fun b o hb e=>Heap.get?_push_of_some _ (Heap.get?_push_of_some _ ((Heap.get?_update_ne _ _ _ _ hb).trans e))) (fun κ s' hs=>?_) fun _ _ x=>x.elim);obtain⟨rfl,hc⟩:=hs;have kw:=Fz (O:=O) (key:=key) (n:=vs.length) (by omega);refine wpAny_bind (wpAny_mono (kat_run (G:=fun p s'=>(Pm vs.length p/\Up O key p vs.length)/\s'={ s with heap:=((s.heap.update a (Obj.mapSeq fun _=>(#[]:Array Value))).push (seqObj "tuple" vs.toArray 0)).push (seqObj "list" #[] 0)}) (Q:=fun st' s'=>∃p:Array Nat,arrOf st'=p.map (kas_item (vs.toArray.zip vs.toArray))/\failedOf st'=none/\(Pm vs.length p/\Up O key p vs.length)/\s'={ s with heap:=((s.heap.update a (Obj.mapSeq fun _=>(#[]:Array Value))).push (seqObj "tuple" vs.toArray 0)).push (seqObj "list" #[] 0)}) rfl (by omega) h64 (fun p' st' s' a1 a2 a3 a4=>⟨p',a2,a3,a4.1,a4.2⟩) (kw.wp hc fun p hp=>⟨hp,rfl⟩)) ?_ fun _ _ e=>e);rintro⟨⟨⟩,st'⟩ s' ⟨p,har,hf,⟨hp,hu⟩,rfl⟩;dsimp only;rw[kat_snds rfl har];refine wpAny_bind (seqEpoch_at ho6 rfl ?_);refine wpAny_bind (listUpdate_at ho6 rfl ?_ (Nat.zero_le _) (by rw[List.size_toArray,List.length_map,hp.pm.length_eq,List.length_range];omega));rw[hf];simp only[bne_self_eq_false,Bool.false_eq_true,if_false];exact wpAny_pure (h _ (.of hp hu))
theorem uo {h:Heap}{vs:List Value}{out:Array Value}:Kpt h (sortedAll h vs out)/\∃c,(sortedAll h vs out).get? (h.objs.size+1)=some (seqObj "list" out c):=by
 have sz:((h.push (seqObj "list" #[] 0)).update h.objs.size (Obj.mapSeq (·++vs.toArray))).objs.size=h.objs.size+1:=by rw[Heap.size_update,size_push']
 have hoL:(((h.push (seqObj "list" #[] 0)).update h.objs.size (Obj.mapSeq (·++vs.toArray))).push (seqObj "list" vs.toArray 0)).get? (h.objs.size+1)=some (seqObj "list" vs.toArray 0):=by rw[<- sz];exact Heap.get?_push_size _ rfl
 refine⟨fun b o e=>?_,?_⟩
 ·have hb:b<h.objs.size:=Heap.lt_size e;unfold sortedAll sortedHeap;rw[Heap.get?_update_ne _ _ _ _ (Nat.ne_of_lt (Nat.lt_succ_of_lt hb))];refine Heap.get?_push_of_some _ (Heap.get?_push_of_some _ ?_);rw[Heap.get?_update_ne _ _ _ _ (Nat.ne_of_lt (Nat.lt_succ_of_lt hb))];refine Heap.get?_push_of_some _ ?_;rw[Heap.get?_update_ne _ _ _ _ (Nat.ne_of_lt hb)];exact Heap.get?_push_of_some _ e
 unfold sortedAll sortedHeap;exact⟨_,get?_update_seq (Heap.get?_push_of_some _ (Heap.get?_push_of_some _ (get?_update_seq hoL fun _=>#[]))) fun _=>out⟩
theorem qP {l:Addr}{vs:List Value}{Q:List Value->Shared->Prop}(hl:s.heap.IsTuple l vs.toArray) (hz:vs.length<=sizeLine)
  (h:Q vs { s with heap:=(s.heap.push (seqObj "list" #[] 0)).update s.heap.objs.size (Obj.mapSeq (·++vs.toArray))}):wpAny (model P w) A (collect (.ref l)) Q E s:=by
 obtain⟨o,ho,hc,n,hd⟩:=id hl;unfold collect;refine wpAny_bind (wpAny_runValue (codeAny_builtin entry_proto_collect' ?_));refine wpAny_bind (m:=newList []) (wpAny_newList (wpAny_pure ⟨Code.quiet_builtin _ (by decide +kernel),codeAny_builtin entry_list_iadd' ?_⟩));show wpAny _ _ (Builtin.List.listExtendWith (.ref s.heap.objs.size) (.ref l) (.ref s.heap.objs.size)) _ _ { s with heap:=s.heap.push (seqObj "list" #[] 0)};unfold Builtin.List.listExtendWith;have hl2:(s.heap.push (seqObj "list" #[] 0)).get? l=some o:=Heap.get?_push_of_some _ ho;refine wpAny_bind (wpAny_typeOf (T:="tuple") ⟨o,hl2,hc⟩ ?_);rw[if_pos (by rw[show (Value.type "tuple"==Value.type "tuple")=true from rfl,Bool.or_true])];refine wpAny_bind (listItems_at hl2 hd (wpAny_bind (listItems_at (xs:=#[]) (n:=0) (Heap.get?_push_size _ rfl) rfl ?_)));rw[if_neg (by simp)];refine wpAny_bind (listUpdate_at (xs:=#[]) (n:=0) (Heap.get?_push_size _ rfl) rfl ?_ (Nat.zero_le _) (by show (#[]++vs.toArray).size<=sizeLine+1;simp only[Array.size_append,List.size_toArray,List.length_nil];omega));refine wpAny_pure ?_;refine wpAny_bind (m:=load s.heap.objs.size) (wpAny_load (get?_update_seq (Heap.get?_push_size _ rfl) _) ?_);show wpAny _ _ (pure ((#[]:Array Value)++vs.toArray).toList) Q E _;rw[show ((#[]:Array Value)++vs.toArray).toList=vs by simp];exact wpAny_pure h
theorem qQ {l:Addr}{vs:List Value}{Q:List Value->Shared->Prop}(hl:s.heap.IsList l vs.toArray\/s.heap.IsTuple l vs.toArray) (hz:vs.length<=sizeLine)
  (h:Q vs { s with heap:=(s.heap.push (seqObj "list" #[] 0)).update s.heap.objs.size (Obj.mapSeq (·++vs.toArray))}):wpAny (model P w) A (collect (.ref l)) Q E s:=by
 rcases hl with hl | hl
 ·exact collect_list hl h hz
 exact qP hl hz h
theorem sortedK {l:Addr}{vs:List Value}{Q:Value->Shared->Prop}(hl:s.heap.IsList l vs.toArray\/s.heap.IsTuple l vs.toArray) (h64:vs.length<64)
  (hk:2<=vs.length->∀h',Kpt s.heap h'->wpAny (model P w) A.in1.in1 (keyKind' vs.toArray) (fun κ s'=>s'={ s with heap:=h'}/\∀i j (C:Bool->Shared->Prop),i<vs.length->j<vs.length->C (O.blt (key i) (key j)) { s with heap:=h'}->kas_ask P w A.in1.in1 κ vs i j C { s with heap:=h'}) (fun _ _=>False) { s with heap:=h'})
  (h:∀ps h' c,Srt O key vs.length ps->Kpt s.heap h'->h'.get? (s.heap.objs.size+1)=some (seqObj "list" (ps.map fun i=>vs.getD i Value.none).toArray c)->Q (.ref (s.heap.objs.size+1)) { s with heap:=h'}):wpAny (model P w) A (call (.builtin "sorted") [.ref l]) Q E s:=by
 refine Calls.call_function_entry kind_sorted plain_sorted entry_sorted (args_sorted1 _) ?_;unfold Builtin.«sorted»;refine wpAny_bind (m:=checkCount "sorted" 1 1 _) (wpAny_pure ?_);refine wpAny_bind (qQ hl (by rw[sizeLine_eq];omega) ?_);refine wpAny_bind (wpAny_newList ?_ (by rw[sizeLine_eq];omega));have sz:((s.heap.push (seqObj "list" #[] 0)).update s.heap.objs.size (Obj.mapSeq (·++vs.toArray))).objs.size=s.heap.objs.size+1:=by rw[Heap.size_update,size_push']
 have hoL:(((s.heap.push (seqObj "list" #[] 0)).update s.heap.objs.size (Obj.mapSeq (·++vs.toArray))).push (seqObj "list" vs.toArray 0)).get? (s.heap.objs.size+1)=some (seqObj "list" vs.toArray 0):=by rw[<- sz];exact Heap.get?_push_size _ rfl
 show wpAny _ _ _ _ _ { s with heap:=((s.heap.push (seqObj "list" #[] 0)).update s.heap.objs.size (Obj.mapSeq (·++vs.toArray))).push (seqObj "list" vs.toArray 0)};rw[sz];refine wpAny_bind (wpAny_holding (wpAny_call_entry slot_list_sort ⟨_,hoL,rfl⟩ entry_list_sort (kY (O:=O) (key:=key) hoL h64 (fun h2 h' kp=>hk h2 h' fun b o e=>kp b o ?_ ?_) fun ps hs=>⟨_,rfl,?_⟩) (args_list_sort _)))
 ·exact Nat.ne_of_lt (Nat.lt_succ_of_lt (Heap.lt_size e))
 ·have hb:b<s.heap.objs.size:=Heap.lt_size e;refine Heap.get?_push_of_some _ ?_;rw[Heap.get?_update_ne _ _ _ _ (Nat.ne_of_lt hb)];exact Heap.get?_push_of_some _ e
 obtain⟨kp,c,hc⟩:=uo (h:=s.heap) (vs:=vs) (out:=(ps.map fun i=>vs.getD i Value.none).toArray);exact wpAny_pure ⟨_,rfl,h ps _ c hs kp hc⟩
end
open L2 PySem.W M
theorem Nb {x y:Str}:(x==y)=decide (x.cps.toList=y.cps.toList):=by
 by_cases h:x=y
 ·subst h;simp
 have:¬x.cps.toList=y.cps.toList:=fun e=>h (by cases x;cases y;simp at e;simp [e]);simp [h,this]
section
variable {X:Cx}{pins:List (Addr × Obj)}{Z:L2.St}{H:Hp}{s:Shared}
end
theorem xn (a b:Addr) (xs ys:Array Value) (n k:Nat) (da db:Option Addr) (sa sb:Array (Option Value)) (e l:Nat->Bool) (m:Nat):∀i:Nat,min xs.size ys.size - i=m->i<=min xs.size ys.size->Meets (Builtin.«list.__eq__.loop» ⟨[.ref a,.ref b,rawInt i,rawInt 0],[]⟩) fun A R s =>
  s.heap.get? a=some ⟨.type "list",da,.seq xs n,sa⟩/\s.heap.get? b=some ⟨.type "list",db,.seq ys k,sb⟩/\(∀j (h1:j<xs.size) (h2:j<ys.size),SeqAt.EqAt A.in1 s xs[j] ys[j] (e j)) /\
  (∀j (h1:j<xs.size) (h2:j<ys.size),e j=false->LtAt A.in1 s xs[j] ys[j] (l j))/\R (.ok (.ret (.bool (um e l (decide (xs.size<ys.size)) ((List.range (min xs.size ys.size)).drop i))))) s:=by
 induction m with
 |zero =>
  intro i hm hi P w A R s h;obtain⟨hp,g,d,tk,os⟩:=s;obtain⟨ha,hb,he,hl,h⟩:=h;rw[List.drop_of_length_le (by simp;omega)] at h;have out:∀(u v:Option Value),xs[((i:Nat):Int).toNat]?=u->ys[((i:Nat):Int).toNat]?=v->u=none\/v=none:=fun u v h1 h2=>by
   by_cases q:i<xs.size
   ·right;rw[<- h2];simp;omega
   left;rw[<- h1];simp;omega
  wp_walk using AutoSeq1.wpAny_loadPart' ha,AutoSeq1.wpAny_loadPart' hb
  cases e1:xs[((i:Nat):Int).toNat]? with
  |none =>
   wp_walk using AutoSeq1.wpAny_loadPart' ha,AutoSeq1.wpAny_loadPart' hb
   exact h
  |some u =>
  cases e2:ys[((i:Nat):Int).toNat]? with
  |none =>
   wp_walk using AutoSeq1.wpAny_loadPart' ha,AutoSeq1.wpAny_loadPart' hb
   exact h
  |some v=>exact absurd (out _ _ e1 e2) (by simp)
 |succ m ih =>
 intro i hm hi P w A R s h;obtain⟨hp,g,d,tk,os⟩:=s;obtain⟨ha,hb,he,hl,h⟩:=h;have i1:i<xs.size:=by omega
 have i2:i<ys.size:=by omega
 have e1:xs[((i:Nat):Int).toNat]?=some xs[i]:=by simp [i1]
 have e2:ys[((i:Nat):Int).toNat]?=some ys[i]:=by simp [i2]
 have ei:((i:Int)+1)=((i+1:Nat):Int):=by push_cast;rfl
 rw[range_drop (by omega)] at h
 wp_walk using AutoSeq1.wpAny_loadPart' ha,AutoSeq1.wpAny_loadPart' hb
 rw[e1,e2];refine wpAny_bind (he i i1 i2 P w _ _ ?_);unfold um at h;cases hy:e i with
 |true =>
  rw[if_pos hy] at h
  wp_walk
  rw[ei];refine⟨plainId_quiet MeetsSeq3.plain_eq_loop _,codeAny_builtin MeetsSeq3.entry_eq_loop ?_⟩;rw[Around.under_plainId MeetsSeq3.plain_eq_loop _];exact ih (i+1) (by omega) (by omega) P w A R _ ⟨ha,hb,he,hl,h⟩
 |false =>
 rw[if_neg (by rw[hy];decide)] at h;have hL:=hl i i1 i2 hy;have hL':∀{E Q:Value->Shared->Prop},Q (.bool (l i)) ⟨hp,g,d,tk,os⟩->wpAny (model P w) A.in1 (richCompare .Lt xs[i] ys[i]) Q E ⟨hp,g,d,tk,os⟩:=fun {E Q}=>hL P w E Q
 wp_walk using AutoSeq1.wpAny_loadPart' ha,AutoSeq1.wpAny_loadPart' hb
 rw[e1,e2]
 wp_walk using hL'
 exact h
theorem Nf (a b:Addr) (xs ys:Array Value) (n k:Nat) (da db:Option Addr) (sa sb:Array (Option Value)) (e l:Nat->Bool):Meets (Builtin.«list.__lt__» ⟨[.ref a,.ref b],[]⟩) fun A R s =>
  s.heap.get? a=some ⟨.type "list",da,.seq xs n,sa⟩/\s.heap.get? b=some ⟨.type "list",db,.seq ys k,sb⟩/\(∀j (h1:j<xs.size) (h2:j<ys.size),SeqAt.EqAt A.in1 s xs[j] ys[j] (e j)) /\
  (∀j (h1:j<xs.size) (h2:j<ys.size),e j=false->LtAt A.in1 s xs[j] ys[j] (l j))/\R (.ok (.ret (.bool (um e l (decide (xs.size<ys.size)) (List.range (min xs.size ys.size)))))) s:=by
 intro P w A R s h;obtain⟨hp,g,d,tk,os⟩:=s;obtain⟨ha,hb,he,hl,h⟩:=h;have sub:=AutoSeq1.sub_list_list
 wp_walk using AutoSeq1.wpAny_loadPart' ha,AutoSeq1.wpAny_loadPart' hb
 refine⟨plainId_quiet MeetsSeq3.plain_eq_loop _,codeAny_builtin MeetsSeq3.entry_eq_loop ?_⟩;rw[Around.under_plainId MeetsSeq3.plain_eq_loop _];exact xn a b xs ys n k da db sa sb e l _ 0 rfl (Nat.zero_le _) P w A R _ ⟨ha,hb,he,hl,by simpa using h⟩
section
variable (O:KeyOrd)
def dB:List O.α->List O.α->Bool
 |[],[]=>false
 |[],_::_=>true
 |_::_,[]=>false
 |x::xs,y::ys=>O.blt x y||(!O.blt y x&&dB xs ys)
variable {O}
theorem m9:∀a:List O.α,dB O a a=false
 |[]=>rfl
 |x::xs=>by unfold dB;rw[O.irrefl,m9 xs];rfl
theorem jB:∀a b c:List O.α,dB O a b=true->dB O b c=true->dB O a c=true
 |[],[],_,h,_=>by cases h
 |[],_::_,[],_,h=>by cases h
 |[],_::_,_::_,_,_=>rfl
 |_::_,[],_,h,_=>by cases h
 |_::_,_::_,[],_,h=>by cases h
 |x::xs,y::ys,z::zs,h1,h2=>by
  unfold dB at h1 h2 ⊢
  simp only[Bool.or_eq_true,Bool.and_eq_true,Bool.not_eq_true'] at h1 h2 ⊢
  rcases h1 with h1 | ⟨h1,r1⟩ <;> rcases h2 with h2 | ⟨h2,r2⟩
  ·
   exact .inl (O.trans _ _ _ h1 h2)
  ·
   rcases O.negTrans _ z _ h1 with q | q
   ·
    exact .inl q
   ·
    rw[h2] at q;cases q
  ·
   rcases O.negTrans _ x _ h2 with q | q
   ·
    rw[h1] at q;cases q
   ·
    exact .inl q
  ·
   refine .inr ⟨?_,jB xs ys zs r1 r2⟩
   cases e:O.blt z x with
   |false=>rfl
   |true =>
    rcases O.negTrans _ y _ e with q | q
    ·
     rw[h2] at q;cases q
    ·
     rw[h1] at q;cases q
theorem ni:∀a b c:List O.α,dB O a c=true->dB O a b=true\/dB O b c=true
 |[],_,[],h=>by cases h
 |[],[],_::_,_=>.inr rfl
 |[],_::_,_::_,_=>.inl rfl
 |_::_,_,[],h=>by cases h
 |_::_,[],_::_,_=>.inr rfl
 |x::xs,y::ys,z::zs,h=>by
  unfold dB at h ⊢
  simp only[Bool.or_eq_true,Bool.and_eq_true,Bool.not_eq_true'] at h ⊢
  rcases h with h | ⟨h,r⟩
  ·
   rcases O.negTrans _ y _ h with q | q
   ·
    exact .inl (.inl q)
   ·
    exact .inr (.inl q)
  ·
   cases e1:O.blt x y with
   |true=>exact .inl (.inl rfl)
   |false =>
    cases e2:O.blt y z with
    |true=>exact .inr (.inl rfl)
    |false =>
     cases e3:O.blt y x with
     |true =>
      rcases O.negTrans _ z _ e3 with q | q
      ·
       rw[e2] at q;cases q
      ·
       rw[h] at q;cases q
     |false =>
      cases e4:O.blt z y with
      |true =>
       rcases O.negTrans _ x _ e4 with q | q
       ·
        rw[h] at q;cases q
       ·
        rw[e1] at q;cases q
      |false =>
       rcases ni xs ys zs r with q | q
       ·
        exact .inl (.inr ⟨rfl,q⟩)
       ·
        exact .inr (.inr ⟨rfl,q⟩)
theorem nj:∀a b:List O.α,dB O a b=false->dB O b a=false->a=b
 |[],[],_,_=>rfl
 |[],_::_,h,_=>by cases h
 |_::_,[],_,h=>by cases h
 |x::xs,y::ys,h1,h2=>by
  unfold dB at h1 h2
  simp only[Bool.or_eq_false_iff,Bool.and_eq_false_iff,Bool.not_eq_false'] at h1 h2
  have e:=O.total x y h1.1 h2.1
  rcases h1.2 with q | q
  ·
   rw[h2.1] at q;cases q
  ·
   rcases h2.2 with r | r
   ·
    rw[h1.1] at r;cases r
   ·
    rw[e,nj xs ys q r]
@[reducible] def kZ (O:KeyOrd):KeyOrd:=⟨List O.α,dB O,m9,jB,ni,nj⟩
end
@[reducible] def strOrd:KeyOrd:=strKind.toKeyOrd
def dC (x:Str):strOrd.α:=x.cps.toList
def rKey (xs:List Str):(kZ strOrd).α:=xs.map dC
theorem FJ (xs ys:List Str):∀(m i:Nat),min xs.length ys.length - i=m->i<=min xs.length ys.length ->
  um (fun j=>decide (xs[j]?=ys[j]?)) (fun j=>decide (dC (xs.getD j default)<dC (ys.getD j default))) (decide (xs.length<ys.length)) ((List.range (min xs.length ys.length)).drop i)=dB strOrd (rKey (xs.drop i)) (rKey (ys.drop i)):=by
 intro m;induction m with
 |zero =>
  intro i hm hi;rw[List.drop_of_length_le (by simp;omega)];unfold um;by_cases h1:xs.length<=i
  ·rw[List.drop_of_length_le h1];by_cases h2:ys.length<=i
   ·rw[List.drop_of_length_le h2];exact decide_eq_false (by omega)
   rw[List.drop_eq_getElem_cons (by omega)];exact decide_eq_true (by omega)
  rw[List.drop_of_length_le (show ys.length<=i by omega),List.drop_eq_getElem_cons (by omega)];exact decide_eq_false (by omega)
 |succ m ih =>
 intro i hm hi;have h1:i<xs.length:=by omega
 have h2:i<ys.length:=by omega
 rw[range_drop (by omega),List.drop_eq_getElem_cons h1,List.drop_eq_getElem_cons h2];unfold um rKey;rw[List.map_cons,List.map_cons];unfold dB;dsimp only;rw[List.getElem?_eq_getElem h1,List.getElem?_eq_getElem h2,List.getD_eq_getElem?_getD,List.getElem?_eq_getElem h1,List.getD_eq_getElem?_getD,List.getElem?_eq_getElem h2];dsimp only[Option.getD_some];by_cases he:xs[i]=ys[i]
 ·have irr:decide (dC ys[i]<dC ys[i])=false:=strOrd.irrefl _;rw[if_pos (decide_eq_true (congrArg some he)),he,irr];exact ih (i+1) (by omega) (by omega)
 rw[if_neg (by simp [he])];have hk:¬dC xs[i]=dC ys[i]:=fun q=>he (by
  have:=Nb (x:=xs[i]) (y:=ys[i])
  rw[decide_eq_true (show xs[i].cps.toList=ys[i].cps.toList from q)] at this
  exact eq_of_beq this)
 show decide (dC xs[i]<dC ys[i])=(strOrd.blt (dC xs[i]) (dC ys[i])||_);cases e:strOrd.blt (dC xs[i]) (dC ys[i]) with
 |true=>exact e
 |false =>
 cases e2:strOrd.blt (dC ys[i]) (dC xs[i]) with
 |true =>
  have e2':decide (dC ys[i]<dC xs[i])=true:=e2
  rw[e2']
  exact e
 |false=>exact absurd (strOrd.total _ _ e e2) hk
section
variable {X:Cx}{pins:List (Addr × Obj)}{Z:L2.St}{H:Hp}{s:Shared}{H3:Hp3}{Q3:VK3}{Q:VK}
theorem Ar (I:Inv X pins Z H s) (sh:SimH X.K H3 H) (k:KV3 X.K H Q3 Q) {α:Type}(O:KeyOrd) (key:α->O.α) (enc:α->T) (d0:α) {as:List α}{a:Addr}{ys:List V}{its:List Value}(rs:Reps X.K H (as.map enc) ys) (rvs:Vals ys its)
  (hl:s.heap.IsList a its.toArray\/s.heap.IsTuple a its.toArray) (h64:as.length<64)
  (hk:2<=its.length->∀h',Kpt s.heap h'->wpAny (model X.prog X.w) X.A.in1.in1 (keyKind' its.toArray) (fun κ s'=>s'={ s with heap:=h'}/\∀i j (C:Bool->Shared->Prop),i<its.length->j<its.length->C (O.blt (key (as.getD i d0)) (key (as.getD j d0))) { s with heap:=h'}->kas_ask X.prog X.w X.A.in1.in1 κ its i j C { s with heap:=h'}) (fun _ _=>False) { s with heap:=h'})
  (h:∀us:List α,us.Perm as->us.Pairwise (fun x y=>O.kle (key x) (key y))->∀p,H3 p=none->Q3 (.ref p) (up3 H3 p (.lst (us.map enc)))):wpAny (model X.prog X.w) X.A (call (.builtin "sorted") [.ref a]) (EP X pins Z Q) X.xe s:=by
 have l1:=rs.length;rw[List.length_map] at l1;have l2:=rvs.length;have hz:sizeLine=16777216:=rfl;refine sortedK (O:=O) (key:=fun i=>key (as.getD i d0)) hl (by omega) hk fun q h' c hs kp hc=>?_;obtain⟨hp,hu⟩:=hs;have hlt:∀i∈q,i<as.length:=fun i hi=>by have:=List.mem_range.mp (hp.mem_iff.mp hi);omega
 have hql:q.length=as.length:=by rw[hp.length_eq,List.length_range];omega
 have ry:Reps X.K H ((q.map fun i=>as.getD i d0).map enc) (q.map fun i=>ys.getD i .non):=by
  clear hu hp hql hc;induction q with
  |nil=>exact .nil
  |cons i q ih =>
  refine .cons ?_ (ih fun j hj=>hlt j (.tail _ hj));have hi:=hlt i (.head _);obtain⟨y,e1,r1⟩:=rs.get (i:=i) (t:=enc as[i]) (by rw[List.getElem?_map,List.getElem?_eq_getElem hi];rfl);dsimp only;rw[List.getD_eq_getElem?_getD,List.getElem?_eq_getElem hi,List.getD_eq_getElem?_getD,e1];exact r1
 have rz:Vals (q.map fun i=>ys.getD i .non) (q.map fun i=>its.getD i Value.none):=by
  clear hu hp hql ry hc;induction q with
  |nil=>exact .nil
  |cons i q ih =>
  refine .cons ?_ (ih fun j hj=>hlt j (.tail _ hj));have hi:i<ys.length:=by have:=hlt i (.head _);omega
  obtain⟨z,e1,r1⟩:=rvs.get (i:=i) (List.getElem?_eq_getElem hi);dsimp only;rw[List.getD_eq_getElem?_getD,List.getElem?_eq_getElem hi,List.getD_eq_getElem?_getD,e1];exact r1
 have hf:H (s.heap.objs.size+1)=none:=I.hok.fresh (Nat.le_succ _);refine⟨.ref (s.heap.objs.size+1),upd H (s.heap.objs.size+1) (.lst (q.map fun i=>ys.getD i .non)),I.laid (t':=s.toks) kp (Nat.le_succ _) ⟨by rw[List.length_map];omega,_,c,rz,hc⟩,rfl,?_⟩;refine k _ _ _ _ (aJ hf) (sh.newLst hf ry) .ofRef (h _ ?_ ?_ _ (sh.fresh hf))
 ·have hm:=hp.map fun i=>as.getD i d0;rw[show its.length=as.length by omega] at hm;have e2:(List.range as.length).map (fun i=>as.getD i d0)=as:=by
   apply List.ext_getElem?;intro i;rw[List.getElem?_map];by_cases hi:i<as.length
   ·rw[List.getElem?_range hi,List.getElem?_eq_getElem hi];simp [List.getD_eq_getElem?_getD,hi]
   rw[List.getElem?_eq_none (by simpa using hi),List.getElem?_eq_none (by omega)];rfl
  rw[e2] at hm;exact hm
 rw[List.pairwise_iff_getElem];intro i j hi hj hij;rw[List.length_map] at hi hj;have:=hu i j (by omega) (by omega);rw[List.getD_eq_getElem?_getD,List.getElem?_eq_getElem hi,List.getD_eq_getElem?_getD,List.getElem?_eq_getElem hj] at this;rw[List.getElem_map,List.getElem_map];exact this
theorem jP:∀{ss:List Str}{ys:List V}{its:List Value},Reps X.K H (ss.map T.str) ys->Vals ys its->StrsAre its ss
 |[],_,_,r,rv=>by rw[r.inv0] at rv;cases rv;exact .nil
 |x::ss,_,_,r,rv=>by
  obtain⟨v,r',rfl,q,b⟩:=r.inv
  cases rv with
  |cons ru rv =>
   cases q.str
   obtain⟨t,rfl⟩:=ru
   exact .cons x t (jP b rv)
theorem StrsAre.get {its:List Value}{ss:List Str}(h:StrsAre its ss):∀i,i<its.length->∃t,its.getD i Value.none=Value.str (ss.getD i default) t:=by
 induction h with
 |nil=>intro i hi;exact absurd hi (Nat.not_lt_zero _)
 |cons x t _ ih =>
 intro i hi;cases i with
 |zero=>exact⟨t,rfl⟩
 |succ i=>exact ih i (by simpa using hi)
theorem StrsAre.len {its:List Value}{ss:List Str}(h:StrsAre its ss):its.length=ss.length:=by
 induction h with
 |nil=>rfl
 |cons x t _ ih=>rw[List.length_cons,List.length_cons,ih]
theorem qR (I:Inv X pins Z H s) (sh:SimH X.K H3 H) (k:KV3 X.K H Q3 Q) {ss:List Str}{a:Addr}{ys:List V}{its:List Value}(rs:Reps X.K H (ss.map T.str) ys) (rvs:Vals ys its) (hl:s.heap.IsList a its.toArray\/s.heap.IsTuple a its.toArray) (h64:ss.length<64)
  (h:∀us:List Str,us.Perm ss->us.Pairwise (fun x y=>strOrd.kle (dC x) (dC y))->∀p,H3 p=none->Q3 (.ref p) (up3 H3 p (.lst (us.map T.str)))):wpAny (model X.prog X.w) X.A (call (.builtin "sorted") [.ref a]) (EP X pins Z Q) X.xe s:=by
 have hS:=jP rs rvs;refine Ar I sh k strOrd dC T.str default rs rvs hl h64 (fun h2 h' kp=>?_) h;refine kas_kind (T:=.type "str") (s:={ s with heap:=h'}) h2 (fun v hv=>?_) rfl rfl ⟨rfl,fun i j C hi hj hC=>?_⟩
 ·obtain⟨x,t,rfl⟩:=hS.all v hv;exact Looks.of_pure rfl
 obtain⟨t,e1⟩:=StrsAre.get hS i hi;obtain⟨u,e2⟩:=StrsAre.get hS j hj;unfold kas_ask;rw[e1,e2];exact kas_lt_str hC
def FN (h:Heap) (xs:List Str) (v:Value):Prop:=∃a o n its,v=.ref a/\h.get? a=some o/\o.cls=.type "list"/\o.data=.seq its n/\StrsAre its.toList xs
theorem vI (I:Inv X pins Z H s) (sh:SimH X.K H3 H) {h':Heap}(kp:Kpt s.heap h'):∀{zs:List (Addr × List Str)}{ys:List V}{its:List Value},(∀z∈zs,H3 z.1=some (.lst (z.2.map T.str)))->Reps X.K H (zs.map fun z=>T.ref z.1) ys->Vals ys its ->
  its.length=zs.length/\∀(i:Nat) (z:Addr × List Str),zs[i]?=some z->∃v,its[i]?=some v/\FN h' z.2 v
 |[],_,_,_,r,rv=>by
  rw[r.inv0] at rv
  cases rv
  exact⟨rfl,(fun _ _ z=>nomatch z)⟩
 |z::zs,_,_,hz,r,rv=>by
  obtain⟨v,r',rfl,q,b⟩:=r.inv
  cases rv with
  |cons ru rv =>
   obtain⟨h1,h2⟩:=vI I sh kp (fun y hy=>hz y (.tail _ hy)) b rv
   cases q.ref
   cases ru
   obtain⟨ys2,sq,rs2⟩:=sh.sqL (.inl (hz z (.head _)))
   obtain⟨its2,rv2,⟨o,n,e,hc,_,hd⟩,_⟩:=I.list sq
   refine⟨by simp [h1],fun i y hy=>?_⟩
   cases i with
   |zero=>cases hy;exact⟨_,rfl,z.1,o,n,its2.toArray,rfl,kp _ _ e,hc,hd,jP rs2 rv2⟩
   |succ i=>exact h2 i y hy
theorem FP {A:Around}{s':Shared}{xs ys:List Str}{us vs:List Value}(h1:StrsAre us xs) (h2:StrsAre vs ys) (j:Nat) (g1:j<us.toArray.size) (g2:j<vs.toArray.size):SeqAt.EqAt A s' us.toArray[j] vs.toArray[j] (decide (xs[j]?=ys[j]?)):=by
 rw[List.size_toArray] at g1 g2;obtain⟨t,e1⟩:=StrsAre.get h1 j g1;obtain⟨u,e2⟩:=StrsAre.get h2 j g2;have l1:=StrsAre.len h1;have l2:=StrsAre.len h2;rw[List.getD_eq_getElem?_getD,List.getElem?_eq_getElem g1] at e1;rw[List.getD_eq_getElem?_getD,List.getElem?_eq_getElem g2] at e2;rw[List.getElem_toArray,List.getElem_toArray,show us[j]=_ from e1,show vs[j]=_ from e2];rw[List.getElem?_eq_getElem (show j<xs.length by omega),List.getElem?_eq_getElem (show j<ys.length by omega),List.getD_eq_getElem?_getD,List.getElem?_eq_getElem (show j<xs.length by omega),List.getD_eq_getElem?_getD,List.getElem?_eq_getElem (show j<ys.length by omega)];rw[show decide (some xs[j]=some ys[j])=(xs[j]==ys[j]) by by_cases h:xs[j]=ys[j] <;> simp [h]];exact SeqAt.EqAt.str_str _ _ _ _
theorem Ng {P:Program}{w:World}{A:Around}{s':Shared}(hu:A.units<cLine) {xs ys:List Str}{u v:Value}(hx:FN s'.heap xs u) (hy:FN s'.heap ys v) {C:Bool->Shared->Prop}{E:Value->Shared->Prop}(h:C ((kZ strOrd).blt (rKey xs) (rKey ys)) s') :
  wpAny (model P w) A (keyLt' oneType' u v) C E s':=by
 obtain⟨a,⟨c1,d1,q1,z1⟩,n1,⟨us⟩,rfl,o1,k1,e1,s1⟩:=hx;obtain⟨b,⟨c2,d2,q2,z2⟩,n2,⟨vs⟩,rfl,o2,k2,e2,s2⟩:=hy;dsimp only at k1 e1 k2 e2;subst k1 e1 k2 e2;have l1:=StrsAre.len s1;have l2:=StrsAre.len s2;rw[keyLt'_oneType,oneLt'_eq];try simp only[if_true]
 refine wpAny_bind (wpAny_cRoomFor hu ?_);refine wpAny_bind (wpAny_callSpecialIfBound?_slot ⟨_,o1,rfl⟩ F.slot_list_lt ?_);refine call_meets F.slot_list_lt ⟨_,o1,rfl⟩ F.entry_list_lt (F.args_list_lt_2 _ _) (Nf a b us.toArray vs.toArray n1 n2 d1 d2 z1 z2 (fun j=>decide (xs[j]?=ys[j]?)) (fun j=>decide (dC (xs.getD j default)<dC (ys.getD j default)))) ⟨o1,o2,FP s1 s2,fun j g1 g2 _=>?_,?_⟩
 ·rw[List.size_toArray] at g1 g2;obtain⟨t,f1⟩:=StrsAre.get s1 j g1;obtain⟨t',f2⟩:=StrsAre.get s2 j g2;rw[List.getD_eq_getElem?_getD,List.getElem?_eq_getElem g1] at f1;rw[List.getD_eq_getElem?_getD,List.getElem?_eq_getElem g2] at f2;rw[List.getElem_toArray,List.getElem_toArray,show us[j]=_ from f1,show vs[j]=_ from f2];exact LtAt.strs _ _ _ _
 have e:=FJ xs ys _ 0 rfl (Nat.zero_le _);rw[List.drop_zero,List.drop_zero,List.drop_zero] at e;rw[List.size_toArray,List.size_toArray,show us.length=xs.length from l1,show vs.length=ys.length from l2,e];exact wpAny_truthy_bool h
theorem Av (I:Inv X pins Z H s) (hu:X.A.units+16<cLine) (sh:SimH X.K H3 H) (k:KV3 X.K H Q3 Q) {zs:List (Addr × List Str)}{a:Addr}{ys:List V}{its:List Value}(hz:∀z∈zs,H3 z.1=some (.lst (z.2.map T.str))) (rs:Reps X.K H (zs.map fun z=>T.ref z.1) ys) (rvs:Vals ys its) (hl:s.heap.IsList a its.toArray\/s.heap.IsTuple a its.toArray) (h64:zs.length<64)
  (h:∀us:List (Addr × List Str),us.Perm zs->us.Pairwise (fun x y=>(kZ strOrd).kle (rKey x.2) (rKey y.2))->∀p,H3 p=none->Q3 (.ref p) (up3 H3 p (.lst (us.map fun z=>T.ref z.1)))):wpAny (model X.prog X.w) X.A (call (.builtin "sorted") [.ref a]) (EP X pins Z Q) X.xe s:=by
 refine Ar I sh k (kZ strOrd) (fun z:Addr × List Str=>rKey z.2) (fun z=>T.ref z.1) default rs rvs hl h64 (fun h2 h' kp=>?_) h;obtain⟨hll,hat⟩:=vI I sh kp hz rs rvs;have g:∀i,i<its.length->∃v,its[i]?=some v/\FN h' (zs.getD i default).2 v:=fun i hi=>hat i _ (by rw[List.getD_eq_getElem?_getD,List.getElem?_eq_getElem (by omega)];rfl);refine kas_kind (T:=.type "list") (s:={ s with heap:=h'}) h2 (fun v hv=>?_) rfl rfl ⟨rfl,fun i j C hi hj hC=>?_⟩
 ·obtain⟨i,hi⟩:=List.getElem?_of_mem hv;obtain⟨v',e1,a1,o,n,it,rfl,ho,hc,hd,_⟩:=g i (List.getElem?_eq_some_iff.mp hi).1;rw[hi] at e1;cases e1;have:=show Looks (model X.prog X.w) h' (typeOf (.ref a1)) o.cls from (Looks.ld ho).andThen .now;rw[hc] at this;exact this
 obtain⟨u,e1,r1⟩:=g i hi;obtain⟨v,e2,r2⟩:=g j hj;unfold kas_ask;rw[List.getD_eq_getElem?_getD,List.getD_eq_getElem?_getD,e1,e2];exact Ng (s':={ s with heap:=h'}) (by rw[units_in1,units_in1];omega) r1 r2 hC
end
def leS (x y:Str):Prop:=strOrd.kle (dC x) (dC y)
def leR (x y:Addr × List Str):Prop:=(kZ strOrd).kle (rKey x.2) (rKey y.2)
def srS (x:T) (H:Hp3) (Q:VK3):Prop :=
 (∃ss:List Str,(x=.tup (ss.map T.str)\/∃a,x=.ref a/\H a=some (.lst (ss.map T.str)))/\ss.length<64/\∀us:List Str,us.Perm ss->us.Pairwise leS->∀p,H p=none->Q (.ref p) (up3 H p (.lst (us.map T.str)))) \/
 ∃(a:Addr) (zs:List (Addr × List Str)),x=.ref a/\H a=some (.lst (zs.map fun z=>T.ref z.1))/\zs.length<64/\(∀z∈zs,H z.1=some (.lst (z.2.map T.str)))/\∀us:List (Addr × List Str),us.Perm zs->us.Pairwise leR->∀p,H p=none->Q (.ref p) (up3 H p (.lst (us.map fun z=>T.ref z.1)))
def Aw:List T->Hp3->VK3->Prop:=fun ts H Q=>match ts with
 |[x]=>srS x H Q
 |_=>False
theorem Nh (x:T) (H:Hp3) (Q:VK3):Aw [x] H Q=srS x H Q:=rfl
section
variable {X:Cx}
theorem FQ (hu:X.A.units+30<cLine):cV X (.builtin "sorted") Aw:=by
 intro pins s Z H xs us Q I rv h;obtain⟨ts,H3,Q3,r,sh,h,k⟩:=h;cases ts with
 |nil=>exact h.elim
 |cons t ts =>
 cases ts with
 |cons _ _=>exact h.elim
 |nil =>
 obtain⟨v,rfl,rv'⟩:=r.one';obtain⟨u,rfl,ru⟩:=vals1 rv;rcases h with ⟨ss,hx,h64,h⟩ | ⟨a,zs,rfl,ha,h64,hz,h⟩
 ·rcases hx with rfl | ⟨a,rfl,ha⟩
  ·obtain⟨a,ys,rfl,sq,rs⟩:=Rep.tup rv';cases ru;obtain⟨its,rvs,hl,_⟩:=I.tuple sq;exact qR I sh k rs rvs (.inr hl) h64 h
  rw[rv'.ref] at ru;cases ru;obtain⟨ys,sq,rs⟩:=sh.sqL (.inl ha);obtain⟨its,rvs,hl,_⟩:=I.list sq;exact qR I sh k rs rvs (.inl hl.isList) h64 h
 rw[rv'.ref] at ru;cases ru;obtain⟨ys,sq,rs⟩:=sh.sqL (.inl ha);obtain⟨its,rvs,hl,_⟩:=I.list sq;exact Av I (by omega) sh k hz rs rvs (.inl hl.isList) h64 h
theorem xq {P:Program}{w:World}{kvs:List (Key × V)}{vs:List (Key × Value)}(r:KV kvs vs):∀(us:List Value),us.length=vs.length->(∀(j:Nat) (v:Value),us[j]?=some v->∃k x,vs[j]?=some (k,x)/\(bj P w).is k v=true)->Vals (kvs.map fun q=>kV q.1) us:=by
 induction r with
 |nil=>intro us h _;rw[List.eq_nil_of_length_eq_zero h];exact .nil
 |cons h1 h2 ih =>
 intro us hl hus;cases us with
 |nil=>cases hl
 |cons u us =>
 refine .cons ?_ (ih us (Nat.succ.inj hl) fun j v e=>hus (j+1) v e);obtain⟨k,x,e,hk⟩:=hus 0 u rfl;cases e;obtain⟨hq,_⟩:=h1;dsimp only at hq ⊢;rw[hq];rcases bz hk with ⟨i,t,e1,e2⟩ | ⟨y,t,e1,e2⟩
 ·rw[e1,e2];exact⟨t,rfl⟩
 rw[e1,e2];exact⟨t,rfl⟩
theorem xu {K:Frag}{H:Hp}{kvs:List (Str × T)}{vs:List (Key × V)}(r:RepD K H kvs vs):Reps K H (kvs.map fun q=>T.str q.1) (vs.map fun q=>kV q.1):=by
 induction r with
 |nil=>exact .nil
 |cons h _ ih =>
 refine .cons ?_ ih;dsimp only;rw[h.1];exact .ofStr
end
theorem FT {h:Heap}{vs:List Value}{out:Array Value}:Kpt h (sortedHeap (h.push (seqObj "list" vs.toArray 0)) h.objs.size vs out)/\∃c,(sortedHeap (h.push (seqObj "list" vs.toArray 0)) h.objs.size vs out).get? h.objs.size=some (seqObj "list" out c):=by
 have hoL:(h.push (seqObj "list" vs.toArray 0)).get? h.objs.size=some (seqObj "list" vs.toArray 0):=Heap.get?_push_size _ rfl;refine⟨fun b o e=>?_,?_⟩
 ·have hb:b<h.objs.size:=Heap.lt_size e;unfold sortedHeap;rw[Heap.get?_update_ne _ _ _ _ (Nat.ne_of_lt hb)];refine Heap.get?_push_of_some _ (Heap.get?_push_of_some _ ?_);rw[Heap.get?_update_ne _ _ _ _ (Nat.ne_of_lt hb)];exact Heap.get?_push_of_some _ e
 unfold sortedHeap;exact⟨_,get?_update_seq (Heap.get?_push_of_some _ (Heap.get?_push_of_some _ (get?_update_seq hoL fun _=>#[]))) fun _=>out⟩
section
variable {P:Program}{w:World}{A:Around}{E:Value->Shared->Prop}{s:Shared}{O:KeyOrd}{key:Nat->O.α}
theorem FW {x:Value}{Q:Value->Shared->Prop}(hx:∀A' E',A'.handled=A.handled->wpAny (model P w) A' (collect x) (fun vs s1=>vs.length<64 /\
   (2<=vs.length->∀h',Kpt s1.heap h'->wpAny (model P w) A.in1.in1 (keyKind' vs.toArray) (fun κ s'=>s'={ s1 with heap:=h'}/\∀i j (C:Bool->Shared->Prop),i<vs.length->j<vs.length->C (O.blt (key i) (key j)) { s1 with heap:=h'}->kas_ask P w A.in1.in1 κ vs i j C { s1 with heap:=h'}) (fun _ _=>False) { s1 with heap:=h'}) /\
   ∀ps h' c,Srt O key vs.length ps->Kpt s1.heap h'->h'.get? s1.heap.objs.size=some (seqObj "list" (ps.map fun i=>vs.getD i Value.none).toArray c)->Q (.ref s1.heap.objs.size) { s1 with heap:=h'}) E' s):wpAny (model P w) A (call (.builtin "sorted") [x]) Q E s:=by
 refine Calls.call_function_entry kind_sorted plain_sorted entry_sorted (args_sorted1 _) ?_;unfold Builtin.«sorted»;refine wpAny_bind (m:=checkCount "sorted" 1 1 _) (wpAny_pure ?_);refine wpAny_bind (wpAny_mono (hx _ _ rfl) (fun vs s1 hv=>?_) fun _ _ e=>e);obtain⟨h64,hk,h⟩:=hv;refine wpAny_bind (wpAny_newList ?_ (by rw[sizeLine_eq];omega));have hoL:(s1.heap.push (seqObj "list" vs.toArray 0)).get? s1.heap.objs.size=some (seqObj "list" vs.toArray 0):=Heap.get?_push_size _ rfl;refine wpAny_bind (wpAny_holding (wpAny_call_entry slot_list_sort ⟨_,hoL,rfl⟩ entry_list_sort (kY (O:=O) (key:=key) hoL h64 (fun h2 h' kp=>hk h2 h' fun b o e=>kp b o ?_ ?_) fun ps hs=>⟨_,rfl,?_⟩) (args_list_sort _)))
 ·exact Nat.ne_of_lt (Heap.lt_size e)
 ·exact Heap.get?_push_of_some _ e
 obtain⟨kp,c,hc⟩:=FT (h:=s1.heap) (vs:=vs) (out:=(ps.map fun i=>vs.getD i Value.none).toArray);exact wpAny_pure ⟨_,rfl,h ps _ c hs kp hc⟩
theorem qT {T:String}{r d:Addr}{n:Nat}{Pr:Nat->Value->Prop}{OK:Heap->Prop}{Q:List Value->Shared->Prop}(K:KdlSrc P w T r d n Pr OK) (hh:A.handled=none) (hok:OK s.heap) (hn:n<=sizeLine)
  (h:∀h' tk acc,Kpt s.heap h'->s.heap.objs.size<h'.objs.size->ItemsOf Pr acc n->Q acc.toList { s with heap:=h',toks:=tk}):wpAny (model P w) A (collect (.ref r)) Q E s:=by
 have hlt:=K.there _ hok;unfold collect;refine wpAny_bind (wpAny_runValue (codeAny_builtin entry_proto_collect' ?_));refine wpAny_bind (m:=newList []) (wpAny_newList (wpAny_pure ⟨Code.quiet_builtin _ (by decide +kernel),codeAny_builtin entry_list_iadd' ?_⟩))
 let st:Shared:={ s with heap:=s.heap.push (seqObj "list" #[] 0)}
 let G:Result->Shared->Prop:=fun q t=>∃h' tk acc c,q=.ok (.ret (.ref s.heap.objs.size))/\t={ s with heap:=h',toks:=tk}/\Kpt s.heap h'/\h'.get? s.heap.objs.size=some (seqObj "list" acc c)/\ItemsOf Pr acc n
 have key:=kdl_extend (A:=A) (s:=st) (R:=G) K hh (K.keep _ _ hok fun b _ o e=>Heap.get?_push_of_some _ e) s.heap.objs.size (Nat.ne_of_gt hlt.1) (Nat.ne_of_gt hlt.2) (.ref s.heap.objs.size) 0 (Heap.get?_push_size _ rfl) (fun h' tk acc c hk hS hacc=>⟨h',tk,acc,c,rfl,rfl,fun b o e=>hk b o (Nat.ne_of_lt (Heap.lt_size e)) (Heap.get?_push_of_some _ e),hS,hacc⟩) hn;have fin:∀q t,G q t->∃h' tk acc c,q=.ok (.ret (.ref s.heap.objs.size))/\h'.get? s.heap.objs.size=some (seqObj "list" acc c)/\t={ s with heap:=h',toks:=tk}/\Q acc.toList t:=by rintro q t ⟨h',tk,acc,c,e1,rfl,kp,hS,hacc⟩;exact⟨h',tk,acc,c,e1,hS,rfl,h h' tk acc kp (Heap.lt_size hS) hacc⟩
 refine wpAny_mono (A:=A.in1) key (fun f t x=>?_) fun e t x=>?_
 ·cases f with
  |done f=>obtain⟨h',tk,acc,c,e1,hS,rfl,hq⟩:=fin _ _ x;cases e1;exact wpAny_bind (m:=load s.heap.objs.size) (wpAny_load hS (wpAny_pure hq))
  |again c0 =>
  refine⟨x.1,codeAny_mono x.2 fun q t y=>?_⟩;obtain⟨h',tk,acc,c,rfl,hS,rfl,hq⟩:=fin _ _ y;exact wpAny_bind (m:=load s.heap.objs.size) (wpAny_load hS (wpAny_pure hq))
 obtain⟨_,_,_,_,e1,_⟩:=fin _ _ x;cases e1
variable {X:Cx}{pins:List (Addr × Obj)}{Z:L2.St}{H:Hp}{H3:Hp3}{Q3:VK3}{Q:VK}
theorem Ax (I:Inv X pins Z H s) (sh:SimH X.K H3 H) (k:KV3 X.K H Q3 Q) (hh:X.A.handled=none) {kvs:List (Str × T)}{a:Addr}(ha:H3 a=some (.dct kvs)) (h64:kvs.length<64)
  (h:∀us:List Str,us.Perm (kvs.map (·.1))->us.Pairwise leS->∀p,H3 p=none->Q3 (.ref p) (up3 H3 p (.lst (us.map T.str)))):wpAny (model X.prog X.w) X.A (call (.builtin "sorted") [.ref a]) (EP X pins Z Q) X.xe s:=by
 obtain⟨vs,e2,rd⟩:=sh a _ ha;obtain⟨z,hd,vs',rel,dd⟩:=pQ I.hok e2;obtain⟨o,es,ep,h1,h2,h3,h4,h5,h6⟩:=dd;have hl:=rel.length;have hl2:=Paired.length rd;refine FW (O:=strOrd) (key:=fun i=>dC ((kvs.map (·.1)).getD i default)) fun A' E' hA=>?_;refine qT (kdl_dict (knd:=bj X.prog X.w) (kvs:=vs') (ep:=ep) hd) (hA.trans hh) ⟨o,es,h1,h2,h3,h4,h5,h6⟩ (by omega) fun h' tk acc kp hge' hacc=>?_;have rvs:=xq (P:=X.prog) (w:=X.w) rel acc.toList (by rw[Array.length_toList];exact hacc.1) fun j v e=>hacc.2 j v (by rw[<- Array.getElem?_toList];exact e);have rs:=xu rd;have rs':Reps X.K H ((kvs.map (·.1)).map T.str) (vs.map fun q=>kV q.1):=by rw[List.map_map];exact rs
 have hS:=jP rs' rvs;have l3:=StrsAre.len hS;rw[List.length_map] at l3;generalize hys:(vs.map fun q=>kV q.1)=ys at rvs rs';generalize acc.toList=its at *;have l1:=rs'.length;rw[List.length_map,List.length_map] at l1;have l2:=rvs.length;have hz:sizeLine=16777216:=rfl;refine⟨by omega,fun g2 g' kq=>?_,fun q g' c hs kq hc=>?_⟩
 ·refine kas_kind (T:=.type "str") (s:={ s with heap:=g',toks:=tk}) g2 (fun v hv=>?_) rfl rfl ⟨rfl,fun i j C hi hj hC=>?_⟩
  ·obtain⟨x,t,rfl⟩:=hS.all v hv;exact Looks.of_pure rfl
  obtain⟨t,e1⟩:=StrsAre.get hS i hi;obtain⟨u,e2⟩:=StrsAre.get hS j hj;unfold kas_ask;rw[e1,e2];exact kas_lt_str hC
 obtain⟨hp,hu⟩:=hs;have hlt:∀i∈q,i<kvs.length:=fun i hi=>by have:=List.mem_range.mp (hp.mem_iff.mp hi);omega
 have hql:q.length=kvs.length:=by rw[hp.length_eq,List.length_range];omega
 have ry:Reps X.K H ((q.map fun i=>(kvs.map (·.1)).getD i default).map T.str) (q.map fun i=>ys.getD i .non):=by
  clear hu hp hql hc;induction q with
  |nil=>exact .nil
  |cons i q ih =>
  refine .cons ?_ (ih fun j hj=>hlt j (.tail _ hj));have hi:=hlt i (.head _);have hi':i<(kvs.map (·.1)).length:=by rw[List.length_map];exact hi
  obtain⟨y,e1,r1⟩:=rs'.get (i:=i) (t:=T.str ((kvs.map (·.1))[i])) (by rw[List.getElem?_map,List.getElem?_eq_getElem hi'];rfl);dsimp only;rw[List.getD_eq_getElem?_getD,List.getElem?_eq_getElem hi',List.getD_eq_getElem?_getD,e1];exact r1
 have rz:Vals (q.map fun i=>ys.getD i .non) (q.map fun i=>its.getD i Value.none):=by
  clear hu hp hql ry hc;induction q with
  |nil=>exact .nil
  |cons i q ih =>
  refine .cons ?_ (ih fun j hj=>hlt j (.tail _ hj));have hi:i<ys.length:=by have:=hlt i (.head _);omega
  obtain⟨z,e1,r1⟩:=rvs.get (i:=i) (List.getElem?_eq_getElem hi);dsimp only;rw[List.getD_eq_getElem?_getD,List.getElem?_eq_getElem hi,List.getD_eq_getElem?_getD,e1];exact r1
 have hge:s.heap.objs.size<=h'.objs.size:=Nat.le_of_lt hge';have hf:H h'.objs.size=none:=I.hok.fresh hge;refine⟨.ref h'.objs.size,upd H h'.objs.size (.lst (q.map fun i=>ys.getD i .non)),I.laid (t':=tk) (fun b o e=>kq b o (kp b o e)) hge ⟨by rw[List.length_map];omega,_,c,rz,hc⟩,rfl,?_⟩;refine k _ _ _ _ (aJ hf) (sh.newLst hf ry) .ofRef (h _ ?_ ?_ _ (sh.fresh hf))
 ·have hm:=hp.map fun i=>(kvs.map (·.1)).getD i default;rw[show its.length=(kvs.map (·.1)).length by rw[List.length_map];omega] at hm;have e2:(List.range (kvs.map (·.1)).length).map (fun i=>(kvs.map (·.1)).getD i default)=kvs.map (·.1):=by
   apply List.ext_getElem?;intro i;rw[List.getElem?_map];by_cases hi:i<(kvs.map (·.1)).length
   ·rw[List.getElem?_range hi,List.getElem?_eq_getElem hi,Option.map_some,List.getD_eq_getElem?_getD,List.getElem?_eq_getElem hi];rfl
   rw[List.getElem?_eq_none (by simpa using hi),List.getElem?_eq_none (by omega)];rfl
  rw[e2] at hm;exact hm
 rw[List.pairwise_iff_getElem];intro i j hi hj hij;rw[List.length_map] at hi hj;have:=hu i j (by omega) (by omega);rw[List.getD_eq_getElem?_getD,List.getElem?_eq_getElem hi,List.getD_eq_getElem?_getD,List.getElem?_eq_getElem hj] at this;rw[List.getElem_map,List.getElem_map];exact this
def sdD (o:Option O3) (H:Hp3) (Q:VK3):Prop:=match o with
 |some (.dct kvs)=>kvs.length<64/\∀us:List Str,us.Perm (kvs.map (·.1))->us.Pairwise leS->∀p,H p=none->Q (.ref p) (up3 H p (.lst (us.map T.str)))
 |_=>False
def Ay:List T->Hp3->VK3->Prop:=fun ts H Q=>match ts with
 |[.ref a]=>sdD (H a) H Q
 |_=>False
theorem Ni (a:Addr) (H:Hp3) (Q:VK3):Ay [.ref a] H Q=sdD (H a) H Q:=rfl
theorem Sx (kvs:List (Str × T)) (H:Hp3) (Q:VK3):sdD (some (.dct kvs)) H Q=(kvs.length<64/\∀us:List Str,us.Perm (kvs.map (·.1))->us.Pairwise leS->∀p,H p=none->Q (.ref p) (up3 H p (.lst (us.map T.str)))):=rfl
theorem FZ {n:Nat}(hr:Room n X.A):cV X (.builtin "sorted") Ay:=by
 intro pins s Z H xs us Q I rv h;obtain⟨ts,H3,Q3,r,sh,h,k⟩:=h
 match ts,h,r with
 |[.ref a],h,r =>
 obtain⟨v,rfl,rv'⟩:=r.one';obtain⟨u,rfl,ru⟩:=vals1 rv;rw[rv'.ref] at ru;cases ru;have h':sdD (H3 a) H3 Q3:=h;unfold sdD at h';split at h'
 ·rename_i kvs e;exact Ax I sh k hr.hd e h'.1 h'.2
 exact h'.elim
end
@[reducible] def trOrd:KeyOrd where
 α:=Int × Int × Int
 blt x y:=decide (x.1<y.1\/(x.1=y.1/\(x.2.1<y.2.1\/(x.2.1=y.2.1/\x.2.2<y.2.2))))
 irrefl a:=by rw[decide_eq_false_iff_not];omega
 trans a b c h1 h2:=by rw[decide_eq_true_eq] at *;omega
 negTrans a b c h:=by rw[decide_eq_true_eq] at h;rw[decide_eq_true_eq,decide_eq_true_eq];omega
 total a b h1 h2:=by
  rw[decide_eq_false_iff_not] at h1 h2;obtain⟨a1,a2,a3⟩:=a;obtain⟨b1,b2,b3⟩:=b;dsimp only at h1 h2;have e1:a1=b1:=by omega
  have e2:a2=b2:=by omega
  have e3:a3=b3:=by omega
  rw[e1,e2,e3]
def Ga (x y:Int × Int × Int):Prop:=trOrd.kle x y
def trT (p:Int × Int × Int):T:=.tup [.int p.1,.int p.2.1,.int p.2.2]
section
variable {X:Cx}{pins:List (Addr × Obj)}{Z:L2.St}{H:Hp}{s:Shared}
def Nj (h:Heap) (p:Int × Int × Int) (v:Value):Prop:=∃a o n t u z,v=.ref a/\h.get? a=some o/\o.cls=.type "tuple"/\o.data=.seq #[.int p.1 t,.int p.2.1 u,.int p.2.2 z] n
theorem ur (I:Inv X pins Z H s) {h':Heap}(kp:Kpt s.heap h'):∀{ps:List (Int × Int × Int)}{ys:List V}{its:List Value},Reps X.K H (ps.map trT) ys->Vals ys its ->
  its.length=ps.length/\(∃fs,KatTups h' its fs/\fs.length=its.length/\∀v∈fs,∃x t,v=Value.int x t)/\∀(i:Nat) (p:Int × Int × Int),ps[i]?=some p->∃v,its[i]?=some v/\Nj h' p v
 |[],_,_,r,rv=>by
  rw[r.inv0] at rv
  cases rv
  exact⟨rfl,⟨[],.nil,rfl,(fun _ z=>nomatch z)⟩,(fun _ _ z=>nomatch z)⟩
 |p::ps,_,_,r,rv=>by
  obtain⟨v,r',rfl,q,b⟩:=r.inv
  cases rv with
  |cons ru rv =>
   rename_i u us
   obtain⟨h1,⟨fs,h2,h3,h4⟩,h5⟩:=ur I kp b rv
   obtain⟨a,xs,rfl,sq,rs⟩:=Rep.tup q
   cases ru
   obtain⟨its2,rv2,⟨o,ho,hc,n,hd⟩,_⟩:=I.tuple sq
   obtain⟨v1,r1,rfl,q1,b1⟩:=rs.inv
   obtain⟨v2,r2,rfl,q2,b2⟩:=b1.inv
   obtain⟨v3,r3,rfl,q3,b3⟩:=b2.inv
   rw[b3.inv0] at rv2
   cases q1.int
   cases q2.int
   cases q3.int
   cases rv2 with
   |cons x1 rv2 =>
   cases rv2 with
   |cons x2 rv2 =>
   cases rv2 with
   |cons x3 rv2 =>
   cases rv2
   obtain⟨t,rfl⟩:=x1
   obtain⟨t',rfl⟩:=x2
   obtain⟨t'',rfl⟩:=x3
   have ho':=kp a o ho
   refine⟨by simp [h1],⟨.int p.1 t::fs,.cons ho' hc hd rfl h2,by simp [h3],fun z hz=>?_⟩,fun i z hz=>?_⟩
   ·
    rcases List.mem_cons.mp hz with e | e
    ·
     exact⟨_,_,e⟩
    ·
     exact h4 z e
   ·
    cases i with
    |zero=>cases hz;exact⟨_,rfl,a,o,n,t,t',t'',rfl,ho',hc,hd⟩
    |succ i=>exact h5 i z hz
theorem Sy {P:Program}{w:World}{A:Around}{h':Heap}{s':Shared}(e:s'.heap=h') {x y:Int × Int × Int}{u v:Value}(hx:Nj h' x u) (hy:Nj h' y v) {C:Bool->Shared->Prop}{E:Value->Shared->Prop}(h:C (trOrd.blt x y) s') :
  wpAny (model P w) A (keyLt' (tuples' true) u v) C E s':=by
 obtain⟨a,o,n,t1,t2,t3,rfl,ho,hc,hd⟩:=hx;obtain⟨b,o',n',t4,t5,t6,rfl,ho',hc',hd'⟩:=hy;subst e;refine kat_lt ho hd ho' hd' ?_;dsimp only[trOrd] at h;refine kat_cons (SeqAt.EqAt.int_int _ _ _ _ P w _ _ ?_);by_cases q1:x.1=y.1
 ·rw[show (x.1==y.1)=true from beq_iff_eq.mpr q1];refine kat_yes (kat_cons (SeqAt.EqAt.int_int _ _ _ _ P w _ _ ?_));by_cases q2:x.2.1=y.2.1
  ·rw[show (x.2.1==y.2.1)=true from beq_iff_eq.mpr q2];refine kat_yes (kat_cons (SeqAt.EqAt.int_int _ _ _ _ P w _ _ ?_));by_cases q3:x.2.2=y.2.2
   ·rw[show (x.2.2==y.2.2)=true from beq_iff_eq.mpr q3];refine kat_yes (kat_nil ?_);rw[decide_eq_false (by omega)] at h;exact h
   rw[show (x.2.2==y.2.2)=false from beq_eq_false_iff_ne.mpr q3];refine kat_no (kat_one _ _ (wpAny_lt_int ?_));rw[show decide (x.1<y.1\/(x.1=y.1/\(x.2.1<y.2.1\/(x.2.1=y.2.1/\x.2.2<y.2.2))))=decide (x.2.2<y.2.2) from decide_eq_decide.mpr (by omega)] at h;exact h
  rw[show (x.2.1==y.2.1)=false from beq_eq_false_iff_ne.mpr q2];refine kat_no (kat_one _ _ (wpAny_lt_int ?_));rw[show decide (x.1<y.1\/(x.1=y.1/\(x.2.1<y.2.1\/(x.2.1=y.2.1/\x.2.2<y.2.2))))=decide (x.2.1<y.2.1) from decide_eq_decide.mpr (by omega)] at h;exact h
 rw[show (x.1==y.1)=false from beq_eq_false_iff_ne.mpr q1];refine kat_no (oneLt_int ?_);rw[show decide (x.1<y.1\/(x.1=y.1/\(x.2.1<y.2.1\/(x.2.1=y.2.1/\x.2.2<y.2.2))))=decide (x.1<y.1) from decide_eq_decide.mpr (by omega)] at h;exact h
end
def srT (o:Option O3) (H:Hp3) (Q:VK3):Prop:=match o with
 |some (.lst ts)=>∃ps:List (Int × Int × Int),ts=ps.map trT/\ps.length<64/\∀us:List (Int × Int × Int),us.Perm ps->us.Pairwise Ga->∀p,H p=none->Q (.ref p) (up3 H p (.lst (us.map trT)))
 |_=>False
def Az:List T->Hp3->VK3->Prop:=fun ts H Q=>match ts with
 |[.ref a]=>srT (H a) H Q
 |_=>False
theorem Ba (a:Addr) (H:Hp3) (Q:VK3):Az [.ref a] H Q=srT (H a) H Q:=rfl
theorem SJ (ts:List T) (H:Hp3) (Q:VK3):srT (some (.lst ts)) H Q=(∃ps:List (Int × Int × Int),ts=ps.map trT/\ps.length<64/\∀us:List (Int × Int × Int),us.Perm ps->us.Pairwise Ga->∀p,H p=none->Q (.ref p) (up3 H p (.lst (us.map trT)))):=rfl
theorem Gb {X:Cx}:cV X (.builtin "sorted") Az:=by
 intro pins s Z H xs us Q I rv h;obtain⟨ts,H3,Q3,r,sh,h,k⟩:=h;cases ts with
 |nil=>exact h.elim
 |cons t ts =>
 cases ts with
 |cons _ _=>cases t <;> exact h.elim
 |nil =>
 cases t with
 |ref a =>
  rw[Ba] at h;obtain⟨v,rfl,rv'⟩:=r.one';obtain⟨u,rfl,ru⟩:=vals1 rv;rw[rv'.ref] at ru;cases ru;cases e:H3 a with
  |none=>rw[e] at h;exact h.elim
  |some o =>
  rw[e] at h;cases o with
  |lst ls =>
   obtain⟨ps,rfl,h64,h⟩:=h;obtain⟨ys,sq,rs⟩:=sh.sqL (.inl e);obtain⟨its,rvs,hl,_⟩:=I.list sq;have l2:=(ur I (fun _ _ q=>q) rs rvs).1
   let key:Nat->trOrd.α:=fun i=>ps.getD i default
   refine sortedK (O:=trOrd) (key:=key) (.inl hl.isList) (by omega) (fun h2 h' kp=>?_) fun q h' c hs kp hc=>?_
   ·obtain⟨_,⟨fs,kt,hfl,hfs⟩,hat⟩:=ur I kp rs rvs;refine kat_kind (T:=.type "int") (s:={ s with heap:=h'}) kt (by omega) (fun v hv=>?_) rfl ⟨rfl,fun i j C hi hj hC=>?_⟩
    ·obtain⟨x,t,rfl⟩:=hfs v hv;exact Looks.of_pure rfl
    have gi:ps[i]?=some (ps.getD i default):=by rw[List.getD_eq_getElem?_getD,List.getElem?_eq_getElem (by omega)];rfl
    have gj:ps[j]?=some (ps.getD j default):=by rw[List.getD_eq_getElem?_getD,List.getElem?_eq_getElem (by omega)];rfl
    obtain⟨vi,e1,p1⟩:=hat i _ gi;obtain⟨vj,e2,p2⟩:=hat j _ gj;unfold kas_ask;rw[List.getD_eq_getElem?_getD,List.getD_eq_getElem?_getD,e1,e2];exact Sy rfl p1 p2 hC
   obtain⟨hp,hu⟩:=hs;have hlt:∀i∈q,i<ps.length:=fun i hi=>by rw[<- l2];exact List.mem_range.mp (hp.mem_iff.mp hi)
   have l1:=rs.length;rw[List.length_map] at l1;have hql:q.length=ps.length:=by rw[hp.length_eq,List.length_range,l2]
   have hz:sizeLine=16777216:=rfl;have ry:Reps X.K H ((q.map fun i=>ps.getD i default).map trT) (q.map fun i=>ys.getD i .non):=by
    clear hu hp hql hc;induction q with
    |nil=>exact .nil
    |cons i q ih =>
    refine .cons ?_ (ih fun j hj=>hlt j (.tail _ hj));have hi:=hlt i (.head _);obtain⟨y,e1,r1⟩:=rs.get (i:=i) (t:=trT ps[i]) (by rw[List.getElem?_map,List.getElem?_eq_getElem hi];rfl);dsimp only;rw[List.getD_eq_getElem?_getD,List.getElem?_eq_getElem hi,List.getD_eq_getElem?_getD,e1];exact r1
   have rz:Vals (q.map fun i=>ys.getD i .non) (q.map fun i=>its.getD i Value.none):=by
    clear hu hp hql ry hc;induction q with
    |nil=>exact .nil
    |cons i q ih =>
    refine .cons ?_ (ih fun j hj=>hlt j (.tail _ hj));have hi:=hlt i (.head _);obtain⟨z,e1,r1⟩:=rvs.get (i:=i) (List.getElem?_eq_getElem (show i<ys.length by omega));dsimp only;rw[List.getD_eq_getElem?_getD,List.getElem?_eq_getElem (show i<ys.length by omega),List.getD_eq_getElem?_getD,e1];exact r1
   have hf:H (s.heap.objs.size+1)=none:=I.hok.fresh (Nat.le_succ _);refine⟨.ref (s.heap.objs.size+1),upd H (s.heap.objs.size+1) (.lst (q.map fun i=>ys.getD i .non)),I.laid (t':=s.toks) kp (Nat.le_succ _) ⟨by rw[List.length_map];omega,_,c,rz,hc⟩,rfl,?_⟩;refine k _ _ _ _ (aJ hf) (sh.newLst hf ry) .ofRef (h _ ?_ ?_ _ (sh.fresh hf))
   ·have hm:=hp.map fun i=>ps.getD i default;rw[l2] at hm;have e2:(List.range ps.length).map (fun i=>ps.getD i default)=ps:=by
     apply List.ext_getElem?;intro i;rw[List.getElem?_map];by_cases hi:i<ps.length
     ·rw[List.getElem?_range hi,List.getElem?_eq_getElem hi];simp [List.getD_eq_getElem?_getD,hi]
     rw[List.getElem?_eq_none (by simpa using hi),List.getElem?_eq_none (by omega)];rfl
    rw[e2] at hm;exact hm
   rw[List.pairwise_iff_getElem];intro i j hi hj hij;rw[List.length_map] at hi hj;have:=hu i j (by omega) (by omega);rw[List.getD_eq_getElem?_getD,List.getElem?_eq_getElem hi,List.getD_eq_getElem?_getD,List.getElem?_eq_getElem hj] at this;rw[List.getElem_map,List.getElem_map];exact this
  |_=>exact h.elim
 |_=>cases h
theorem oY {prog:Program}{w:World}{A:Around}(hh:A.handled=none) (it t:Addr) (hne:t≠it) (items:Array Value) (k:Nat) (hk:items[k]?=none) :
  Draws prog w A it [it,t] k (fun _ _=>True) (fun i h=>i=k/\h.IsListIter it t i/\h.IsList t items) where
 live:=fun _ _ st=>let ⟨o,ho,_⟩:=st.2.1;⟨o,ho⟩
 frame:=fun _ _ _ st hk=>⟨st.1,st.2.1.at fun o e=>hk it (by simp) o e,st.2.2.at fun o e=>hk t (by simp) o e⟩
 item:=fun i s Q E hi st hQ=>absurd st.1 (Nat.ne_of_lt hi)
 done:=fun s Q E st hE=>wpAny_nextOf_list_end hh st.2.1 st.2.2 hk hE
def Nk (K:Frag) (a b:Addr):It :=
 ⟨fun i H=>∃xs ys x y,SqL K H a xs/\SqL K H b ys/\xs[i]?=some x/\ys[i]?=some y,
  fun i H v H'=>∃p x y,v=.ref p/\H p=none/\H'=upd H p (.tup [x,y])/\(∀xs,SqL K H a xs->xs[i]?=some x)/\∀ys,SqL K H b ys->ys[i]?=some y,
  fun i H=>∃xs ys,SqL K H a xs/\SqL K H b ys/\(xs.length<=i\/ys.length<=i)⟩
def Ve (a b z ti to i1 i2:Addr) (i:Nat) (h:Heap):Prop:=IsZip h z ti to .none/\IsPair h ti (.ref i1) (.ref i2)/\(∃u v,IsPair h to u v)/\h.IsListIter i1 a i/\h.IsListIter i2 b i
theorem xx {P:Program}{w:World}{K:Frag}{elts:List Expr}{x1:Nat}{pos:Pos}(a b z ti to i1 i2:Addr) (l1:a<i1/\b<i1) (l2:i1<i2) (l3:i2<ti) (l4:ti<to) (l5:to<z) :
  Turn P w K (.Tuple elts x1 pos) (Nk K a b) [z,ti,to,i1,i2] z (Ve a b z ti to i1 i2) where
 mem:=List.mem_cons_self
 obj:=fun i h st c hc=>by
  obtain⟨hz,hI,⟨u,v,hO⟩,⟨o1,e1,_,d1⟩,⟨o2,e2,_,d2⟩⟩:=st
  simp only[List.mem_cons,List.not_mem_nil,or_false] at hc
  rcases hc with rfl | rfl | rfl | rfl | rfl
  ·
   exact⟨_,hz,fun v z=>by cases z⟩
  ·
   exact⟨_,hI,fun v z=>by cases z⟩
  ·
   exact⟨_,hO,fun v z=>by cases z⟩
  ·
   exact⟨_,e1,fun v z=>by rw[d1] at z;cases z⟩
  ·
   exact⟨_,e2,fun v z=>by rw[d2] at z;cases z⟩
 keep:=fun i h h' st k=>by
  obtain⟨hz,hI,⟨u,v,hO⟩,h1,h2⟩:=st
  exact⟨k z (by simp) _ hz,k ti (by simp) _ hI,⟨u,v,k to (by simp) _ hO⟩,h1.at fun o e=>k i1 (by simp) o e,h2.at fun o e=>k i2 (by simp) o e⟩
 item:=by
  intro X hP hw hK hc i pins s Z H E I hf st hg
  subst hP hw hK
  obtain⟨xs,ys,x,y,qx,qy,ex,ey⟩:=hg
  obtain⟨its,rv,p1_,hz1⟩:=I.list qx
  have p1:=p1_.isList
  obtain⟨jts,rw',p2_,hz2⟩:=I.list qy
  have p2:=p2_.isList
  obtain⟨u,hu,ru⟩:=rv.get ex
  obtain⟨v,hv,rv'⟩:=rw'.get ey
  have hz:=st.1
  have hI:=st.2.1
  obtain⟨a0,b0,hO⟩:=st.2.2.1
  have h1:=st.2.2.2.1
  have h2:=st.2.2.2.2
  have hu':its.toArray[i]?=some u:=by simpa using hu
  have hv':jts.toArray[i]?=some v:=by simpa using hv
  have D:ZAp z ti to i1 i2 [i1,a] [i2,b]:=zap l1 l2 l3 l4 l5
  have d1:=Draws.list (prog:=X.prog) (w:=X.w) (A:=X.A.in1) (I.ok.hd hc) i1 a (Nat.ne_of_lt l1.1) its.toArray
  have d2:=Draws.list (prog:=X.prog) (w:=X.w) (A:=X.A.in1) (I.ok.hd hc) i2 b (Nat.ne_of_lt (Nat.lt_trans l1.2 l2)) jts.toArray
  refine vA d1 d2 D hz hI hO ⟨h1,p1⟩ ⟨h2,p2⟩ (Array.getElem?_eq_some_iff.mp hu').1 (Array.getElem?_eq_some_iff.mp hv').1 fun x' y' h' tk px py hz' hO' s1 s2 hT hsz kp=>?_
  have e1:x'=u:=Option.some.inj (px.symm.trans hu')
  have e2:y'=v:=Option.some.inj (py.symm.trans hv')
  subst e1 e2
  refine⟨_,rfl,wpAny_letOwnedTupleGo_zip hz' fun h2' hz2' sb=>?_⟩
  have kp2:∀c o,c∉[z,to,i1,i2]->s.heap.get? c=some o->h2'.get? c=some o:=fun c o nc e=>(sb.2 c fun q=>nc (q▸List.mem_cons_self)).trans (kp c o nc e)
  have hsub:∀c∈[z,to,i1,i2],c∈[z,ti,to,i1,i2]:=fun c hc=>by simp only[List.mem_cons,List.not_mem_nil,or_false] at hc ⊢;rcases hc with q | q | q | q <;> simp [q]
  have lt:∀{c o},s.heap.get? c=some o->s.heap.objs.size≠c:=fun e=>Nat.ne_of_gt (Heap.lt_size e)
  have lt1:∀{c:Addr},c∈[z,ti,to,i1,i2]->c≠s.heap.objs.size:=fun {c} hc=>by
   simp only[List.mem_cons,List.not_mem_nil,or_false] at hc
   rcases hc with q | q | q | q | q <;> subst q
   ·
    exact Ne.symm (lt hz)
   ·
    exact Ne.symm (lt hI)
   ·
    exact Ne.symm (lt hO)
   ·
    obtain⟨o,e,_⟩:=h1;exact Ne.symm (lt e)
   ·
    obtain⟨o,e,_⟩:=h2;exact Ne.symm (lt e)
  have hTz:s.heap.objs.size≠z:=lt hz
  have I1:Inv X pins Z (upd H s.heap.objs.size (.tup [x,y])) { s with heap:=s.heap.push { cls:=.type "tuple",data:=.seq #[x',y']},toks:=tk} :=
   I.laid (t':=tk) (fun b o e=>Heap.get?_push_of_some _ e) (Nat.le_refl _) (show ObjOk X.prog X.w _ _ _ (.tup [x,y]) from ⟨by show 2<=sizeLine;decide,[x',y'],.cons ru (.cons rv' .nil),Tup0.new _ _⟩)
  have I2:Inv X pins Z (upd H s.heap.objs.size (.tup [x,y])) { s with heap:=h2',toks:=tk}:=eN (s:={ s with heap:=s.heap.push { cls:=.type "tuple",data:=.seq #[x',y']},toks:=tk}) (ch:=[z,to,i1,i2]) (t':=tk) I1 (fun c o nc e=>by
   by_cases q:c=s.heap.objs.size
   ·
    subst q
    have e':(s.heap.push { cls:=.type "tuple",data:=.seq #[x',y']}).get? s.heap.objs.size=some o:=e
    rw[Heap.get?_push_size _ rfl] at e'
    cases e'
    exact (sb.2 _ hTz).trans hT
   ·
    have e':(s.heap.push { cls:=.type "tuple",data:=.seq #[x',y']}).get? c=some o:=e
    rw[Heap.get?_push_ne _ _ _ q] at e'
    exact kp2 c o nc e') fun c hc=>⟨by rw[aN (lt1 (hsub c hc))];exact (hf c (hsub c hc)).1,(hf c (hsub c hc)).2⟩
  refine⟨.ref s.heap.objs.size,_,I2,rfl,⟨s.heap.objs.size,x,y,rfl,I.hok.fresh (Nat.le_refl _),rfl,fun zs hq=>by rw[I.list_inj hq qx];exact ex,fun zs hq=>by rw[I.list_inj hq qy];exact ey⟩,?_,fun c hc=>by rw[aN (lt1 hc)];exact (hf c hc).1⟩
  have n1:ti≠z:=D.ne.1
  refine⟨hz2',?_,⟨x',y',(sb.2 to D.ne.2.1).trans hO'⟩,s1.1.at fun o e=>(sb.2 i1 D.i1z).trans e,s2.1.at fun o e=>(sb.2 i2 D.i2z).trans e⟩
  refine kp2 ti _ ?_ hI
  simp only[List.mem_cons,List.not_mem_nil,or_false,not_or]
  exact⟨D.ne.1,D.ne.2.2.1,Ne.symm D.i1ti,Ne.symm D.i2ti⟩
 done:=by
  intro X hP hw hK hc i pins s Z H E I hf st hg
  subst hP hw hK
  obtain⟨xs,ys,qx,qy,hg⟩:=hg
  obtain⟨its,rv,p1_,hz1⟩:=I.list qx
  have p1:=p1_.isList
  obtain⟨jts,rw',p2_,hz2⟩:=I.list qy
  have p2:=p2_.isList
  have hz:=st.1
  have hI:=st.2.1
  obtain⟨a0,b0,hO⟩:=st.2.2.1
  have h1:=st.2.2.2.1
  have h2:=st.2.2.2.2
  have n1:=rv.length
  have n2:=rw'.length
  have D:ZAp z ti to i1 i2 [i1,a] [i2,b]:=zap l1 l2 l3 l4 l5
  have fin:∀(h':Heap) (tk:Nat),(∀c o,c∉[z,to,i1,i2]->s.heap.get? c=some o->h'.get? c=some o)->(none:Option Value)=none/\Inv X pins Z H { s with heap:=h',toks:=tk}:=fun h' tk kp=>⟨rfl,eN I kp fun c hc=>hf c (by
   simp only[List.mem_cons,List.not_mem_nil,or_false] at hc ⊢;rcases hc with q | q | q | q <;> simp [q])⟩
  have d1:=Draws.list (prog:=X.prog) (w:=X.w) (A:=X.A.in1) (I.ok.hd hc) i1 a (Nat.ne_of_lt l1.1) its.toArray
  have d2:=Draws.list (prog:=X.prog) (w:=X.w) (A:=X.A.in1) (I.ok.hd hc) i2 b (Nat.ne_of_lt (Nat.lt_trans l1.2 l2)) jts.toArray
  by_cases hi:xs.length<=i
  ·
   have e1:=oY (prog:=X.prog) (w:=X.w) (A:=X.A.in1) (I.ok.hd hc) i1 a (Nat.ne_of_lt l1.1) its.toArray i (by simp;omega)
   exact oJ (k:=i) e1 d2 D hz hI hO ⟨rfl,h1,p1⟩ ⟨h2,p2⟩ (.inl rfl) fin
  ·
   have hy:ys.length<=i:=hg.resolve_left hi
   have e2:=oY (prog:=X.prog) (w:=X.w) (A:=X.A.in1) (I.ok.hd hc) i2 b (Nat.ne_of_lt (Nat.lt_trans l1.2 l2)) jts.toArray i (by simp;omega)
   exact oJ (k:=i) d1 e2 D hz hI hO ⟨h1,p1⟩ ⟨rfl,h2,p2⟩ (.inr ⟨by simp;omega,rfl⟩) fin
 self:=fun _ _ _ _ _ st h=>wpAny_pyIter_zip st.1 h
section
variable {X:Cx}{elts:List Expr}{x1:Nat}{tpos pos p:Pos}{ea eb:Expr}
def SM (K:Frag) (t:TA):TI:=fun Z H R=>t Z H fun vs H1=>∃a b,vs=[.ref a,.ref b]/\(∃xs,SqL K H1 a xs)/\(∃ys,SqL K H1 b ys)/\R (Nk K a b) H1
theorem Gd {t:TA}(hg:Gl X "zip") (hm:X.mg "zip"=none) (hv:bootBuiltins "zip"=some (.type "zip")) (ha:PA X [ea,eb] t)
  (hs:starEach [ea,eb] X.env=[(false,eval ea X.env),(false,eval eb X.env)]:=by rfl) (hs2:starEach [eb] X.env=[(false,eval eb X.env)]:=by rfl) :
  PI X (.Tuple elts x1 tpos) (.Call (.Name "zip" p) [ea,eb] [] pos) (SM X.K t):=by
 intro pins s Z H R I h;refine Call_ (dU I hg hm hv (PyProof.Rows.callWith_type1 (thn (ha pos pins s Z H _ I h) fun us s1 ⟨vs,H1,I1,r1,q1⟩=>?_) (by rw[hs,hs2]) (by rw[hs2];rfl)));obtain⟨a,b,e,⟨xs,sa⟩,⟨ys,sb⟩,q⟩:=q1;subst e;cases r1 with
 |cons r rr =>
 cases rr with
 |cons r' rr =>
 cases rr;cases r;cases r';obtain⟨its,rv,p1_,hz1⟩:=I1.list sa;have p1:=p1_.isList;obtain⟨jts,rw',p2_,hz2⟩:=I1.list sb;have p2:=p2_.isList;have la:a<s1.heap.objs.size:=by obtain⟨o,e,_⟩:=p1;exact Heap.lt_size e
 have lb:b<s1.heap.objs.size:=by obtain⟨o,e,_⟩:=p2;exact Heap.lt_size e
 refine call_zip_2 p1 p2 fun h' hz hI hO h1 h2 hsz kp=>wpAny_pyIter_zip hz ?_;have fr:∀c,s1.heap.objs.size<=c->jF X pins H1 c:=fun c hc=>I1.fpOk hc (I1.hok.fresh hc);refine⟨s1.heap.objs.size+4,[s1.heap.objs.size+4,s1.heap.objs.size+2,s1.heap.objs.size+3,s1.heap.objs.size,s1.heap.objs.size+1],_,_,H1,rfl,I1.kept (t':=s1.toks) kp,xx a b (s1.heap.objs.size+4) (s1.heap.objs.size+2) (s1.heap.objs.size+3) s1.heap.objs.size (s1.heap.objs.size+1) ⟨la,lb⟩ (Nat.lt_succ_self _) (Nat.lt_succ_self _) (Nat.lt_succ_self _) (Nat.lt_succ_self _),⟨hz,hI,⟨_,_,hO⟩,h1,h2⟩,fun c hc=>fr c ?_,q⟩;simp only[List.mem_cons,List.not_mem_nil,or_false] at hc;simp only[Addr] at *;omega
def zlO (o u:Option O3) (a b:Addr) (H:Hp3) (R:List T->(Hp3->Prop)->Hp3->Prop):Prop:=match o,u with
 |some (.lst xs),some (.lst ys)=>R (d7 xs ys) (fun H'=>aV a xs H'/\aV b ys H') H
 |_,_=>False
def Bb (ta:TA3):TI3:=fun Z H R=>ta Z H fun vs H1=>match vs with
 |[.ref a,.ref b]=>zlO (H1 a) (H1 b) a b H1 R
 |_=>False
theorem xF {K:Frag}{H:Hp}{a b:Addr}{ts us:List T}:ie K (Nk K a b) (d7 ts us) (fun H'=>aV a ts H'/\aV b us H') H:=fun H' H3' le sh st=>by
 obtain⟨xs,sa,ra⟩:=sh.sqL st.1;obtain⟨ys,sb,rb⟩:=sh.sqL st.2;have hla:=ra.length;have hlb:=rb.length;refine⟨fun i hi=>⟨xs,ys,sa,sb,by rw[kJ] at hi;omega⟩,fun i t e=>?_⟩;rw[kI] at e;cases e1:ts[i]? with
 |none=>rw[e1] at e;cases e
 |some x =>
 cases e2:us[i]? with
 |none=>rw[e1,e2] at e;cases e
 |some y =>
 rw[e1,e2] at e;cases e;obtain⟨v,ev,rv⟩:=ra.get e1;obtain⟨v',ev',rv'⟩:=rb.get e2;refine⟨⟨xs,ys,v,v',sa,sb,ev,ev'⟩,fun z H'' yl=>?_⟩;obtain⟨p,x',y',rfl,hp,rfl,q1,q2⟩:=yl;have:=(q1 xs sa).symm.trans ev;cases this;have:=(q2 ys sb).symm.trans ev';cases this;exact⟨aJ hp,sh.new hp,SimH.newTup (H3:=H3') hp (.cons rv (.cons rv' .nil))⟩
theorem Ge {ta:TA3}(hg:Gl X "zip") (hm:X.mg "zip"=none) (ha:PA3 X [ea,eb] ta)
  (hs:starEach [ea,eb] X.env=[(false,eval ea X.env),(false,eval eb X.env)]:=by rfl) (hs2:starEach [eb] X.env=[(false,eval eb X.env)]:=by rfl) :
  PI3 X (.Tuple elts x1 tpos) (.Call (.Name "zip" p) [ea,eb] [] pos) (Bb ta):=by
 refine PI.imp (Gd hg hm zK ha hs hs2) ?_;rintro Z H R ⟨Z3,H3,R3,ss,sh,h,k⟩;refine⟨Z3,H3,_,ss,sh,h,fun vs H' ts H3' le sh' r q=>?_⟩
 match ts,q,r with
 |[.ref a,.ref b],q,r =>
  have q':(match H3' a,H3' b with
   |some (.lst xs),some (.lst ys)=>R3 (d7 xs ys) (fun H'=>aV a xs H'/\aV b ys H') H3'
   |_,_=>False):=q
  obtain⟨v,w,rfl,r1,r2⟩:=r.two'
  split at q'
  ·
   rename_i xs ys e1 e2
   obtain⟨us,sa,ra⟩:=sh'.sqL (.inl e1)
   obtain⟨us',sb,rb⟩:=sh'.sqL (.inl e2)
   exact⟨a,b,by rw[r1.ref,r2.ref],⟨_,sa⟩,⟨_,sb⟩,k _ _ _ H' H3' le sh' xF q'⟩
  ·
   exact q'.elim
theorem Gf (ta:TA3) {Z:St3}{H:Hp3}{R:List T->(Hp3->Prop)->Hp3->Prop}:Bb ta Z H R=ta Z H fun vs H1=>match vs with
 |[.ref a,.ref b]=>zlO (H1 a) (H1 b) a b H1 R
 |_=>False:=rfl
theorem SN (xs ys:List T) (a b:Addr) (H:Hp3) (R:List T->(Hp3->Prop)->Hp3->Prop):zlO (some (.lst xs)) (some (.lst ys)) a b H R=R (d7 xs ys) (fun H'=>aV a xs H'/\aV b ys H') H:=rfl
end
abbrev Bc (t:Addr):Obj:={ cls:=.type "list_iterator",data:=.fields #[.ref t,.int 0 0]}
theorem ut (t1 t2:Addr) (xs ys:Array Value) :
  Meets (Builtin.«zip.__new__» ⟨[.type "zip",.ref t1,.ref t2],[]⟩) (fun _ R s=>s.heap.IsTuple t1 xs/\s.heap.IsList t2 ys/\∀h1 h2 h3 h4,h1=s.heap.push (Ie t1)->h2=h1.push (Bc t2)->h3=h2.push { cls:=.type "tuple",data:=.seq #[.ref s.heap.objs.size,.ref h1.objs.size]}->h4=h3.push { cls:=.type "tuple",data:=.seq #[.none,.none]} ->
   R (.ok (.ret (.ref h4.objs.size))) { s with heap:=h4.push { cls:=.type "zip",data:=.fields #[.none,.bool false,.bool false,.ref h2.objs.size,.ref h3.objs.size]}}) :=
 .of_wp fun prog w A R s h=>by
  obtain⟨hp,g,d,tk,os⟩:=s;obtain⟨hl1,hl2,h⟩:=h;have hsub:=sub_zip;have hL1:Heap.IsTuple (Shared.heap ⟨hp,g,d,tk,os⟩) t1 xs:=hl1;have hL2:Heap.IsList (Shared.heap ⟨hp.push { cls:=.type "tuple_iterator",data:=.fields #[.ref t1,.int 0 0]},g,d,tk,os⟩) t2 ys:=Heap.IsList.push hl2 _
  wp_walk using wpAny_pyIter_tuple hL1,wpAny_pyIter_list hL2
  exact⟨_,rfl,h _ _ _ _ rfl rfl rfl rfl⟩
section
variable {prog:Program}{w:World}{A:Around}{E:Value->Shared->Prop}{s:Shared}
theorem xG {t1 t2:Addr}{xs ys:Array Value}{Q:Value->Shared->Prop}(hl1:s.heap.IsTuple t1 xs) (hl2:s.heap.IsList t2 ys)
  (h:∀h' i1 i2 ti to z,IsZip h' z ti to .none->IsPair h' ti (.ref i1) (.ref i2)->IsPair h' to .none .none->h'.IsTupleIter i1 t1 0->h'.IsListIter i2 t2 0 ->
   s.heap.objs.size<=i1->i1<i2->i2<ti->ti<to->to<z->(∀c o,s.heap.get? c=some o->h'.get? c=some o)->Q (.ref z) { s with heap:=h'}) :
  wpAny (model prog w) A (call (.type "zip") [.ref t1,.ref t2]) Q E s:=by
 refine callType_new F.called_zip (by decide) (F.typeCall_zip_2 _ _) (F.newCall_zip_2 _ _) (fun obj=>F.args_object_init_3 obj _ _) F.entry_zip_new
  (ut t1 t2 xs ys) ⟨hl1,hl2,fun h1 h2 h3 h4 e1 e2 e3 e4=>?_⟩
 have p:∀(h:Heap) (o:Obj),h.objs.size<(h.push o).objs.size:=fun h o=>by rw[Heap.size_push];exact Nat.lt_succ_self _
 have g5:=Heap.get?_push_size h4 (o:={ cls:=.type "zip",data:=.fields #[.none,.bool false,.bool false,.ref h2.objs.size,.ref h3.objs.size]}) rfl;have g4:h4.get? h3.objs.size=some { cls:=.type "tuple",data:=.seq #[.none,.none]}:=by rw[e4];exact Heap.get?_push_size _ rfl
 have g3:h3.get? h2.objs.size=some { cls:=.type "tuple",data:=.seq #[.ref s.heap.objs.size,.ref h1.objs.size]}:=by rw[e3];exact Heap.get?_push_size _ rfl
 have g2:h2.get? h1.objs.size=some (Bc t2):=by rw[e2];exact Heap.get?_push_size _ rfl
 have g1:h1.get? s.heap.objs.size=some (Ie t1):=by rw[e1];exact Heap.get?_push_size _ rfl
 have u1:∀c o,s.heap.get? c=some o->h1.get? c=some o:=fun c o q=>by rw[e1];exact Heap.get?_push_of_some _ q
 have u2:∀c o,h1.get? c=some o->h2.get? c=some o:=fun c o q=>by rw[e2];exact Heap.get?_push_of_some _ q
 have u3:∀c o,h2.get? c=some o->h3.get? c=some o:=fun c o q=>by rw[e3];exact Heap.get?_push_of_some _ q
 have u4:∀c o,h3.get? c=some o->h4.get? c=some o:=fun c o q=>by rw[e4];exact Heap.get?_push_of_some _ q
 refine⟨⟨_,g5,rfl⟩,h _ s.heap.objs.size h1.objs.size h2.objs.size h3.objs.size h4.objs.size g5 (Heap.get?_push_of_some _ (u4 _ _ g3)) (Heap.get?_push_of_some _ g4) ⟨_,Heap.get?_push_of_some _ (u4 _ _ (u3 _ _ (u2 _ _ g1))),rfl,rfl⟩ ⟨_,Heap.get?_push_of_some _ (u4 _ _ (u3 _ _ g2)),rfl,rfl⟩
  (Nat.le_refl _) ?_ ?_ ?_ ?_ fun c o q=>Heap.get?_push_of_some _ (u4 _ _ (u3 _ _ (u2 _ _ (u1 _ _ q))))⟩
 ·rw[e1];exact p _ _
 ·rw[e2];exact p _ _
 ·rw[e3];exact p _ _
 rw[e4];exact p _ _
end
def Nm (K:Frag) (a b:Addr):It :=
 ⟨fun i H=>∃xs ys x y,SqT K H a xs/\SqL K H b ys/\xs[i]?=some x/\ys[i]?=some y,
  fun i H v H'=>∃p x y,v=.ref p/\H p=none/\H'=upd H p (.tup [x,y])/\(∀xs,SqT K H a xs->xs[i]?=some x)/\∀ys,SqL K H b ys->ys[i]?=some y,
  fun i H=>∃xs ys,SqT K H a xs/\SqL K H b ys/\(xs.length<=i\/ys.length<=i)⟩
def Vf (a b z ti to i1 i2:Addr) (i:Nat) (h:Heap):Prop:=IsZip h z ti to .none/\IsPair h ti (.ref i1) (.ref i2)/\(∃u v,IsPair h to u v)/\h.IsTupleIter i1 a i/\h.IsListIter i2 b i
theorem xH {P:Program}{w:World}{K:Frag}{elts:List Expr}{x1:Nat}{pos:Pos}(a b z ti to i1 i2:Addr) (l1:a<i1/\b<i1) (l2:i1<i2) (l3:i2<ti) (l4:ti<to) (l5:to<z) :
  Turn P w K (.Tuple elts x1 pos) (Nm K a b) [z,ti,to,i1,i2] z (Vf a b z ti to i1 i2) where
 mem:=List.mem_cons_self
 obj:=fun i h st c hc=>by
  obtain⟨hz,hI,⟨u,v,hO⟩,⟨o1,e1,_,d1⟩,⟨o2,e2,_,d2⟩⟩:=st
  simp only[List.mem_cons,List.not_mem_nil,or_false] at hc
  rcases hc with rfl | rfl | rfl | rfl | rfl
  ·
   exact⟨_,hz,fun v z=>by cases z⟩
  ·
   exact⟨_,hI,fun v z=>by cases z⟩
  ·
   exact⟨_,hO,fun v z=>by cases z⟩
  ·
   exact⟨_,e1,fun v z=>by rw[d1] at z;cases z⟩
  ·
   exact⟨_,e2,fun v z=>by rw[d2] at z;cases z⟩
 keep:=fun i h h' st k=>by
  obtain⟨hz,hI,⟨u,v,hO⟩,h1,h2⟩:=st
  exact⟨k z (by simp) _ hz,k ti (by simp) _ hI,⟨u,v,k to (by simp) _ hO⟩,h1.at fun o e=>k i1 (by simp) o e,h2.at fun o e=>k i2 (by simp) o e⟩
 item:=by
  intro X hP hw hK hc i pins s Z H E I hf st hg
  subst hP hw hK
  obtain⟨xs,ys,x,y,qx,qy,ex,ey⟩:=hg
  obtain⟨its,rv,p1,hz1⟩:=I.tuple qx
  obtain⟨jts,rw',p2_,hz2⟩:=I.list qy
  have p2:=p2_.isList
  obtain⟨u,hu,ru⟩:=rv.get ex
  obtain⟨v,hv,rv'⟩:=rw'.get ey
  have hz:=st.1
  have hI:=st.2.1
  obtain⟨a0,b0,hO⟩:=st.2.2.1
  have h1:=st.2.2.2.1
  have h2:=st.2.2.2.2
  have hu':its.toArray[i]?=some u:=by simpa using hu
  have hv':jts.toArray[i]?=some v:=by simpa using hv
  have D:ZAp z ti to i1 i2 [i1,a] [i2,b]:=zap l1 l2 l3 l4 l5
  have d1:=tE (prog:=X.prog) (w:=X.w) (A:=X.A.in1) (I.ok.hd hc) i1 a (Nat.ne_of_lt l1.1) its.toArray
  have d2:=Draws.list (prog:=X.prog) (w:=X.w) (A:=X.A.in1) (I.ok.hd hc) i2 b (Nat.ne_of_lt (Nat.lt_trans l1.2 l2)) jts.toArray
  refine vA d1 d2 D hz hI hO ⟨h1,p1⟩ ⟨h2,p2⟩ (Array.getElem?_eq_some_iff.mp hu').1 (Array.getElem?_eq_some_iff.mp hv').1 fun x' y' h' tk px py hz' hO' s1 s2 hT hsz kp=>?_
  have e1:x'=u:=Option.some.inj (px.symm.trans hu')
  have e2:y'=v:=Option.some.inj (py.symm.trans hv')
  subst e1 e2
  refine⟨_,rfl,wpAny_letOwnedTupleGo_zip hz' fun h2' hz2' sb=>?_⟩
  have kp2:∀c o,c∉[z,to,i1,i2]->s.heap.get? c=some o->h2'.get? c=some o:=fun c o nc e=>(sb.2 c fun q=>nc (q▸List.mem_cons_self)).trans (kp c o nc e)
  have hsub:∀c∈[z,to,i1,i2],c∈[z,ti,to,i1,i2]:=fun c hc=>by simp only[List.mem_cons,List.not_mem_nil,or_false] at hc ⊢;rcases hc with q | q | q | q <;> simp [q]
  have lt:∀{c o},s.heap.get? c=some o->s.heap.objs.size≠c:=fun e=>Nat.ne_of_gt (Heap.lt_size e)
  have lt1:∀{c:Addr},c∈[z,ti,to,i1,i2]->c≠s.heap.objs.size:=fun {c} hc=>by
   simp only[List.mem_cons,List.not_mem_nil,or_false] at hc
   rcases hc with q | q | q | q | q <;> subst q
   ·
    exact Ne.symm (lt hz)
   ·
    exact Ne.symm (lt hI)
   ·
    exact Ne.symm (lt hO)
   ·
    obtain⟨o,e,_⟩:=h1;exact Ne.symm (lt e)
   ·
    obtain⟨o,e,_⟩:=h2;exact Ne.symm (lt e)
  have hTz:s.heap.objs.size≠z:=lt hz
  have I1:Inv X pins Z (upd H s.heap.objs.size (.tup [x,y])) { s with heap:=s.heap.push { cls:=.type "tuple",data:=.seq #[x',y']},toks:=tk} :=
   I.laid (t':=tk) (fun b o e=>Heap.get?_push_of_some _ e) (Nat.le_refl _) (show ObjOk X.prog X.w _ _ _ (.tup [x,y]) from ⟨by show 2<=sizeLine;decide,[x',y'],.cons ru (.cons rv' .nil),Tup0.new _ _⟩)
  have I2:Inv X pins Z (upd H s.heap.objs.size (.tup [x,y])) { s with heap:=h2',toks:=tk}:=eN (s:={ s with heap:=s.heap.push { cls:=.type "tuple",data:=.seq #[x',y']},toks:=tk}) (ch:=[z,to,i1,i2]) (t':=tk) I1 (fun c o nc e=>by
   by_cases q:c=s.heap.objs.size
   ·
    subst q
    have e':(s.heap.push { cls:=.type "tuple",data:=.seq #[x',y']}).get? s.heap.objs.size=some o:=e
    rw[Heap.get?_push_size _ rfl] at e'
    cases e'
    exact (sb.2 _ hTz).trans hT
   ·
    have e':(s.heap.push { cls:=.type "tuple",data:=.seq #[x',y']}).get? c=some o:=e
    rw[Heap.get?_push_ne _ _ _ q] at e'
    exact kp2 c o nc e') fun c hc=>⟨by rw[aN (lt1 (hsub c hc))];exact (hf c (hsub c hc)).1,(hf c (hsub c hc)).2⟩
  refine⟨.ref s.heap.objs.size,_,I2,rfl,⟨s.heap.objs.size,x,y,rfl,I.hok.fresh (Nat.le_refl _),rfl,fun zs hq=>by rw[I.tuple_inj hq qx];exact ex,fun zs hq=>by rw[I.list_inj hq qy];exact ey⟩,?_,fun c hc=>by rw[aN (lt1 hc)];exact (hf c hc).1⟩
  have n1:ti≠z:=D.ne.1
  refine⟨hz2',?_,⟨x',y',(sb.2 to D.ne.2.1).trans hO'⟩,s1.1.at fun o e=>(sb.2 i1 D.i1z).trans e,s2.1.at fun o e=>(sb.2 i2 D.i2z).trans e⟩
  refine kp2 ti _ ?_ hI
  simp only[List.mem_cons,List.not_mem_nil,or_false,not_or]
  exact⟨D.ne.1,D.ne.2.2.1,Ne.symm D.i1ti,Ne.symm D.i2ti⟩
 done:=by
  intro X hP hw hK hc i pins s Z H E I hf st hg
  subst hP hw hK
  obtain⟨xs,ys,qx,qy,hg⟩:=hg
  obtain⟨its,rv,p1,hz1⟩:=I.tuple qx
  obtain⟨jts,rw',p2_,hz2⟩:=I.list qy
  have p2:=p2_.isList
  have hz:=st.1
  have hI:=st.2.1
  obtain⟨a0,b0,hO⟩:=st.2.2.1
  have h1:=st.2.2.2.1
  have h2:=st.2.2.2.2
  have n1:=rv.length
  have n2:=rw'.length
  have D:ZAp z ti to i1 i2 [i1,a] [i2,b]:=zap l1 l2 l3 l4 l5
  have fin:∀(h':Heap) (tk:Nat),(∀c o,c∉[z,to,i1,i2]->s.heap.get? c=some o->h'.get? c=some o)->(none:Option Value)=none/\Inv X pins Z H { s with heap:=h',toks:=tk}:=fun h' tk kp=>⟨rfl,eN I kp fun c hc=>hf c (by
   simp only[List.mem_cons,List.not_mem_nil,or_false] at hc ⊢;rcases hc with q | q | q | q <;> simp [q])⟩
  have d1:=tE (prog:=X.prog) (w:=X.w) (A:=X.A.in1) (I.ok.hd hc) i1 a (Nat.ne_of_lt l1.1) its.toArray
  have d2:=Draws.list (prog:=X.prog) (w:=X.w) (A:=X.A.in1) (I.ok.hd hc) i2 b (Nat.ne_of_lt (Nat.lt_trans l1.2 l2)) jts.toArray
  by_cases hi:xs.length<=i
  ·
   have e1:=zJ (prog:=X.prog) (w:=X.w) (A:=X.A.in1) (I.ok.hd hc) i1 a (Nat.ne_of_lt l1.1) its.toArray i (by simp;omega)
   exact oJ (k:=i) e1 d2 D hz hI hO ⟨rfl,h1,p1⟩ ⟨h2,p2⟩ (.inl rfl) fin
  ·
   have hy:ys.length<=i:=hg.resolve_left hi
   have e2:=oY (prog:=X.prog) (w:=X.w) (A:=X.A.in1) (I.ok.hd hc) i2 b (Nat.ne_of_lt (Nat.lt_trans l1.2 l2)) jts.toArray i (by simp;omega)
   exact oJ (k:=i) d1 e2 D hz hI hO ⟨h1,p1⟩ ⟨rfl,h2,p2⟩ (.inr ⟨by simp;omega,rfl⟩) fin
 self:=fun _ _ _ _ _ st h=>wpAny_pyIter_zip st.1 h
section
variable {X:Cx}{elts:List Expr}{x1:Nat}{tpos pos p:Pos}{ea eb:Expr}
def SQ (K:Frag) (t:TA):TI:=fun Z H R=>t Z H fun vs H1=>∃a b,vs=[.ref a,.ref b]/\(∃xs,SqT K H1 a xs)/\(∃ys,SqL K H1 b ys)/\R (Nm K a b) H1
theorem Gg {t:TA}(hg:Gl X "zip") (hm:X.mg "zip"=none) (hv:bootBuiltins "zip"=some (.type "zip")) (ha:PA X [ea,eb] t)
  (hs:starEach [ea,eb] X.env=[(false,eval ea X.env),(false,eval eb X.env)]:=by rfl) (hs2:starEach [eb] X.env=[(false,eval eb X.env)]:=by rfl) :
  PI X (.Tuple elts x1 tpos) (.Call (.Name "zip" p) [ea,eb] [] pos) (SQ X.K t):=by
 intro pins s Z H R I h;refine Call_ (dU I hg hm hv (PyProof.Rows.callWith_type1 (thn (ha pos pins s Z H _ I h) fun us s1 ⟨vs,H1,I1,r1,q1⟩=>?_) (by rw[hs,hs2]) (by rw[hs2];rfl)));obtain⟨a,b,e,⟨xs,sa⟩,⟨ys,sb⟩,q⟩:=q1;subst e;cases r1 with
 |cons r rr =>
 cases rr with
 |cons r' rr =>
 cases rr;cases r;cases r';obtain⟨its,rv,p1,hz1⟩:=I1.tuple sa;obtain⟨jts,rw',p2_,hz2⟩:=I1.list sb;have p2:=p2_.isList;have la:a<s1.heap.objs.size:=by obtain⟨o,e,_⟩:=p1;exact Heap.lt_size e
 have lb:b<s1.heap.objs.size:=by obtain⟨o,e,_⟩:=p2;exact Heap.lt_size e
 refine xG p1 p2 fun h' i1 i2 ti to z hz hI hO h1 h2 l0 l1 l2 l3 l4 kp=>wpAny_pyIter_zip hz ?_;have fr:∀c,i1<=c->jF X pins H1 c:=fun c hc=>I1.fpOk (Nat.le_trans l0 hc) (I1.hok.fresh (Nat.le_trans l0 hc));refine⟨z,[z,ti,to,i1,i2],_,_,H1,rfl,I1.kept (t':=s1.toks) kp,xH a b z ti to i1 i2 ⟨Nat.lt_of_lt_of_le la l0,Nat.lt_of_lt_of_le lb l0⟩ l1 l2 l3 l4,⟨hz,hI,⟨_,_,hO⟩,h1,h2⟩,fun c hc=>fr c ?_,q⟩;simp only[List.mem_cons,List.not_mem_nil,or_false] at hc;simp only[Addr] at *;omega
def zmO (xs:List T) (u:Option O3) (b:Addr) (H:Hp3) (R:List T->(Hp3->Prop)->Hp3->Prop):Prop:=match u with
 |some (.lst ys)=>R (d7 xs ys) (aV b ys) H
 |_=>False
def Bd (ta:TA3):TI3:=fun Z H R=>ta Z H fun vs H1=>match vs with
 |[.tup xs,.ref b]=>zmO xs (H1 b) b H1 R
 |_=>False
theorem xJ {K:Frag}{H:Hp}{a b:Addr}{ts us:List T}{xs:List V}(sa0:SqT K H a xs) (ra:Reps K H ts xs):ie K (Nm K a b) (d7 ts us) (aV b us) H:=fun H' H3' le sh st=>by
 have sa:=le _ _ sa0;obtain⟨ys,sb,rb⟩:=sh.sqL st;have hla:=ra.length;have hlb:=rb.length;refine⟨fun i hi=>⟨xs,ys,sa,sb,by rw[kJ] at hi;omega⟩,fun i t e=>?_⟩;rw[kI] at e;cases e1:ts[i]? with
 |none=>rw[e1] at e;cases e
 |some x =>
 cases e2:us[i]? with
 |none=>rw[e1,e2] at e;cases e
 |some y =>
 rw[e1,e2] at e;cases e;obtain⟨v,ev,rv⟩:=ra.get e1;obtain⟨v',ev',rv'⟩:=rb.get e2;refine⟨⟨xs,ys,v,v',sa,sb,ev,ev'⟩,fun z H'' yl=>?_⟩;obtain⟨p,x',y',rfl,hp,rfl,q1,q2⟩:=yl;have:=(q1 xs sa).symm.trans ev;cases this;have:=(q2 ys sb).symm.trans ev';cases this;exact⟨aJ hp,sh.new hp,SimH.newTup (H3:=H3') hp (.cons (rv.mono le) (.cons rv' .nil))⟩
theorem Gh {ta:TA3}(hg:Gl X "zip") (hm:X.mg "zip"=none) (ha:PA3 X [ea,eb] ta)
  (hs:starEach [ea,eb] X.env=[(false,eval ea X.env),(false,eval eb X.env)]:=by rfl) (hs2:starEach [eb] X.env=[(false,eval eb X.env)]:=by rfl) :
  PI3 X (.Tuple elts x1 tpos) (.Call (.Name "zip" p) [ea,eb] [] pos) (Bd ta):=by
 refine PI.imp (Gg hg hm zK ha hs hs2) ?_;rintro Z H R ⟨Z3,H3,R3,ss,sh,h,k⟩;refine⟨Z3,H3,_,ss,sh,h,fun vs H' ts H3' le sh' r q=>?_⟩
 match ts,q,r with
 |[.tup xs,.ref b],q,r =>
  have q':(match H3' b with
   |some (.lst ys)=>R3 (d7 xs ys) (aV b ys) H3'
   |_=>False):=q
  obtain⟨v,w,rfl,r1,r2⟩:=r.two'
  obtain⟨a,us,rfl,sa,ra⟩:=r1.tup
  split at q'
  ·
   rename_i ys e2
   obtain⟨us',sb,rb⟩:=sh'.sqL (.inl e2)
   exact⟨a,b,by rw[r2.ref],⟨_,sa⟩,⟨_,sb⟩,k _ _ _ H' H3' le sh' (xJ sa ra) q'⟩
  ·
   exact q'.elim
theorem Gi (ta:TA3) {Z:St3}{H:Hp3}{R:List T->(Hp3->Prop)->Hp3->Prop}:Bd ta Z H R=ta Z H fun vs H1=>match vs with
 |[.tup xs,.ref b]=>zmO xs (H1 b) b H1 R
 |_=>False:=rfl
theorem SX (xs ys:List T) (b:Addr) (H:Hp3) (R:List T->(Hp3->Prop)->Hp3->Prop):zmO xs (some (.lst ys)) b H R=R (d7 xs ys) (aV b ys) H:=rfl
end
end L3
namespace M
open L2 L3
local macro_rules | `(tactic| walk_at "c") => `(tactic| try dsimp only [n6,List.replicate,List.map_cons,List.map_nil,List.cons_append,List.nil_append,List.getElem?_cons_zero,List.getElem?_cons_succ,Option.getD_some])
local macro_rules | `(tactic| walk_at "n") => `(tactic| (obtain ⟨e⟩:=‹Shut (_ = _)›; subst e; try dsimp only))
def nm0 : String := "ne_eq not_false_eq_true aC uU uV tC3 gA HD yH Hs Hv Kh p7 Hw Ho Qs Hq Kp Qw yJ yI Hz oh Ht Hu U0 Qu qp uX U6 zj eZ Kz El KD Qy KH fZ q_I U7 KJ KN KQ zm jj QB QC QD QF HS qu HW QG HX HY zp vo QH QJ KR QK U8 KY QL Ia KZ QM QQ q_D QR K1 QS QT K3 QV K4 K5 Em QW En K6 QX K7 K8 K9 La Lb QZ Q0 Q4 Q5 Q6 zq Q7 Q8 Q9 Rg Eo Rh Ep Er Ri Rj Rk Rm Ld Rn Es Ib vp Le Et Lf aq Ko yR mR Rp Rq mZ Lr tG tH tK w6 tL Ls tM tO tQ xf tR Fd qC qD qF tU qG zL oK oM oN qH oO Fe qI qJ qK tV qL jN decide_true decide_false Bool.not_true Bool.not_false Lg Lh U9 at0 at1 at2 at3 List.eraseIdx_cons_zero Int.toNat_natCast nU List.length_map List.length_cons List.length_nil Nat.zero_add Bool.false_eq_true if_false if_true List.getElem?_cons_zero List.getElem?_cons_succ List.set_cons_zero List.set_cons_succ Rx Ry Lx List.map_cons List.map_nil zN LC LK zP Mf Rz RB Mh Mi Ij Ik RN Mv z9 Io Im Np Nq Nr Nt Vc Fo Fp Fq Ft Mz Mx Rv Rw zF Oa MJ Iz Al M6 IK IV Su Am IW Ja An vD oV RX Vd Ip Ae Fw Sg MN Ag MT Sh Ai ue M4 Ir Iu Aj Iv Iw Sv M9 Sw Ni Sx Nh Og Ca Oh Oi Ba SJ Tv Tw Gf SN Gi SX Rr Lk Rt Ln Eu Ew zA Ex zB Ru Ez Ms RD Fl RG RK RL"
local macro_rules | `(tactic| walk_at "") => do
 let ls <- ((nm0.splitOn " ").toArray.map String.toName).filterM fun n => do return !(<- Lean.Macro.resolveGlobalName n).isEmpty
 let ls <- ls.mapM fun n => let i:=Lean.mkIdent n; `(Lean.Parser.Tactic.simpLemma| $i:ident)
 `(tactic| ((try dsimp only [$[$ls:simpLemma],*]); try simp only [*,$[$ls:simpLemma],*]))
structure isNm (x:Str):Prop where
 lo:1<=x.length
 hi:x.length<=8
 az:∀c∈x.cps.toList,97<=c/\c<=122
structure Nms (ws:List Str):Prop where
 nm:∀x∈ws,isNm x
 nd:ws.Nodup
theorem Nms.nil:Nms []:=⟨fun _ h=>(nomatch h),List.nodup_nil⟩
theorem Nms.snoc {ws:List Str}{x:Str}(n:Nms ws) (h:isNm x) (hx:x∉ws):Nms (ws++[x]) :=
 ⟨fun y hy=>(List.mem_append.mp hy).elim (n.nm y) fun z=>by rw[List.mem_singleton.mp z];exact h,fK n.nd hx⟩
structure Wk where
 tasks:List (Str × Int × List Str)
 orders:List (Str × Str)
 pairs:List (Str × Str × Str)
 row:List Str
def sT (xs:List Str):T:=.tup (xs.map T.str)
def tkT (t:Str × Int × List Str):T:=.tup [.str t.1,.int t.2.1,sT t.2.2]
def orT (o:Str × Str):T:=.tup [.str o.1,.str o.2]
def prT (p:Str × Str × Str):T:=.tup [.str p.1,.str p.2.1,.str p.2.2]
def Wk.enc (W:Wk):T:=.tup [.tup (W.tasks.map tkT),.tup (W.orders.map orT),.tup (W.pairs.map prT),sT W.row]
structure tkOk (t:Str × Int × List Str):Prop where
 nm:isNm t.1
 lo:1<=t.2.1
 hi:t.2.1<10^60
 ks:Nms t.2.2
 kl:t.2.2.length<=4
structure WkOk (W:Wk):Prop where
 t1:1<=W.tasks.length
 t8:W.tasks.length<=8
 tk:∀t∈W.tasks,tkOk t
 nd:(W.tasks.map (·.1)).Nodup
 os:W.orders.length<=28
 od:W.orders.Nodup
 oo:∀o∈W.orders,o.1≠o.2/\o.1∈W.tasks.map (·.1)/\o.2∈W.tasks.map (·.1)
 ps:W.pairs.length<=12
 pd:W.pairs.Nodup
 pp:∀p∈W.pairs,(p.1="with"\/p.1="apart")/\p.2.1≠p.2.2/\p.2.1∈W.tasks.map (·.1)/\p.2.2∈W.tasks.map (·.1)
 r1:1<=W.row.length
 r8:W.row.length<=8
 rn:∀x∈W.row,isNm x
theorem eQ {α:Type}{f:α->T}(hf:∀{a b},f a=f b->a=b) {x:α}{xs:List α}:f x∈xs.map f↔x∈xs:=by
 rw[List.mem_map];exact⟨fun ⟨y,hy,e⟩=>hf e▸hy,fun h=>⟨x,h,rfl⟩⟩
theorem iT {a b:Str}(h:T.str a=T.str b):a=b:=by injection h
theorem S5 {α:Type}{f:α->T}(hf:∀{a b},f a=f b->a=b) {x:α}{xs:List α}:du true (f x) (xs.map f)=true↔x∉xs:=by
 unfold du;simp [eQ hf]
theorem Vg {α:Type}{f:α->T}(hf:∀{a b},f a=f b->a=b) {x:α}{xs:List α}:du false (f x) (xs.map f)=true↔x∈xs:=by
 unfold du;simp [eQ hf]
theorem dM (xs:List Str):(xs.map T.str).all (pl 20)=true:=by rw[List.all_eq_true];intro t ht;obtain⟨x,_,rfl⟩:=List.mem_map.mp ht;rfl
theorem Np (W:Wk) (H:Hp3) (Q:VK3):qm W.enc (.int 0) H Q=Q (.tup (W.tasks.map tkT)) H:=rfl
theorem Nq (W:Wk) (H:Hp3) (Q:VK3):qm W.enc (.int 1) H Q=Q (.tup (W.orders.map orT)) H:=rfl
theorem Nr (W:Wk) (H:Hp3) (Q:VK3):qm W.enc (.int 2) H Q=Q (.tup (W.pairs.map prT)) H:=rfl
theorem Nt (W:Wk) (H:Hp3) (Q:VK3):qm W.enc (.int 3) H Q=Q (.tup (W.row.map T.str)) H:=rfl
def pick:List Str->Int->List Str
 |[],_=>[]
 |x::r,b=>if b%2=1 then x::pick r (b / 2) else pick r (b / 2)
def tot:List Str->Int->Int
 |[],_=>0
 |_::r,b=>(if b%2=1 then 1 else 0)+2*tot r (b / 2)
def numOf:List Str->List Str->Int
 |[],_=>0
 |x::r,ss=>(if x∈ss then 1 else 0)+2*numOf r ss
theorem iU:∀(ws:List Str) (b:Int),∀x∈pick ws b,x∈ws
 |[],_,x,h=>by cases h
 |y::r,b,x,h=>by
  unfold pick at h
  split at h
  ·
   rcases List.mem_cons.mp h with rfl | h
   ·
    exact List.mem_cons_self
   ·
    exact List.mem_cons_of_mem _ (iU r _ x h)
  ·
   exact List.mem_cons_of_mem _ (iU r _ x h)
theorem jC:∀(ws ss ss':List Str),(∀x∈ws,x∈ss↔x∈ss')->numOf ws ss=numOf ws ss'
 |[],_,_,_=>rfl
 |y::r,ss,ss',h=>by
  have h1:=h y List.mem_cons_self
  have h2:=jC r ss ss' fun x hx=>h x (List.mem_cons_of_mem _ hx)
  simp only[numOf,h2,h1]
theorem lq:∀(ws:List Str) (b:Int),ws.Nodup->numOf ws (pick ws b)=tot ws b
 |[],_,_=>rfl
 |y::r,b,nd=>by
  rw[List.nodup_cons] at nd
  have ih:=lq r (b / 2) nd.2
  have hy:y∉pick r (b / 2):=fun h=>nd.1 (iU r _ y h)
  by_cases hb:b%2=1
  ·
   have e:numOf r (y::pick r (b / 2))=numOf r (pick r (b / 2)):=jC r _ _ fun x hx=>by
    have:x≠y:=fun e=>nd.1 (e▸hx)
    simp [this]
   simp only[numOf,tot,pick,hb,if_true,e,ih,List.mem_cons,true_or]
  ·
   simp only[numOf,tot,pick,hb,if_false,hy,ih]
theorem Be:∀(ws:List Str) (b:Int),0<=b->b<2^ws.length->tot ws b=b
 |[],b,h0,h1=>by simp at h1;simp only[tot];omega
 |y::r,b,h0,h1=>by
  have h2:b / 2<2^r.length:=by
   rw[List.length_cons,Int.pow_succ] at h1
   omega
  have ih:=Be r (b / 2) (by omega) h2
  simp only[tot,ih]
  split <;> omega
theorem lr:∀(A:List Str) (y:Str) (ss:List Str),numOf (A++[y]) ss=numOf A ss+2^A.length*(if y∈ss then 1 else 0)
 |[],y,ss=>by simp [numOf]
 |x::A,y,ss=>by
  have ih:=lr A y ss
  simp only[List.cons_append,numOf,List.length_cons,ih,Int.pow_succ]
  generalize (2:Int)^A.length=w
  generalize (if y∈ss then (1:Int) else 0)=z
  rw[Int.mul_add,<- Int.mul_assoc,Int.mul_comm 2 w]
  omega
theorem qU:∀(A B:List Str) (b:Int),pick (A++B) b=pick A b++pick B (b / 2^A.length)
 |[],B,b=>by simp [pick]
 |y::A,B,b=>by
  have ih:=qU A B (b / 2)
  have e:b / 2 / 2^A.length=b / 2^(A.length+1):=by
   rw[Int.pow_succ,Int.mul_comm,Int.ediv_ediv_of_nonneg (by decide)]
  simp only[List.cons_append,pick,List.length_cons,ih,e]
  split <;> simp
theorem oZ (m n:Nat):Builtin.bitAnd (m:Int) (n:Int)=((m &&& n:Nat):Int):=by
 unfold Builtin.bitAnd;rfl
theorem Nu (m n:Nat):Builtin.bitOr (m:Int) (n:Int)=((m ||| n:Nat):Int):=by
 have h:∀z:Nat,decide ((0:Int)<=Builtin.bitNot (z:Int))=false:=fun z=>decide_eq_false (by unfold Builtin.bitNot;omega);have g:∀z:Int,Builtin.bitNot (Builtin.bitNot z)=z:=fun z=>by unfold Builtin.bitNot;omega
 unfold Builtin.bitOr Builtin.bitAnd;rw[h,h];simp only[g,Int.toNat_natCast]
def bH:List Str->List Str->Nat
 |[],_=>0
 |x::r,ss=>(if x∈ss then 1 else 0)+2*bH r ss
theorem bY:∀(ns ss:List Str),numOf ns ss=((bH ns ss:Nat):Int)
 |[],_=>rfl
 |x::r,ss=>by
  have:=bY r ss
  simp only[numOf,bH,this]
  by_cases h:x∈ss <;> simp [h]
theorem Gj (b c a d:Nat) (hb:b<2) (hc:c<2):(b+2*a) &&& (c+2*d)=(if b=1/\c=1 then 1 else 0)+2*(a &&& d):=by
 have h1:((b+2*a) &&& (c+2*d)) / 2=(b+2*a) / 2 &&& (c+2*d) / 2:=Nat.and_div_two;have e1:(b+2*a) / 2=a:=by omega
 have e2:(c+2*d) / 2=d:=by omega
 rw[e1,e2] at h1;have h2:((b+2*a) &&& (c+2*d))%2=1↔(b+2*a)%2=1/\(c+2*d)%2=1:=Nat.and_mod_two_eq_one;by_cases h:b=1/\c=1
 ·rw[if_pos h];have:=h2.mpr ⟨by omega,by omega⟩;omega
 rw[if_neg h];have:¬((b+2*a) &&& (c+2*d))%2=1:=fun z=>h (by have:=h2.mp z;omega);omega
theorem Nv (b c a d:Nat) (hb:b<2) (hc:c<2):(b+2*a) ||| (c+2*d)=(if b=1\/c=1 then 1 else 0)+2*(a ||| d):=by
 have h1:((b+2*a) ||| (c+2*d)) / 2=(b+2*a) / 2 ||| (c+2*d) / 2:=Nat.or_div_two;have e1:(b+2*a) / 2=a:=by omega
 have e2:(c+2*d) / 2=d:=by omega
 rw[e1,e2] at h1;have h2:((b+2*a) ||| (c+2*d))%2=1↔(b+2*a)%2=1\/(c+2*d)%2=1:=Nat.or_mod_two_eq_one;by_cases h:b=1\/c=1
 ·rw[if_pos h];have:=h2.mpr (by omega);omega
 rw[if_neg h];have:¬((b+2*a) ||| (c+2*d))%2=1:=fun z=>h (by have:=h2.mp z;omega);omega
theorem jQ (p:Prop) [Decidable p]:(if p then 1 else 0)<2:=by split <;> decide
theorem lu:∀(ns A B:List Str),bH ns A &&& bH ns B=bH ns (A.filter fun x=>decide (x∈B))
 |[],_,_=>by simp [bH]
 |x::r,A,B=>by
  simp only[bH]
  rw[Gj _ _ _ _ (jQ _) (jQ _),lu r A B]
  by_cases h1:x∈A <;> by_cases h2:x∈B <;> simp [h1,h2]
theorem vJ:∀(ns A B:List Str),bH ns A ||| bH ns B=bH ns (A++B)
 |[],_,_=>by simp [bH]
 |x::r,A,B=>by
  simp only[bH]
  rw[Nv _ _ _ _ (jQ _) (jQ _),vJ r A B]
  by_cases h1:x∈A <;> by_cases h2:x∈B <;> simp [h1,h2]
theorem iV:∀(ns A B:List Str),bH ns A=bH ns B↔∀x∈ns,x∈A↔x∈B
 |[],_,_=>by simp [bH]
 |y::r,A,B=>by
  have ih:=iV r A B
  simp only[bH,List.mem_cons,forall_eq_or_imp]
  rw[<- ih]
  by_cases h1:y∈A <;> by_cases h2:y∈B <;> simp only[h1,h2,if_true,if_false,iff_true,iff_false,true_iff,false_iff,true_and,not_true,not_false_eq_true,false_and] <;> omega
theorem gC:∀ns:List Str,bH ns []=0
 |[]=>rfl
 |x::r=>by simp only[bH,List.not_mem_nil,if_false,gC r]
theorem xK (ns A:List Str):bH ns A=0↔∀x∈ns,x∉A:=by
 have:=iV ns A [];rw[gC] at this;rw[this];simp
theorem eU (ns A B:List Str):(Builtin.bitAnd (numOf ns A) (numOf ns B)=numOf ns B)↔∀x∈ns,x∈B->x∈A:=by
 rw[bY,bY,oZ,lu];constructor
 ·intro h x hx hB;have:=(iV ns _ _).mp (Int.ofNat.inj h) x hx;exact (List.mem_filter.mp (this.mpr hB)).1
 intro h;refine congrArg Int.ofNat ((iV ns _ _).mpr fun x hx=>?_);rw[List.mem_filter,decide_eq_true_iff];exact⟨fun z=>z.2,fun z=>⟨h x hx z,z⟩⟩
theorem o4 (ns A B:List Str):(Builtin.bitAnd (numOf ns A) (numOf ns B)=0)↔∀x∈ns,¬(x∈A/\x∈B):=by
 rw[bY,bY,oZ,lu];have e:((bH ns (A.filter fun x=>decide (x∈B)):Nat):Int)=0↔bH ns (A.filter fun x=>decide (x∈B))=0:=by omega
 rw[e,xK];constructor
 ·intro h x hx z;exact h x hx (List.mem_filter.mpr ⟨z.1,decide_eq_true z.2⟩)
 intro h x hx z;have:=List.mem_filter.mp z;exact h x hx ⟨this.1,of_decide_eq_true this.2⟩
theorem Nx (ns A B:List Str):Builtin.bitOr (numOf ns A) (numOf ns B)=numOf ns (A++B):=by
 rw[bY,bY,bY,Nu,vJ]
theorem Bf (ns A:List Str):0<=numOf ns A:=by rw[bY];exact Int.natCast_nonneg _
theorem qW:∀(ns A:List Str),numOf ns A<2^ns.length
 |[],_=>by simp [numOf]
 |x::r,A=>by
  have:=qW r A
  simp only[numOf,List.length_cons,Int.pow_succ]
  split <;> omega
theorem qX:∀(ns:List Str) (A:List Str),ns.Nodup->pick ns (numOf ns A)=ns.filter fun x=>decide (x∈A)
 |[],_,_=>rfl
 |x::r,A,nd=>by
  rw[List.nodup_cons] at nd
  have ih:=qX r A nd.2
  have n0:=Bf r A
  by_cases h:x∈A
  ·
   have e1:(1+2*numOf r A)%2=1:=by omega
   have e2:(1+2*numOf r A) / 2=numOf r A:=by omega
   simp only[numOf,h,if_true,pick,e1,e2,ih,List.filter_cons,decide_true]
  ·
   have e1:¬(0+2*numOf r A)%2=1:=by omega
   have e2:(0+2*numOf r A) / 2=numOf r A:=by omega
   simp only[numOf,h,if_false,pick,e1,e2,ih,List.filter_cons,decide_false,Bool.false_eq_true]
theorem Bg {ns:List Str}{n:Int}(nd:ns.Nodup) (h0:0<=n) (h1:n<2^ns.length):numOf ns (pick ns n)=n:=by rw[lq ns n nd,Be ns n h0 h1]
universe u
variable {α:Type u}
inductive RT (R:α->α->Prop):α->α->Prop
 |refl {a:α}:RT R a a
 |step {a b c:α}:RT R a b->R b c->RT R a c
theorem RT.trans {R:α->α->Prop}{a b c:α}(h:RT R a b) (g:RT R b c):RT R a c:=by
 induction g with
 |refl=>exact h
 |step _ r ih=>exact .step ih r
theorem RT.flip {R:α->α->Prop}{a b:α}(h:RT R a b):RT (fun x y=>R y x) b a:=by
 induction h with
 |refl=>exact .refl
 |step _ r ih=>exact (RT.step (R:=fun x y=>R y x) .refl r).trans ih
theorem Gk {R:α->α->Prop}{a b:α}:RT (fun x y=>R y x) a b↔RT R b a:=⟨fun h=>h.flip,fun h=>h.flip⟩
theorem RT.mono {R S:α->α->Prop}(hs:∀a b,R a b->S a b) {a b:α}(h:RT R a b):RT S a b:=by
 induction h with
 |refl=>exact .refl
 |step _ r ih=>exact .step ih (hs _ _ r)
theorem S6 {L:List (α × α)}{F:List α}{s x:α}(hs:s∈F) (hc:∀a b,(a,b)∈L->a∈F->b∈F) (h:RT (fun a b=>(a,b)∈L) s x):x∈F:=by
 induction h with
 |refl=>exact hs
 |step _ r ih=>exact hc _ _ r ih
theorem o5 [DecidableEq α]:∀{l m:List α},l.Nodup->(∀x∈l,x∈m)->l.length<=m.length:=by
 intro l;induction l with
 |nil=>intro m _ _;exact Nat.zero_le _
 |cons a l ih =>
 intro m nd hs;rw[List.nodup_cons] at nd;have ha:=hs a List.mem_cons_self;have h:=ih (m:=m.erase a) nd.2 fun x hx=>by have hx':=hs x (List.mem_cons_of_mem _ hx);have hne:x≠a:=fun e=>nd.1 (e▸hx);exact (List.mem_erase_of_ne hne).mpr hx'
 have e:=List.length_erase_of_mem ha;have p:0<m.length:=List.length_pos_of_mem ha;simp only[List.length_cons];omega
def mkS (l:List Nat):Str:=⟨l.toArray⟩
theorem gP (l:List Nat):(mkS l).cps.toList=l:=rfl
theorem cU (l:List Nat):(mkS l).length=l.length:=by show (l.toArray).size=_;simp
theorem Ny (x:Str):∃l,x=mkS l:=⟨x.cps.toList,by cases x;rfl⟩
theorem Gm {a b:List Nat}(h:mkS a=mkS b):a=b:=by have:=congrArg (fun x=>x.cps.toList) h;exact this
theorem vK (a b:List Nat):mkS a++mkS b=mkS (a++b):=by
 show (⟨a.toArray++b.toArray⟩:Str)=⟨(a++b).toArray⟩;simp
theorem S7 (l:List Nat) (k:Nat) (h:k<=l.length):Txt.slice (mkS l) none (some (k:Int))=mkS (l.take k):=by
 have e:=StrLaws.sliceText_to (x:=mkS l) (j:=(k:Int)) ⟨Int.natCast_nonneg k,by rw[gP];omega⟩;rw[gP,List.drop_zero,Int.sub_zero,Int.toNat_natCast] at e;exact e
def lw:List Nat:=[97,98,99,100,101,102,103,104,105,106,107,108,109,110,111,112,113,114,115,116,117,118,119,120,121,122]
theorem Bh:("abcdefghijklmnopqrstuvwxyz":Str)=mkS lw:=by decide +kernel
theorem Gn:∀i:_root_.Fin 26,lw[i.val]?=some (97+i.val):=by decide
theorem Bj (i:Int) (h0:0<=i) (h1:i<26):atI lw i=some (97+i.toNat):=by
 obtain⟨j,rfl⟩:=Int.eq_ofNat_of_zero_le h0;have hj:j<26:=by omega
 have:=Gn ⟨j,hj⟩;exact bV (by simpa using this)
theorem Gp:∀i:_root_.Fin 26,Builtin.Str.occurrences (mkS lw) (mkS [97+i.val]) 0 26 1=[i.val]:=by decide +kernel
theorem Nz (c:Nat) (h0:97<=c) (h1:c<=122):Builtin.Str.occurrences (mkS lw) (mkS [c]) 0 (mkS lw).length 1=[c - 97]:=by
 have:=Gp ⟨c - 97,by omega⟩;rw[show 97+(c - 97)=c by omega] at this;exact this
theorem Jc {l:List Nat}(h1:1<=l.length) (h8:l.length<=8) (h:∀c∈l,97<=c/\c<=122):isNm (mkS l):=⟨by rw[cU];exact h1,by rw[cU];exact h8,by rw[gP];exact h⟩
end M
namespace L3
open L2
structure Shut (p:Prop):Prop where
 out:p
theorem aB {t u:TS3}{D:Ends3}{Z:St3}{H:Hp3}(h:∀R,Shut (R=u)->(uU t R) D Z H):(uU t u) D Z H:=h u ⟨rfl⟩
theorem xM {c:TT3}{tb:TS3}{D:Ends3}{Z:St3}{H:Hp3}(W:Nat->St3->Hp3->Prop) (h0:∃m,W m Z H) (h1:∀m Z H,W m Z H->∀(WI:Nat->St3->Hp3->Prop) (TB:TS3) (NX:St3->Hp3->Prop),Shut (WI=W)->Shut (TB=tb)->Shut (NX=D.nx) ->
  c Z H fun b H1=>if b=true then TB { D with nx:=fun Z' H'=>∃m',m'<m/\WI m' Z' H',ct:=fun Z' H'=>∃m',m'<m/\WI m' Z' H',bk:=D.nx} Z H1 else NX Z H1):uW c tb D Z H :=
 ⟨W,h0,fun m Z H w=>h1 m Z H w W tb D.nx ⟨rfl⟩ ⟨rfl⟩ ⟨rfl⟩⟩
theorem iC {α:Type}(enc f:α->T) (p:α->Bool) (as:List α) (rest:St3) {tt:TT3}{te:TE3}{still:Hp3->Prop}{fin:List T->Hp3->Prop}{v:Option T}{H:Hp3}(hst:still H) (hl:as.length<=sizeLine)
  (hc:∀a∈as,∀Q:Bool->Hp3->Prop,Q (p a) H->tt (some (enc a)::rest) H Q)
  (ht:∀a∈as,p a=true->∀Q:VK3,Q (f a) H->te (some (enc a)::rest) H Q) (hfin:fin ((as.filter p).map f) H):cIter3 (gA 0) tt te still fin (as.map enc) [] (v::rest) H:=by
 refine kj (fun r ys Z H'=>∃(rs ds:List α) (v:Option T),Z=v::rest/\r=rs.map enc/\ys=(ds.filter p).map f/\ds++rs=as/\H'=H) ⟨as,[],v,rfl,rfl,rfl,rfl,rfl⟩ ?_ ?_
 ·rintro ys Z H' ⟨rs,ds,v,rfl,hrs,rfl,hsp,rfl⟩;have hrs':rs=[]:=List.map_eq_nil_iff.mp hrs.symm;subst hrs';rw[List.append_nil] at hsp;subst hsp;exact⟨hst,by rw[List.length_map];exact Nat.le_trans (List.length_filter_le _ _) hl,hfin⟩
 rintro x r ys Z H' N ⟨rs,ds,v,rfl,hrs,rfl,hsp,rfl⟩ hN;cases rs with
 |nil=>cases hrs
 |cons t rs =>
 injection hrs with e1 e2;subst e1 e2;refine⟨hst,?_⟩;show tt (some (enc t)::rest) H' _;refine hc t (by rw[<- hsp];simp) _ ?_;cases hp:p t with
 |true=>rw[if_pos rfl];refine ht t (by rw[<- hsp];simp) hp _ ⟨?_,hN _ _ _ ⟨rs,ds++[t],_,rfl,rfl,by simp [hp],by rw[<- hsp];simp,rfl⟩⟩;have:=congrArg List.length hsp;simp only[List.length_append,List.length_cons] at this;rw[List.length_map];have:=List.length_filter_le p ds;omega
 |false =>
 rw[if_neg Bool.false_ne_true];exact hN _ _ _ ⟨rs,ds++[t],_,rfl,rfl,by simp [hp],by rw[<- hsp];simp,rfl⟩
end L3
namespace M
open L2 L3
local macro_rules | `(tactic| walk_at "c") => `(tactic| try dsimp only [n6,List.replicate,List.map_cons,List.map_nil,List.cons_append,List.nil_append,List.getElem?_cons_zero,List.getElem?_cons_succ,Option.getD_some])
local macro_rules | `(tactic| walk_at "n") => `(tactic| (obtain ⟨e⟩:=‹Shut (_ = _)›; subst e; try dsimp only))
local macro_rules | `(tactic| walk_at "") => do
 let ls <- ((nm0.splitOn " ").toArray.map String.toName).filterM fun n => do return !(<- Lean.Macro.resolveGlobalName n).isEmpty
 let ls <- ls.mapM fun n => let i:=Lean.mkIdent n; `(Lean.Parser.Tactic.simpLemma| $i:ident)
 `(tactic| ((try dsimp only [$[$ls:simpLemma],*]); try simp only [*,$[$ls:simpLemma],*]))
def lkP (ws:List Str) (p:Str × Str × Str):List (Str × Str):=if p.1∈ws then [(p.2.1,p.2.2),(p.2.2,p.2.1)] else []
def lkW (ws:List Str) (W:Wk):List (Str × Str):=W.orders++W.pairs.flatMap (lkP ws)
def lkR (ws:List Str) (W:Wk) (a b:Str):Prop:=(a,b)∈lkW ws W
theorem Gq (ws:List Str) (p:Str × Str × Str):(lkP ws p).length<=2:=by unfold lkP;split <;> simp
theorem o6 (ws:List Str):∀ps:List (Str × Str × Str),(ps.flatMap (lkP ws)).length<=2*ps.length
 |[]=>Nat.le_refl _
 |p::r=>by
  have h1:=Gq ws p
  have h2:=o6 ws r
  simp only[List.flatMap_cons,List.length_append,List.length_cons]
  omega
theorem vL {ws:List Str}{W:Wk}(h:WkOk W):(lkW ws W).length<=52:=by
 have h1:=o6 ws W.pairs;have h2:=h.os;have h3:=h.ps;unfold lkW;rw[List.length_append];omega
def dF (F:List Str):List (Str × T):=F.map fun z=>(z,T.bl true)
theorem jR (z:Str):∀F:List Str,(aL z (dF F)).isSome=decide (z∈F)
 |[]=>rfl
 |y::r=>by
  have ih:=jR z r
  unfold dF at ih ⊢
  simp only[List.map_cons,aL]
  by_cases h:y=z
  ·
   simp [h]
  ·
   rw[if_neg h,ih]
   have h':¬z=y:=fun e=>h e.symm
   simp [h']
theorem NB (z:Str) (F:List Str):((dF F).any fun kv=>decide (kv.1=z))=decide (z∈F):=by
 unfold dF;rw[List.any_map];induction F with
 |nil=>rfl
 |cons y r ih =>
 simp only[List.any_cons,Function.comp_apply,ih];by_cases h:y=z
 ·simp [h]
 have h':¬z=y:=fun e=>h e.symm;simp [h,h']
theorem NK {z:Str}{F:List Str}(h:z∉F):put3 z (T.bl true) (dF F)=dF (F++[z]):=by
 unfold put3;rw[NB,decide_eq_false h,if_neg Bool.false_ne_true];unfold dF;rw[List.map_append];rfl
theorem NP (F:List Str):(dF F).length=F.length:=List.length_map _
theorem NQ (z:Str):[(z,T.bl true)]=dF [z]:=rfl
theorem Bk {x:T}{ts:List T}{H:Hp3}{R:List T->(Hp3->Prop)->Hp3->Prop}(hx:(∃a,x=.ref a/\H a=some (.lst ts))\/x=.tup ts)
  (h:∀still:Hp3->Prop,(still=bZ\/∃a,still=aV a ts/\H a=some (.lst ts))->R ts still H):w5 x H R:=by
 rcases hx with ⟨a,rfl,e⟩ | rfl
 ·rw[Lq,e,vp];exact h _ (.inr ⟨a,rfl,e⟩)
 rw[Lp];exact h _ (.inl rfl)
def fj (W:Wk) (t:Str):List Str:=(W.tasks.map (·.1)).filter fun x=>@decide (RT (lkR ["with"] W) t x/\RT (lkR ["with"] W) x t) (Classical.propDecidable _)
def iD (W:Wk) (t:Str):List Str:=(W.tasks.map (·.1)).filter fun x=>@decide (RT (lkR ["with"] W) x t/\¬RT (lkR ["with"] W) t x) (Classical.propDecidable _)
def swp (o:Str × Str):Str × Str:=(o.2,o.1)
theorem NT {L:List (Str × Str)}{a b:Str}:RT (fun x y=>(x,y)∈L.map swp) a b↔RT (fun x y=>(x,y)∈L) b a:=by
 have e:(fun x y=>(x,y)∈L.map swp)=fun x y:Str=>(y,x)∈L:=by funext x y;refine propext ⟨fun h=>?_,fun h=>List.mem_map.mpr ⟨(y,x),h,rfl⟩⟩;obtain⟨o,ho,eo⟩:=List.mem_map.mp h;obtain⟨o1,o2⟩:=o;cases eo;exact ho
 rw[e];exact Gk
def SeqS (H:Hp3) (x:T) (ss:List Str):Prop:=x=sT ss\/∃a,x=.ref a/\H a=some (.lst (ss.map T.str))
theorem Gr {neg:Bool}{y:Str}{x:T}{ss:List Str}{H:Hp3}{Q:VK3}(h:SeqS H x ss) (q:Q (.bl (if neg then !decide (y∈ss) else decide (y∈ss))) H):sZ neg (.str y) x H Q:=by
 have e:du neg (T.str y) (ss.map T.str)=(if neg then !decide (y∈ss) else decide (y∈ss)):=by unfold du;have:(T.str y∈ss.map T.str)↔y∈ss:=eQ iT;simp only[this]
 rcases h with rfl | ⟨a,rfl,ha⟩
 ·show sZ neg (.str y) (.tup (ss.map T.str)) H Q;rw[HW,e];exact⟨rfl,dM ss,q⟩
 rw[HX,ha,HY,e];exact⟨rfl,dM ss,q⟩
theorem SeqS.le {H H':Hp3}{x:T}{ss:List Str}(h:SeqS H x ss) (s:Sub3 H H'):SeqS H' x ss:=h.imp id fun ⟨a,e,ha⟩=>⟨a,e,s _ _ ha⟩
def jJ (ks:List Str) (k:Str):Bool:=decide (ks=[])||decide (k∈ks)
def iW (W:Wk) (t:Str):List Str:=(W.pairs.filter fun p=>decide (p.1=("apart":Str))&&decide (p.2.1=t)).map (·.2.2)
def okT (W:Wk) (kind:Str) (D S:List Str) (t:Str × Int × List Str):Bool :=
 !decide (t.1∈D)&&jJ t.2.2 kind&&@decide (∀x∈fj W t.1,x∈S) (Classical.propDecidable _)&&@decide (∀x∈iD W t.1,x∈S++D) (Classical.propDecidable _)&&@decide (∀x∈iW W t.1,x∉S) (Classical.propDecidable _)
def di (ts:List (Str × Int × List Str)) (S:List Str):Int:=((ts.filter fun t=>decide (t.1∈S)).map (·.2.1)).sum
def uv (W:Wk) (beat:Int) (kind:Str) (D S:List Str):Bool:=(W.tasks.all fun t=>!decide (t.1∈S)||okT W kind D S t)&&decide (di W.tasks S<=beat)
def ruT (W:Wk) (ns:List Str) (t:Str × Int × List Str):T:=.tup [.int (numOf ns [t.1]),.int t.2.1,sT t.2.2,.int (numOf ns (fj W t.1)),.int (numOf ns (iD W t.1)),.int (numOf ns (iW W t.1))]
theorem uw (A:List (Str × Int × List Str)) (t:Str × Int × List Str) (S:List Str):di (A++[t]) S=di A S+if t.1∈S then t.2.1 else 0:=by
 unfold di;rw[List.filter_append,List.map_append,List.sum_append];by_cases h:t.1∈S <;> simp [h]
theorem vM {ns A:List Str}{x:Str}(hx:x∈ns):(Builtin.bitAnd (numOf ns A) (numOf ns [x])=numOf ns [x])↔x∈A:=by
 rw[eU];constructor
 ·intro h;exact h x hx (by simp)
 intro h y _ hy;rw[List.mem_singleton.mp hy];exact h
end M
namespace L3
open L2
section
variable {X:Cx}
end
end L3
namespace M
open L2 L3
local macro_rules | `(tactic| walk_at "c") => `(tactic| try dsimp only [n6,List.replicate,List.map_cons,List.map_nil,List.cons_append,List.nil_append,List.getElem?_cons_zero,List.getElem?_cons_succ,Option.getD_some])
local macro_rules | `(tactic| walk_at "n") => `(tactic| (obtain ⟨e⟩:=‹Shut (_ = _)›; subst e; try dsimp only))
local macro_rules | `(tactic| walk_at "") => do
 let ls <- ((nm0.splitOn " ").toArray.map String.toName).filterM fun n => do return !(<- Lean.Macro.resolveGlobalName n).isEmpty
 let ls <- ls.mapM fun n => let i:=Lean.mkIdent n; `(Lean.Parser.Tactic.simpLemma| $i:ident)
 `(tactic| ((try dsimp only [$[$ls:simpLemma],*]); try simp only [*,$[$ls:simpLemma],*]))
structure Box (p:Prop):Prop where
 out:p
theorem vN (n:Nat):dz 0 n=(List.range n).map fun (i:Nat)=>T.int (i:Int):=by
 unfold dz;exact List.map_congr_left fun i _=>by rw[Int.zero_add]
theorem cz {H H':Hp3}{p:Addr}(s:Sub3 H H') (hp:H' p=none):H p=none:=by
 cases e:H p with
 |none=>rfl
 |some o=>rw[s _ _ e] at hp;cases hp
theorem pig:∀(ws:List Str) (f:Nat->Str),(∀i j,i<=ws.length->j<=ws.length->f i=f j->i=j)->(∀i,i<=ws.length->f i∈ws)->False
 |[],f,_,h=>by have:=h 0 (Nat.le_refl _);simp at this
 |w::ws,f,inj,h=>by
  rw[List.length_cons] at inj h
  by_cases q:∃j,j<=ws.length+1/\f j=w
  ·
   obtain⟨j,hj,e⟩:=q
   refine pig ws (fun i=>if i<j then f i else f (i+1)) (fun a b ha hb hab=>?_) (fun i hi=>?_)
   ·
    try dsimp only at hab
    split at hab <;> split at hab
    ·
     exact inj a b (by omega) (by omega) hab
    ·
     have:=inj a (b+1) (by omega) (by omega) hab;omega
    ·
     have:=inj (a+1) b (by omega) (by omega) hab;omega
    ·
     have:=inj (a+1) (b+1) (by omega) (by omega) hab;omega
   ·
    show (if i<j then f i else f (i+1))∈ws
    split
    ·
     exact (List.mem_cons.mp (h i (by omega))).resolve_left fun e2=>by have:=inj i j (by omega) hj (e2.trans e.symm);omega
    ·
     exact (List.mem_cons.mp (h (i+1) (by omega))).resolve_left fun e2=>by have:=inj (i+1) j (by omega) hj (e2.trans e.symm);omega
  ·
   exact pig ws f (fun a b ha hb=>inj a b (by omega) (by omega)) fun i hi=>(List.mem_cons.mp (h i (by omega))).resolve_left fun e=>q ⟨i,by omega,e⟩
def dN (ns:List Str) (f:Str->Nat):List (Str × T):=ns.map fun n=>(n,T.int (f n:Int))
def fu (f:Str->Nat) (n:Str) (v:Nat):Str->Nat:=fun x=>if x=n then v else f x
theorem gQ {f:Str->Nat}{n:Str}:∀{ns:List Str},n∈ns->aL n (dN ns f)=some (T.int (f n:Int))
 |x::r,h=>by
  unfold dN
  rw[List.map_cons]
  unfold aL
  by_cases e:x=n
  ·
   rw[if_pos e,e]
  ·
   rw[if_neg e]
   exact gQ (ns:=r) ((List.mem_cons.mp h).resolve_left (Ne.symm e))
theorem NZ {ns:List Str}{f:Str->Nat}{n:Str}{v:Nat}(h:n∈ns):put3 n (T.int (v:Int)) (dN ns f)=dN ns (fu f n v):=by
 unfold put3 dN;rw[if_pos (by rw[List.any_eq_true];exact⟨(n,T.int (f n:Int)),List.mem_map.mpr ⟨n,h,rfl⟩,by simp⟩),List.map_map];refine List.map_congr_left fun x hx=>?_;show (if x=n then (x,T.int (v:Int)) else (x,T.int (f x:Int)))=(x,T.int ((fu f n v x:Nat):Int));unfold fu;by_cases e:x=n
 ·rw[if_pos e,if_pos e]
 rw[if_neg e,if_neg e]
theorem N5 {ns:List Str}{f:Str->Nat}{n:Str}{v:Nat}(h:n∉ns):put3 n (T.int (v:Int)) (dN ns f)=dN (ns++[n]) (fu f n v):=by
 unfold put3 dN;rw[if_neg (by
  intro e
  rw[List.any_eq_true] at e
  obtain⟨x,hx,e⟩:=e
  obtain⟨y,hy,rfl⟩:=List.mem_map.mp hx
  exact h (of_decide_eq_true e▸hy)),List.map_append]
 congr 1
 ·refine List.map_congr_left fun x hx=>?_;unfold fu;rw[if_neg (fun (e:x=n)=>h (e▸hx))]
 unfold fu;rw[List.map_singleton,if_pos rfl]
theorem Bm (ns:List Str) (f:Str->Nat):(dN ns f).length=ns.length:=List.length_map _
def mu (m:Nat) (ns:List Str) (f:Str->Nat):Nat:=(ns.map fun n=>m - f n).sum
theorem N6 {H:Hp3}{a:Addr}{o:O3}(h:H a=some o):up3 H a o=H:=by
 funext b;by_cases e:b=a
 ·subst e;rw[aq,h]
 rw[aC e]
def ld (tk:List (Str × Int × List Str)) (ns:List Str):Int:=((tk.filter (fun t=>du false (.str t.1) (ns.map T.str))).map (·.2.1)).sum
theorem nq (ns:List Str) (f:Str->Nat) (m:Nat):(dealt ns f m).length=m:=by unfold dealt;rw[List.length_map,List.length_range]
def jK (ks:List Str) (n:Str):List Str:=if n∈ks then ks else ks++[n]
def kst (ks xs:List Str):List Str:=xs.foldl jK ks
def jm (k:Nat) (f:Str->Nat) (xs:List Str):Str->Nat:=xs.foldl (fun f n=>fu f n k) f
def kD (D:List (List Str)):List Str:=kst [] D.flatten
def fD (D:List (List Str)):Str->Nat:=D.zipIdx.foldl (fun f p=>jm p.2 f p.1) (fun _=>0)
theorem Bo (ks xs:List Str) (n:Str):kst ks (xs++[n])=jK (kst ks xs) n:=by unfold kst;rw[List.foldl_append];rfl
theorem Bp (k:Nat) (f:Str->Nat) (xs:List Str) (n:Str):jm k f (xs++[n])=fu (jm k f xs) n k:=by unfold jm;rw[List.foldl_append];rfl
theorem Gs (A:List (List Str)) (s:List Str):kD (A++[s])=kst (kD A) s:=by unfold kD kst;rw[List.flatten_append,List.foldl_append,List.flatten_singleton]
theorem vO (A:List (List Str)) (s:List Str):fD (A++[s])=jm A.length (fD A) s:=by
 unfold fD;rw[List.zipIdx_append,List.foldl_append];simp
theorem Gu (ks:List Str) (f:Str->Nat) (n:Str) (k:Nat):put3 n (T.int (k:Int)) (dN ks f)=dN (jK ks n) (fu f n k):=by
 unfold jK;split
 ·rename_i h;exact NZ h
 rename_i h;exact N5 h
theorem o7 (x:Str):∀(xs ks:List Str),x∈kst ks xs↔x∈ks\/x∈xs
 |[],ks=>by simp [kst]
 |n::r,ks=>by
  show x∈kst (jK ks n) r↔_
  rw[o7 x r]
  unfold jK
  by_cases h:n∈ks
  ·
   rw[if_pos h,List.mem_cons]
   constructor
   ·
    rintro (a | a)
    ·
     exact .inl a
    ·
     exact .inr (.inr a)
   ·
    rintro (a | rfl | a)
    ·
     exact .inl a
    ·
     exact .inl h
    ·
     exact .inr a
  ·
   rw[if_neg h,List.mem_append,List.mem_singleton,List.mem_cons,or_assoc]
theorem kst_len:∀(xs ks:List Str),(kst ks xs).length<=ks.length+xs.length
 |[],ks=>Nat.le_refl _
 |n::r,ks=>by
  have h:=kst_len r (jK ks n)
  have h2:(jK ks n).length<=ks.length+1:=by unfold jK;split <;> simp
  show (kst (jK ks n) r).length<=_
  rw[List.length_cons]
  omega
theorem N7 {x:Str}{D:List (List Str)}:x∈kD D↔x∈D.flatten:=by
 unfold kD;rw[o7];simp
theorem N8 (D:List (List Str)):(kD D).length<=D.flatten.length:=by
 have:=kst_len D.flatten [];simpa [kD] using this
theorem Jd {f:Str->Nat}{n:Str}:∀{ns:List Str},n∉ns->aL n (dN ns f)=none
 |[],_=>rfl
 |x::r,h=>by
  unfold dN
  rw[List.map_cons]
  unfold aL
  rw[if_neg (fun e=>h (by rw[<- e];exact List.mem_cons_self))]
  exact Jd fun z=>h (List.mem_cons_of_mem _ z)
structure Dok (W:Wk) (D:List (List Str)):Prop where
 rw:D.length<=W.row.length
 st:∀x∈D.flatten,x∈W.tasks.map (·.1)
 nd:D.flatten.Nodup
 al:∀n∈W.tasks.map (·.1),n∈D.flatten
theorem Dok.in {W:Wk}{D:List (List Str)}(h:Dok W D) {s:List Str}(hs:s∈D):s.Nodup/\∀n∈s,n∈W.tasks.map (·.1) :=
 ⟨(List.sublist_flatten_of_mem hs).nodup h.nd,fun n hn=>h.st n (List.mem_flatten.mpr ⟨s,hs,hn⟩)⟩
theorem qY {A:List (List Str)}{s:List Str}{B:List (List Str)}:(A++s::B).flatten=A.flatten++(s++B.flatten):=by rw[List.flatten_append,List.flatten_cons]
theorem S8 {x:Str}{xs:List Str}:du true (T.str x) (xs.map T.str)=!decide (x∈xs):=by
 rw[Bool.eq_iff_iff,S5 iT];simp
theorem S9 {x:Str}{xs:List Str}:du false (T.str x) (xs.map T.str)=decide (x∈xs):=by
 rw[Bool.eq_iff_iff,Vg iT];simp
theorem xN {α:Type}(enc:α->T) (xs:List α) {g:TG3}{tb:TS3}{D:Ends3}{still:Hp3->Prop}{Z:St3}{H:Hp3}(I:List α->St3->Hp3->Prop) (h0:I [] Z H) (hn:∀Z H,I xs Z H->still H/\D.nx Z H)
  (hs:∀A x B Z H (N:St3->Hp3->Prop),xs=A++x::B->I A Z H->(∀Z' H',I (A++[x]) Z' H'->N Z' H')->still H/\g (.tup [.int (A.length:Int),enc x]) Z H fun Z2 H2=>tb { D with nx:=N,ct:=N,bk:=D.nx} Z2 H2):iter3 g tb D still (eO 0 (xs.map enc)) Z H:=by
 have:∀(B A:List α) (Z:St3) (H:Hp3),xs=A++B->I A Z H->iter3 g tb D still (eO (A.length:Int) (B.map enc)) Z H:=by
  intro B;induction B with
  |nil=>intro A Z H e h;rw[List.append_nil] at e;subst e;exact hn Z H h
  |cons x B ih =>
  intro A Z H e h;refine hs A x B Z H _ e h fun Z' H' h'=>?_;have q:=ih (A++[x]) Z' H' (by rw[e,List.append_assoc];rfl) h';rw[List.length_append,List.length_singleton,Int.natCast_add] at q;exact q
 exact this xs [] Z H rfl h0
theorem Oa (ts:List T) (i:Int) (H:Hp3) (Q:VK3):ixH (some (.rol ts)) i H Q=oq (atI ts i) fun t=>Q t H:=rfl
def Tc:Sp3:=fun ts H Q=>∃tk:List (Str × Int × List Str),ts=[.tup (tk.map tkT)]/\tk.length<=8/\∀p,H p=none->Q (.ref p) (up3 H p (.lst ((tk.map (·.1)).map T.str)))
structure Fil (W:Wk) (beat:Int) (kind:Str) (D S:List Str):Prop where
 one:∀t∈W.tasks,t.1∈S->t.1∉D/\jJ t.2.2 kind=true/\(∀x∈fj W t.1,x∈S)/\(∀x∈iD W t.1,x∈S\/x∈D)/\∀x∈iW W t.1,x∉S
 ld:di W.tasks S<=beat
theorem fil_iff {W:Wk}{beat:Int}{kind:Str}{D S:List Str}:uv W beat kind D S=true↔Fil W beat kind D S:=by
 unfold uv;rw[Bool.and_eq_true,decide_eq_true_iff,List.all_eq_true];have key:∀t:Str × Int × List Str,(!decide (t.1∈S)||okT W kind D S t)=true↔(t.1∈S->t.1∉D/\jJ t.2.2 kind=true/\(∀x∈fj W t.1,x∈S)/\(∀x∈iD W t.1,x∈S\/x∈D)/\∀x∈iW W t.1,x∉S):=fun t=>by
  unfold okT;rw[Bool.or_eq_true,Bool.not_eq_true',decide_eq_false_iff_not,Bool.and_eq_true,Bool.and_eq_true,Bool.and_eq_true,Bool.and_eq_true,Bool.not_eq_true',decide_eq_false_iff_not,@decide_eq_true_iff _ (Classical.propDecidable _),@decide_eq_true_iff _ (Classical.propDecidable _),@decide_eq_true_iff _ (Classical.propDecidable _)];constructor
  ·intro h hs;obtain⟨⟨⟨⟨h1,h2⟩,h3⟩,h4⟩,h5⟩:=h.resolve_left (fun z=>z hs);exact⟨h1,h2,h3,fun x hx=>List.mem_append.mp (h4 x hx),h5⟩
  intro h;by_cases hs:t.1∈S
  ·obtain⟨h1,h2,h3,h4,h5⟩:=h hs;exact .inr ⟨⟨⟨⟨h1,h2⟩,h3⟩,fun x hx=>List.mem_append.mpr (h4 x hx)⟩,h5⟩
  exact .inl hs
 exact⟨fun ⟨a,b⟩=>⟨fun t ht=>(key t).mp (a t ht),b⟩,fun h=>⟨fun t ht=>(key t).mpr (h.one t ht),h.ld⟩⟩
theorem jD {ts:List (Str × Int × List Str)}{S S':List Str}(h:∀x,x∈S↔x∈S'):di ts S=di ts S':=by
 have e:(ts.filter fun t=>decide (t.1∈S))=ts.filter fun t=>decide (t.1∈S'):=List.filter_congr fun t _=>by rw[decide_eq_decide];exact h t.1
 unfold di;rw[e]
theorem Fil.congr {W:Wk}{beat:Int}{kind:Str}{D S D' S':List Str}(f:Fil W beat kind D S) (hD:∀x,x∈D↔x∈D') (hS:∀x,x∈S↔x∈S'):Fil W beat kind D' S' :=
 ⟨fun t ht hs=>by
  obtain⟨h1,h2,h3,h4,h5⟩:=f.one t ht ((hS _).mpr hs)
  exact⟨fun z=>h1 ((hD _).mpr z),h2,fun x hx=>(hS x).mp (h3 x hx),fun x hx=>(h4 x hx).imp (hS x).mp (hD x).mp,fun x hx z=>h5 x hx ((hS x).mpr z)⟩,by rw[<- jD hS];exact f.ld⟩
def Fils (W:Wk) (beat:Int) (D:List (List Str)):Prop:=∀k s,D[k]?=some s->Fil W beat (W.row.getD k "") (D.take k).flatten s
theorem Fils.snoc {W:Wk}{beat:Int}{D:List (List Str)}{s:List Str}(h:Fils W beat D) (f:Fil W beat (W.row.getD D.length "") D.flatten s):Fils W beat (D++[s]):=fun k s' e=>by
 by_cases hk:k<D.length
 ·rw[List.getElem?_append_left hk] at e;rw[List.take_append_of_le_length (by omega)];exact h k s' e
 rw[List.getElem?_append_right (by omega)] at e;have h0:k - D.length=0:=by
  cases hz:k - D.length with
  |zero=>rfl
  |succ n=>rw[hz] at e;simp at e
 have hk':k=D.length:=by omega
 subst hk';rw[h0] at e;simp only[List.getElem?_cons_zero,Option.some.injEq] at e;subst e;rw[List.take_left']
 ·exact f
 rfl
theorem Fils.nil {W:Wk}{beat:Int}:Fils W beat []:=fun k s e=>by simp at e
theorem ux {k:Nat}{n:Str}:∀{xs:List Str}{f:Str->Nat},n∉xs->jm k f xs n=f n
 |[],_,_=>rfl
 |x::r,f,h=>by
  rw[List.mem_cons,not_or] at h
  show jm k (fu f x k) r n=f n
  rw[ux h.2]
  unfold fu
  rw[if_neg h.1]
theorem Bq {k:Nat}{n:Str}:∀{xs:List Str}{f:Str->Nat},n∈xs->jm k f xs n=k
 |x::r,f,h=>by
  show jm k (fu f x k) r n=k
  by_cases hr:n∈r
  ·
   exact Bq hr
  ·
   rw[ux hr]
   unfold fu
   rw[if_pos ((List.mem_cons.mp h).resolve_right hr)]
theorem eV {D:List (List Str)}(nd:D.flatten.Nodup):∀{k:Nat}{s:List Str}{n:Str},D[k]?=some s->n∈s->fD D n=k:=by
 induction hl:D.length generalizing D with
 |zero=>intro k s n e;rw[List.length_eq_zero_iff.mp hl] at e;simp at e
 |succ m ih =>
 intro k s n e hn;obtain⟨A,l,rfl⟩:∃A l,D=A++[l]:=by refine⟨D.dropLast,D.getLast (by intro z;rw[z] at hl;cases hl),(List.dropLast_concat_getLast _).symm⟩
 have hA:A.length=m:=by simp at hl;exact hl
 rw[vO];rw[List.flatten_append,List.flatten_singleton,List.nodup_append] at nd;by_cases hk:k<A.length
 ·rw[List.getElem?_append_left hk] at e;have hf:n∈A.flatten:=List.mem_flatten.mpr ⟨s,List.mem_of_getElem? e,hn⟩;rw[ux fun z=>nd.2.2 n hf n z rfl];exact ih nd.1 hA e hn
 rw[List.getElem?_append_right (by omega)] at e;have h0:k - A.length=0:=by
  cases hz:k - A.length with
  |zero=>rfl
  |succ n=>rw[hz] at e;simp at e
 rw[h0] at e;simp only[List.getElem?_cons_zero,Option.some.injEq] at e;subst e;rw[Bq hn];omega
theorem iY {D:List (List Str)}{n:Str}(h:n∈D.flatten):∃(k:Nat) (s:List Str),D[k]?=some s/\n∈s:=by
 obtain⟨s,hs,hn⟩:=List.mem_flatten.mp h;obtain⟨k,hk⟩:=List.getElem?_of_mem hs;exact⟨k,s,hk,hn⟩
theorem take_at {D:List (List Str)}{k:Nat}{n:Str}:n∈(D.take k).flatten↔∃(j:Nat) (s:List Str),j<k/\D[j]?=some s/\n∈s:=by
 constructor
 ·intro h;obtain⟨j,s,e,hn⟩:=iY h;rw[List.getElem?_take] at e;split at e
  ·exact⟨j,s,by assumption,e,hn⟩
  cases e
 rintro⟨j,s,hj,e,hn⟩;refine List.mem_flatten.mpr ⟨s,?_,hn⟩;refine List.mem_of_getElem? (i:=j) ?_;rw[List.getElem?_take,if_pos hj];exact e
theorem Br {W:Wk}{a b:Str}(h:lkR ["with"] W a b):(a,b)∈W.orders\/∃p∈W.pairs,p.1="with"/\(p.2=(a,b)\/p.2=(b,a)):=by
 unfold lkR lkW at h;rcases List.mem_append.mp h with h | h
 ·exact .inl h
 obtain⟨p,hp,hm⟩:=List.mem_flatMap.mp h;unfold lkP at hm;split at hm
 ·rename_i hw;refine .inr ⟨p,hp,by simpa using hw,?_⟩;simp only[List.mem_cons,Prod.mk.injEq,List.not_mem_nil,or_false] at hm;rcases hm with ⟨rfl,rfl⟩ | ⟨rfl,rfl⟩
  ·exact .inl rfl
  exact .inr rfl
 cases hm
theorem Ob {W:Wk}{a b:Str}(h:(a,b)∈W.orders):lkR ["with"] W a b:=List.mem_append_left _ h
theorem Gv {W:Wk}{a b:Str}(h:(("with":Str),a,b)∈W.pairs):lkR ["with"] W a b/\lkR ["with"] W b a:=by
 have:∀q,q∈lkP ["with"] ("with",a,b)->q∈lkW ["with"] W:=fun q hq=>List.mem_append_right _ (List.mem_flatMap.mpr ⟨_,h,hq⟩);constructor
 ·exact this _ (by unfold lkP;simp)
 exact this _ (by unfold lkP;simp)
structure Rgt (W:Wk) (beat:Int) (D:List (List Str)) (f:Str->Nat):Prop where
 ord:∀o∈W.orders,f o.1<=f o.2
 pai:∀p∈W.pairs,f p.2.1=f p.2.2↔p.1="with"
 kin:∀k s,D[k]?=some s->∀t∈W.tasks,t.1∈s->jJ t.2.2 (W.row.getD k "")=true
 bea:∀s∈D,di W.tasks s<=beat
theorem qZ {W:Wk}{beat:Int}{D:List (List Str)}(hW:WkOk W) (h:Dok W D):Rgt W beat D (fD D)↔Fils W beat D:=by
 have at_:∀{n:Str},n∈W.tasks.map (·.1)->∃s,D[fD D n]?=some s/\n∈s:=fun hn=>by obtain⟨k,s,e,hs⟩:=iY (h.al _ hn);rw[eV h.nd e hs];exact⟨s,e,hs⟩
 constructor
 ·intro r k s e;have up:∀{a b:Str},RT (lkR ["with"] W) a b->fD D a<=fD D b:=fun z=>by
   induction z with
   |refl=>exact Nat.le_refl _
   |step _ l ih =>
   refine Nat.le_trans ih ?_;rcases Br l with o | ⟨p,hp,hw,e | e⟩
   ·exact r.ord _ o
   ·have:=(r.pai p hp).mpr hw;rw[e] at this;exact Nat.le_of_eq this
   have:=(r.pai p hp).mpr hw;rw[e] at this;exact Nat.le_of_eq this.symm
  refine⟨fun t ht hs=>?_,r.bea s (List.mem_of_getElem? e)⟩;have ft:=eV h.nd e hs;refine⟨fun z=>?_,r.kin k s e t ht hs,fun x hx=>?_,fun x hx=>?_,fun x hx hxs=>?_⟩
  ·obtain⟨j,s',hj,e',hn⟩:=take_at.mp z;have:=eV h.nd e' hn;omega
  ·obtain⟨hxn,hr⟩:=List.mem_filter.mp hx;rw[@decide_eq_true_iff _ (Classical.propDecidable _)] at hr;have e1:=up hr.1;have e2:=up hr.2;obtain⟨s',e',hn⟩:=at_ hxn;rw[show fD D x=k by omega,e] at e';cases e';exact hn
  ·obtain⟨hxn,hr⟩:=List.mem_filter.mp hx;rw[@decide_eq_true_iff _ (Classical.propDecidable _)] at hr;have e1:=up hr.1;obtain⟨s',e',hn⟩:=at_ hxn;by_cases z:fD D x=k
   ·rw[z,e] at e';cases e';exact .inl hn
   exact .inr (take_at.mpr ⟨_,s',by omega,e',hn⟩)
  obtain⟨p,hp,rfl⟩:=List.mem_map.mp hx;obtain⟨hp,hw⟩:=List.mem_filter.mp hp;rw[Bool.and_eq_true,decide_eq_true_iff,decide_eq_true_iff] at hw;have e1:=(r.pai p hp).mp (by rw[hw.2,ft,eV h.nd e hxs]);rw[hw.1] at e1;exact absurd e1 (by decide)
 intro F;have fil:∀{t:Str × Int × List Str},t∈W.tasks->∃s,D[fD D t.1]?=some s/\t.1∈s/\Fil W beat (W.row.getD (fD D t.1) "") (D.take (fD D t.1)).flatten s:=fun ht=>by obtain⟨s,e,hs⟩:=at_ (List.mem_map.mpr ⟨_,ht,rfl⟩);exact⟨s,e,hs,F _ _ e⟩
 have up:∀{a b:Str},a∈W.tasks.map (·.1)->b∈W.tasks.map (·.1)->RT (lkR ["with"] W) a b->fD D a<=fD D b:=fun {a b} ha hb z=>by
  obtain⟨t,ht,rfl⟩:=List.mem_map.mp hb;obtain⟨s,e,hs,f⟩:=fil ht;obtain⟨_,_,f3,f4,_⟩:=f.one t ht hs;by_cases y:RT (lkR ["with"] W) t.1 a
  ·have:=f3 a (List.mem_filter.mpr ⟨ha,@decide_eq_true _ (Classical.propDecidable _) ⟨y,z⟩⟩);exact Nat.le_of_eq (eV h.nd e this)
  rcases f4 a (List.mem_filter.mpr ⟨ha,@decide_eq_true _ (Classical.propDecidable _) ⟨z,y⟩⟩) with q | q
  ·exact Nat.le_of_eq (eV h.nd e q)
  obtain⟨j,s',hj,e',hn⟩:=take_at.mp q;rw[eV h.nd e' hn];omega
 refine⟨fun o ho=>?_,fun p hp=>?_,fun k s e t ht hs=>((F k s e).one t ht hs).2.1,fun s hs=>?_⟩
 ·obtain⟨_,h1,h2⟩:=hW.oo o ho;exact up h1 h2 (.step .refl (Ob ho))
 ·obtain⟨hw,_,h1,h2⟩:=hW.pp p hp;constructor
  ·intro e;refine hw.resolve_right fun ha=>?_;obtain⟨t,ht,et⟩:=List.mem_map.mp h1;obtain⟨s,e1,hs,f⟩:=fil ht;obtain⟨_,_,_,_,f5⟩:=f.one t ht hs;refine f5 p.2.2 (List.mem_map.mpr ⟨p,List.mem_filter.mpr ⟨hp,by rw[Bool.and_eq_true,decide_eq_true_iff,decide_eq_true_iff];exact⟨ha,et.symm⟩⟩,rfl⟩) ?_;obtain⟨s',e',hn⟩:=at_ h2;have e0:fD D p.2.2=fD D t.1:=by rw[et];exact e.symm
   rw[e0,e1] at e';cases e';exact hn
  intro hw';have hp':(("with":Str),p.2.1,p.2.2)∈W.pairs:=by rw[<- hw'];exact hp
  obtain⟨l1,l2⟩:=Gv hp';exact Nat.le_antisymm (up h1 h2 (.step .refl l1)) (up h2 h1 (.step .refl l2))
 obtain⟨k,hk⟩:=List.getElem?_of_mem hs;exact (F k s hk).ld
theorem Gw {W:Wk}{beat:Int}:∀{D:List (List Str)},Fils W beat D->(∀s∈D,s.Nodup/\∀n∈s,n∈W.tasks.map (·.1))->D.flatten.Nodup:=by
 intro D;induction hl:D.length generalizing D with
 |zero=>intro _ _;rw[List.length_eq_zero_iff.mp hl];exact List.nodup_nil
 |succ m ih =>
 intro F hs;obtain⟨A,l,rfl⟩:∃A l,D=A++[l]:=by refine⟨D.dropLast,D.getLast (by intro z;rw[z] at hl;cases hl),(List.dropLast_concat_getLast _).symm⟩
 have hA:A.length=m:=by simp at hl;exact hl
 have FA:Fils W beat A:=fun k s e=>by
  have hk:k<A.length:=by
   rcases Nat.lt_or_ge k A.length with z | z
   ·exact z
   rw[List.getElem?_eq_none z] at e;cases e
  have:=F k s (by rw[List.getElem?_append_left hk];exact e)
  rwa [List.take_append_of_le_length (by omega)] at this
 rw[List.flatten_append,List.flatten_singleton,List.nodup_append];have hl':=hs l (by simp);refine⟨ih hA FA fun s h=>hs s (List.mem_append_left _ h),hl'.1,fun a ha b hb e=>?_⟩;subst e;obtain⟨t,ht,rfl⟩:=List.mem_map.mp (hl'.2 a hb);have f:=F A.length l (by rw[List.getElem?_append_right (Nat.le_refl _)];simp);rw[List.take_left' rfl] at f;exact (f.one t ht hb).1 ha
theorem Bs {row:List Str}{k:Nat}(h:k<row.length):atI (row.map T.str) (k:Int)=some (.str (row.getD k "")):=bV (by rw[List.getElem?_map,List.getElem?_eq_getElem h,List.getD_eq_getElem?_getD,List.getElem?_eq_getElem h];rfl)
theorem nu:∀ns:List Str,pick ns 0=[]
 |[]=>rfl
 |n::r=>by
  have:=nu r
  unfold pick
  simpa using this
theorem vP:∀(ns:List Str) (b:Int),(pick ns b).Sublist ns
 |[],_=>List.Sublist.refl _
 |n::r,b=>by
  have:=vP r (b / 2)
  unfold pick
  split
  ·
   exact this.cons₂ n
  ·
   exact this.cons n
theorem jn {W:Wk}{ns:List Str}{f:Str->Nat}{m:Nat}(hW:WkOk W) (hp:ns.Perm (W.tasks.map (·.1))) (hm:m<=W.row.length) (hf:∀n,f n<m):Dok W (dealt ns f m):=by
 have mem:∀x,x∈(dealt ns f m).flatten↔x∈ns:=fun x=>by
  rw[List.mem_flatten];constructor
  ·rintro⟨s,hs,hx⟩;obtain⟨k,_,rfl⟩:=List.mem_map.mp hs;exact (List.mem_filter.mp hx).1
  intro hx;exact⟨_,List.mem_map.mpr ⟨f x,List.mem_range.mpr (hf x),rfl⟩,List.mem_filter.mpr ⟨hx,decide_eq_true rfl⟩⟩
 refine⟨by rw[nq];exact hm,fun x hx=>hp.mem_iff.mp ((mem x).mp hx),?_,fun x hx=>(mem x).mpr (hp.mem_iff.mpr hx)⟩;have nd:=hp.nodup_iff.mpr hW.nd;unfold dealt;have:∀l:List Nat,l.Nodup->((l.map fun k=>ns.filter fun n=>decide (f n=k)).flatten).Nodup:=by
  intro l;induction l with
  |nil=>intro _;exact List.nodup_nil
  |cons k r ih =>
  intro hl;rw[List.nodup_cons] at hl;rw[List.map_cons,List.flatten_cons,List.nodup_append];refine⟨List.filter_sublist.nodup nd,ih hl.2,fun a ha b hb e=>?_⟩;subst e;obtain⟨s,hs,hb⟩:=List.mem_flatten.mp hb;obtain⟨j,hj,rfl⟩:=List.mem_map.mp hs;have e1:=of_decide_eq_true (List.mem_filter.mp ha).2;have e2:=of_decide_eq_true (List.mem_filter.mp hb).2;exact hl.1 (by rw[<- e1,e2];exact hj)
 exact this _ List.nodup_range
theorem Dok.len {W:Wk}{D:List (List Str)}(h:Dok W D) (hW:WkOk W):D.flatten.length<=8:=by
 have:=o5 h.nd h.st;rw[List.length_map] at this;exact Nat.le_trans this hW.t8
def gre {α:Type}(has:α->α->Bool):List α->List α
 |[]=>[]
 |n::B=>if (gre has B).any (fun g=>has g n) then gre has B else gre has B++[n]
theorem o8 {α:Type}{has:α->α->Bool}:∀(xs:List α),∀g∈gre has xs,g∈xs
 |[],g,h=>h
 |n::B,g,h=>by
  unfold gre at h
  split at h
  ·
   exact List.mem_cons_of_mem _ (o8 B g h)
  ·
   rcases List.mem_append.mp h with h | h
   ·
    exact List.mem_cons_of_mem _ (o8 B g h)
   ·
    rw[List.mem_singleton.mp h];exact List.mem_cons_self
theorem vQ {α:Type}{has:α->α->Bool}(hr:∀a,has a a=true):∀(xs:List α),∀b∈xs,∃g∈gre has xs,has g b=true
 |n::B,b,h=>by
  unfold gre
  rcases List.mem_cons.mp h with rfl | h
  ·
   split
   ·
    rename_i hy
    obtain⟨g,hg,e⟩:=List.any_eq_true.mp hy
    exact⟨g,hg,e⟩
   ·
    exact⟨b,by simp,hr b⟩
  ·
   obtain⟨g,hg,e⟩:=vQ hr B b h
   split
   ·
    exact⟨g,hg,e⟩
   ·
    exact⟨g,List.mem_append_left _ hg,e⟩
theorem xO (m:Nat):List.range (m+m)=List.range m++(List.range m).map (·+m):=by
 rw[List.range_add];congr 1;exact List.map_congr_left fun a _=>Nat.add_comm _ _
theorem vR:∀(ws:List Str) (b:Int),(pick ws b).length<=ws.length
 |[],_=>Nat.le_refl _
 |x::r,b=>by
  unfold pick
  have:=vR r (b / 2)
  split
  ·
   rw[List.length_cons,List.length_cons];omega
  ·
   rw[List.length_cons];omega
def bA (b a:Nat):Bool:=decide (Builtin.bitAnd (b:Int) (a:Int)=(a:Int))
theorem fB (b a:Nat):bA b a=true↔b &&& a=a:=by
 unfold bA;rw[decide_eq_true_iff,oZ];exact Int.ofNat_inj
theorem xP (a:Nat):bA a a=true:=(fB a a).mpr (Nat.and_self a)
def nm (W:Wk):List Str:=W.tasks.map (·.1)
def pk (W:Wk) (i:Nat):List Str:=pick (nm W) (i:Int)
def top2 (W:Wk):Nat:=2^W.tasks.length
theorem dZ (W:Wk):(nm W).length=W.tasks.length:=List.length_map _
theorem dD {W:Wk}(hW:WkOk W) {i:Nat}(h:i<top2 W):bH (nm W) (pk W i)=i:=by
 have h1:((i:Int))<2^(nm W).length:=by
  have e:((2^W.tasks.length:Nat):Int)=(2:Int)^W.tasks.length:=by push_cast;rfl
  rw[dZ,<- e];exact Int.ofNat_lt.mpr h
 have:=Bg (ns:=nm W) hW.nd (Int.natCast_nonneg i) h1;rw[bY] at this;exact Int.ofNat.inj this
theorem jT {W:Wk}(A:List Str):bH (nm W) A<top2 W:=by
 have:=qW (nm W) A;rw[bY,dZ] at this;have e:((2^W.tasks.length:Nat):Int)=(2:Int)^W.tasks.length:=by push_cast;rfl
 rw[<- e] at this;exact Int.ofNat_lt.mp this
theorem Je {W:Wk}(hW:WkOk W) (A:List Str):pk W (bH (nm W) A)=(nm W).filter fun x=>decide (x∈A):=by
 unfold pk;rw[<- bY];exact qX _ _ hW.nd
theorem jo {W:Wk}(hW:WkOk W) {A:List Str}{x:Str}:x∈pk W (bH (nm W) A)↔x∈nm W/\x∈A:=by
 rw[Je hW,List.mem_filter,decide_eq_true_iff]
theorem gD {W:Wk}{i:Nat}{x:Str}(h:x∈pk W i):x∈nm W:=iU _ _ x h
theorem Td {W:Wk}(hW:WkOk W) (i:Nat):(pk W i).Nodup:=(vP _ _).nodup hW.nd
theorem fX:∀(ns A B:List Str),(∀x∈ns,x∈B↔x∉A)->bH ns A+bH ns B+1=2^ns.length
 |[],_,_,_=>rfl
 |x::r,A,B,h=>by
  have ih:=fX r A B fun y hy=>h y (List.mem_cons_of_mem _ hy)
  have hx:=h x List.mem_cons_self
  simp only[bH,List.length_cons,Nat.pow_succ]
  by_cases hA:x∈A
  ·
   rw[if_pos hA,if_neg (fun z=>hx.mp z hA)];omega
  ·
   rw[if_neg hA,if_pos (hx.mpr hA)];omega
theorem gF:∀(ns A B:List Str),(∀x∈ns,¬(x∈A/\x∈B))->bH ns A+bH ns B=bH ns (A++B)
 |[],_,_,_=>rfl
 |x::r,A,B,h=>by
  have ih:=gF r A B fun y hy=>h y (List.mem_cons_of_mem _ hy)
  have hx:=h x List.mem_cons_self
  simp only[bH,List.mem_append]
  by_cases hA:x∈A
  ·
   have hB:x∉B:=fun z=>hx ⟨hA,z⟩
   simp only[hA,hB,if_true,if_false,or_false];omega
  ·
   by_cases hB:x∈B
   ·
    simp only[hA,hB,if_true,if_false,or_true];omega
   ·
    simp only[hA,hB,if_false,or_self];omega
theorem q8 {W:Wk}{A B:List Str}:bA (bH (nm W) A) (bH (nm W) B)=true↔∀x∈nm W,x∈B->x∈A:=by
 unfold bA;rw[decide_eq_true_iff,<- bY,<- bY];exact eU _ _ _
def q9 (N:Nat):List Nat:=(List.range (N+1)).filter (bA N)
theorem Gx {N i:Nat}(h:bA N i=true):i<=N:=by
 have:=(fB N i).mp h;have:=Nat.and_le_left (n:=N) (m:=i);omega
theorem vU {N M:Nat}(h:N<M):(List.range M).filter (bA N)=q9 N:=by
 obtain⟨k,rfl⟩:∃k,M=(N+1)+k:=⟨M - (N+1),by omega⟩;unfold q9;rw[List.range_add,List.filter_append];have:((List.range k).map fun x=>N+1+x).filter (bA N)=[]:=by rw[List.filter_eq_nil_iff];intro a ha;obtain⟨x,_,rfl⟩:=List.mem_map.mp ha;intro z;have:=Gx z;omega
 rw[this,List.append_nil]
theorem rm {N k i:Nat}(hi:i<2^k):bA N (i+2^k)=(bA N (2^k)&&bA N i):=by
 have hor:i+2^k=2^k ||| i:=by have:=Nat.two_pow_add_eq_or_of_lt hi 1;rw[Nat.mul_one] at this;omega
 rw[Bool.eq_iff_iff,Bool.and_eq_true,fB,fB,fB,hor];constructor
 ·intro h;have hb:∀j,(N &&& (2^k ||| i)).testBit j=(2^k ||| i).testBit j:=fun j=>by rw[h]
  refine⟨Nat.eq_of_testBit_eq fun j=>?_,Nat.eq_of_testBit_eq fun j=>?_⟩
  ·have:=hb j;rw[Nat.testBit_and,Nat.testBit_or] at this;rw[Nat.testBit_and];cases h1:(2^k).testBit j <;> simp_all
  have:=hb j;rw[Nat.testBit_and,Nat.testBit_or] at this;rw[Nat.testBit_and];cases h1:i.testBit j <;> simp_all
 rintro⟨h1,h2⟩;rw[Nat.and_or_distrib_left,h1,h2]
theorem Bt {N k:Nat}:(List.range (2^(k+1))).filter (bA N)=(List.range (2^k)).filter (bA N)++if bA N (2^k)=true then ((List.range (2^k)).filter (bA N)).map (·+2^k) else []:=by
 rw[show 2^(k+1)=2^k+2^k by rw[Nat.pow_succ];omega,xO,List.filter_append];congr 1;rw[List.filter_map];by_cases h:bA N (2^k)=true
 ·rw[if_pos h];congr 1;refine List.filter_congr fun i hi=>?_;show bA N (i+2^k)=bA N i;rw[rm (List.mem_range.mp hi),h,Bool.true_and]
 rw[if_neg h,List.filter_eq_nil_iff.mpr,List.map_nil];intro i hi;show ¬bA N (i+2^k)=true;rw[rm (List.mem_range.mp hi),Bool.and_eq_true];exact fun z=>h z.1
def fil (W:Wk) (beat:Int) (k d i:Nat):Bool:=uv W beat (W.row.getD k "") (pk W d) (pk W i)
def fls (W:Wk) (beat:Int) (k d:Nat):List Nat:=(List.range (top2 W)).filter (fil W beat k d)
theorem fls_mem {W:Wk}{beat:Int}{k d i:Nat}:i∈fls W beat k d↔i<top2 W/\Fil W beat (W.row.getD k "") (pk W d) (pk W i):=by
 unfold fls;rw[List.mem_filter,List.mem_range];unfold fil;rw[fil_iff]
theorem Fil.apart {W:Wk}{beat:Int}{kind:Str}{D S:List Str}(f:Fil W beat kind D S) {x:Str}(hx:x∈nm W) (hs:x∈S):x∉D:=by
 obtain⟨t,ht,rfl⟩:=List.mem_map.mp hx;exact (f.one t ht hs).1
theorem xQ {W:Wk}{beat:Int}{k d:Nat}(hW:WkOk W) (hd:d<top2 W):(q9 (top2 W - 1 - d)).filter (fil W beat k d)=fls W beat k d:=by
 have hN:top2 W - 1 - d<top2 W:=by omega
 rw[<- vU hN];unfold fls;rw[List.filter_filter];refine List.filter_congr fun i hi=>?_;have hi':=List.mem_range.mp hi;cases h:fil W beat k d i with
 |false=>rfl
 |true =>
 rw[Bool.true_and];have f:Fil W beat (W.row.getD k "") (pk W d) (pk W i):=fil_iff.mp h;have e1:top2 W - 1 - d=bH (nm W) ((nm W).filter fun x=>decide (x∉pk W d)):=by
  have:=fX (nm W) (pk W d) ((nm W).filter fun x=>decide (x∉pk W d)) fun x hx=>by rw[List.mem_filter,decide_eq_true_iff];exact⟨fun z=>z.2,fun z=>⟨hx,z⟩⟩
  rw[dD hW hd,dZ] at this;unfold top2;omega
 rw[e1,show i=bH (nm W) (pk W i) from (dD hW hi').symm];rw[q8];intro x hx hs;rw[List.mem_filter,decide_eq_true_iff];exact⟨hx,f.apart hx hs⟩
inductive Frw (W:Wk) (beat:Int):List Nat->Nat->Prop
 |nil:Frw W beat [] 0
 |snoc {fs:List Nat} {d f:Nat}:Frw W beat fs d->fs.length<W.row.length->f∈fls W beat fs.length d->Frw W beat (fs++[f]) (d+f)
theorem Gy (W:Wk):pk W 0=[]:=nu _
theorem Frw.ok {W:Wk}{beat:Int}{fs:List Nat}{d:Nat}(hW:WkOk W) (r:Frw W beat fs d):d<top2 W/\fs.length<=W.row.length/\(∀x,x∈pk W d↔x∈(fs.map (pk W)).flatten)/\Fils W beat (fs.map (pk W))/\∀f∈fs,f<top2 W:=by
 induction r with
 |nil=>exact⟨Nat.pow_pos (by decide),Nat.zero_le _,fun x=>by rw[Gy];rfl,Fils.nil,fun _ h=>(nomatch h)⟩
 |@snoc fs d f r hl hf ih =>
 obtain⟨hd,_,hm,hF,hb⟩:=ih;obtain⟨hft,F⟩:=fls_mem.mp hf;have e:d+f=bH (nm W) (pk W d++pk W f):=by rw[<- gF _ _ _ fun x hx z=>F.apart hx z.2 z.1,dD hW hd,dD hW hft]
 refine⟨by rw[e];exact jT _,by rw[List.length_append];exact hl,fun x=>?_,?_,fun g hg=>?_⟩
 ·rw[e,jo hW,List.map_append,List.flatten_append,List.mem_append,List.mem_append,<- hm x];simp only[List.map_cons,List.map_nil,List.flatten_cons,List.flatten_nil,List.append_nil];exact⟨fun z=>z.2,fun z=>⟨z.elim gD gD,z⟩⟩
 ·rw[List.map_append];refine hF.snoc ?_;rw[List.length_map];exact F.congr hm fun x=>Iff.rfl
 rcases List.mem_append.mp hg with hg | hg
 ·exact hb g hg
 rw[List.mem_singleton.mp hg];exact hft
theorem Frw.of {W:Wk}{beat:Int}(hW:WkOk W):∀{D:List (List Str)},D.length<=W.row.length->(∀s∈D,∀n∈s,n∈nm W)->Fils W beat D->Frw W beat (D.map (bH (nm W))) (bH (nm W) D.flatten):=by
 intro D;induction hl:D.length generalizing D with
 |zero=>intro _ _ _;rw[List.length_eq_zero_iff.mp hl,List.map_nil,List.flatten_nil,gC];exact .nil
 |succ m ih =>
 intro hr hs F;obtain⟨A,l,rfl⟩:∃A l,D=A++[l]:=⟨D.dropLast,D.getLast (by intro z;rw[z] at hl;cases hl),(List.dropLast_concat_getLast _).symm⟩;have hA:A.length=m:=by simp at hl;exact hl
 have FA:Fils W beat A:=fun k s e=>by
  have hk:k<A.length:=by
   rcases Nat.lt_or_ge k A.length with z | z
   ·exact z
   rw[List.getElem?_eq_none z] at e;cases e
  have:=F k s (by rw[List.getElem?_append_left hk];exact e)
  rwa [List.take_append_of_le_length (by omega)] at this
 have r:=ih hA (by omega) (fun s h=>hs s (List.mem_append_left _ h)) FA;have f:=F A.length l (by rw[List.getElem?_append_right (Nat.le_refl _)];simp);rw[List.take_left' rfl] at f;have hln:=hs l (by simp);have hAn:∀n∈A.flatten,n∈nm W:=fun n hn=>by obtain⟨s,h,hn⟩:=List.mem_flatten.mp hn;exact hs s (List.mem_append_left _ h) n hn
 have:=Frw.snoc r (by rw[List.length_map];omega) (f:=bH (nm W) l) (fls_mem.mpr ⟨jT _,by
  rw[List.length_map]
  exact f.congr (fun x=>by rw[jo hW];exact⟨fun z=>⟨hAn x z,z⟩,fun z=>z.2⟩) fun x=>by rw[jo hW];exact⟨fun z=>⟨hln x z,z⟩,fun z=>z.2⟩⟩)
 rw[gF _ _ _ fun x hx z=>f.apart hx z.2 z.1] at this;rw[List.map_append,List.flatten_append];simpa using this
theorem nA {W:Wk}(hW:WkOk W):∀x∈nm W,x∈pk W (top2 W - 1):=fun x hx=>by
 have h1:bH (nm W) (nm W)=top2 W - 1:=by
  have:=fX (nm W) (nm W) [] fun y hy=>by simp [hy]
  rw[gC,dZ] at this;unfold top2;omega
 rw[<- h1,jo hW];exact⟨hx,hx⟩
theorem jq {W:Wk}{A:List Str}(h:∀x∈nm W,x∈A):bH (nm W) A=top2 W - 1:=by
 have:=fX (nm W) A [] fun y hy=>by simp [h y hy]
 rw[gC,dZ] at this;unfold top2;omega
theorem Frw.dok {W:Wk}{beat:Int}{fs:List Nat}(hW:WkOk W) (r:Frw W beat fs (top2 W - 1)):Dok W (fs.map (pk W))/\Fils W beat (fs.map (pk W)):=by
 obtain⟨_,hl,hm,hF,_⟩:=r.ok hW;have hs:∀s∈fs.map (pk W),s.Nodup/\∀n∈s,n∈W.tasks.map (·.1):=fun s h=>by obtain⟨i,_,rfl⟩:=List.mem_map.mp h;exact⟨Td hW i,fun n hn=>gD hn⟩
 refine⟨⟨by rw[List.length_map];exact hl,fun x hx=>?_,Gw hF hs,fun n hn=>(hm n).mp (nA hW n hn)⟩,hF⟩;obtain⟨s,h,hn⟩:=List.mem_flatten.mp hx;exact (hs s h).2 x hn
theorem Frw.ofD {W:Wk}{beat:Int}{D:List (List Str)}(hW:WkOk W) (h:Dok W D) (F:Fils W beat D):Frw W beat (D.map (bH (nm W))) (top2 W - 1):=by
 have:=Frw.of hW h.rw (fun s hs=>(h.in hs).2) F
 rwa [jq h.al] at this
def bw (i:Nat):T:=.int (i:Int)
def wkF (W:Wk) (beat:Int) (p:Addr):List (Str × T):=[("works",W.enc),("beat",.int beat),("rules",.ref p),("whole",.int ((top2 W:Int) - 1))]
structure Wlk (C:Addr) (W:Wk) (beat:Int) (H:Hp3) (a:Addr):Prop where
 ex:∃p,H a=some (.ins C (wkF W beat p))/\H p=some (.lst (W.tasks.map (ruT W (W.tasks.map (·.1)))))
theorem Wlk.sub {C:Addr}{W:Wk}{beat:Int}{H H':Hp3}{a:Addr}(h:Wlk C W beat H a) (s:Sub3 H H'):Wlk C W beat H' a:=by
 obtain⟨p,h1,h2⟩:=h.ex;exact⟨p,s _ _ h1,s _ _ h2⟩
theorem rA {W:Wk}{beat:Int}{p:Addr}:aL "works" (wkF W beat p)=some W.enc:=rfl
theorem Gz {W:Wk}{beat:Int}{p:Addr}:aL "beat" (wkF W beat p)=some (.int beat):=by unfold wkF aL;rw[if_neg (by decide +kernel)];unfold aL;rw[if_pos rfl]
theorem Bu {W:Wk}{beat:Int}{p:Addr}:aL "rules" (wkF W beat p)=some (.ref p):=by unfold wkF aL;rw[if_neg (by decide +kernel)];unfold aL;rw[if_neg (by decide +kernel)];unfold aL;rw[if_pos rfl]
theorem rB {W:Wk}{beat:Int}{p:Addr}:aL "whole" (wkF W beat p)=some (.int ((top2 W:Int) - 1)):=by unfold wkF aL;rw[if_neg (by decide +kernel)];unfold aL;rw[if_neg (by decide +kernel)];unfold aL;rw[if_neg (by decide +kernel)];unfold aL;rw[if_pos rfl]
theorem Bv {W:Wk}{beat:Int}{p:Addr}{m:Str}(h:m∉(["works","beat","rules","whole"]:List Str)):aL m (wkF W beat p)=none:=by
 simp only[List.mem_cons,List.not_mem_nil,or_false,not_or] at h;unfold wkF;simp only[aL];rw[if_neg (Ne.symm h.1),if_neg (Ne.symm h.2.1),if_neg (Ne.symm h.2.2.1),if_neg (Ne.symm h.2.2.2)]
theorem Te {W:Wk}(hW:WkOk W) {i:Nat}(h:i<top2 W):numOf (W.tasks.map (·.1)) (pk W i)=(i:Int):=by
 rw[bY];exact congrArg Int.ofNat (dD hW h)
theorem o9 {W:Wk}(hW:WkOk W):top2 W<=256:=Nat.pow_le_pow_right (n:=2) (by decide) hW.t8
theorem lz (W:Wk):0<top2 W:=Nat.pow_pos (by decide)
def Jf:Sp3:=fun ts H Q=>∃N:Nat,ts=[.int (N:Int)]/\N<256/\∀p,H p=none->Q (.ref p) (up3 H p (.lst ((q9 N).map bw)))
def Tf (C:Addr):Sp3:=fun ts H Q=>∃(a:Addr) (W:Wk) (beat:Int),ts=[.ref a,W.enc,.int beat]/\WkOk W/\H a=some (.ins C [])/\∀H',(∀b o,b≠a->H b=some o->H' b=some o)->Wlk C W beat H' a->Q .non H'
def Tg (C:Addr):Sp3:=fun ts H Q=>∃(a:Addr) (W:Wk) (beat:Int) (k d:Nat),ts=[.ref a,.int (k:Int),.int (d:Int)]/\WkOk W/\Wlk C W beat H a/\k<W.row.length/\d<top2 W/\∀p,H p=none->Q (.ref p) (up3 H p (.lst ((fls W beat k d).map bw)))
def Th (C:Addr):Sp3:=fun ts H Q=>∃(a:Addr) (W:Wk) (beat:Int) (fs:List Nat),ts=[.ref a,.tup (fs.map bw)]/\WkOk W/\Wlk C W beat H a/\fs.length<=8/\(∀f∈fs,f<top2 W)/\Q (.tup ((fs.map (pk W)).map sT)) H
section
variable {α:Type}
def cP (k:Nat):List (Nat × α)->Option α
 |[]=>none
 | (k',v)::r=>if k'=k then some v else cP k r
def putN (k:Nat) (v:α) (E:List (Nat × α)):List (Nat × α) :=
 if (E.any fun e=>decide (e.1=k))=true then E.map (fun e=>if e.1=k then (e.1,v) else e) else E++[(k,v)]
def dI (enc:α->T) (E:List (Nat × α)):List (Int × T):=E.map fun e=>((e.1:Int),enc e.2)
theorem Oc (enc:α->T) (E:List (Nat × α)):(dI enc E).length=E.length:=List.length_map _
theorem ph (enc:α->T) (k:Nat):∀E:List (Nat × α),cN (k:Int) (dI enc E)=(cP k E).map enc
 |[]=>rfl
 | (k',v)::r=>by
  have ih:=ph enc k r
  unfold dI at ih ⊢
  rw[List.map_cons]
  unfold cN cP
  by_cases h:k'=k
  ·
   rw[if_pos h,if_pos (show ((k':Nat):Int)=(k:Int) by rw[h])];rfl
  ·
   rw[if_neg h,if_neg (show ¬((k':Nat):Int)=(k:Int) by omega),ih]
theorem Od (enc:α->T) (k:Nat) (v:α) (E:List (Nat × α)):oU (k:Int) (enc v) (dI enc E)=dI enc (putN k v E):=by
 have e1:((dI enc E).any fun kv=>decide (kv.1=(k:Int)))=E.any fun e=>decide (e.1=k):=by unfold dI;rw[List.any_map];congr 1;funext e;show decide ((e.1:Int)=(k:Int))=decide (e.1=k);rw[decide_eq_decide];omega
 unfold oU putN;rw[e1];split
 ·unfold dI;rw[List.map_map,List.map_map];refine List.map_congr_left fun e _=>?_;show (if (e.1:Int)=(k:Int) then ((e.1:Int),enc v) else ((e.1:Int),enc e.2))=_;show _=((((if e.1=k then (e.1,v) else e).1:Nat):Int),enc (if e.1=k then (e.1,v) else e).2);by_cases h:e.1=k
  ·rw[if_pos h,if_pos (by rw[h])]
  rw[if_neg h,if_neg (by omega)]
 unfold dI;rw[List.map_append];rfl
theorem fC {k:Nat}{v:α}:∀{E:List (Nat × α)},cP k E=some v->(k,v)∈E
 | (k',v')::r,h=>by
  unfold cP at h
  by_cases e:k'=k
  ·
   rw[if_pos e] at h;cases h;subst e;exact List.mem_cons_self
  ·
   rw[if_neg e] at h;exact List.mem_cons_of_mem _ (fC h)
theorem lA {k:Nat}:∀{E:List (Nat × α)},cP k E=none->∀e∈E,e.1≠k
 | (k',v')::r,h,e,he=>by
  unfold cP at h
  by_cases z:k'=k
  ·
   rw[if_pos z] at h;cases h
  ·
   rw[if_neg z] at h
   rcases List.mem_cons.mp he with rfl | he
   ·
    exact z
   ·
    exact lA h e he
theorem xR (k:Nat) (v:α) (E:List (Nat × α)):(putN k v E).map (·.1)=if k∈E.map (·.1) then E.map (·.1) else E.map (·.1)++[k]:=by
 have e1:(E.any fun e=>decide (e.1=k))=decide (k∈E.map (·.1)):=by rw[Bool.eq_iff_iff,List.any_eq_true,decide_eq_true_iff,List.mem_map];exact⟨fun ⟨e,h,z⟩=>⟨e,h,of_decide_eq_true z⟩,fun ⟨e,h,z⟩=>⟨e,h,decide_eq_true z⟩⟩
 unfold putN;rw[e1];by_cases h:k∈E.map (·.1)
 ·rw[if_pos h,if_pos (decide_eq_true h),List.map_map];refine List.map_congr_left fun e _=>?_;show (if e.1=k then (e.1,v) else e).1=e.1;split <;> rfl
 rw[if_neg h,if_neg (qN h),List.map_append];rfl
theorem rC {k:Nat}{v:α}{E:List (Nat × α)}{e:Nat × α}(h:e∈putN k v E):e=(k,v)\/(e∈E/\e.1≠k)\/(e∈E/\k∉E.map (·.1)):=by
 unfold putN at h;split at h
 ·obtain⟨x,hx,rfl⟩:=List.mem_map.mp h;by_cases z:x.1=k
  ·rw[if_pos z,z];exact .inl rfl
  rw[if_neg z];exact .inr (.inl ⟨hx,z⟩)
 rename_i hn;rcases List.mem_append.mp h with h | h
 ·refine .inr (.inr ⟨h,fun z=>hn ?_⟩);obtain⟨x,hx,e⟩:=List.mem_map.mp z;exact List.any_eq_true.mpr ⟨x,hx,decide_eq_true e⟩
 exact .inl (List.mem_singleton.mp h)
theorem Bw (k:Nat) (v:α) (E:List (Nat × α)):(k,v)∈putN k v E:=by
 unfold putN;split
 ·rename_i h;obtain⟨x,hx,e⟩:=List.any_eq_true.mp h;refine List.mem_map.mpr ⟨x,hx,?_⟩;have:=of_decide_eq_true e;rw[if_pos this,this]
 exact List.mem_append_right _ (List.mem_singleton.mpr rfl)
theorem Bx {k:Nat}{v:α}{E:List (Nat × α)}{e:Nat × α}(h:e∈E) (hk:e.1≠k):e∈putN k v E:=by
 unfold putN;split
 ·exact List.mem_map.mpr ⟨e,h,if_neg hk⟩
 exact List.mem_append_left _ h
theorem vV {k:Nat}{v:α}{E:List (Nat × α)}(h:(E.map (·.1)).Nodup):((putN k v E).map (·.1)).Nodup:=by
 rw[xR];split
 ·exact h
 rename_i z;exact fK h z
theorem vW {k:Nat}{v:α}:∀{E:List (Nat × α)},(E.map (·.1)).Nodup->(k,v)∈E->cP k E=some v
 | (k',v')::r,nd,h=>by
  rw[List.map_cons,List.nodup_cons] at nd
  unfold cP
  rcases List.mem_cons.mp h with e | h
  ·
   cases e;rw[if_pos rfl]
  ·
   rw[if_neg (fun z=>nd.1 (by rw[z];exact List.mem_map.mpr ⟨_,h,rfl⟩))]
   exact vW nd.2 h
end
abbrev Ev:=List (Nat × Int × List Nat)
def ldN (W:Wk) (i:Nat):Int:=di W.tasks (pk W i)
def stp (W:Wk) (d:Nat) (v:Int × List Nat) (B:Ev) (f:Nat):Ev:=match cP (d+f) B with
 |none=>putN (d+f) (v.1+ldN W f^2,v.2++[f]) B
 |some u=>if v.1+ldN W f^2<u.1 then putN (d+f) (v.1+ldN W f^2,v.2++[f]) B else B
theorem Frw.inv {W:Wk}{beat:Int}{gs:List Nat}{d:Nat}(r:Frw W beat gs d) {k:Nat}(hl:gs.length=k+1):∃fs d' f,gs=fs++[f]/\d=d'+f/\Frw W beat fs d'/\fs.length=k/\f∈fls W beat k d':=by
 cases r with
 |nil=>cases hl
 |@snoc fs d' f r h1 h2 =>
  have:fs.length=k:=by rw[List.length_append] at hl;simp at hl;exact hl
  exact⟨fs,d',f,rfl,rfl,r,this,by rw[<- this];exact h2⟩
theorem Frw.nil0 {W:Wk}{beat:Int}{gs:List Nat}{d:Nat}(r:Frw W beat gs d) (h:gs=[]):d=0:=by
 cases r with
 |nil=>rfl
 |@snoc fs d' f r h1 h2=>exact absurd h (by simp)
theorem GC {W:Wk}{beat:Int}{k d f:Nat}(hW:WkOk W) (hd:d<top2 W) (hf:f∈fls W beat k d):d+f<top2 W:=by
 obtain⟨hft,F⟩:=fls_mem.mp hf;have e:d+f=bH (nm W) (pk W d++pk W f):=by rw[<- gF _ _ _ fun x hx z=>F.apart hx z.2 z.1,dD hW hd,dD hW hft]
 rw[e];exact jT _
theorem Wlk.frz {C:Addr}{W:Wk}{beat:Int}{H:Hp3}{a q:Addr}{o:O3}{E:List (Int × T)}(h:Wlk C W beat H a) (hq:H q=some (.dci E)):Wlk C W beat (up3 H q o) a:=by
 obtain⟨p,h1,h2⟩:=h.ex;exact⟨p,by rw[aC (ne3 h1 hq (by simp))];exact h1,by rw[aC (ne3 h2 hq (by simp))];exact h2⟩
def Kb1 (pb:Addr) (H H':Hp3):Prop:=∀b u,b≠pb->H b=some u->H' b=some u
theorem Kb1.refl {pb:Addr}{H:Hp3}:Kb1 pb H H:=fun _ _ _ h=>h
theorem Kb1.new {pb p:Addr}{H H':Hp3}{o:O3}(k:Kb1 pb H H') (hp:H' p=none):Kb1 pb H (up3 H' p o):=fun b u hb h=>by rw[aC (bf (k b u hb h) hp)];exact k b u hb h
theorem Kb1.put {pb:Addr}{H H':Hp3}{o:O3}(k:Kb1 pb H H'):Kb1 pb H (up3 H' pb o):=fun b u hb h=>by rw[aC hb];exact k b u hb h
theorem Kb1.wlk {C:Addr}{W:Wk}{beat:Int}{pb a:Addr}{H H':Hp3}(k:Kb1 pb H H') (hp:H pb=none) (h:Wlk C W beat H a):Wlk C W beat H' a:=by
 obtain⟨p,h1,h2⟩:=h.ex;exact⟨p,k _ _ (bf h1 hp) h1,k _ _ (bf h2 hp) h2⟩
def gfl (W:Wk) (beat:Int) (k d:Nat):List Nat:=(gre bA (fls W beat k d)).reverse
theorem pA {W:Wk}{beat:Int}{k d f:Nat}(h:f∈gfl W beat k d):f∈fls W beat k d:=o8 _ _ (List.mem_reverse.mp h)
theorem GD {W:Wk}{beat:Int}{k d f:Nat}(h:f∈fls W beat k d):∃g∈gfl W beat k d,bA g f=true:=by
 obtain⟨g,hg,e⟩:=vQ xP _ f h;exact⟨g,List.mem_reverse.mpr hg,e⟩
theorem By {W:Wk}{t x:Str}(h:x∈fj W t) (ht:t∈nm W):t∈fj W x:=by
 unfold fj at h ⊢;rw[List.mem_filter,@decide_eq_true_iff _ (Classical.propDecidable _)] at h ⊢;exact⟨ht,h.2.2,h.2.1⟩
theorem Frw.grp {W:Wk}{beat:Int}{fs:List Nat}{d:Nat}(hW:WkOk W) (r:Frw W beat fs d) {t x:Str}(ht:t∈pk W d) (hx:x∈fj W t):x∈pk W d:=by
 obtain⟨_,_,hm,hF,_⟩:=r.ok hW;obtain⟨s,hs,hts⟩:=List.mem_flatten.mp ((hm t).mp ht);obtain⟨j,hj⟩:=List.getElem?_of_mem hs;obtain⟨u,hu,eu⟩:=List.mem_map.mp (gD ht);have f:=(hF j s hj).one u hu (by rw[eu];exact hts);exact (hm x).mpr (List.mem_flatten.mpr ⟨s,hs,f.2.2.1 x (by rw[eu];exact hx)⟩)
theorem uA {ts:List (Str × Int × List Str)}{S S':List Str}(hp:∀t∈ts,0<=t.2.1) (h:∀x∈S',x∈S):di ts S'<=di ts S:=by
 unfold di;induction ts with
 |nil=>exact Int.le_refl _
 |cons t r ih =>
  have i:=ih fun u hu=>hp u (List.mem_cons_of_mem _ hu)
  have h0:=hp t List.mem_cons_self
  rw[List.filter_cons,List.filter_cons]
  by_cases h1:t.1∈S'
  ·
   rw[if_pos (decide_eq_true h1),if_pos (decide_eq_true (h _ h1)),List.map_cons,List.map_cons,List.sum_cons,List.sum_cons]
   omega
  ·
   rw[if_neg (qN h1)]
   by_cases h2:t.1∈S
   ·
    rw[if_pos (decide_eq_true h2),List.map_cons,List.sum_cons];omega
   ·
    rw[if_neg (qN h2)];exact i
theorem Fil.more {W:Wk}{beat:Int}{kind:Str}{D S D':List Str}(hW:WkOk W) (f:Fil W beat kind D S) (hD:∀x∈D,x∈D') (hg:∀t x,t∈D'->x∈fj W t->x∈D'):Fil W beat kind D' (S.filter fun x=>decide (x∉D')) :=
 ⟨fun t ht hs=>by
  rw[List.mem_filter,decide_eq_true_iff] at hs
  obtain⟨h1,h2,h3,h4,h5⟩:=f.one t ht hs.1
  refine⟨hs.2,h2,fun x hx=>?_,fun x hx=>?_,fun x hx z=>h5 x hx (List.mem_filter.mp z).1⟩
  ·
   rw[List.mem_filter,decide_eq_true_iff]
   exact⟨h3 x hx,fun z=>hs.2 (hg x t.1 z (By hx (List.mem_map.mpr ⟨t,ht,rfl⟩)))⟩
  ·
   by_cases z:x∈D'
   ·
    exact .inr z
   ·
    exact .inl (List.mem_filter.mpr ⟨(h4 x hx).resolve_right fun q=>z (hD x q),decide_eq_true z⟩),
  Int.le_trans (uA (fun t ht=>by have:=(hW.tk t ht).lo;omega) fun x hx=>(List.mem_filter.mp hx).1) f.ld⟩
abbrev Wy:=List (Nat × List Nat)
def gW (d:Nat) (v:List Nat) (B:Wy) (f:Nat):Wy:=match cP (d+f) B with
 |none=>putN (d+f) (v++[f]) B
 |some _=>B
def wbh (W:Wk) (beat:Int) (k:Nat) (E:Wy):Wy:=E.foldl (fun B e=>(gfl W beat k e.1).foldl (gW e.1 e.2) B) []
def wys (W:Wk) (beat:Int):Nat->Wy
 |0=>[(0,[])]
 |k+1=>wbh W beat k (wys W beat k)
structure Wtb (W:Wk) (beat:Int) (k:Nat) (E:Wy):Prop where
 nd:(E.map (·.1)).Nodup
 ok:∀e∈E,Frw W beat e.2 e.1/\e.2.length=k
 al:∀fs d,Frw W beat fs d->fs.length=k->∃e∈E,∀x∈pk W d,x∈pk W e.1
structure WtI (W:Wk) (beat:Int) (k:Nat) (sub:Nat->Nat->Prop) (B:Wy):Prop where
 nd:(B.map (·.1)).Nodup
 ok:∀e∈B,Frw W beat e.2 e.1/\e.2.length=k+1
 al:∀d f,sub d f->∃e∈B,e.1=d+f
theorem WtI.step {W:Wk}{beat:Int}{k:Nat}{sub:Nat->Nat->Prop}{B:Wy}{d:Nat}{v:List Nat}{f:Nat}(h:WtI W beat k sub B) (hr:Frw W beat v d) (hl:v.length=k) (hk:k<W.row.length) (hf:f∈fls W beat k d) :
  WtI W beat k (fun d' f'=>sub d' f'\/(d'=d/\f'=f)) (gW d v B f):=by
 have new:Frw W beat (v++[f]) (d+f)/\(v++[f]).length=k+1 :=
  ⟨.snoc hr (by omega) (by rw[hl];exact hf),by rw[List.length_append,hl];rfl⟩
 unfold gW;cases e:cP (d+f) B with
 |none =>
  refine⟨vV h.nd,fun x hx=>?_,fun d' f' hs=>?_⟩
  ·rcases rC hx with rfl | ⟨hx,_⟩ | ⟨hx,_⟩
   ·exact new
   ·exact h.ok x hx
   exact h.ok x hx
  rcases hs with hs | ⟨rfl,rfl⟩
  ·obtain⟨x,hx,e1⟩:=h.al d' f' hs;exact⟨x,Bx hx (lA e x hx),e1⟩
  exact⟨_,Bw _ _ _,rfl⟩
 |some u =>
 refine⟨h.nd,h.ok,fun d' f' hs=>?_⟩;rcases hs with hs | ⟨rfl,rfl⟩
 ·exact h.al d' f' hs
 exact⟨_,fC e,rfl⟩
theorem WtI.inner {W:Wk}{beat:Int}{k:Nat}{sub:Nat->Nat->Prop}{B:Wy}{d:Nat}{v:List Nat}(hr:Frw W beat v d) (hl:v.length=k) (hk:k<W.row.length) :
  ∀{xs:List Nat},(∀f∈xs,f∈fls W beat k d)->WtI W beat k sub B->WtI W beat k (fun d' f'=>sub d' f'\/(d'=d/\f'∈xs)) (xs.foldl (gW d v) B):=by
 intro xs;induction xs generalizing sub B with
 |nil=>intro _ h;exact⟨h.nd,h.ok,fun d' f' hs=>h.al d' f' (hs.resolve_right fun z=>nomatch z.2)⟩
 |cons f r ih =>
 intro hx h;have h1:=ih (fun g hg=>hx g (List.mem_cons_of_mem _ hg)) (h.step hr hl hk (hx f List.mem_cons_self));refine⟨h1.nd,h1.ok,fun d' f' hs=>h1.al d' f' ?_⟩;rcases hs with hs | ⟨e1,e3⟩
 ·exact .inl (.inl hs)
 rcases List.mem_cons.mp e3 with e3 | e3
 ·exact .inl (.inr ⟨e1,e3⟩)
 exact .inr ⟨e1,e3⟩
theorem WtI.outer {W:Wk}{beat:Int}{k:Nat}(hk:k<W.row.length):∀{xs:Wy}{sub:Nat->Nat->Prop}{B:Wy},(∀e∈xs,Frw W beat e.2 e.1/\e.2.length=k)->WtI W beat k sub B ->
  WtI W beat k (fun d f=>sub d f\/((∃v,(d,v)∈xs)/\f∈gfl W beat k d)) (xs.foldl (fun B e=>(gfl W beat k e.1).foldl (gW e.1 e.2) B) B)
 |[],_,_,_,h=>⟨h.nd,h.ok,fun d f hs=>h.al d f (hs.resolve_right fun z=>z.1.elim fun _ q=>nomatch q)⟩
 |e::r,sub,B,hx,h=>by
  obtain⟨h1,h2⟩:=hx e List.mem_cons_self
  have q:=WtI.outer hk (xs:=r) (fun x hxr=>hx x (List.mem_cons_of_mem _ hxr)) (WtI.inner (xs:=gfl W beat k e.1) h1 h2 hk (fun f hf=>pA hf) h)
  refine⟨q.nd,q.ok,fun d f hs=>q.al d f ?_⟩
  rcases hs with hs | ⟨⟨v,e1⟩,e2⟩
  ·
   exact .inl (.inl hs)
  ·
   rcases List.mem_cons.mp e1 with z | z
   ·
    rw[<- z] at *
    exact .inl (.inr ⟨rfl,e2⟩)
   ·
    exact .inr ⟨⟨v,z⟩,e2⟩
theorem BJ {W:Wk}{beat:Int}{k d f:Nat}(hW:WkOk W) (hd:d<top2 W) (hf:f∈fls W beat k d) {x:Str}:x∈pk W (d+f)↔x∈pk W d\/x∈pk W f:=by
 obtain⟨hft,F⟩:=fls_mem.mp hf;have e:d+f=bH (nm W) (pk W d++pk W f):=by rw[<- gF _ _ _ fun x hx z=>F.apart hx z.2 z.1,dD hW hd,dD hW hft]
 rw[e,jo hW,List.mem_append];exact⟨fun z=>z.2,fun z=>⟨z.elim gD gD,z⟩⟩
theorem BK {W:Wk}{beat:Int}{k:Nat}{E:Wy}(hW:WkOk W) (h:Wtb W beat k E) (hk:k<W.row.length):Wtb W beat (k+1) (wbh W beat k E):=by
 have q:=WtI.outer (W:=W) (beat:=beat) hk (xs:=E) (sub:=fun _ _=>False) (B:=[]) h.ok ⟨List.nodup_nil,fun _ z=>(nomatch z),fun _ _ z=>z.elim⟩;refine⟨q.nd,q.ok,fun fs d r hl=>?_⟩;obtain⟨gs,d',f,rfl,rfl,r',hl',hf⟩:=r.inv hl;obtain⟨e,he,e1⟩:=h.al gs d' r' hl';have re:=(h.ok e he).1;have hde:=(re.ok hW).1;obtain⟨hft,F⟩:=fls_mem.mp hf;have F':=F.more hW e1 fun t x ht hx=>re.grp hW ht hx;have hf':bH (nm W) ((pk W f).filter fun x=>decide (x∉pk W e.1))∈fls W beat k e.1:=fls_mem.mpr ⟨jT _,F'.congr (fun x=>Iff.rfl) fun x=>by rw[jo hW];exact⟨fun z=>⟨gD (List.mem_filter.mp z).1,z⟩,fun z=>z.2⟩⟩;obtain⟨g,hg,eg⟩:=GD hf';have hgf:=pA hg;obtain⟨x,hx,x1⟩:=q.al e.1 g (.inr ⟨⟨e.2,he⟩,hg⟩);have hgt:=(fls_mem.mp hgf).1;refine⟨x,hx,fun y hy=>?_⟩;rw[x1,BJ hW hde hgf];rcases (BJ hW (r'.ok hW).1 hf).mp hy with z | z
 ·exact .inl (e1 y z)
 by_cases c:y∈pk W e.1
 ·exact .inl c
 refine .inr ?_;rw[<- dD hW hgt,q8] at eg;exact eg y (gD z) (List.mem_filter.mpr ⟨z,decide_eq_true c⟩)
theorem wtb {W:Wk}{beat:Int}(hW:WkOk W):∀{k:Nat},k<=W.row.length->Wtb W beat k (wys W beat k)
 |0,_=>⟨by simp [wys],fun e he=>by rw[List.mem_singleton.mp he];exact⟨.nil,rfl⟩,fun fs d r hl=>by
   refine⟨(0,[]),List.mem_singleton.mpr rfl,fun x hx=>?_⟩
   rw[r.nil0 (List.length_eq_zero_iff.mp hl)] at hx
   exact hx⟩
 |k+1,h=>BK hW (wtb hW (by omega)) (by omega)
structure WOk (W:Wk) (n:Nat) (E:Wy):Prop where
 nd:(E.map (·.1)).Nodup
 lt:∀e∈E,e.1<top2 W/\e.2.length<=n/\∀f∈e.2,f<top2 W
theorem WOk.len {W:Wk}{n:Nat}{E:Wy}(h:WOk W n E):E.length<=top2 W:=by
 have:=o5 (l:=E.map (·.1)) (m:=List.range (top2 W)) h.nd fun x hx=>by obtain⟨e,he,rfl⟩:=List.mem_map.mp hx;exact List.mem_range.mpr (h.lt e he).1
 rwa [List.length_map,List.length_range] at this
theorem WOk.stp {W:Wk}{beat:Int}{k n d f:Nat}{v:List Nat}{B:Wy}(hW:WkOk W) (h:WOk W (n+1) B) (hd:d<top2 W) (hv:v.length<=n) (hvt:∀f∈v,f<top2 W) (hf:f∈fls W beat k d):WOk W (n+1) (gW d v B f):=by
 unfold gW;split
 ·refine⟨vV h.nd,fun x hx=>?_⟩;rcases rC hx with rfl | ⟨hx,_⟩ | ⟨hx,_⟩
  ·refine⟨GC hW hd hf,by rw[List.length_append];simp;exact hv,fun g hg=>?_⟩;rcases List.mem_append.mp hg with hg | hg
   ·exact hvt g hg
   rw[List.mem_singleton.mp hg];exact (fls_mem.mp hf).1
  ·exact h.lt x hx
  exact h.lt x hx
 exact h
theorem Wtb.wok {W:Wk}{beat:Int}{k:Nat}{E:Wy}(hW:WkOk W) (h:Wtb W beat k E):WOk W k E:=⟨h.nd,fun e he=>by
 obtain⟨r,hl⟩:=h.ok e he;obtain⟨h1,_,_,_,h5⟩:=r.ok hW;exact⟨h1,by omega,h5⟩⟩
theorem GF {W:Wk}{beat:Int}(hW:WkOk W) {m:Nat}(hm:m<=W.row.length):(cP (top2 W - 1) (wys W beat m)).isSome=true↔∃fs,Frw W beat fs (top2 W - 1)/\fs.length=m:=by
 have T:=wtb (beat:=beat) hW hm;constructor
 ·intro h;obtain⟨v,e⟩:=Option.isSome_iff_exists.mp h;have:=T.ok _ (fC e);exact⟨v,this.1,this.2⟩
 rintro⟨fs,r,hl⟩;obtain⟨e,he,h⟩:=T.al fs _ r hl;have e1:e.1=top2 W - 1:=by rw[<- dD hW ((T.ok e he).1.ok hW).1];exact jq fun x hx=>h x (nA hW x hx)
 have:=vW T.nd (show (e.1,e.2)∈wys W beat m from he);rw[e1] at this;rw[this];rfl
def wyT (v:List Nat):T:=.tup (v.map bw)
def wyE (e:Nat × List Nat):T:=.tup [.int (e.1:Int),wyT e.2]
theorem Ti (E:Wy):(dI wyT E).map itT=E.map wyE:=by unfold dI;rw[List.map_map];rfl
def wbF (W:Wk) (beat:Int) (k:Nat) (B:Wy) (e:Nat × List Nat):Wy:=(gfl W beat k e.1).foldl (gW e.1 e.2) B
def Tj:Sp3:=fun ts H Q=>∃(a:Addr) (fs:List Nat),ts=[.ref a]/\H a=some (.lst (fs.map bw))/\fs.length<=256/\∀p,H p=none->Q (.ref p) (up3 H p (.lst ((gre bA fs).reverse.map bw)))
theorem pB {α:Type}(has:α->α->Bool):∀xs:List α,(gre has xs).length<=xs.length
 |[]=>Nat.le_refl _
 |n::B=>by
  have:=pB has B
  unfold gre
  split
  ·
   rw[List.length_cons];omega
  ·
   rw[List.length_append,List.length_cons];simp only[List.length_cons,List.length_nil];omega
def Tn (C:Addr):Sp3:=fun ts H Q=>∃(a:Addr) (W:Wk) (beat:Int) (k d:Nat),ts=[.ref a,.int (k:Int),.int (d:Int)]/\WkOk W/\Wlk C W beat H a/\k<W.row.length/\d<top2 W/\∀p,H p=none->Q (.ref p) (up3 H p (.lst ((gfl W beat k d).map bw)))
def Tp (C:Addr):Sp3:=fun ts H Q=>∃(a q:Addr) (W:Wk) (beat:Int) (k n:Nat) (E:Wy),ts=[.ref a,.int (k:Int),.ref q]/\WkOk W/\Wlk C W beat H a/\k<W.row.length/\n<=8/\WOk W n E/\H q=some (.dci (dI wyT E))/\∀o p,H p=none->Q (.ref p) (up3 (up3 H q (.dif o (dI wyT E))) p (.dci (dI wyT (wbh W beat k E))))
def dtT (W:Wk) (beat:Int) (m:Nat):T:=match cP (top2 W - 1) (wys W beat m) with
 |none=>.non
 |some v=>.tup ((v.map (pk W)).map sT)
def Tq:Sp3:=fun ts H Q=>∃(W:Wk) (beat:Int) (m:Nat),ts=[W.enc,.int beat,.int (m:Int)]/\WkOk W/\m<=W.row.length/\Q (dtT W beat m) H
structure Hol (W:Wk) (f:Str->Nat):Prop where
 ord:∀o∈W.orders,f o.1<=f o.2
 pai:∀p∈W.pairs,f p.2.1=f p.2.2↔p.1="with"
 kin:∀t∈W.tasks,jJ t.2.2 (W.row.getD (f t.1) "")=true
theorem Hol.congr {W:Wk}{f g:Str->Nat}(hW:WkOk W) (h:Hol W f) (e:∀n∈nm W,f n=g n):Hol W g :=
 ⟨fun o ho=>by
  have q:=hW.oo o ho
  rw[<- e _ q.2.1,<- e _ q.2.2];exact h.ord o ho,fun p hp=>by
  have q:=hW.pp p hp
  rw[<- e _ q.2.2.1,<- e _ q.2.2.2];exact h.pai p hp,fun t ht=>by
  rw[<- e _ (List.mem_map.mpr ⟨t,ht,rfl⟩)];exact h.kin t ht⟩
def ldF (ts:List (Str × Int × List Str)) (f:Str->Nat) (k:Nat):Int:=((ts.filter fun t=>decide (f t.1=k)).map (·.2.1)).sum
def lds (W:Wk) (f:Str->Nat) (m:Nat):List Int:=(List.range m).map (ldF W.tasks f)
theorem rD (A:List (Str × Int × List Str)) (t:Str × Int × List Str) (f:Str->Nat) (k:Nat):ldF (A++[t]) f k=ldF A f k+if f t.1=k then t.2.1 else 0:=by
 unfold ldF;rw[List.filter_append,List.map_append,List.sum_append];by_cases h:f t.1=k <;> simp [h]
theorem vX {A:List (Str × Int × List Str)}{t:Str × Int × List Str}{f:Str->Nat}{m:Nat}(h:f t.1<m):((List.range m).map (ldF A f)).set (f t.1) (ldF A f (f t.1)+t.2.1)=(List.range m).map (ldF (A++[t]) f):=by
 apply List.ext_getElem?;intro i;by_cases hi:i<m
 ·rw[List.getElem?_map,List.getElem?_range hi];by_cases e:i=f t.1
  ·subst e;rw[List.getElem?_set_self (by rw[List.length_map,List.length_range];exact hi),Option.map_some,rD,if_pos rfl]
  rw[List.getElem?_set_ne (Ne.symm e),List.getElem?_map,List.getElem?_range hi,Option.map_some,Option.map_some,rD,if_neg (Ne.symm e),Int.add_zero]
 rw[List.getElem?_eq_none (by rw[List.length_set,List.length_map,List.length_range];omega),List.getElem?_eq_none (by rw[List.length_map,List.length_range];omega)]
theorem BL {ns:List Str}{f:Str->Nat}{m k:Nat}(hk:k<m):(dealt ns f m)[k]?=some (ns.filter fun n=>decide (f n=k)):=by
 unfold dealt;rw[List.getElem?_map,List.getElem?_range hk];rfl
theorem BP {W:Wk}{f:Str->Nat}{m:Nat}(hW:WkOk W) (hm:m<=W.row.length) (hf:∀n,f n<m):∀n∈nm W,fD (dealt (nm W) f m) n=f n:=fun n hn =>
 eV (jn hW (List.Perm.refl _) hm hf).nd (BL (hf n)) (List.mem_filter.mpr ⟨hn,decide_eq_true rfl⟩)
theorem lB {W:Wk}{f:Str->Nat}{k:Nat}:di W.tasks ((nm W).filter fun n=>decide (f n=k))=ldF W.tasks f k:=by
 have e:(W.tasks.filter fun t=>decide (t.1∈(nm W).filter fun n=>decide (f n=k)))=W.tasks.filter fun t=>decide (f t.1=k):=List.filter_congr fun t ht=>by rw[decide_eq_decide,List.mem_filter,decide_eq_true_iff];exact⟨fun z=>z.2,fun z=>⟨List.mem_map.mpr ⟨t,ht,rfl⟩,z⟩⟩
 unfold di ldF;rw[e]
theorem BR {W:Wk}{beat:Int}{f:Str->Nat}{m:Nat}(hW:WkOk W) (hm:m<=W.row.length) (hf:∀n,f n<m) (h:Hol W f) (hb:∀l∈lds W f m,l<=beat):Fils W beat (dealt (nm W) f m):=by
 have ok:Dok W (dealt (nm W) f m):=jn (W:=W) hW (List.Perm.refl _) hm hf;have e:=BP hW hm hf;have h2:=h.congr hW (g:=fD (dealt (nm W) f m)) fun n hn=>(e n hn).symm;refine (qZ hW ok).mp ⟨h2.ord,h2.pai,fun k s ek t ht hs=>?_,fun s hs=>?_⟩
 ·have:=eV ok.nd ek hs;have:=h2.kin t ht
  rwa [eV ok.nd ek hs] at this
 obtain⟨k,hk,rfl⟩:=List.mem_map.mp hs;show di W.tasks ((nm W).filter fun n=>decide (f n=k))<=beat
 rw[lB];exact hb _ (List.mem_map.mpr ⟨k,hk,rfl⟩)
variable {f:Str->Str}{W W2:Wk}
theorem BV {x y:Str}(h:x.cps.toList=y.cps.toList):x=y:=by cases x;cases y;simp at h;simp [h]
theorem BW {x y:Str}(h:leS x y) (g:leS y x):x=y:=BV (PyProof.Rows.KeyOrd.kle_antisymm h g)
theorem GJ {g u v:List Str}(h1:u.Perm g) (h2:u.Pairwise leS) (h3:v.Perm g) (h4:v.Pairwise leS):u=v :=
 (h1.trans h3.symm).eq_of_pairwise (fun a b _ _ h5 h6=>BW h5 h6) h2 h4
theorem BX:∀(xs ks:List Str),(ks++xs).Nodup->kst ks xs=ks++xs
 |[],ks,_=>(List.append_nil ks).symm
 |n::r,ks,h=>by
  show kst (jK ks n) r=_
  have hn:n∉ks:=fun z=>by rw[List.nodup_append] at h;exact h.2.2 n z n List.mem_cons_self rfl
  unfold jK
  rw[if_neg hn,BX r (ks++[n]) (by rw[List.append_assoc];exact h),List.append_assoc]
  rfl
theorem Tr {D:List (List Str)}(h:D.flatten.Nodup):kD D=D.flatten:=by
 unfold kD;rw[BX _ _ (by simpa using h)];rfl
theorem Dok.pm {W:Wk}{D:List (List Str)}(hW:WkOk W) (h:Dok W D):D.flatten.Perm (nm W):=(List.perm_ext_iff_of_nodup h.nd hW.nd).mpr fun a=>⟨h.st a,h.al a⟩
theorem Dok.fl {W:Wk}{D:List (List Str)}(hW:WkOk W) (h:Dok W D):D.flatten.length<=8:=by
 rw[(h.pm hW).length_eq,dZ];exact hW.t8
theorem Dok.lt {W:Wk}{D:List (List Str)}(h:Dok W D) {n:Str}(hn:n∈nm W):fD D n<D.length:=by
 obtain⟨k,s,e,hs⟩:=iY (h.al n hn);rw[eV h.nd e hs];rcases Nat.lt_or_ge k D.length with z | z
 ·exact z
 rw[List.getElem?_eq_none z] at e;cases e
theorem Dok.ldF {W:Wk}{D:List (List Str)}{k:Nat}{s:List Str}(h:Dok W D) (e:D[k]?=some s):di W.tasks s=ldF W.tasks (fD D) k:=by
 rw[<- lB];refine jD fun x=>?_;rw[List.mem_filter,decide_eq_true_iff];constructor
 ·intro hx;exact⟨h.st x (List.mem_flatten.mpr ⟨s,List.mem_of_getElem? e,hx⟩),eV h.nd e hx⟩
 rintro⟨hx,hk⟩;obtain⟨k2,s2,e2,hs⟩:=iY (h.al x hx);have:=eV h.nd e2 hs;rw[hk] at this;subst this;rw[e] at e2;cases e2;exact hs
theorem Rgt.lds {W:Wk}{beat:Int}{D:List (List Str)}(h:Dok W D) (r:Rgt W beat D (fD D)):∀l∈lds W (fD D) D.length,l<=beat:=fun l hl=>by
 obtain⟨k,hk,rfl⟩:=List.mem_map.mp hl;have e:=List.getElem?_eq_getElem (List.mem_range.mp hk);rw[<- h.ldF e];exact r.bea _ (List.getElem_mem _)
theorem Rgt.kd {W:Wk}{beat:Int}{D:List (List Str)}(h:Dok W D) (r:Rgt W beat D (fD D)) {t:Str × Int × List Str}(ht:t∈W.tasks):jJ t.2.2 (W.row.getD (fD D t.1) "")=true:=by
 obtain⟨k,s,e,hs⟩:=iY (h.al t.1 (List.mem_map.mpr ⟨t,ht,rfl⟩));rw[eV h.nd e hs];exact r.kin k s e t ht hs
theorem GK (ns:List Str) (f:Str->Nat):(dN ns f).map (·.1)=ns:=by
 unfold dN;rw[List.map_map];exact List.map_id'' (fun _=>rfl) ns
theorem GP (f:Str->Nat) (n:Nat):(List.replicate n [T.int 0]).flatten=((List.range n).map (ldF ([]:List (Str × Int × List Str)) f)).map T.int:=by
 induction n with
 |zero=>rfl
 |succ n ih =>
 rw[List.replicate_succ',List.flatten_append,ih,List.range_succ,List.map_append,List.map_append];rfl
def Tt:Sp3:=fun ts H Q=>∃(W:Wk) (beat:Int) (D:List (List Str)),ts=[W.enc,.int beat,.tup (D.map sT)]/\WkOk W/\Dok W D/\Rgt W beat D (fD D)/\Q (.bl true) H
def Tu:Sp3:=fun ts H Q=>∃(W:Wk) (beat:Int) (m:Nat) (D:List (List Str)),ts=[W.enc,.int beat,.int (m:Int),.tup (D.map sT)]/\WkOk W/\D.length=m/\(∀s∈D,(nm W).filter (fun n=>decide (n∈s))=s)/\Dok W D/\Rgt W beat D (fD D)/\Q (.bl true) H
section
variable {X:Cx}
theorem GQ:OpR X (binaryOp .Add) (fun x y H Q=>∃l b xs zs,x=.ref l/\y=.ref b/\SqL X.K H l xs/\H b=some (.lst zs)/\xs.length+zs.length<=sizeLine/\∀p,H p=none->Q (.ref p) (upd H p (.lst (xs++zs)))):=by
 intro pins s Z H x y v u Q I rx ry h;obtain⟨l,b,xs,zs,rfl,rfl,hH,hB,hz,q⟩:=h;cases rx;cases ry;obtain⟨its,r,⟨⟨cls,dd,data,sl⟩,n,e,hc,hd,hs⟩,hl⟩:=I.list hH;obtain⟨z2,its2,n2,r2,hl2,e2⟩:=I.lstM hB;simp only at hc hd hs;subst hc hd hs;have hl1:=r.length;refine concat_meets ⟨_,e,rfl⟩ ⟨_,e2,rfl⟩ noFill_list_add seq_list_add PySem.F.slot_list_add PySem.F.entry_list_add (PySem.F.args_list_add_2 _ _) (list_addW l b its.toArray its2.toArray n n2 none none sl #[] (by rw[List.size_toArray,List.size_toArray];omega)) ⟨e,e2,?_⟩;have ea:its.toArray++its2.toArray=(its++its2).toArray:=by simp
 rw[ea];exact⟨.ref _,_,I.lnew (t':=s.toks) (r.append r2) (by rw[List.length_append];omega),rfl,q _ I.fresh⟩
def Oe (o u:Option O3) (H:Hp3) (Q:VK3):Prop:=match o,u with
 |some (.rol xs),some (.lst ys)=>xs.length+ys.length<=sizeLine/\∀p,H p=none->Q (.ref p) (up3 H p (.lst (xs++ys)))
 |_,_=>False
def BZ:R3:=fun x y H Q=>match x,y with
 |.ref a,.ref b=>Oe (H a) (H b) H Q
 |_,_=>False
theorem Og (a b:Addr) {H:Hp3}{Q:VK3}:BZ (.ref a) (.ref b) H Q=Oe (H a) (H b) H Q:=rfl
theorem Ca (xs ys:List T) {H:Hp3}{Q:VK3}:Oe (some (.rol xs)) (some (.lst ys)) H Q=(xs.length+ys.length<=sizeLine/\∀p,H p=none->Q (.ref p) (up3 H p (.lst (xs++ys)))):=rfl
theorem vY:dJ X (binaryOp .Add) BZ:=by
 refine OpR.imp GQ ?_;rintro x y H Q ⟨tx,ty,H3,Q3,rx,ry,sh,h,k⟩;cases tx with
 |ref a =>
  cases ty with
  |ref b =>
   have h':(match H3 a,H3 b with
    |some (.rol xs),some (.lst ys)=>xs.length+ys.length<=sizeLine/\∀p,H3 p=none->Q3 (.ref p) (up3 H3 p (.lst (xs++ys)))
    |_,_=>False):=h
   split at h'
   ·
    rename_i xs ys e1 e2
    obtain⟨vs,g1,r1⟩:=sh.sqL (.inr e1)
    obtain⟨ws,g2,r2⟩:=sh b _ e2
    refine⟨a,b,vs,ws,rx.ref,ry.ref,g1,g2,by rw[<- r1.length,<- r2.length];exact h'.1,fun p hp=>?_⟩
    exact k _ _ _ _ (aJ hp) (sh.newLst hp (r1.append r2)) .ofRef (h'.2 p (sh.fresh hp))
   ·
    exact h'.elim
  |_=>exact h.elim
 |_=>exact h.elim
def rvO (o:Option O3) (a:Addr) (H:Hp3) (Q:VK3):Prop:=match o with
 |some (.lst xs)=>Q .non (up3 H a (.lst xs.reverse))
 |_=>False
def Jg:T->List T->Hp3->VK3->Prop:=fun x ts H Q=>match x,ts with
 |.ref a,[]=>rvO (H a) a H Q
 |_,_=>False
theorem Tv (a:Addr) {H:Hp3}{Q:VK3}:Jg (.ref a) [] H Q=rvO (H a) a H Q:=rfl
theorem Tw (xs:List T) (a:Addr) {H:Hp3}{Q:VK3}:rvO (some (.lst xs)) a H Q=Q .non (up3 H a (.lst xs.reverse)):=rfl
theorem Cd:yG X "list.reverse" Jg:=by
 refine MtR.imp sU ?_;rintro x xs H Q ⟨tx,ts,H3,Q3,rx,rs,sh,h,k⟩
 match tx,ts,h,rx,rs with
 |.ref a,[],h,rx,rs =>
  have h':rvO (H3 a) a H3 Q3:=h
  cases e:H3 a with
  |none=>rw[e] at h';exact h'.elim
  |some o =>
   rw[e] at h'
   cases o with
   |lst ls =>
    obtain⟨ys,hH,r⟩:=sh a _ e
    exact⟨a,ys,rx.ref,rs.inv0,hH,k _ _ _ _ (bN (by rw[hH];exact trivial)) (sh.wrL hH r.reverse) .ofNon h'⟩
   |_=>exact h'.elim
end
theorem Oh (ts:List T) (i:Int) {H:Hp3}{Q:VK3}:ixH (some (.rol ts)) i H Q=oq (atI ts i) fun t=>Q t H:=rfl
theorem Oi (xs:List T) {H:Hp3}{Q:VK3}:lnH (some (.rol xs)) H Q=Q (.int xs.length) H:=rfl
def GR:Sp3:=fun ts H Q=>∃(a:Addr) (ns:List Int) (k:Nat),ts=[.ref a,.int (k:Int)]/\H a=some (.rol (ns.map T.int))/\ns.length<=63/\k<64/\∀c:Int,Q (.int c) H
def Oj:Sp3:=fun ts H Q=>∃c:Int,ts=[.int c]/\∀x,isNm x->Q (.str x) H
theorem pC {ns:List Int}{i:Nat}(h:i<ns.length):∃c:Int,atI (ns.map T.int) (i:Int)=some (T.int c):=⟨ns[i],by rw[bV (by rw[List.getElem?_map,List.getElem?_eq_getElem h];rfl)]⟩
theorem rE {x:Str}{xs:List Str}:du false (T.str x) (xs.map T.str)=decide (x∈xs):=by
 unfold du;rw[if_neg Bool.false_ne_true,decide_eq_decide,List.mem_map];exact⟨fun ⟨y,h,e⟩=>by cases e;exact h,fun h=>⟨x,h,rfl⟩⟩
def Ol:Sp3:=fun ts H Q=>∃(a:Addr) (ws:List Str),ts=[.ref a]/\H a=some (.lst (ws.map T.str))/\ws.length<=8/\(∀x∈ws,isNm x)/\∀us:List Str,us.length=ws.length->Nms us->∀p,H p=none->Q (.ref p) (up3 H p (.lst (us.map T.str)))
def nmL (b:List Nat) (s i:Nat):Str:=mkS (b++[97+(s+i)%26])
theorem Om {b:List Nat}{s i:Nat}(h:b.length<=7) (az:∀c∈b,97<=c/\c<=122):isNm (nmL b s i):=by
 refine Jc (by rw[List.length_append];simp) (by rw[List.length_append];simp;exact h) fun c hc=>?_;rcases List.mem_append.mp hc with hc | hc
 ·exact az c hc
 rw[List.mem_singleton.mp hc];have:=Nat.mod_lt (s+i) (show 0<26 by decide);omega
theorem GX {b:List Nat}{s i j:Nat}(hi:i<26) (hj:j<26) (h:nmL b s i=nmL b s j):i=j:=by
 have e:=Gm h;rw[List.append_cancel_left_eq,List.cons.injEq] at e;omega
theorem GZ {x:Str}(h:isNm x):∃(b:List Nat) (s:Nat),x=nmL b s 0/\b.length<=7/\s<26/\∀c∈b,97<=c/\c<=122:=by
 obtain⟨l,rfl⟩:=Ny x;have e1:=h.lo;have e2:=h.hi;have e3:=h.az;rw[cU] at e1 e2;rw[gP] at e3;have hne:l≠[]:=by intro z;rw[z] at e1;exact absurd e1 (by decide)
 have hl:=e3 _ (List.getLast_mem hne);have hd:l.dropLast.length+1=l.length:=by rw[List.length_dropLast];omega
 refine⟨l.dropLast,l.getLast hne - 97,?_,by omega,by omega,fun c hc=>e3 c ((List.dropLast_subset l) hc)⟩;unfold nmL;rw[Nat.add_zero,Nat.mod_eq_of_lt (by omega),show 97+(l.getLast hne - 97)=l.getLast hne by omega,List.dropLast_concat_getLast]
theorem Oo (b:List Nat) (c:Nat):Txt.slice (mkS (b++[c])) none (some (-1))=mkS b:=by
 have e:=StrLaws.sliceText_neg_hi (mkS (b++[c])) none (j:=-1) (by decide) (by rw[cU,List.length_append];simp;omega);have l : -1+((mkS (b++[c])).length:Int)=(b.length:Int):=by rw[cU,List.length_append];simp;omega
 rw[l] at e;have t:=S7 (b++[c]) b.length (by rw[List.length_append];omega);rw[List.take_left' rfl] at t;exact e.trans t
theorem G4 (b:List Nat) (s i:Nat):(nmL b s i).length=b.length+1:=by unfold nmL;rw[cU,List.length_append];rfl
theorem G5 (b:List Nat) (s i:Nat):(nmL b s i).cps.toList=b++[97+(s+i)%26]:=rfl
def Tz:Sp3:=fun ts H Q=>∃c:Int,ts=[.int c]/\∀us:List Str,us.length=8->Nms us->∀p,H p=none->Q (.ref p) (up3 H p (.lst (us.map T.str)))
def TF:Sp3:=fun ts H Q=>∃(c:Int) (pr pp:Addr) (row pool:List Str) (unit:Int),ts=[.int c,.ref pr,.ref pp,.int unit]/\H pr=some (.lst (row.map T.str))/\1<=row.length/\row.length<=8/\(∀x∈row,isNm x)/\H pp=some (.lst (pool.map T.str))/\pool.length=8/\(∀x∈pool,isNm x)/\1<=unit/\unit<=10^57 /\
 ∀(s:Nat) (tn len:Int) (ks:List Str) (nam:Str),s<row.length->0<=tn->tn<8->1<=len->len<10^60->Nms ks->ks.length<=4->(ks=[]\/row.getD s ""∈ks)->isNm nam->Q (.tup [.int (s:Int),.int tn,.int len,sT ks,.str nam]) H
theorem jU {ns:List Str}{i:Nat}(h:i<ns.length):atI (ns.map T.str) (i:Int)=some (T.str (ns.getD i "")):=by
 rw[bV (by rw[List.getElem?_map,List.getElem?_eq_getElem h];rfl),List.getD_eq_getElem?_getD,List.getElem?_eq_getElem h];rfl
theorem getD_memS {ns:List Str}{i:Nat}(h:i<ns.length):ns.getD i ""∈ns:=by
 rw[List.getD_eq_getElem?_getD,List.getElem?_eq_getElem h];exact List.getElem_mem h
abbrev Tk5:=Nat × Int × Int × List Str × Str
def tk5 (t:Tk5):T:=.tup [.int (t.1:Int),.int t.2.1,.int t.2.2.1,sT t.2.2.2.1,.str t.2.2.2.2]
structure Lnk (ns:List Str) (sts:List Nat) (O:List (Str × Str)) (P:List (Str × Str × Str)):Prop where
 ol:O.length<=28
 od:O.Nodup
 oo:∀o∈O,∃i j,i≠j/\ns[i]?=some o.1/\ns[j]?=some o.2/\sts.getD i 0<=sts.getD j 0
 pl:P.length<=12
 pd:P.Nodup
 pp:∀p∈P,∃i j,i≠j/\ns[i]?=some p.2.1/\ns[j]?=some p.2.2/\((p.1="with"/\sts.getD i 0=sts.getD j 0)\/(p.1="apart"/\sts.getD i 0≠sts.getD j 0))
def TJ:Sp3:=fun ts H Q=>∃(a pn ps:Addr) (sc:List Int) (ns:List Str) (ss:List Tk5),ts=[.ref a,.ref pn,.ref ps]/\H a=some (.rol (sc.map T.int))/\sc.length<=63/\H pn=some (.lst (ns.map T.str))/\Nms ns/\ns.length<=8/\H ps=some (.lst (ss.map tk5))/\ss.length=ns.length/\∀O P,Lnk ns (ss.map (·.1)) O P->Q (.tup [.tup (O.map orT),.tup (P.map prT)]) H
structure Rnk (ns:List Str) (ss:List Tk5) (us:List (Int × Int × Int)):Prop where
 l:us.length=ns.length
 ex:∃ix:Nat->Nat,(∀p<ns.length,ix p<ns.length/\us[p]?=some ((((ss.map (·.1)).getD (ix p) 0:Nat):Int),(us.getD p (0,0,0)).2.1,(ix p:Int)))/\(∀p q,p<q->q<ns.length->ix p≠ix q/\(ss.map (·.1)).getD (ix p) 0<=(ss.map (·.1)).getD (ix q) 0)
theorem Oq {ns:List Str}{ss:List Tk5}{us:List (Int × Int × Int)}(hl:ss.length=ns.length) (hp:us.Perm ((List.range ns.length).map fun k=>((((ss.map (·.1)).getD k 0:Nat):Int),((ss.map (·.2.1)).getD k 0:Int),(k:Int)))) (hs:us.Pairwise Ga):Rnk ns ss us:=by
 have hlen:us.length=ns.length:=by rw[hp.length_eq,List.length_map,List.length_range]
 have hmem:∀x∈us,∃k,k<ns.length/\x=((((ss.map (·.1)).getD k 0:Nat):Int),((ss.map (·.2.1)).getD k 0:Int),(k:Int)):=fun x hx=>by obtain⟨k,hk,e⟩:=List.mem_map.mp (hp.mem_iff.mp hx);exact⟨k,List.mem_range.mp hk,e.symm⟩
 have hnd:(us.map (·.2.2)).Nodup:=by refine (hp.map (·.2.2)).nodup_iff.mpr ?_;rw[List.map_map,List.Nodup,List.pairwise_map];refine List.Pairwise.imp (fun {x y} h e=>h ?_) (List.nodup_range (n:=ns.length));have:(x:Int)=(y:Int):=e;omega
 refine⟨hlen,fun p=>(us.getD p (0,0,0)).2.2.toNat,fun p h=>?_,fun p q hpq hq=>?_⟩
 ·have hg:us[p]?=some us[p]:=List.getElem?_eq_getElem (by omega);obtain⟨k,hk,e⟩:=hmem _ (List.getElem_mem (show p<us.length by omega));have hgd:us.getD p (0,0,0)=us[p]:=by rw[List.getD_eq_getElem?_getD,hg];rfl
  have hk2:(us.getD p (0,0,0)).2.2.toNat=k:=by rw[hgd,e];exact Int.toNat_natCast k
  dsimp only;refine⟨by rw[hk2];exact hk,?_⟩;rw[hk2,hg,hgd,e]
 have hpl:p<us.length:=by omega
 have hql:q<us.length:=by omega
 obtain⟨k,hk,e⟩:=hmem _ (List.getElem_mem hpl);obtain⟨k',hk',e'⟩:=hmem _ (List.getElem_mem hql);have h1:us.getD p (0,0,0)=us[p]:=by rw[List.getD_eq_getElem?_getD,List.getElem?_eq_getElem hpl];rfl
 have h2:us.getD q (0,0,0)=us[q]:=by rw[List.getD_eq_getElem?_getD,List.getElem?_eq_getElem hql];rfl
 have k1:(us.getD p (0,0,0)).2.2.toNat=k:=by rw[h1,e];exact Int.toNat_natCast k
 have k2:(us.getD q (0,0,0)).2.2.toNat=k':=by rw[h2,e'];exact Int.toNat_natCast k'
 dsimp only;rw[k1,k2];constructor
 ·intro z;have hne:=(List.pairwise_iff_getElem.mp hnd) p q (by rw[List.length_map];exact hpl) (by rw[List.length_map];exact hql) hpq;rw[List.getElem_map,List.getElem_map,e,e',z] at hne;exact hne rfl
 have hle:=(List.pairwise_iff_getElem.mp hs) p q hpl hql hpq;unfold Ga KeyOrd.kle at hle;rw[e,e'] at hle;dsimp only[trOrd] at hle;rw[decide_eq_false_iff_not] at hle;omega
def Dn (p q p' q':Nat):Prop:=p'<p\/(p'=p/\q'<q)
structure Lk1 (nmO:Nat->Str) (wd:Nat->Nat->Str) (m p q:Nat) (O:List (Str × Str)) (P:List (Str × Str × Str)):Prop where
 od:O.Nodup
 oo:∀o∈O,∃p' q',p'<q'/\q'<m/\Dn p q p' q'/\o=(nmO p',nmO q')
 pd:P.Nodup
 pp:∀x∈P,∃p' q',p'<q'/\q'<m/\Dn p q p' q'/\(x=(wd p' q',nmO p',nmO q')\/x=(wd p' q',nmO q',nmO p'))
 ol:O.length<=9*p+q
 pl:P.length<=2*(9*p+q)
theorem Dn.mono {p q p' q' q2:Nat}(h:Dn p q p' q') (hq:q<=q2):Dn p q2 p' q':=by unfold Dn at *;omega
theorem Lk1.skip {nmO:Nat->Str}{wd:Nat->Nat->Str}{m p q p2 q2:Nat}{O:List (Str × Str)}{P:List (Str × Str × Str)}(h:Lk1 nmO wd m p q O P) (hd:∀p' q',q'<m->Dn p q p' q'->Dn p2 q2 p' q') (hle:9*p+q<=9*p2+q2):Lk1 nmO wd m p2 q2 O P :=
 ⟨h.od,fun o ho=>by obtain⟨a,b,h1,h2,h3,h4⟩:=h.oo o ho;exact⟨a,b,h1,h2,hd a b h2 h3,h4⟩,h.pd,fun o ho=>by obtain⟨a,b,h1,h2,h3,h4⟩:=h.pp o ho;exact⟨a,b,h1,h2,hd a b h2 h3,h4⟩,Nat.le_trans h.ol hle,Nat.le_trans h.pl (by omega)⟩
theorem Lk1.step {nmO:Nat->Str}{wd:Nat->Nat->Str}{m p q:Nat}{O:List (Str × Str)}{P:List (Str × Str × Str)}(h:Lk1 nmO wd m p q O P) (hi:∀i j,i<m->j<m->nmO i=nmO j->i=j) (hpq:p<q) (hq:q<m) (b1 b2 b3:Bool) :
  Lk1 nmO wd m p (q+1) (bif b1 then O++[(nmO p,nmO q)] else O) (bif b3 then (bif b2 then P++[(wd p q,nmO p,nmO q)] else P)++[(wd p q,nmO q,nmO p)] else (bif b2 then P++[(wd p q,nmO p,nmO q)] else P)):=by
 have me:Dn p (q+1) p q:=.inr ⟨rfl,Nat.lt_succ_self q⟩;have on:(nmO p,nmO q)∉O:=fun z=>by obtain⟨a,b,h1,h2,h3,h4⟩:=h.oo _ z;rw[Prod.mk.injEq] at h4;have e1:=hi _ _ (by omega) (by omega) h4.1;have e2:=hi _ _ (by omega) (by omega) h4.2;unfold Dn at h3;omega
 have pn:∀w,(w,nmO p,nmO q)∉P/\(w,nmO q,nmO p)∉P:=fun w=>by
  constructor;all_goals
   intro z
   obtain⟨a,b,h1,h2,h3,h4⟩:=h.pp _ z
   rw[Prod.mk.injEq,Prod.mk.injEq,Prod.mk.injEq,Prod.mk.injEq] at h4
   unfold Dn at h3
   rcases h4 with ⟨_,h5,h6⟩ | ⟨_,h5,h6⟩
   all_goals
    have e1:=hi _ _ (by omega) (by omega) h5
    have e2:=hi _ _ (by omega) (by omega) h6
    omega
 have h':Lk1 nmO wd m p (q+1) O P:=h.skip (fun _ _ _ z=>z.mono (Nat.le_succ q)) (by omega);have hP1:∀(P':List (Str × Str × Str)),(P'=P\/P'=P++[(wd p q,nmO p,nmO q)])->P'.Nodup/\(∀x∈P',∃p' q',p'<q'/\q'<m/\Dn p (q+1) p' q'/\(x=(wd p' q',nmO p',nmO q')\/x=(wd p' q',nmO q',nmO p')))/\P'.length<=2*(9*p+q)+1/\(wd p q,nmO q,nmO p)∉P':=by
  intro P' hP;rcases hP with rfl | rfl
  ·exact⟨h.pd,h'.pp,Nat.le_succ_of_le h.pl,(pn _).2⟩
  refine⟨fK h.pd (pn _).1,fun x hx=>?_,by rw[List.length_append];simp;exact h.pl,fun z=>?_⟩
  ·rcases List.mem_append.mp hx with hx | hx
   ·exact h'.pp x hx
   exact⟨p,q,hpq,hq,me,.inl (List.mem_singleton.mp hx)⟩
  rcases List.mem_append.mp z with z | z
  ·exact (pn _).2 z
  have:=List.mem_singleton.mp z;rw[Prod.mk.injEq,Prod.mk.injEq] at this;have e:=hi _ _ (by omega) (by omega) this.2.1;omega
 obtain⟨d1,d2,d3,d4⟩:=hP1 (bif b2 then P++[(wd p q,nmO p,nmO q)] else P) (by cases b2 <;> simp);generalize (bif b2 then P++[(wd p q,nmO p,nmO q)] else P)=P1 at *;refine⟨?_,?_,?_,?_,?_,?_⟩
 ·cases b1
  ·exact h.od
  exact fK h.od on
 ·cases b1
  ·exact h'.oo
  intro o ho;rcases List.mem_append.mp ho with ho | ho
  ·exact h'.oo o ho
  exact⟨p,q,hpq,hq,me,List.mem_singleton.mp ho⟩
 ·cases b3
  ·exact d1
  exact fK d1 d4
 ·cases b3
  ·exact d2
  intro o ho;rcases List.mem_append.mp ho with ho | ho
  ·exact d2 o ho
  exact⟨p,q,hpq,hq,me,.inr (List.mem_singleton.mp ho)⟩
 ·cases b1
  ·exact h'.ol
  show (O++[_]).length<=_;rw[List.length_append];have:=h.ol;simp;omega
 cases b3
 ·show P1.length<=_;omega
 show (P1++[_]).length<=_;rw[List.length_append];simp;omega
theorem uB {R:TS3}{D:Ends3}{Z:St3}{c:Bool}{p1 p2 p3:Prop}{H1 H2:Hp3}(h1:p1) (h2:p2) (h3:p3) (h:∀(b:Bool) (H':Hp3),H'=(bif b then H1 else H2)->R D Z H'):if c=true then p1/\p2/\p3/\R D Z H1 else R D Z H2:=by
 cases c
 ·rw[if_neg Bool.false_ne_true];exact h false _ rfl
 rw[if_pos rfl];exact⟨h1,h2,h3,h true _ rfl⟩
theorem Ce {R:TS3}{D:Ends3}{Z:St3}{c:Bool}{p1:Prop}{H1 H2:Hp3}(h1:p1) (h:∀(b:Bool) (H':Hp3),H'=(bif b then H1 else H2)->R D Z H'):if c=true then p1/\R D Z H1 else R D Z H2:=by
 cases c
 ·rw[if_neg Bool.false_ne_true];exact h false _ rfl
 rw[if_pos rfl];exact⟨h1,h true _ rfl⟩
structure LkH (H3 H:Hp3) (pk po pq:Addr) (us:List (Int × Int × Int)) (O:List (Str × Str)) (P:List (Str × Str × Str)):Prop where
 sb:Sub3 H3 H
 k:H pk=some (.lst (us.map trT))
 o:H po=some (.lst (O.map orT))
 p:H pq=some (.lst (P.map prT))
 no:H3 po=none
 np:H3 pq=none
 ko:pk≠po
 kp:pk≠pq
 op:po≠pq
theorem LkH.new {H3 H:Hp3}{pk po pq x:Addr}{us:List (Int × Int × Int)}{O:List (Str × Str)}{P:List (Str × Str × Str)}{u:O3}(h:LkH H3 H pk po pq us O P) (hx:H x=none):LkH H3 (up3 H x u) pk po pq us O P :=
 ⟨h.sb.trans (Sub3.new hx),Sub3.new hx _ _ h.k,Sub3.new hx _ _ h.o,Sub3.new hx _ _ h.p,h.no,h.np,h.ko,h.kp,h.op⟩
theorem LkH.putO {H3 H:Hp3}{pk po pq:Addr}{us:List (Int × Int × Int)}{O O':List (Str × Str)}{P:List (Str × Str × Str)}(h:LkH H3 H pk po pq us O P):LkH H3 (up3 H po (.lst (O'.map orT))) pk po pq us O' P :=
 ⟨fun b u hb=>by rw[aC (bf hb h.no)];exact h.sb b u hb,by rw[aC h.ko];exact h.k,aq,by rw[aC (Ne.symm h.op)];exact h.p,h.no,h.np,h.ko,h.kp,h.op⟩
theorem LkH.putP {H3 H:Hp3}{pk po pq:Addr}{us:List (Int × Int × Int)}{O:List (Str × Str)}{P P':List (Str × Str × Str)}(h:LkH H3 H pk po pq us O P):LkH H3 (up3 H pq (.lst (P'.map prT))) pk po pq us O P' :=
 ⟨fun b u hb=>by rw[aC (bf hb h.np)];exact h.sb b u hb,by rw[aC h.kp];exact h.k,by rw[aC h.op];exact h.o,aq,h.no,h.np,h.ko,h.kp,h.op⟩
def TQ (m:Nat):List (Nat × Nat):=(List.range m).flatMap fun q=>(List.range q).map fun p=>(p,q)
theorem Cg:∀m:_root_.Fin 9,(TQ m.val).length<=28:=by decide
theorem Ot {ns:List Str}{ss:List Tk5}{ix:Nat->Nat}{p q:Nat}{O O':List (Str × Str)}{P P':List (Str × Str × Str)}{nmO:Nat->Str}{wd:Nat->Nat->Str}(h8:ns.length<=8)
  (hix:∀p<ns.length,ix p<ns.length) (hr:∀p q,p<q->q<ns.length->ix p≠ix q/\(ss.map (·.1)).getD (ix p) 0<=(ss.map (·.1)).getD (ix q) 0)
  (hn:∀p<ns.length,ns[ix p]?=some (nmO p)) (hw:∀p q,wd p q=if (ss.map (·.1)).getD (ix p) 0=(ss.map (·.1)).getD (ix q) 0 then "with" else "apart")
  (h:Lk1 nmO wd ns.length p q O P) (pO:O'.Perm O) (pP:P'.Perm P):Lnk ns (ss.map (·.1)) O' (P'.take 12):=by
 refine⟨?_,pO.nodup_iff.mpr h.od,fun o ho=>?_,?_,(List.take_sublist 12 P').nodup (pP.nodup_iff.mpr h.pd),fun x hx=>?_⟩
 ·rw[pO.length_eq];have:=o5 (l:=O) (m:=(TQ ns.length).map fun z=>(nmO z.1,nmO z.2)) h.od fun x hx=>by obtain⟨a,b,h1,h2,_,rfl⟩:=h.oo x hx;exact List.mem_map.mpr ⟨(a,b),List.mem_flatMap.mpr ⟨b,List.mem_range.mpr h2,List.mem_map.mpr ⟨a,List.mem_range.mpr h1,rfl⟩⟩,rfl⟩
  rw[List.length_map] at this;have:=Cg ⟨ns.length,by omega⟩;dsimp only at this;omega
 ·obtain⟨a,b,h1,h2,_,rfl⟩:=h.oo o (pO.mem_iff.mp ho);obtain⟨r1,r2⟩:=hr a b h1 h2;exact⟨ix a,ix b,r1,hn a (by omega),hn b h2,r2⟩
 ·rw[List.length_take];omega
 obtain⟨a,b,h1,h2,_,h3⟩:=h.pp x (pP.mem_iff.mp (List.mem_of_mem_take hx));obtain⟨r1,r2⟩:=hr a b h1 h2;have hwd:=hw a b;have key:(wd a b="with"/\(ss.map (·.1)).getD (ix a) 0=(ss.map (·.1)).getD (ix b) 0)\/(wd a b="apart"/\(ss.map (·.1)).getD (ix a) 0≠(ss.map (·.1)).getD (ix b) 0):=by
  by_cases e:(ss.map (·.1)).getD (ix a) 0=(ss.map (·.1)).getD (ix b) 0
  ·rw[if_pos e] at hwd;exact .inl ⟨hwd,e⟩
  rw[if_neg e] at hwd;exact .inr ⟨hwd,e⟩
 rcases h3 with rfl | rfl
 ·exact⟨ix a,ix b,r1,hn a (by omega),hn b h2,key⟩
 exact⟨ix b,ix a,Ne.symm r1,hn b h2,hn a (by omega),key.imp (fun z=>⟨z.1,z.2.symm⟩) fun z=>⟨z.1,Ne.symm z.2⟩⟩
theorem lC {α β:Type}{f:α->T}{g:β->T}:∀(xs:List α) (ys:List β),d7 (xs.map f) (ys.map g)=(xs.zip ys).map fun z=>.tup [f z.1,g z.2]
 |[],_=>rfl
 |_::_,[]=>rfl
 |x::xs,y::ys=>by rw[List.map_cons,List.map_cons,d7,lC xs ys];rfl
structure Fit (W:Wk) (sts:List Nat):Prop where
 l:sts.length=W.tasks.length
 lt:∀s∈sts,s<W.row.length
 kd:∀(i:Nat) (t:Str × Int × List Str),W.tasks[i]?=some t->t.2.2=[]\/W.row.getD (sts.getD i 0) ""∈t.2.2
 lk:Lnk (W.tasks.map (·.1)) sts W.orders W.pairs
def TV:Sp3:=fun ts H Q=>∃(a:Addr) (sc:List Int) (most wide:Int),ts=[.ref a,.int most,.int wide]/\H a=some (.rol (sc.map T.int))/\sc.length<=63/\1<=most/\most<=8/\1<=wide/\wide<=8/\∀(W:Wk) (sts:List Nat),WkOk W->(W.tasks.length:Int)<=most->(W.row.length:Int)<=wide->Fit W sts->∀p,H p=none->Q (.tup [W.enc,.ref p]) (up3 H p (.lst (sts.map fun (s:Nat)=>T.int (s:Int))))
structure TkO (row:List Str) (t:Tk5):Prop where
 s:t.1<row.length
 lo:1<=t.2.2.1
 hi:t.2.2.1<10^60
 ks:Nms t.2.2.2.1
 kl:t.2.2.2.1.length<=4
 kd:t.2.2.2.1=[]\/row.getD t.1 ""∈t.2.2.2.1
 nm:isNm t.2.2.2.2
def mkW (ns:List Str) (ss:List Tk5) (O:List (Str × Str)) (P:List (Str × Str × Str)) (row:List Str):Wk:=⟨(ns.zip ss).map fun z=>(z.1,z.2.2.2.1,z.2.2.2.2.1),O,P,row⟩
theorem Ou {ns:List Str}{ss:List Tk5}{O:List (Str × Str)}{P:List (Str × Str × Str)}{row:List Str}(hn:Nms ns) (hl:ss.length=ns.length) (h1:1<=ns.length) (h8:ns.length<=8) (hs:∀t∈ss,TkO row t) (hr1:1<=row.length) (hr8:row.length<=8) (hrn:∀x∈row,isNm x) (lk:Lnk ns (ss.map (·.1)) O P) :
  WkOk (mkW ns ss O P row)/\Fit (mkW ns ss O P row) (ss.map (·.1))/\(mkW ns ss O P row).tasks.length=ns.length:=by
 have e1:(mkW ns ss O P row).tasks.map (·.1)=ns:=by show ((ns.zip ss).map fun z=>(z.1,z.2.2.2.1,z.2.2.2.2.1)).map (·.1)=ns;rw[List.map_map];show (ns.zip ss).map (fun z=>z.1)=ns;exact List.map_fst_zip (by omega)
 have el:(mkW ns ss O P row).tasks.length=ns.length:=by
  have:=congrArg List.length e1
  rwa [List.length_map] at this
 have eg:∀(i:Nat) (t:Str × Int × List Str),(mkW ns ss O P row).tasks[i]?=some t->∃u,ss[i]?=some u/\ns[i]?=some t.1/\t.2=(u.2.2.1,u.2.2.2.1):=fun i t e=>by have e':((ns.zip ss).map fun z=>(z.1,z.2.2.2.1,z.2.2.2.2.1))[i]?=some t:=e;rw[List.getElem?_map,Option.map_eq_some_iff] at e';obtain⟨z,hz,rfl⟩:=e';have:=List.getElem?_zip_eq_some.mp hz;exact⟨z.2,this.2,this.1,rfl⟩
 have ne:∀{i j:Nat} {x y:Str},i≠j->ns[i]?=some x->ns[j]?=some y->x≠y:=fun {i j x y} h hx hy z=>by
  rw[z,<- hy] at hx;have hi:i<ns.length:=by
   rcases Nat.lt_or_ge i ns.length with q | q
   ·exact q
   rw[List.getElem?_eq_none q,hy] at hx;cases hx
  exact h ((List.getElem?_inj hi hn.nd).mp hx)
 refine⟨⟨by rw[el];exact h1,by rw[el];exact h8,fun t ht=>?_,by rw[e1];exact hn.nd,lk.ol,lk.od,fun o ho=>?_,lk.pl,lk.pd,fun p hp=>?_,hr1,hr8,hrn⟩,⟨by rw[List.length_map,el,hl],fun s h=>?_,fun i t e=>?_,by rw[e1];exact lk⟩,el⟩
 ·obtain⟨i,hi⟩:=List.getElem?_of_mem ht;obtain⟨u,hu,hx,e⟩:=eg i t hi;have hk:=hs u (List.mem_of_getElem? hu);have e2:t.2.1=u.2.2.1:=by rw[e]
  have e3:t.2.2=u.2.2.2.1:=by rw[e]
  exact⟨hn.nm _ (List.mem_of_getElem? hx),by rw[e2];exact hk.lo,by rw[e2];exact hk.hi,by rw[e3];exact hk.ks,by rw[e3];exact hk.kl⟩
 ·obtain⟨i,j,h,hx,hy,_⟩:=lk.oo o ho;rw[e1];exact⟨ne h hx hy,List.mem_of_getElem? hx,List.mem_of_getElem? hy⟩
 ·obtain⟨i,j,h,hx,hy,hz⟩:=lk.pp p hp;rw[e1];exact⟨hz.imp (fun z=>z.1) fun z=>z.1,ne h hx hy,List.mem_of_getElem? hx,List.mem_of_getElem? hy⟩
 ·obtain⟨u,hu,rfl⟩:=List.mem_map.mp h;exact (hs u hu).s
 obtain⟨u,hu,_,e'⟩:=eg i t e;have e3:t.2.2=u.2.2.2.1:=by rw[e']
 have e4:(ss.map (·.1)).getD i 0=u.1:=by rw[List.getD_eq_getElem?_getD,List.getElem?_map,hu];rfl
 rw[e3,e4];exact (hs u (List.mem_of_getElem? hu)).kd
def ldZ (L:List Int) (z:(Str × Int × List Str) × Nat):List Int:=L.set z.2 (L.getD z.2 0+z.1.2.1)
def ldS (W:Wk) (sts:List Nat):List Int:=(W.tasks.zip sts).foldl ldZ (List.replicate W.row.length 0)
theorem vZ (L:List Int):∀zs:List ((Str × Int × List Str) × Nat),(zs.foldl ldZ L).length=L.length:=fun zs=>by
 induction zs generalizing L with
 |nil=>rfl
 |cons z r ih=>rw[List.foldl_cons,ih];unfold ldZ;rw[List.length_set]
theorem wg (W:Wk) (sts:List Nat):(ldS W sts).length=W.row.length:=by unfold ldS;rw[vZ,List.length_replicate]
def Ov:Sp3:=fun ts H Q=>∃(W:Wk) (q:Addr) (sts:List Nat),ts=[W.enc,.ref q]/\WkOk W/\H q=some (.lst (sts.map fun (s:Nat)=>T.int (s:Int)))/\sts.length=W.tasks.length/\(∀s∈sts,s<W.row.length)/\∀p,H p=none->Q (.ref p) (up3 H p (.lst ((ldS W sts).map T.int)))
theorem wj:∀(L:List Int) (i:Nat) (v:Int),i<L.length->(L.set i (L.getD i 0+v)).sum=L.sum+v
 |[],_,_,h=>absurd h (by simp)
 |x::r,0,v,_=>by simp [List.set,List.sum_cons];omega
 |x::r,i+1,v,h=>by
  have:=wj r i v (by simpa using h)
  simp only[List.set_cons_succ,List.sum_cons,List.getD_cons_succ,this]
  omega
theorem wu:∀(zs:List ((Str × Int × List Str) × Nat)) (L:List Int),(∀z∈zs,z.2<L.length)->(zs.foldl ldZ L).sum=L.sum+(zs.map (·.1.2.1)).sum
 |[],L,_=>by simp
 |z::r,L,h=>by
  rw[List.foldl_cons,wu r (ldZ L z) fun y hy=>by unfold ldZ;rw[List.length_set];exact h y (List.mem_cons_of_mem _ hy)]
  unfold ldZ
  rw[wj L z.2 z.1.2.1 (h z List.mem_cons_self),List.map_cons,List.sum_cons]
  omega
theorem Ci:∀(zs:List ((Str × Int × List Str) × Nat)) (L:List Int),(∀z∈zs,0<=z.1.2.1)->(∀x∈L,0<=x)->∀x∈zs.foldl ldZ L,0<=x
 |[],L,_,hL=>hL
 |z::r,L,h,hL=>by
  rw[List.foldl_cons]
  refine Ci r _ (fun y hy=>h y (List.mem_cons_of_mem _ hy)) fun x hx=>?_
  unfold ldZ at hx
  rcases List.mem_or_eq_of_mem_set hx with q | q
  ·
   exact hL x q
  ·
   rw[q]
   have h1:=h z List.mem_cons_self
   have h2:0<=L.getD z.2 0:=by
    rw[List.getD_eq_getElem?_getD]
    cases e:L[z.2]? with
    |none=>exact Int.le_refl 0
    |some y=>exact hL y (List.mem_of_getElem? e)
   omega
theorem Cj (n:Nat):(List.replicate n (0:Int)).sum=0:=by induction n with
 |zero=>rfl
 |succ n ih=>rw[List.replicate_succ,List.sum_cons,ih];rfl
theorem Ow {W:Wk}{sts:List Nat}(hW:WkOk W):∀x∈ldS W sts,0<=x:=Ci _ _ (fun z hz=>by have:=(hW.tk z.1 (List.of_mem_zip hz).1).lo;omega) fun x hx=>by rw[(List.mem_replicate.mp hx).2];exact Int.le_refl 0
theorem G6 {W:Wk}{sts:List Nat}(hl:sts.length=W.tasks.length) (h:∀s∈sts,s<W.row.length):(ldS W sts).sum=(W.tasks.map (·.2.1)).sum:=by
 unfold ldS;rw[wu _ _ fun z hz=>by rw[List.length_replicate];exact h _ (List.of_mem_zip hz).2,Cj];have e:(W.tasks.zip sts).map (·.1.2.1)=W.tasks.map (·.2.1):=by have:=List.map_fst_zip (l₁:=W.tasks) (l₂:=sts) (by omega);have e2:=congrArg (List.map (·.2.1)) this;rw[List.map_map] at e2;exact e2
 rw[e];omega
theorem G7 {W:Wk}(hW:WkOk W):1<=(W.tasks.map (·.2.1)).sum:=by
 have h1:=hW.t1;have ht:=hW.tk;cases e:W.tasks with
 |nil=>rw[e] at h1;exact absurd h1 (by decide)
 |cons t r =>
 rw[e] at ht;rw[List.map_cons,List.sum_cons];have h2:=(ht t List.mem_cons_self).lo;have h3:∀l:List (Str × Int × List Str),(∀u∈l,tkOk u)->0<=(l.map (·.2.1)).sum:=fun l=>by
  induction l with
  |nil=>intro _;exact Int.le_refl _
  |cons u l ih =>
  intro hu;rw[List.map_cons,List.sum_cons];have:=ih fun v hv=>hu v (List.mem_cons_of_mem _ hv);have:=(hu u List.mem_cons_self).lo;omega
 have:=h3 r fun u hu=>ht u (List.mem_cons_of_mem _ hu);omega
def TX:Sp3:=fun ts H Q=>∃(c:Int) (W:Wk) (q:Addr) (sts:List Nat),ts=[.int c,W.enc,.ref q]/\WkOk W/\H q=some (.lst (sts.map fun (s:Nat)=>T.int (s:Int)))/\sts.length=W.tasks.length/\(∀s∈sts,s<W.row.length)/\∀n:Int,0<=n->Q (.int n) H
def TY:Sp3:=fun ts H Q=>∃(a:Addr) (sc:List Int) (most wide:Int),ts=[.ref a,.int most,.int wide]/\H a=some (.rol (sc.map T.int))/\sc.length<=63/\1<=most/\most<=8/\1<=wide/\wide<=8/\∀(W:Wk) (sts:List Nat) (beat c:Int),WkOk W->(W.tasks.length:Int)<=most->(W.row.length:Int)<=wide->Fit W sts->0<=beat->∀p,H p=none->Q (.tup [W.enc,.ref p,.int beat,.int c]) (up3 H p (.lst (sts.map fun (s:Nat)=>T.int (s:Int))))
def fS:List Str->List Nat->Str->Nat
 |x::r,s::q,n=>if x=n then s else fS r q n
 |_,_,_=>0
theorem Ck:∀{ns:List Str}{sts:List Nat}{i:Nat}{n:Str},ns.Nodup->sts.length=ns.length->ns[i]?=some n->fS ns sts n=sts.getD i 0
 |[],_,_,_,_,_,e=>by simp at e
 |x::r,[],_,_,_,hl,_=>by cases hl
 |x::r,s::q,0,n,_,_,e=>by
  rw[List.getElem?_cons_zero,Option.some.injEq] at e
  unfold fS
  rw[if_pos e]
  rfl
 |x::r,s::q,i+1,n,h,hl,e=>by
  rw[List.getElem?_cons_succ] at e
  rw[List.nodup_cons] at h
  unfold fS
  rw[if_neg fun z=>h.1 (by rw[z];exact List.mem_of_getElem? e),Ck h.2 (Nat.succ.inj hl) e]
  simp
theorem Jh {m:Nat}{n:Str}(hm:0<m):∀{ns:List Str}{sts:List Nat},(∀s∈sts,s<m)->fS ns sts n<m
 |[],_,_=>hm
 |_::_,[],_=>hm
 |x::r,s::q,h=>by
  unfold fS
  split
  ·
   exact h s List.mem_cons_self
  ·
   exact Jh hm fun y hy=>h y (List.mem_cons_of_mem _ hy)
theorem Cm {f:Str->Nat}{n:Nat}:∀(zs:List ((Str × Int × List Str) × Nat)) (B:List (Str × Int × List Str)),(∀z∈zs,f z.1.1=z.2/\z.2<n)->zs.foldl ldZ ((List.range n).map (ldF B f))=(List.range n).map (ldF (B++zs.map (·.1)) f)
 |[],B,_=>by rw[List.map_nil,List.append_nil];rfl
 |z::r,B,h=>by
  obtain⟨e,hl⟩:=h z List.mem_cons_self
  have q:ldZ ((List.range n).map (ldF B f)) z=(List.range n).map (ldF (B++[z.1]) f):=by
   have g:((List.range n).map (ldF B f)).getD (f z.1.1) 0=ldF B f (f z.1.1):=by
    rw[List.getD_eq_getElem?_getD,List.getElem?_map,List.getElem?_range (by omega)]
    rfl
   unfold ldZ
   rw[<- e,g]
   exact vX (by omega)
  rw[List.foldl_cons,q,Cm r _ fun y hy=>h y (List.mem_cons_of_mem _ hy),List.append_assoc]
  rfl
theorem G8 {W:Wk}{sts:List Nat}(hW:WkOk W) (F:Fit W sts):ldS W sts=lds W (fS (nm W) sts) W.row.length:=by
 have e0:List.replicate W.row.length (0:Int)=(List.range W.row.length).map (ldF [] (fS (nm W) sts)):=by
  apply List.ext_getElem?;intro i;by_cases hi:i<W.row.length
  ·rw[List.getElem?_replicate,if_pos hi,List.getElem?_map,List.getElem?_range hi];rfl
  rw[List.getElem?_eq_none (by rw[List.length_replicate];omega),List.getElem?_eq_none (by rw[List.length_map,List.length_range];omega)]
 unfold ldS;rw[e0,Cm _ _ fun z hz=>?_]
 ·unfold lds;rw[List.nil_append,List.map_fst_zip (by rw[F.l];exact Nat.le_refl _)]
 obtain⟨i,hi⟩:=List.getElem?_of_mem hz;obtain⟨h1,h2⟩:=List.getElem?_zip_eq_some.mp hi;refine⟨?_,F.lt _ (List.mem_of_getElem? h2)⟩;rw[Ck (ns:=nm W) (i:=i) hW.nd (by rw[dZ];exact F.l) (by unfold nm;rw[List.getElem?_map,h1];rfl),List.getD_eq_getElem?_getD,h2];rfl
theorem Fit.hol {W:Wk}{sts:List Nat}(hW:WkOk W) (F:Fit W sts):Hol W (fS (nm W) sts):=by
 have a:∀{i:Nat} {n:Str},(nm W)[i]?=some n->fS (nm W) sts n=sts.getD i 0:=fun e=>Ck hW.nd (by rw[dZ];exact F.l) e;refine⟨fun o ho=>?_,fun p hp=>?_,fun t ht=>?_⟩
 ·obtain⟨i,j,_,e1,e2,h⟩:=F.lk.oo o ho;rw[a e1,a e2];exact h
 ·obtain⟨i,j,_,e1,e2,h⟩:=F.lk.pp p hp;rw[a e1,a e2];rcases h with ⟨h1,h2⟩ | ⟨h1,h2⟩
  ·exact⟨fun _=>h1,fun _=>h2⟩
  exact⟨fun z=>absurd z h2,fun z=>by rw[h1] at z;exact absurd z (by decide)⟩
 obtain⟨i,hi⟩:=List.getElem?_of_mem ht;rw[a (i:=i) (by unfold nm;rw[List.getElem?_map,hi];rfl)];unfold jJ;rcases F.kd i t hi with h | h
 ·rw[h];rfl
 rw[decide_eq_true h,Bool.or_true]
theorem Fit.way {W:Wk}{sts:List Nat}{beat:Int}(hW:WkOk W) (F:Fit W sts) (hb:∀l∈ldS W sts,l<=beat):∃v,cP (top2 W - 1) (wys W beat W.row.length)=some v:=by
 have hf:∀n,fS (nm W) sts n<W.row.length:=fun n=>Jh hW.r1 F.lt;have ok:Dok W (dealt (nm W) (fS (nm W) sts) W.row.length):=jn hW (List.Perm.refl _) (Nat.le_refl _) hf;refine Option.isSome_iff_exists.mp ((GF hW (Nat.le_refl _)).mpr ⟨_,Frw.ofD hW ok (BR hW (Nat.le_refl _) hf (F.hol hW) (by rw[<- G8 hW F];exact hb)),by rw[List.length_map,nq]⟩)
theorem nF {W:Wk}{beat:Int}{m:Nat}{v:List Nat}(hW:WkOk W) (hm:m<=W.row.length) (h:cP (top2 W - 1) (wys W beat m)=some v):Dok W (v.map (pk W))/\Rgt W beat (v.map (pk W)) (fD (v.map (pk W)))/\(v.map (pk W)).length=m/\∀s∈v.map (pk W),(nm W).filter (fun n=>decide (n∈s))=s:=by
 obtain⟨r,hl⟩:=(wtb hW hm).ok _ (fC h);obtain⟨ok,F⟩:=r.dok hW;refine⟨ok,(qZ hW ok).mpr F,by rw[List.length_map];exact hl,fun s hs=>?_⟩;obtain⟨i,hi,rfl⟩:=List.mem_map.mp hs;rw[<- Je hW,dD hW ((r.ok hW).2.2.2.2 i hi)]
section
variable {P:Program}{w:World}{K:Frag}{mg:Str->Option Value}{base:Heap}
def ww:Sp3:=fun ts H Q=>∃(a:Addr) (ns:List Int),ts=[.ref a]/\H a=some (.rol (ns.map T.int))/\ns.length<=63/\∀H',Q (.bl true) H'
def bmT (z:Int × Nat):T:=.tup [.int z.1,.int (z.2:Int)]
abbrev Ji:List Str:=["_law_script","_law_works_here","_law_stands","_law_beat_here","_law_cell_here","_law_many","_law_most","_law_here","_law_so_many","_law_found"]
theorem sc_law:FnScope Ji ["_law_script"] (aA (top 42)):=bu
theorem Ox {f:Addr}{fd:FuncData}(g:G3 K mg "law" (top 42) ["_law_script"] f fd) (B:Bl mg) (F_drawn:Cal P w K mg base 4 "_law_drawn" (top 39) ["_law_script","_law_most","_law_wide"] TY) (F_loads:Cal P w K mg base 1 "_law_loads" (top 37) ["_law_works_here","_law_stands"] Ov) (F_is_dealing:Cal P w K mg base 2 "_law_is_dealing" (top 41) ["_law_works_here","_law_beat_here","_law_many","_law_found"] Tu) (F_dealing_to:Cal P w K mg base 7 "dealing_to" (top 28) ["works","beat","many"] Tq):FnOk3 P w K mg base 8 f fd ["_law_script"] ww:=by
 refine fn3 g.fn sc_law (fun ts H Q h=>?_) (fun cdv A outer s H E ts H3 Q hr h=>?_)
 ·obtain⟨a,ns,rfl,_⟩:=h;rfl
 have hu30:=Room.u30 hr;obtain⟨a,ns,rfl,ha,h63,k⟩:=h;refine⟨_,(aj (j6 (aP F_drawn hr rfl (aa (v3 0) (aa ao (aa ao ak)))) (cB (n:=4) rfl (aH (aD (i:=1) sc_law.nd) (aH (aD (i:=2) sc_law.nd) (aH (aD (i:=3) sc_law.nd) (aH (aD (i:=4) sc_law.nd) bO))))))
   (aj (aG (i:=5) sc_law.nd (aO cC rfl B.len_ cD (aa (aK ix3 (v3 1) ao) ak)))
   (aj (aG (i:=6) sc_law.nd (aO (iR rfl) rfl B.max_ jk (aa (aP F_loads hr rfl (aa (v3 1) (aa (v3 2) ak))) ak)))
   (aj (bK (fP (c7 (aP F_is_dealing hr rfl (aa (v3 1) (aa (v3 6) (aa (v3 5) (aa (aP F_dealing_to hr rfl (aa (v3 1) (aa (v3 6) (aa (v3 5) ak)))) ak))))))) (au (aM cZ)) aR)
   (aj (bx PassesOwn.never rfl (cG (bh (aa (bD (aa (v3 3) (aa (v3 5) ak))) (aa (bD (aa (v3 6) (aa (aF ou (v3 5) ao) ak))) (aa (bD (aa (v3 3) (aa (aF aU (v3 4) (aF aY (v3 5) ao)) ak))) (aa (bD (aa (aF aY (v3 6) (aF aU (v3 4) ao)) (aa (v3 5) ak))) ak)))))) (cB (n:=2) rfl (aH (aD (i:=7) sc_law.nd) (aH (aD (i:=8) sc_law.nd) bO))) (aj (aG (i:=9) sc_law.nd (aP F_dealing_to hr rfl (aa (v3 1) (aa (v3 7) (aa (v3 8) ak)))))
    (aj (bK (PW3.pt (gm (aX M7 (v3 9) sX) (fM (fP (c7 (aP F_is_dealing hr rfl (aa (v3 1) (aa (v3 7) (aa (v3 8) (aa (v3 9) ak)))))))))) (au (aM cZ)) aR)
    (au (bK (PW3.pt (gm (aX RQ (v3 9) sX) (gm (aX HJ (v3 7) (v3 6)) (fM (aX (dG hu30) (v3 8) (v3 5)))))) (au (aM cZ)) aR)))))
   (au (aM cZ))))))),?_⟩
 rw[show aQ Ji [T.ref a]=[some (T.ref a),none,none,none,none,none,none,none,none,none] from rfl];have hsz:sizeLine=16777216:=rfl;have k':=Box.mk k;clear k;refine aB fun R0 hR0=>?_;walk_at "";refine⟨a,ns,8,8,rfl,ha,h63,by decide,by decide,by decide,by decide,fun W sts beat c hW _ _ hf hb p hp=>?_⟩;have r8:=hW.r8;have r1:=hW.r1;have hW':=Box.mk hW;have hf':=Box.mk hf;have gp:up3 H3 p (.lst (sts.map fun (s:Nat)=>T.int (s:Int))) p=some (.lst (sts.map fun (s:Nat)=>T.int (s:Int))):=aq;try walk_at ""
 generalize up3 H3 p (.lst (sts.map fun (s:Nat)=>T.int (s:Int)))=H4 at gp ⊢;clear hW hf hp ha h63;refine⟨trivial,?_⟩;walk_at "n";refine aB fun R1 hR1=>?_;walk_at "";walk_at "n";refine aB fun R2 hR2=>?_;walk_at "";refine⟨W,p,sts,rfl,hW'.out,gp,hf'.out.l,hf'.out.lt,fun pl hpl=>?_⟩;have hll:=wg W sts;have ei:=gK (ldS W sts);have gl:up3 H4 pl (.lst ((ldS W sts).map T.int)) pl=some (.lst ((ldS W sts).map T.int)):=aq;walk_at "";refine⟨fun z=>by rw[z] at hll;simp at hll;omega,fun M _ hM=>?_⟩;generalize up3 H4 pl (.lst ((ldS W sts).map T.int))=H5;have hway:Box (∀b:Int,M<=b->∃v,cP (top2 W - 1) (wys W b W.row.length)=some v):=⟨fun b hb=>hf'.out.way hW'.out fun l hl=>Int.le_trans (hM l hl) hb⟩;clear hll ei hM gl gp hf' hpl;walk_at "n";refine aB fun R3 hR3=>?_;walk_at "";refine⟨W,M,W.row.length,rfl,hW'.out,Nat.le_refl _,?_⟩;obtain⟨v,hv⟩:=hway.out M (Int.le_refl _);obtain⟨q1,q2,q3,q4⟩:=nF hW'.out (Nat.le_refl _) hv;unfold dtT;rw[hv];refine⟨W,M,W.row.length,v.map (pk W),rfl,hW'.out,q3,q4,q1,q2,?_⟩;dsimp only;rw[eZ];simp only[Bool.not_true,Bool.false_eq_true,if_false];clear hv q1 q2 q3 q4;walk_at "n";refine aB fun R4 hR4=>?_;have cm0:=Int.emod_nonneg c (show ((W.row.length:Int)+1)≠0 by omega);have cm1:=Int.emod_lt_of_pos c (show (0:Int)<(W.row.length:Int)+1 by omega);obtain⟨j,hj⟩:∃j:Nat,c%((W.row.length:Int)+1)=(j:Int):=⟨(c%((W.row.length:Int)+1)).toNat,by omega⟩;have hr1:(W.row.length:Int) - 1=((W.row.length - 1:Nat):Int):=by omega
 walk_at "";refine⟨by decide,by decide,by omega,by decide,by decide,by decide,by decide,fun p1 hp1=>?_⟩;have eL:[T.tup [T.int beat,T.int (W.row.length:Int)],T.tup [T.int M,T.int (((W.row.length - 1:Nat):Int))],T.tup [T.int beat,T.int (j:Int)],T.tup [T.int (M+c%9),T.int (W.row.length:Int)]]=([(beat,W.row.length),(M,W.row.length - 1),(beat,j),(M+c%9,W.row.length)]:List (Int × Nat)).map bmT:=rfl;try rw[hr1]
 try rw[hj]
 rw[eL];have hL:∀z∈([(beat,W.row.length),(M,W.row.length - 1),(beat,j),(M+c%9,W.row.length)]:List (Int × Nat)),z.2<=W.row.length:=fun z hz=>by
  simp only[List.mem_cons,List.not_mem_nil,or_false] at hz;rcases hz with rfl | rfl | rfl | rfl
  ·exact Nat.le_refl _
  ·exact Nat.sub_le _ _
  ·show j<=_;omega
  exact Nat.le_refl _
 generalize ([(beat,W.row.length),(M,W.row.length - 1),(beat,j),(M+c%9,W.row.length)]:List (Int × Nat))=L at hL ⊢;have hL':=Box.mk hL;have gL:up3 H5 p1 (.lst (L.map bmT)) p1=some (.lst (L.map bmT)):=aq;generalize up3 H5 p1 (.lst (L.map bmT))=H6 at gL ⊢;clear eL hL cm0 cm1 hj hr1 hp1;refine aZ bmT L (fun A Z H=>∃(v7 v8 v9:Option T),Z=[some (.ref a),some W.enc,some (.ref p),some (.int beat),some (.int c),some (.int (W.row.length:Int)),some (.int M),v7,v8,v9]/\H=H6) ⟨_,_,_,rfl,rfl⟩ ?_ ?_
 ·rintro Z H ⟨v7,v8,v9,rfl,rfl⟩;refine⟨.inl gL,?_⟩;walk_at "n";walk_at "";exact Fin3.of Sub3.refl (k'.out _)
 rintro A ⟨b,m⟩ B Z H N e ⟨v7,v8,v9,rfl,rfl⟩ hN;refine⟨.inl gL,?_⟩;have hm:m<=W.row.length:=hL'.out (b,m) (by rw[e];simp);have hN':Box (∀v9,N [some (.ref a),some W.enc,some (.ref p),some (.int beat),some (.int c),some (.int (W.row.length:Int)),some (.int M),some (.int b),some (.int (m:Int)),v9] H):=⟨fun v9=>hN _ _ ⟨_,_,_,rfl,rfl⟩⟩;clear hN e k' hR4 hL';simp only[bmT];walk_at "";refine⟨trivial,W,b,m,rfl,hW'.out,hm,?_⟩;unfold dtT;cases ev:cP (top2 W - 1) (wys W b m) with
 |none =>
  have hno:Box (¬(M<=b/\m=W.row.length)):=⟨fun z=>by
   obtain⟨v,hv⟩:=hway.out b z.1
   rw[z.2] at ev
   rw[ev] at hv
   cases hv⟩
  clear ev hway
  walk_at ""
  by_cases c1:M<=b
  ·
   rw[if_pos (decide_eq_true c1),if_neg (by rw[decide_eq_false fun z=>hno.out ⟨c1,by omega⟩];exact Bool.false_ne_true)]
   exact hN'.out _
  ·
   rw[if_neg (qN c1)]
   exact hN'.out _
 |some v =>
 obtain⟨q1,q2,q3,q4⟩:=nF hW'.out hm ev;clear ev hway;walk_at "";refine⟨W,b,m,v.map (pk W),rfl,hW'.out,q3,q4,q1,q2,?_⟩;dsimp only;rw[eZ];simp only[Bool.not_true,Bool.false_eq_true,if_false];exact hN'.out _
abbrev Cp:List Str:=["_law_script","_law_k","_law_first","_law_cell_here","_law_number","_law_found","_law_j"]
theorem sc_cell:FnScope Cp ["_law_script","_law_k"] (aA (top 30)):=bu
theorem G9 {f:Addr}{fd:FuncData}(g:G3 K mg "_law_cell" (top 30) ["_law_script","_law_k"] f fd) (B:Bl mg):Cal P w K mg base 1 "_law_cell" (top 30) ["_law_script","_law_k"] GR:=by
 refine⟨f,fd,g,?_⟩;refine fn3 g.fn sc_cell (fun ts H Q h=>?_) (fun cdv A outer s H E ts H3 Q hr h=>?_)
 ·obtain⟨a,ns,k,rfl,_⟩:=h;rfl
 have hu30:=Room.u30 hr;obtain⟨a,ns,k,rfl,ha,hl,hk,kk⟩:=h;refine⟨_,(aj (aG (i:=2) sc_cell.nd (aK ix3 (aF vY (v3 0) (bh (aa ao ak))) ao))
   (aj (bK (aX (dG hu30) (aF aU (v3 2) ao) ao) (au (aM (aK ix3 (aF vY (v3 0) (aF tY (bh (aa ao ak)) ao)) (v3 1)))) aR)
   (aj (aG (i:=3) sc_cell.nd (aK ix3 (v3 0) (aF aU (v3 1) (aO cC rfl B.len_ cD (aa (v3 0) ak)))))
   (aj (aG (i:=4) sc_cell.nd (aF aU (aF aY (aF aY (aF cM (aF aU (v3 3) ao) ao) (aF cM ao (v3 1))) ao) ao))
   (aj (aG (i:=4) sc_cell.nd (aF aU (aF aY (aF cM (v3 4) (v3 4)) (v3 1)) ao))
   (aj (aG (i:=5) sc_cell.nd ao)
   (aj (bx PassesOwn.never rfl (cH rfl B.range_ (aa ao ak)) (aD (i:=6) sc_cell.nd) (aj (aG (i:=4) sc_cell.nd (aF aU (aF aY (aF cM (v3 4) ao) ao) ao))
    (au (aG (i:=5) sc_cell.nd (aF aY (aF cM (v3 5) ao) (v3 4))))))
   (au (aM (v3 5)))))))))),?_⟩
 rw[show aQ Cp [T.ref a,T.int (k:Int)]=[some (T.ref a),some (T.int (k:Int)),none,none,none,none,none] from rfl];have hsz:sizeLine=16777216:=rfl;have k':=Box.mk kk;clear kk;refine aB fun R0 hR0=>?_;walk_at "";refine⟨by decide,fun p1 hp1=>?_⟩;have na1:a≠p1:=bf ha hp1;walk_at "";refine⟨by omega,fun p2 hp2=>?_⟩;have na2:a≠p2:=bf ha (cu hp2).2;have sb:Sub3 H3 (up3 (up3 H3 p1 (.lst [T.int 0])) p2 (.lst (ns.map T.int++[T.int 0]))):=(Sub3.new hp1).trans (Sub3.new hp2);have e1:ns.map T.int++[T.int 0]=(ns++[0]).map T.int:=by rw[List.map_append];rfl
 obtain⟨c0,ec0⟩:=pC (ns:=ns++[0]) (i:=0) (by rw[List.length_append];simp);rw[e1] at sb ⊢;have ec0':atI ((ns++[0]).map T.int) 0=some (T.int c0):=ec0;rw[ec0',fZ];have hodd:c0%2≠0->1<=ns.length:=fun h=>by
  cases ns with
  |nil =>
   have z:atI (([0]:List Int).map T.int) 0=some (T.int 0):=rfl
   rw[List.nil_append,z] at ec0'
   cases ec0'
   exact absurd rfl h
  |cons x r=>simp
 have ga:=sb _ _ ha;generalize up3 (up3 H3 p1 (.lst [T.int 0])) p2 (.lst ((ns++[0]).map T.int))=H4 at sb ga ⊢;clear ec0 ec0' e1 na1 na2 hp1 hp2 ha;walk_at "n";refine aB fun R1 hR1=>?_;walk_at "";refine⟨by decide,?_⟩;by_cases hev:c0%2=0
 ·rw[decide_eq_true hev,if_pos rfl];clear hR1 hodd;try walk_at ""
  refine⟨by decide,fun q1 hq1=>⟨⟨by decide,by decide,by decide⟩,fun q2 hq2=>?_⟩⟩;have n1:a≠q1:=bf ga hq1;have n2:a≠q2:=bf ga (cu hq2).2;rw[aC n2,aC n1,ga,Ca];have e2:(List.replicate (Int.toNat 64) [T.int 0]).flatten=(List.replicate 64 (0:Int)).map T.int:=rfl;rw[e2];refine⟨by rw[List.length_map,List.length_map,List.length_replicate];omega,fun q3 hq3=>?_⟩;obtain⟨c,ec⟩:=pC (ns:=ns++List.replicate 64 0) (i:=k) (by rw[List.length_append,List.length_replicate];omega);rw[zp,aq,vo,<- List.map_append,ec,fZ];exact Fin3.of (sb.trans ((Sub3.new hq1).trans ((Sub3.new hq2).trans (Sub3.new hq3)))) (k'.out c)
 rw[decide_eq_false hev,if_neg Bool.false_ne_true];have h1:=hodd hev;clear hodd;walk_at "n";refine aB fun R2 hR2=>?_;obtain⟨c1,ec1⟩:=pC (ns:=ns) (i:=k%ns.length) (Nat.mod_lt _ (by omega));have ec1':atI (ns.map T.int) ((k:Int)%(ns.length:Int))=some (T.int c1):=ec1;clear ec1;walk_at "";refine⟨by omega,?_⟩;walk_at "n";refine aB fun R3 hR3=>?_;have z0:=Int.emod_nonneg c1 (show (2147483647:Int)≠0 by decide);have z1:=Int.emod_lt_of_pos c1 (show (0:Int)<2147483647 by decide);clear ec1';walk_at "";refine⟨by decide,.inr ⟨by decide,by decide⟩,.inl ⟨by decide,by decide⟩,by decide,?_⟩;generalize c1%2147483647=z at z0 z1;have y0:=Int.emod_nonneg (z*48271+69621*(k:Int)+7919) (show (2147483629:Int)≠0 by decide);have y1:=Int.emod_lt_of_pos (z*48271+69621*(k:Int)+7919) (show (0:Int)<2147483629 by decide);generalize (z*48271+69621*(k:Int)+7919)%2147483629=y at y0 y1;walk_at "n";refine aB fun R4 hR4=>?_;walk_at "";refine⟨.inl ⟨by omega,by omega⟩,by decide,?_⟩;have x0:=Int.emod_nonneg (y*y+(k:Int)) (show (2147483587:Int)≠0 by decide);have x1:=Int.emod_lt_of_pos (y*y+(k:Int)) (show (0:Int)<2147483587 by decide);generalize (y*y+(k:Int))%2147483587=x at x0 x1;walk_at "n";refine aB fun R5 hR5=>?_;walk_at "";walk_at "n";refine aB fun R6 hR6=>?_;walk_at "";refine⟨by first | trivial | decide,by decide,by decide,?_⟩;generalize dz 0 (Int.toNat 9)=ts0;refine gM (fun r Z H=>∃(n fo:Int) (v6:Option T),Z=[some (.ref a),some (.int (k:Int)),some (.int c0),some (.int c1),some (.int n),some (.int fo),v6]/\0<=n/\n<2147483629/\Sub3 H3 H) ⟨x,0,_,rfl,x0,by omega,sb⟩ ?_ ?_
 ·rintro Z H ⟨n,fo,v6,rfl,_,_,sb2⟩;refine⟨trivial,?_⟩;walk_at "n";walk_at "";exact Fin3.of sb2 (k'.out _)
 rintro t r Z H N ⟨n,fo,v6,rfl,n0,n1,sb2⟩ hN;refine⟨trivial,?_⟩;have hM:=Box.mk hN;clear hN hR6 k';walk_at "";refine⟨.inl ⟨by omega,by omega⟩,by decide,.inr ⟨by decide,by decide⟩,?_⟩;exact hM.out _ _ ⟨_,_,_,rfl,Int.emod_nonneg _ (by decide),Int.lt_trans (Int.emod_lt_of_pos _ (by decide)) (by decide),sb2⟩
abbrev Cq:List Str:=["_law_cell_here","_law_letters","_law_word_here","_law_rest","_law_j"]
theorem sc_word:FnScope Cq ["_law_cell_here"] (aA (top 31)):=bu
theorem Ha {f:Addr}{fd:FuncData}(g:G3 K mg "_law_word" (top 31) ["_law_cell_here"] f fd) (B:Bl mg):Cal P w K mg base 1 "_law_word" (top 31) ["_law_cell_here"] Oj:=by
 refine⟨f,fd,g,?_⟩;refine fn3 g.fn sc_word (fun ts H Q h=>?_) (fun cdv A outer s H E ts H3 Q hr h=>?_)
 ·obtain⟨c,rfl,_⟩:=h;rfl
 obtain⟨c,rfl,kk⟩:=h;refine⟨_,(aj (aG (i:=1) sc_word.nd f9)
   (aj (aG (i:=2) sc_word.nd f9)
   (aj (aG (i:=3) sc_word.nd (aF bc (v3 0) ao))
   (aj (bx PassesOwn.never rfl (cH rfl B.range_ (aa (aF aY ao (aF aU (v3 0) ao)) ak)) (aD (i:=4) sc_word.nd) (aj (aG (i:=2) sc_word.nd (aF aY (v3 2) (aK ix3 (v3 1) (aF aU (v3 3) ao))))
    (au (aG (i:=3) sc_word.nd (aF bc (v3 3) ao)))))
   (au (aM (v3 2))))))),?_⟩
 rw[show aQ Cq [T.int c]=[some (T.int c),none,none,none,none] from rfl];have hsz:sizeLine=16777216:=rfl;have al:(mkS lw).length<=sizeLine:=by rw[cU];decide
 have k':=Box.mk kk;clear kk;have e0:("":Str)=mkS []:=by decide +kernel
 refine aB fun R0 hR0=>?_;walk_at "";simp only[Bh];walk_at "n";refine aB fun R1 hR1=>?_;walk_at "";walk_at "n";refine aB fun R2 hR2=>?_;walk_at "";refine⟨⟨by decide,by decide +kernel⟩,?_⟩;walk_at "n";refine aB fun R3 hR3=>?_;walk_at "";have m0:=Int.emod_nonneg c (show (8:Int)≠0 by decide);have m1:=Int.emod_lt_of_pos c (show (0:Int)<8 by decide);refine⟨by decide,trivial,by omega,by omega,?_⟩;have hrl:(dz 0 (1+c%8).toNat).length=(1+c%8).toNat:=by unfold dz;rw[List.length_map,List.length_range]
 generalize dz 0 (1+c%8).toNat=ts0 at hrl;try rw[e0]
 generalize c / 8=lf0;refine gM (fun r Z H=>∃(pre:List Nat) (lf:Int) (v4:Option T),Z=[some (.int c),some (.str (mkS lw)),some (.str (mkS pre)),some (.int lf),v4]/\(pre.length:Int)+r.length=1+c%8/\(∀x∈pre,97<=x/\x<=122)/\H3=H) ⟨[],lf0,_,rfl,by rw[hrl,List.length_nil];omega,(fun _ z=>nomatch z),rfl⟩ ?_ ?_
 ·rintro Z H ⟨pre,lf,v4,rfl,hpl,az,rfl⟩;refine⟨trivial,?_⟩;rw[List.length_nil] at hpl;walk_at "n";walk_at "";exact Fin3.of Sub3.refl (k'.out _ (Jc (by omega) (by omega) az))
 rintro x r Z H N2 ⟨pre,lf,v4,rfl,hpl,az,rfl⟩ hN2;refine⟨trivial,?_⟩;rw[List.length_cons] at hpl;have hM:=Box.mk hN2;have az':=Box.mk az;have hpl':pre.length<8:=by omega
 have hpl2:=Box.mk hpl;have b0:=Int.emod_nonneg lf (show (26:Int)≠0 by decide);have b1:=Int.emod_lt_of_pos lf (show (0:Int)<26 by decide);have hch:=Bj (lf%26) b0 b1;clear hN2 k' hR3 hpl az;walk_at "";simp only[gP,hch,fZ];walk_at "";rw[show (⟨#[97+(lf%26).toNat]⟩:Str)=mkS [97+(lf%26).toNat] from rfl];refine⟨by decide,al,by rw[cU,cU];simp only[List.length_singleton];omega,⟨by decide,by decide +kernel⟩,?_⟩;rw[vK];exact hM.out _ _ ⟨_,_,_,rfl,by rw[List.length_append,List.length_singleton];have:=hpl2.out;push_cast;omega,fun y hy=>by
  rcases List.mem_append.mp hy with hy | hy
  ·
   exact az'.out y hy
  ·
   rw[List.mem_singleton.mp hy];omega,rfl⟩
abbrev rF:List Str:=["_law_words","_law_letters","_law_found","_law_word_here"]
theorem sc_unlike:FnScope rF ["_law_words"] (aA (top 32)):=bu
theorem xT {f:Addr}{fd:FuncData}(g:G3 K mg "_law_unlike" (top 32) ["_law_words"] f fd) (B:Bl mg):Cal P w K mg base 1 "_law_unlike" (top 32) ["_law_words"] Ol:=by
 refine⟨f,fd,g,?_⟩;refine fn3 g.fn sc_unlike (fun ts H Q h=>?_) (fun cdv A outer s H E ts H3 Q hr h=>?_)
 ·obtain⟨a,ws,rfl,_⟩:=h;rfl
 have hu31:=Room.u31 hr;obtain⟨a,ws,rfl,ha,hl,hnm,kk⟩:=h;refine⟨_,(aj (aG (i:=1) sc_unlike.nd f9)
   (aj (aG (i:=2) sc_unlike.nd (bh ak))
   (aj (bx PassesOwn.never rfl (cG (v3 0)) (aD (i:=3) sc_unlike.nd) (aj (j7 PassesOwn.never (aX (mV hu31) (v3 3) (v3 2) rfl) (au (aG (i:=3) sc_unlike.nd (aF aY (iQ (v3 3) iK (iM (zM ao))) (aK ix3 (v3 1) (aF aU (aF aY (d9 PySem.F.plainAttrs_str PySem.F.slot_str_index PySem.F.type_str_index zg (v3 1) (aa (aK ix3 (v3 3) (zM ao)) ak)) ao) ao))))))
    (au (bW (d9 PySem.F.plainAttrs_list PySem.F.slot_list_append PySem.F.type_list_append bG (v3 2) (aa (v3 3) ak))))))
   (au (aM (v3 2)))))),?_⟩
 rw[show aQ rF [T.ref a]=[some (T.ref a),none,none,none] from rfl];have hsz:sizeLine=16777216:=rfl;have al:(mkS lw).length<=sizeLine:=by rw[cU];decide
 have k':=Box.mk kk;clear kk;refine aB fun R0 hR0=>?_;walk_at "";simp only[Bh];walk_at "n";refine aB fun R1 hR1=>?_;walk_at "";refine⟨by decide,fun pf hpf=>?_⟩;have naf:a≠pf:=bf ha hpf;walk_at "n";refine aB fun R2 hR2=>?_;have ga:up3 H3 pf (.lst []) a=some (.lst (ws.map T.str)):=by rw[aC naf];exact ha
 walk_at "";have hnm':=Box.mk hnm;clear hnm;refine aZ T.str ws (fun A Z H=>∃(fs:List Str) (v3:Option T),Z=[some (.ref a),some (.str (mkS lw)),some (.ref pf),v3]/\H=up3 H3 pf (.lst (fs.map T.str))/\fs.length=A.length/\Nms fs) ⟨[],_,rfl,rfl,rfl,Nms.nil⟩ ?_ ?_
 ·rintro Z H ⟨fs,v3,rfl,rfl,hl2,hn⟩;refine⟨.inl (by rw[aC naf];exact ha),?_⟩;walk_at "n";walk_at "";exact Fin3.of Sub3.refl (k'.out fs hl2 hn pf hpf)
 rintro A x B Z H N e ⟨fs,v3,rfl,rfl,hl2,hn⟩ hN;refine⟨.inl (by rw[aC naf];exact ha),?_⟩;have hA:A.length+1<=8:=by have:=congrArg List.length e;simp only[List.length_append,List.length_cons] at this;omega
 obtain⟨b,s0,rfl,hb7,hs0,baz⟩:=GZ (hnm'.out x (by rw[e];simp));have hN':=Box.mk hN;clear hN e hR2 k' ga;have gf:up3 H3 pf (.lst (fs.map T.str)) pf=some (.lst (fs.map T.str)):=aq;refine aB fun R3 hR3=>?_;walk_at "";refine xM (fun m Z H=>∃j:Nat,m+j=8/\Z=[some (.ref a),some (.str (mkS lw)),some (.ref pf),some (.str (nmL b s0 j))]/\H=up3 H3 pf (.lst (fs.map T.str))/\∀i,i<j->nmL b s0 i∈fs) ⟨8,0,rfl,rfl,rfl,(fun _ z=>absurd z (by omega))⟩ ?_;intro m Z H hI WI TB NX hWI hTB hNX;obtain⟨j,hm,rfl,rfl,hall⟩:=hI;have hj:j<=fs.length:=by
  rcases Nat.lt_or_ge fs.length j with z | z
  ·exact (pig fs (fun i=>nmL b s0 i) (fun i i' h1 h2 h=>GX (by omega) (by omega) h) fun i hi=>hall i (by omega)).elim
  exact z
 walk_at "";refine⟨rfl,dM fs,?_⟩;split
 ·rename_i hm1;have hin:nmL b s0 j∈fs:=Classical.byContradiction fun h=>absurd hm1 (by rw[rE];simp [h]);clear hNX hR3;obtain⟨hTB⟩:=hTB;subst hTB;try dsimp only
  walk_at "";have hlen:=G4 b s0 j;have md:=Nat.mod_lt (s0+j) (show 0<26 by decide);have hix:=Nz (97+(s0+j)%26) (by omega) (by omega);refine⟨by omega,by first | trivial | omega,by omega,?_⟩;rw[G5,yt,fZ,show (⟨#[97+(s0+j)%26]⟩:Str)=mkS [97+(s0+j)%26] from rfl,hix];clear hix;walk_at "";have hch:=Bj ((((97+(s0+j)%26 - 97:Nat):Int)+1)%26) (Int.emod_nonneg _ (by decide)) (Int.emod_lt_of_pos _ (by decide));have en:((((97+(s0+j)%26 - 97:Nat):Int)+1)%26).toNat=(s0+(j+1))%26:=by omega
  have sn:Txt.slice (nmL b s0 j) none (some (-1))=mkS b:=Oo b _;refine⟨by decide,al,?_⟩;rw[gP,hch,fZ,en,sn,show (⟨#[97+(s0+(j+1))%26]⟩:Str)=mkS [97+(s0+(j+1))%26] from rfl,vK];obtain⟨hWI⟩:=hWI;subst hWI;refine⟨by rw[cU,cU];simp only[List.length_singleton];omega,m - 1,by omega,j+1,by omega,rfl,rfl,fun i hi=>?_⟩;rcases Nat.lt_or_ge i j with z | z
  ·exact hall i z
  rw[show i=j by omega];exact hin
 rename_i hm1;have hni:nmL b s0 j∉fs:=fun h=>hm1 (by rw[rE];simp [h]);clear hTB hWI;obtain⟨hNX⟩:=hNX;subst hNX;walk_at "n";try dsimp only
 walk_at "";refine⟨⟨trivial,trivial⟩,by omega,hN'.out _ _ ⟨fs++[nmL b s0 j],some _,rfl,?_,by rw[List.length_append,List.length_append,hl2];rfl,hn.snoc (Om hb7 baz) hni⟩⟩;rw[List.map_append];rfl
abbrev Cr:List Str:=["_law_cell_here","_law_words","_law_k"]
theorem sc_pool:FnScope Cr ["_law_cell_here"] (aA (top 33)):=bu
theorem Hf {f:Addr}{fd:FuncData}(g:G3 K mg "_law_pool" (top 33) ["_law_cell_here"] f fd) (B:Bl mg) (F_word:Cal P w K mg base 1 "_law_word" (top 31) ["_law_cell_here"] Oj) (F_unlike:Cal P w K mg base 1 "_law_unlike" (top 32) ["_law_words"] Ol):Cal P w K mg base 2 "_law_pool" (top 33) ["_law_cell_here"] Tz:=by
 refine⟨f,fd,g,?_⟩;refine fn3 g.fn sc_pool (fun ts H Q h=>?_) (fun cdv A outer s H E ts H3 Q hr h=>?_)
 ·obtain⟨c,rfl,_⟩:=h;rfl
 obtain⟨c,rfl,kk⟩:=h;refine⟨_,(aj (aG (i:=1) sc_pool.nd (bh ak))
   (aj (bx PassesOwn.never rfl (cH rfl B.range_ (aa ao ak)) (aD (i:=2) sc_pool.nd) (aj (bW (d9 PySem.F.plainAttrs_list PySem.F.slot_list_append PySem.F.type_list_append bG (v3 1) (aa (aP F_word hr rfl (aa (aF aU (v3 0) (aF cM ao (aF iu ao ao))) ak)) ak)))
    (au (aG (i:=0) sc_pool.nd (aF bc (v3 0) (aF cM ao (aF iu ao ao)))))))
   (au (aM (aP F_unlike hr rfl (aa (v3 1) ak)))))),?_⟩
 rw[show aQ Cr [T.int c]=[some (T.int c),none,none] from rfl];have hsz:sizeLine=16777216:=rfl;have k':=Box.mk kk;clear kk;refine aB fun R0 hR0=>?_;walk_at "";refine⟨by decide,fun pf hpf=>?_⟩;walk_at "n";refine aB fun R1 hR1=>?_;walk_at "";refine⟨trivial,by decide,by decide,?_⟩;have rl:(dz 0 (Int.toNat 8)).length=8:=by unfold dz;rw[List.length_map,List.length_range];rfl
 generalize dz 0 (Int.toNat 8)=ts0 at rl;refine gM (fun r Z H=>∃(ws:List Str) (c:Int) (v2:Option T),Z=[some (.int c),some (.ref pf),v2]/\H=up3 H3 pf (.lst (ws.map T.str))/\ws.length+r.length=8/\∀x∈ws,isNm x) ⟨[],c,_,rfl,rfl,by rw[rl];rfl,(fun _ z=>nomatch z)⟩ ?_ ?_
 ·rintro Z H ⟨ws,c,v2,rfl,rfl,hl,hn⟩;refine⟨trivial,?_⟩;rw[List.length_nil] at hl;walk_at "n";walk_at "";refine⟨pf,ws,rfl,aq,by omega,hn,fun us h1 h2 p hp=>?_⟩;refine Fin3.of ?_ (k'.out us (by omega) h2 p (cu hp).2);intro b o hb;by_cases e:b=p
  ·subst e;rw[aq] at hb ⊢;exact hb
  rw[aC e] at hb ⊢;rw[aC (bf hb hpf)];exact hb
 rintro x r Z H N ⟨ws,c,v2,rfl,rfl,hl,hn⟩ hN;refine⟨trivial,?_⟩;rw[List.length_cons] at hl;have hM:=Box.mk hN;clear hN hR1 k';have gf:up3 H3 pf (.lst (ws.map T.str)) pf=some (.lst (ws.map T.str)):=aq;walk_at "";refine⟨⟨trivial,trivial⟩,⟨by decide,by decide,by decide⟩,.inl ⟨by decide,by decide⟩,by decide,_,rfl,fun y hy=>?_⟩;dsimp only;rw[gf,zq];refine⟨by rw[List.length_map];omega,⟨by decide,by decide,by decide⟩,.inl ⟨by decide,by decide⟩,⟨by decide,by decide +kernel⟩,hM.out _ _ ⟨ws++[y],_,_,rfl,?_,by rw[List.length_append,List.length_singleton];omega,fun z hz=>?_⟩⟩
 ·rw[List.map_append];exact nU
 rcases List.mem_append.mp hz with hz | hz
 ·exact hn z hz
 rw[List.mem_singleton.mp hz];exact hy
abbrev Cu:List Str:=["_law_cell_here","_law_row","_law_pool_here","_law_unit","_law_stand","_law_turn","_law_some","_law_rest","_law_k","_law_other","_law_at","_law_digit","_law_length"]
theorem sc_task:FnScope Cu ["_law_cell_here","_law_row","_law_pool_here","_law_unit"] (aA (top 34)):=bu
theorem Hg {f:Addr}{fd:FuncData}(g:G3 K mg "_law_task" (top 34) ["_law_cell_here","_law_row","_law_pool_here","_law_unit"] f fd) (B:Bl mg) (F_word:Cal P w K mg base 1 "_law_word" (top 31) ["_law_cell_here"] Oj):Cal P w K mg base 2 "_law_task" (top 34) ["_law_cell_here","_law_row","_law_pool_here","_law_unit"] TF:=by
 refine⟨f,fd,g,?_⟩;refine fn3 g.fn sc_task (fun ts H Q h=>?_) (fun cdv A outer s H E ts H3 Q hr h=>?_)
 ·obtain⟨c,pr,pp,row,pool,unit,rfl,_⟩:=h;rfl
 have hu30:=Room.u30 hr;have hu31:=Room.u31 hr;obtain⟨c,pr,pp,row,pool,unit,rfl,hpr,r1,r8,hrn,hpp,p8,hpn,u1,u2,kk⟩:=h;refine⟨_,(aj (aG (i:=4) sc_task.nd (aF aU (v3 0) (aO cC rfl B.len_ cD (aa (v3 1) ak))))
   (aj (aG (i:=5) sc_task.nd (aF aU (aF bc (v3 0) (aO cC rfl B.len_ cD (aa (v3 1) ak))) ao))
   (aj (aG (i:=0) sc_task.nd (aF bc (v3 0) (aF cM ao (aO cC rfl B.len_ cD (aa (v3 1) ak)))))
   (aj (aG (i:=6) sc_task.nd (bh ak))
   (aj (bK (aX (dG hu30) (aF aU (v3 0) ao) ao) (aj (aG (i:=6) sc_task.nd (bh (aa (aK ix3 (v3 1) (v3 4)) ak)))
    (aj (aG (i:=7) sc_task.nd (aF bc (v3 0) ao))
    (aj (bx PassesOwn.never rfl (cH rfl B.range_ (aa ao ak)) (aD (i:=8) sc_task.nd) (aj (aG (i:=9) sc_task.nd (aK ix3 (aF aY (v3 2) (bh (aa (aK ix3 (v3 1) (v3 4)) ak))) (aF aU (v3 7) ao)))
     (aj (aG (i:=7) sc_task.nd (aF bc (v3 7) ao))
     (au (bK (aX (ql hu31) (v3 9) (v3 6) rfl) (au (bW (d9 PySem.F.plainAttrs_list PySem.F.slot_list_append PySem.F.type_list_append bG (v3 6) (aa (v3 9) ak)))) aR)))))
    (aj (aG (i:=10) sc_task.nd (aF aU (aF aU (v3 7) ao) (aO cC rfl B.len_ cD (aa (v3 6) ak))))
    (au (aG (i:=6) sc_task.nd (aF aY (iQ (v3 6) (iM (v3 10)) iK) (iQ (v3 6) iK (iM (v3 10)))))))))) aR)
   (aj (aG (i:=0) sc_task.nd (aF bc (v3 0) (aF cM (aF cM ao ao) ao)))
   (aj (aG (i:=11) sc_task.nd (aF aY ao (aF aU (aF bc (v3 0) ao) ao)))
   (aj (aG (i:=12) sc_task.nd (aK ix3 (bh (aa (v3 11) (aa (aF aY (aF cM (v3 3) (v3 11)) (aF aU (aF bc (v3 0) ao) ao)) (aa (aF aY ao (aF aU (aF bc (v3 0) ao) (aF ou (aF iu ao ao) ao))) ak)))) (aF aU (v3 0) ao)))
   (au (aM (bD (aa (v3 4) (aa (v3 5) (aa (v3 12) (aa (bL dh rfl B.tuple_ cF (aa (v3 6) ak)) (aa (aP F_word hr rfl (aa (aF bc (v3 0) (aF cM ao (aF iu ao ao))) ak)) ak)))))))))))))))),?_⟩
 rw[show aQ Cu [T.int c,T.ref pr,T.ref pp,T.int unit]=[some (T.int c),some (T.ref pr),some (T.ref pp),some (T.int unit),none,none,none,none,none,none,none,none,none] from rfl];have hsz:sizeLine=16777216:=rfl;have k':=Box.mk kk;clear kk;have hrn':=Box.mk hrn;have hpn':=Box.mk hpn;clear hrn hpn;refine aB fun R0 hR0=>?_;walk_at "";have b0:=Int.emod_nonneg c (show (row.length:Int)≠0 by omega);have b1:=Int.emod_lt_of_pos c (show (0:Int)<(row.length:Int) by omega);refine⟨by omega,?_⟩;obtain⟨s,hs⟩:∃s:Nat,c%(row.length:Int)=(s:Int):=⟨(c%(row.length:Int)).toNat,by omega⟩;rw[hs] at b0 b1 ⊢;have hs':s<row.length:=by omega
 have lg:(row.length:Int).natAbs.log2<9000:=Nat.lt_of_le_of_lt (Nat.log2_le_self _) (by omega);have lg8:(8*(row.length:Int)).natAbs.log2<9000:=Nat.lt_of_le_of_lt (Nat.log2_le_self _) (by omega);clear hs;walk_at "n";refine aB fun R1 hR1=>?_;walk_at "";refine⟨⟨by omega,lg⟩,by decide,?_⟩;have t0:=Int.emod_nonneg (c / (row.length:Int)) (show (8:Int)≠0 by decide);have t1:=Int.emod_lt_of_pos (c / (row.length:Int)) (show (0:Int)<8 by decide);generalize c / (row.length:Int)%8=tn at t0 t1;walk_at "n";refine aB fun R2 hR2=>?_;walk_at "";refine⟨.inl ⟨by decide,by decide⟩,⟨by omega,lg8⟩,?_⟩;generalize c / (8*(row.length:Int))=c2;walk_at "n";refine aB fun R3 hR3=>?_;walk_at "";refine⟨by decide,fun p0 hp0=>?_⟩;walk_at "n";refine aB fun R4 hR4=>?_;have key:Box (∀(p:Addr) (ks:List Str) (v7 v8 v9 v10:Option T) (H4:Hp3),Sub3 H3 H4->H4 p=some (.lst (ks.map T.str))->Nms ks->ks.length<=4->(ks=[]\/row.getD s ""∈ks)->R4 { nx:=fun x H'=>Fin3 Q T.non H',rt:=Fin3 Q} [some (.int c2),some (.ref pr),some (.ref pp),some (.int unit),some (.int (s:Int)),some (.int tn),some (.ref p),v7,v8,v9,v10,none,none] H4):=by
  refine⟨fun p ks v7 v8 v9 v10 H4 sb gp hn hk4 hks=>?_⟩;clear hpr hpp hp0;walk_at "n";refine aB fun R5 hR5=>?_;walk_at "";refine⟨.inl ⟨by decide,by decide⟩,.inl ⟨by decide,by decide⟩,⟨by decide,by decide +kernel⟩,?_⟩;generalize c2 / (4*729*4)=c3;walk_at "n";refine aB fun R6 hR6=>?_;walk_at "";refine⟨⟨by decide,by decide +kernel⟩,by decide,?_⟩;have d0:=Int.emod_nonneg (c3 / 3) (show (9:Int)≠0 by decide);have d1:=Int.emod_lt_of_pos (c3 / 3) (show (0:Int)<9 by decide);generalize c3 / 3%9=dg at d0 d1;walk_at "n";refine aB fun R7 hR7=>?_;walk_at "";refine⟨.inr ⟨by omega,by omega⟩,⟨by decide,by decide +kernel⟩,by decide,⟨by decide,by decide +kernel⟩,⟨by decide,by decide,by decide⟩,by decide +kernel,by decide,fun q1 hq1=>⟨by decide,?_⟩⟩;have i0:=Int.emod_nonneg c3 (show (3:Int)≠0 by decide);have i1:=Int.emod_lt_of_pos c3 (show (0:Int)<3 by decide);have e0:=Int.emod_nonneg (c3 / 27) (show (2:Int)≠0 by decide);have e1:=Int.emod_lt_of_pos (c3 / 27) (show (0:Int)<2 by decide);have f0:=Int.emod_nonneg (c3 / 3) (show ((10:Int)^Int.toNat 60 - 1)≠0 by decide +kernel);have f1:=Int.emod_lt_of_pos (c3 / 3) (show (0:Int)<(10:Int)^Int.toNat 60 - 1 by decide +kernel);have m1:unit*(1+dg)<=10^57*9:=Int.mul_le_mul u2 (by omega) (by omega) (by decide +kernel);have m0:1*1<=unit*(1+dg):=Int.mul_le_mul u1 (by omega) (by decide) (by omega);have p60:(10:Int)^Int.toNat 60=10^60:=rfl;rw[p60] at f0 f1 ⊢;have sb7:=sb.trans (Sub3.new (o:=.lst [T.int (1+dg),T.int (unit*(1+dg)+c3 / 27%2),T.int (1+c3 / 3%(10^60 - 1))]) hq1);have gp7:up3 H4 q1 (.lst [T.int (1+dg),T.int (unit*(1+dg)+c3 / 27%2),T.int (1+c3 / 3%(10^60 - 1))]) p=_ := upa gp hq1;generalize up3 H4 q1 (.lst [T.int (1+dg),T.int (unit*(1+dg)+c3 / 27%2),T.int (1+c3 / 3%(10^60 - 1))])=H5 at sb7 gp7 ⊢;generalize unit*(1+dg)=ud at *;generalize c3 / 27%2=e27 at *;generalize c3 / 3%(10^60 - 1)=e3 at *;obtain⟨len,hlen,l1,l2⟩:∃len:Int,atI [T.int (1+dg),T.int (ud+e27),T.int (1+e3)] (c3%3)=some (T.int len)/\1<=len/\len<10^60:=by
   rcases (show c3%3=0\/c3%3=1\/c3%3=2 by omega) with h | h | h
   ·rw[h];exact⟨_,rfl,by omega,by omega⟩
   ·rw[h];exact⟨_,rfl,by omega,by omega⟩
   rw[h];exact⟨_,rfl,by omega,by omega⟩
  rw[hlen,fZ];clear hlen gp sb hq1;walk_at "n";walk_at "";refine⟨⟨by decide,by decide,by decide⟩,.inl ⟨by decide,by decide⟩,⟨by decide +kernel,by decide +kernel⟩,_,rfl,fun y hy=>⟨by decide,?_⟩⟩;exact Fin3.of sb7 (k'.out s tn len ks y hs' t0 t1 l1 l2 hn hk4 hks hy)
 have gpr:up3 H3 p0 (.lst []) pr=_ := upa hpr hp0;have g00:up3 H3 p0 (.lst []) p0=some (.lst (([]:List Str).map T.str)):=aq;have sb0:Sub3 H3 (up3 H3 p0 (.lst [])):=Sub3.new hp0;generalize up3 H3 p0 (.lst [])=H4 at gpr g00 sb0 ⊢;clear hp0 hR4 k';walk_at "";refine⟨by decide,?_⟩;by_cases h4:c2%4=1
 ·rw[decide_eq_true h4,if_pos rfl];try rw[gpr,vo]
  rw[jU hs',fZ];refine⟨by decide,fun pf hpf=>⟨⟨by decide,by decide +kernel⟩,by first | trivial | decide,by decide,by decide,?_⟩⟩;have f0:=cz sb0 hpf;have rl:(dz 0 (Int.toNat 3)).length=3:=by unfold dz;rw[List.length_map,List.length_range];rfl
  generalize dz 0 (Int.toNat 3)=ts0 at rl;have hxs:=hrn'.out _ (getD_memS hs');have hx':=Box.mk hxs;clear hxs;refine gM (fun r Z H=>∃(fs:List Str) (rest:Int) (v8 v9:Option T),Z=[some (.int c2),some (.ref pr),some (.ref pp),some (.int unit),some (.int (s:Int)),some (.int tn),some (.ref pf),some (.int rest),v8,v9,none,none,none]/\Sub3 H3 H/\H pf=some (.lst (fs.map T.str))/\Nms fs/\fs.length+r.length<=4/\row.getD s ""∈fs) ⟨[row.getD s ""],c2 / 4,_,_,rfl,sb0.trans (Sub3.new hpf),aq,Nms.nil.snoc hx'.out (fun z=>nomatch z),by rw[rl];exact Nat.le_refl 4,List.mem_singleton.mpr rfl⟩ ?_ ?_
  ·rintro Z H ⟨fs,rest,v8,v9,rfl,sb,gf,hn,hl,hm⟩;refine⟨trivial,?_⟩;clear gpr g00;walk_at "";have fl:1<=fs.length:=List.length_pos_of_mem hm;have a0:=Int.emod_nonneg (rest%4) (show (fs.length:Int)≠0 by omega);have a1:=Int.emod_lt_of_pos (rest%4) (show (0:Int)<(fs.length:Int) by omega);obtain⟨j,hj⟩:∃j:Nat,rest%4%(fs.length:Int)=(j:Int):=⟨(rest%4%(fs.length:Int)).toNat,by omega⟩;refine⟨by decide,by omega,fun q1 hq1=>?_⟩;rw[hj,aC (bf gf hq1),gf,Ia,zu,zr];intro q2 hq2;have n12:q1≠q2:=bf aq hq2;rw[zm,aC n12,aq,aq,jj];refine⟨by rw[List.length_drop,List.length_take,List.length_map];omega,fun q3 hq3=>?_⟩;have pm:(fs.drop j++fs.take j).Perm fs:=List.perm_append_comm.trans (by rw[List.take_append_drop]);refine key.out q3 (fs.drop j++fs.take j) _ _ _ _ _ (sb.trans ((Sub3.new hq1).trans ((Sub3.new hq2).trans (Sub3.new hq3)))) (by rw[aq,List.map_append,List.map_drop,List.map_take]) ⟨fun x hx=>hn.nm x (pm.mem_iff.mp hx),pm.nodup_iff.mpr hn.nd⟩ (by rw[pm.length_eq];simpa using hl) (.inr (pm.mem_iff.mpr hm))
  rintro x r Z H N ⟨fs,rest,v8,v9,rfl,sb,gf,hn,hl,hm⟩ hN;refine⟨trivial,?_⟩;rw[List.length_cons] at hl;have hM:=Box.mk hN;clear hN gpr g00 key;have gpr:=sb _ _ hpr;have gpp:=sb _ _ hpp;refine aB fun R5 hR5=>?_;walk_at "";try rw[jU hs',fZ]
  refine⟨by decide,fun q1 hq1=>?_⟩;rw[aC (bf gpp hq1),gpp,jj];refine⟨by rw[List.length_map,List.length_singleton];omega,fun q2 hq2=>?_⟩;have sb5:=sb.trans ((Sub3.new (o:=.lst [T.str (row.getD s "")]) hq1).trans (Sub3.new (o:=.lst (pool.map T.str++[T.str (row.getD s "")])) hq2));have gf5:up3 (up3 H q1 (.lst [T.str (row.getD s "")])) q2 (.lst (pool.map T.str++[T.str (row.getD s "")])) pf=some (.lst (fs.map T.str)):=by rw[aC (bf (Sub3.new hq1 _ _ gf) hq2),aC (bf gf hq1)];exact gf
  have h0:=Int.emod_nonneg rest (show (9:Int)≠0 by decide);have h1:=Int.emod_lt_of_pos rest (show (0:Int)<9 by decide);obtain⟨j,hj⟩:∃j:Nat,rest%9=(j:Int):=⟨(rest%9).toNat,by omega⟩;have hat:atI (pool.map T.str++[T.str (row.getD s "")]) (j:Int)=some (T.str ((pool++[row.getD s ""]).getD j "")):=by have:=jU (ns:=pool++[row.getD s ""]) (i:=j) (by rw[List.length_append,List.length_singleton];omega);rw[List.map_append] at this;exact this
  have hoth:isNm ((pool++[row.getD s ""]).getD j ""):=by
   have:=getD_memS (ns:=pool++[row.getD s ""]) (i:=j) (by rw[List.length_append,List.length_singleton];omega);rcases List.mem_append.mp this with z | z
   ·exact hpn'.out _ z
   rw[List.mem_singleton.mp z];exact hx'.out
  refine⟨by decide,?_⟩;rw[hj,zp,aq,vo,hat,fZ];generalize up3 (up3 H q1 (.lst [T.str (row.getD s "")])) q2 (.lst (pool.map T.str++[T.str (row.getD s "")]))=H5 at sb5 gf5 ⊢;generalize (pool++[row.getD s ""]).getD j ""=oth at hoth ⊢;clear hat hq1 hq2 gpr gpp sb gf;walk_at "n";walk_at "";refine⟨⟨by decide,by decide +kernel⟩,rfl,dM fs,?_⟩;split
  ·rename_i hm1;have hni:=(S5 iT (x:=oth)).mp hm1;try walk_at ""
   refine⟨⟨trivial,trivial⟩,by omega,hM.out _ _ ⟨fs++[oth],_,_,_,rfl,?_,?_,hn.snoc hoth hni,by rw[List.length_append,List.length_singleton];omega,List.mem_append_left _ hm⟩⟩
   ·intro b o hb;rw[aC (bf hb f0)];exact sb5 b o hb
   rw[aq,List.map_append];rfl
  exact hM.out _ _ ⟨fs,_,_,_,rfl,sb5,gf5,hn,by omega,hm⟩
 rw[decide_eq_false h4,if_neg Bool.false_ne_true];exact key.out p0 [] _ _ _ _ H4 sb0 g00 Nms.nil (by decide) (.inl rfl)
abbrev pF:List Str:=["_law_script","_law_names","_law_some","_law_rank","_law_base","_law_ahead","_law_beside","_law_orders","_law_pairs","_law_p","_law_q","_law_one","_law_other","_law_word_here"]
theorem sc_links:FnScope pF ["_law_script","_law_names","_law_some"] (aA (top 35)):=bu
theorem Cv {f:Addr}{fd:FuncData}(g:G3 K mg "_law_links" (top 35) ["_law_script","_law_names","_law_some"] f fd) (B:Bl mg) (F_cell:Cal P w K mg base 1 "_law_cell" (top 30) ["_law_script","_law_k"] GR):Cal P w K mg base 2 "_law_links" (top 35) ["_law_script","_law_names","_law_some"] TJ:=by
 refine⟨f,fd,g,?_⟩;refine fn3 g.fn sc_links (fun ts H Q h=>?_) (fun cdv A outer s H E ts H3 Q hr h=>?_)
 ·obtain⟨a,pn,ps,sc,ns,ss,rfl,_⟩:=h;rfl
 have hu30:=Room.u30 hr;have hu31:=Room.u31 hr;obtain⟨a,pn,ps,sc,ns,ss,rfl,ha,hsc,hpn,hnn,hn8,hps,hsl,kk⟩:=h;refine⟨_,(aj (aG (i:=3) sc_links.nd (aO Gb rfl B.sorted_ jl (aa (bQ rfl (cj (n0:=(aA (top 35)).names) (N:=pF) (N':=["_law_k","_law_some"]) (nt:=1) (cap:=[2]) rfl rfl (by decide +kernel)) (cH rfl B.range_ (aa (aO cC rfl B.len_ cD (aa (v3 1) ak)) ak)) (fun cl pins s H C0 fp=>⟨(aD (i:=0) (show List.Nodup [("_law_k":Str),("_law_some":Str)] by decide +kernel)),cT,(bD (aa (aK ix3 (aK ix3 (v3 1) (v3 0)) ao) (aa (aK ix3 (aK ix3 (v3 1) (v3 0)) ao) (aa (v3 0) ak))))⟩)) ak)))
   (aj (aG (i:=4) sc_links.nd (aK ix3 (bh (aa ao (aa ao (aa ao ak)))) (aF aU (aF bc (aP F_cell hr rfl (aa (v3 0) (aa ao ak))) ao) ao)))
   (aj (aG (i:=5) sc_links.nd (aP F_cell hr rfl (aa (v3 0) (aa ao ak))))
   (aj (aG (i:=6) sc_links.nd (aP F_cell hr rfl (aa (v3 0) (aa ao ak))))
   (aj (aG (i:=7) sc_links.nd (bh ak))
   (aj (aG (i:=8) sc_links.nd (bh ak))
   (aj (bx PassesOwn.never rfl (cH rfl B.range_ (aa (aO cC rfl B.len_ cD (aa (v3 3) ak)) ak)) (aD (i:=9) sc_links.nd) (au (bx PassesOwn.never rfl (wY rfl B.range_ (aa (aF aY (v3 9) ao) (aa (aO cC rfl B.len_ cD (aa (v3 3) ak)) ak))) (aD (i:=10) sc_links.nd) (aj (aG (i:=11) sc_links.nd (aK ix3 (v3 1) (aK ix3 (aK ix3 (v3 3) (v3 9)) ao)))
     (aj (aG (i:=12) sc_links.nd (aK ix3 (v3 1) (aK ix3 (aK ix3 (v3 3) (v3 10)) ao)))
     (aj (bK (aX (dG hu30) (aF aU (v3 5) (v3 4)) ao) (au (bW (d9 PySem.F.plainAttrs_list PySem.F.slot_list_append PySem.F.type_list_append bG (v3 7) (aa (bD (aa (v3 11) (aa (v3 12) ak))) ak)))) aR)
     (aj (aG (i:=13) sc_links.nd (aK ix3 (bh (aa f9 (aa f9 ak))) (bL Ej rfl B.int_ Ku (aa (gh (dG hu30) (aK ix3 (aK ix3 (v3 3) (v3 9)) ao) (aK ix3 (aK ix3 (v3 3) (v3 10)) ao)) ak))))
     (aj (bK (aX (mV hu31) (aF aU (v3 6) ao) (bD (aa ao (aa ao ak))) rfl) (au (bW (d9 PySem.F.plainAttrs_list PySem.F.slot_list_append PySem.F.type_list_append bG (v3 8) (aa (bD (aa (v3 13) (aa (v3 11) (aa (v3 12) ak)))) ak)))) aR)
     (aj (bK (aX (mV hu31) (aF aU (v3 6) ao) (bD (aa ao (aa ao ak))) rfl) (au (bW (d9 PySem.F.plainAttrs_list PySem.F.slot_list_append PySem.F.type_list_append bG (v3 8) (aa (bD (aa (v3 13) (aa (v3 12) (aa (v3 11) ak)))) ak)))) aR)
     (aj (aG (i:=5) sc_links.nd (aF bc (v3 5) (v3 4)))
     (au (aG (i:=6) sc_links.nd (aF bc (v3 6) ao)))))))))))))
   (aj (bK (aX (dG hu30) (aF aU (v3 5) ao) ao) (au (bW (z7 PySem.F.plainAttrs_list PySem.F.slot_list_reverse PySem.F.type_list_reverse Cd (v3 7)))) aR)
   (aj (bK (aX (dG hu30) (aF aU (v3 6) ao) ao) (au (bW (z7 PySem.F.plainAttrs_list PySem.F.slot_list_reverse PySem.F.type_list_reverse Cd (v3 8)))) aR)
   (au (aM (bD (aa (bL dh rfl B.tuple_ cF (aa (v3 7) ak)) (aa (bL dh rfl B.tuple_ cF (aa (iQ (v3 8) iK (iM ao)) ak)) ak)))))))))))))),?_⟩
 rw[show aQ pF [T.ref a,T.ref pn,T.ref ps]=[some (T.ref a),some (T.ref pn),some (T.ref ps),none,none,none,none,none,none,none,none,none,none,none] from rfl];have hsz:sizeLine=16777216:=rfl;have k':=Box.mk kk;clear kk;refine aB fun R0 hR0=>?_;walk_at "";refine⟨trivial,by omega,by omega,?_⟩;rw[vN];walk_at "c";refine bT (fun (k:Nat)=>T.int (k:Int)) (fun k=>trT ((((ss.map (·.1)).getD k 0:Nat):Int),(ss.map (·.2.1)).getD k 0,(k:Int))) (List.range ns.length) [some (.ref ps)] trivial (by rw[List.length_range];omega) (fun k hk Q' hq=>?_) (fun p1 hp1=>?_)
 ·have hk':k<ss.length:=by have:=List.mem_range.mp hk;omega
  have x1:atI (ss.map tk5) (k:Int)=some (.tup [.int ((ss[k]).1:Int),.int (ss[k]).2.1,.int (ss[k]).2.2.1,sT (ss[k]).2.2.2.1,.str (ss[k]).2.2.2.2]):=bV (by rw[List.getElem?_map,List.getElem?_eq_getElem hk'];rfl);have y1:(ss.map (·.1)).getD k 0=(ss[k]).1:=by rw[List.getD_eq_getElem?_getD,List.getElem?_map,List.getElem?_eq_getElem hk'];rfl
  have y2:(ss.map (·.2.1)).getD k 0=(ss[k]).2.1:=by rw[List.getD_eq_getElem?_getD,List.getElem?_map,List.getElem?_eq_getElem hk'];rfl
  rw[y1,y2] at hq;generalize ss[k]=tk at x1 hq;have hq':=Box.mk hq;clear hq k' hR0 y1 y2;walk_at "";exact⟨by decide,hq'.out⟩
 refine⟨(List.range ns.length).map fun k=>((((ss.map (·.1)).getD k 0:Nat):Int),(ss.map (·.2.1)).getD k 0,(k:Int)),by rw[List.map_map];rfl,by rw[List.length_map,List.length_range];omega,fun us hperm hpw pk hpk=>?_⟩;obtain⟨ul,ix,hx1,hx2⟩:=Oq hsl hperm hpw;have sb:Sub3 H3 (up3 (up3 H3 p1 (.lst ((List.range ns.length).map fun k=>trT ((((ss.map (·.1)).getD k 0:Nat):Int),(ss.map (·.2.1)).getD k 0,(k:Int))))) pk (.lst (us.map trT))):=(Sub3.new hp1).trans (Sub3.new hpk);have gk:up3 (up3 H3 p1 (.lst ((List.range ns.length).map fun k=>trT ((((ss.map (·.1)).getD k 0:Nat):Int),(ss.map (·.2.1)).getD k 0,(k:Int))))) pk (.lst (us.map trT)) pk=some (.lst (us.map trT)):=aq;generalize up3 (up3 H3 p1 (.lst ((List.range ns.length).map fun k=>trT ((((ss.map (·.1)).getD k 0:Nat):Int),(ss.map (·.2.1)).getD k 0,(k:Int))))) pk (.lst (us.map trT))=H4 at sb gk ⊢;clear hperm hpw hpk hp1;have hx1':=Box.mk hx1;have hx2':=Box.mk hx2;clear hx1 hx2;walk_at "n";refine aB fun R1 hR1=>?_;walk_at "";refine⟨by decide,fun q1 hq1=>?_⟩;have sb1:=sb.trans (Sub3.new (o:=.lst [T.int 2,T.int 4,T.int 8]) hq1);have gk1:up3 H4 q1 (.lst [T.int 2,T.int 4,T.int 8]) pk=_ := upa gk hq1;have gq1:up3 H4 q1 (.lst [T.int 2,T.int 4,T.int 8]) q1=some (.lst [T.int 2,T.int 4,T.int 8]):=aq;generalize up3 H4 q1 (.lst [T.int 2,T.int 4,T.int 8])=H5 at sb1 gk1 gq1 ⊢;clear sb gk hq1;refine⟨a,sc,0,rfl,sb1 _ _ ha,hsc,by decide,fun c0=>?_⟩;dsimp only;obtain⟨bs,eb,hbs⟩:∃bs:Int,atI [T.int 2,T.int 4,T.int 8] (c0 / 2048%3)=some (T.int bs)/\(bs=2\/bs=4\/bs=8):=by
  have i0:=Int.emod_nonneg (c0 / 2048) (show (3:Int)≠0 by decide);have i1:=Int.emod_lt_of_pos (c0 / 2048) (show (0:Int)<3 by decide);rcases (show c0 / 2048%3=0\/c0 / 2048%3=1\/c0 / 2048%3=2 by omega) with h | h | h
  ·rw[h];exact⟨2,rfl,.inl rfl⟩
  ·rw[h];exact⟨4,rfl,.inr (.inl rfl)⟩
  rw[h];exact⟨8,rfl,.inr (.inr rfl)⟩
 walk_at "";refine⟨⟨by decide,by decide +kernel⟩,by decide,?_⟩;have lgb:bs.natAbs.log2<9000:=Nat.lt_of_le_of_lt (Nat.log2_le_self _) (by omega);clear eb gq1;walk_at "n";refine aB fun R2 hR2=>?_;walk_at "";refine⟨a,sc,12,rfl,sb1 _ _ ha,hsc,by decide,fun c1=>?_⟩;walk_at "n";refine aB fun R3 hR3=>?_;walk_at "";refine⟨a,sc,13,rfl,sb1 _ _ ha,hsc,by decide,fun c2=>?_⟩;walk_at "n";refine aB fun R4 hR4=>?_;walk_at "";refine⟨by decide,fun po hpo=>?_⟩;walk_at "n";refine aB fun R5 hR5=>?_;walk_at "";refine⟨by decide,fun pq hpq=>?_⟩;have lh0:LkH H3 (up3 (up3 H5 po (.lst [])) pq (.lst [])) pk po pq us [] [] :=
  ⟨(sb1.trans (Sub3.new hpo)).trans (Sub3.new hpq),Sub3.new hpq _ _ (Sub3.new hpo _ _ gk1),by rw[aC (bf aq hpq)];exact aq,aq,cz sb1 hpo,cz (sb1.trans (Sub3.new hpo)) hpq,bf gk1 hpo,bf (Sub3.new hpo _ _ gk1) hpq,bf aq hpq⟩
 generalize up3 (up3 H5 po (.lst [])) pq (.lst [])=H6 at lh0 ⊢;clear sb1 gk1 hpo hpq;walk_at "n";refine aB fun R6 hR6=>?_;have gk0:=lh0.k;walk_at "";refine⟨by first | trivial | omega,by omega,by omega,?_⟩;try rw[ul]
 rw[vN];have hnO:∃nmO:Nat->Str,∀p<ns.length,ns[ix p]?=some (nmO p):=⟨fun p=>ns.getD (ix p) "",fun p hp=>by
  have:=(hx1'.out p hp).1
  dsimp only
  rw[List.getD_eq_getElem?_getD,List.getElem?_eq_getElem this]
  rfl⟩
 obtain⟨nmO,hnO⟩:=hnO;obtain⟨wd,hwd⟩:∃wd:Nat->Nat->Str,∀p q,wd p q=if (ss.map (·.1)).getD (ix p) 0=(ss.map (·.1)).getD (ix q) 0 then "with" else "apart":=⟨_,fun _ _=>rfl⟩
 have hwd':=Box.mk hwd;clear hwd;have hinj:Box (∀i j,i<ns.length->j<ns.length->nmO i=nmO j->i=j):=⟨fun i j hi hj e=>by
  have h1:=hnO i hi
  have h2:=hnO j hj
  rw[e,<- h2] at h1
  have e2:=(List.getElem?_inj (hx1'.out i hi).1 hnn.nd).mp h1
  rcases Nat.lt_trichotomy i j with z | z | z
  ·
   exact absurd e2 (hx2'.out i j z hj).1
  ·
   exact z
  ·
   exact absurd e2.symm (hx2'.out j i z hi).1⟩
 refine aZ (fun (k:Nat)=>T.int (k:Int)) (List.range ns.length) (fun A Z H=>∃(O:List (Str × Str)) (P:List (Str × Str × Str)) (ah be:Int) (v9 v10 v11 v12 v13:Option T),Z=[some (.ref a),some (.ref pn),some (.ref ps),some (.ref pk),some (.int bs),some (.int ah),some (.int be),some (.ref po),some (.ref pq),v9,v10,v11,v12,v13]/\LkH H3 H pk po pq us O P/\Lk1 nmO wd ns.length A.length 0 O P) ⟨[],[],_,_,_,_,_,_,_,rfl,lh0,⟨List.nodup_nil,(fun _ z=>nomatch z),List.nodup_nil,(fun _ z=>nomatch z),Nat.zero_le _,Nat.zero_le _⟩⟩ ?_ ?_
 ·rintro Z H ⟨O,P,ah,be,v9,v10,v11,v12,v13,rfl,lh,l1⟩;refine⟨trivial,?_⟩;have gk:=lh.k;have go:=lh.o;have gp:=lh.p;clear lh0 gk0;walk_at "n";refine aB fun R7 hR7=>?_;walk_at "";refine⟨by decide,?_⟩;refine Ce ⟨trivial,trivial⟩ fun b7 H7 e7=>?_;obtain⟨O',pO,lh7⟩:∃O':List (Str × Str),O'.Perm O/\LkH H3 H7 pk po pq us O' P:=by
   cases b7
   ·rw[e7];exact⟨O,.refl _,lh⟩
   refine⟨O.reverse,List.reverse_perm O,?_⟩;rw[e7,<- List.map_reverse];exact lh.putO
  have gp7:=lh7.p;clear e7 lh gk go gp;walk_at "n";refine aB fun R8 hR8=>?_;walk_at "";refine⟨by decide,?_⟩;refine Ce ⟨trivial,trivial⟩ fun b8 H8 e8=>?_;obtain⟨P',pP,lh8⟩:∃P':List (Str × Str × Str),P'.Perm P/\LkH H3 H8 pk po pq us O' P':=by
   cases b8
   ·rw[e8];exact⟨P,.refl _,lh7⟩
   refine⟨P.reverse,List.reverse_perm P,?_⟩;rw[e8,<- List.map_reverse];exact lh7.putP
  have gp8:=lh8.p;have go8:=lh8.o;clear e8 lh7 gp7;walk_at "n";walk_at "";intro q1 hq1;refine⟨by decide,?_⟩;rw[show (12:Int)=((12:Nat):Int) from rfl,zr,<- List.map_take];exact Fin3.of (lh8.sb.trans (Sub3.new hq1)) (k'.out O' (P'.take 12) (Ot hn8 (fun p hp=>(hx1'.out p hp).1) hx2'.out hnO hwd'.out l1 pO pP))
 rintro A p B Z H N e ⟨O,P,ah,be,v9,v10,v11,v12,v13,rfl,lh,l1⟩ hN;refine⟨trivial,?_⟩;have hA:A.length<ns.length:=by have:=congrArg List.length e;simp only[List.length_append,List.length_cons,List.length_range] at this;omega
 have hj:p=A.length:=by
  have h1:(List.range ns.length)[A.length]?=some p:=by rw[e,List.getElem?_append_right (Nat.le_refl _)];simp
  rw[List.getElem?_range hA] at h1;exact (Option.some.inj h1).symm
 have gk:=lh.k;have hN':=Box.mk hN;clear hN e k' hR6 lh0 gk0;subst hj;walk_at "";refine⟨by first | trivial | omega,⟨by omega,by omega,by omega,by omega⟩,?_⟩;rw[show dz ((A.length:Int)+1) ((ns.length:Int) - ((A.length:Int)+1)).toNat=(List.range (ns.length - (A.length+1))).map (fun (i:Nat)=>T.int ((A.length:Int)+1+(i:Int))) by unfold dz;rw[show ((ns.length:Int) - ((A.length:Int)+1)).toNat=ns.length - (A.length+1) by omega]];refine aZ (fun (i:Nat)=>T.int ((A.length:Int)+1+(i:Int))) (List.range (ns.length - (A.length+1))) (fun A2 Z H=>∃(O:List (Str × Str)) (P:List (Str × Str × Str)) (ah be:Int) (v10 v11 v12 v13:Option T),Z=[some (.ref a),some (.ref pn),some (.ref ps),some (.ref pk),some (.int bs),some (.int ah),some (.int be),some (.ref po),some (.ref pq),some (.int (A.length:Int)),v10,v11,v12,v13]/\LkH H3 H pk po pq us O P/\Lk1 nmO wd ns.length A.length (A.length+1+A2.length) O P) ⟨O,P,_,_,_,_,_,_,rfl,lh,l1.skip (fun p' q' _ z=>by unfold Dn at *;omega) (by omega)⟩ ?_ ?_
 ·rintro Z H ⟨O,P,ah,be,v10,v11,v12,v13,rfl,lh,l1⟩;refine⟨trivial,?_⟩;rw[List.length_range] at l1;exact hN'.out _ _ ⟨O,P,_,_,_,_,_,_,_,rfl,lh,l1.skip (fun p' q' hq z=>by rw[List.length_append,List.length_singleton];unfold Dn at *;omega) (by rw[List.length_append,List.length_singleton];omega)⟩
 rintro A2 i B2 Z H N2 e2 ⟨O,P,ah,be,v10,v11,v12,v13,rfl,lh,l1⟩ hN2;refine⟨trivial,?_⟩;have hA2:A2.length<ns.length - (A.length+1):=by have:=congrArg List.length e2;simp only[List.length_append,List.length_cons,List.length_range] at this;omega
 have hi2:i=A2.length:=by
  have h1:(List.range (ns.length - (A.length+1)))[A2.length]?=some i:=by rw[e2,List.getElem?_append_right (Nat.le_refl _)];simp
  rw[List.getElem?_range hA2] at h1;exact (Option.some.inj h1).symm
 subst hi2;have hM:Box (∀(b1 b2 b3:Bool) (ah be:Int) (v10 v11 v12 v13:Option T) (H':Hp3),LkH H3 H' pk po pq us (bif b1 then O++[(nmO A.length,nmO (A.length+1+A2.length))] else O) (bif b3 then (bif b2 then P++[(wd A.length (A.length+1+A2.length),nmO A.length,nmO (A.length+1+A2.length))] else P)++[(wd A.length (A.length+1+A2.length),nmO (A.length+1+A2.length),nmO A.length)] else (bif b2 then P++[(wd A.length (A.length+1+A2.length),nmO A.length,nmO (A.length+1+A2.length))] else P))->N2 [some (.ref a),some (.ref pn),some (.ref ps),some (.ref pk),some (.int bs),some (.int ah),some (.int be),some (.ref po),some (.ref pq),some (.int (A.length:Int)),v10,v11,v12,v13] H'):=⟨fun b1 b2 b3 ah be v10 v11 v12 v13 H' hl=>hN2 _ _ ⟨_,_,_,_,_,_,_,_,rfl,hl,by
  have:=l1.step hinj.out (by omega) (by omega) b1 b2 b3
  rw[List.length_append,List.length_singleton]
  exact this⟩⟩
 have ol:=l1.ol;have pl_:=l1.pl;clear hN2 e2 hN' l1;obtain⟨q,hq⟩:∃q,q=A.length+1+A2.length:=⟨_,rfl⟩;have hqm:q<ns.length:=by omega
 have eqI:(A.length:Int)+1+(A2.length:Int)=(q:Int):=by omega
 rw[<- hq] at hM ol pl_;obtain⟨ip,up⟩:=hx1'.out A.length hA;obtain⟨iq,uq⟩:=hx1'.out q hqm;have u1:atI (us.map trT) (A.length:Int)=some (.tup [.int (((ss.map (·.1)).getD (ix A.length) 0:Nat):Int),.int (us.getD A.length (0,0,0)).2.1,.int (ix A.length:Int)]):=bV (by rw[List.getElem?_map,up];rfl);have u2:atI (us.map trT) (q:Int)=some (.tup [.int (((ss.map (·.1)).getD (ix q) 0:Nat):Int),.int (us.getD q (0,0,0)).2.1,.int (ix q:Int)]):=bV (by rw[List.getElem?_map,uq];rfl);have n1:atI (ns.map T.str) (ix A.length:Int)=some (.str (nmO A.length)):=bV (by rw[List.getElem?_map,hnO _ hA];rfl);have n2:atI (ns.map T.str) (ix q:Int)=some (.str (nmO q)):=bV (by rw[List.getElem?_map,hnO _ hqm];rfl);have hw:=hwd'.out A.length q;have gk:=lh.k;have gn:=lh.sb _ _ hpn;have go:=lh.o;dsimp only;rw[eqI];clear eqI hq;generalize (ss.map (·.1)).getD (ix A.length) 0=s1 at *;generalize (ss.map (·.1)).getD (ix q) 0=s2 at *;refine aB fun Ra hRa=>?_;walk_at "";obtain⟨hRa⟩:=hRa;subst hRa;refine aB fun Rb hRb=>?_;walk_at "";obtain⟨hRb⟩:=hRb;subst hRb;refine aB fun Rc hRc=>?_;walk_at "";refine⟨by omega,?_⟩;refine uB (p1:=True/\True) ⟨trivial,trivial⟩ (by decide) (by omega) fun b1 Hb eb=>?_;have lhb:LkH H3 Hb pk po pq us (bif b1 then O++[(nmO A.length,nmO q)] else O) P:=by
  cases b1
  ·rw[eb];exact lh
  have:=lh.putO (O':=O++[(nmO A.length,nmO q)]);rw[List.map_append] at this;rw[eb];exact this
 clear eb gk gn go lh;have gk:=lhb.k;obtain⟨hRc⟩:=hRc;subst hRc;refine aB fun Rd hRd=>?_;walk_at "";refine⟨by decide,fun q1 hq1=>?_⟩;have lhc:=lhb.new (u:=.lst [T.str "apart",T.str "with"]) hq1;have gq1:up3 Hb q1 (.lst [T.str "apart",T.str "with"]) q1=some (.lst [T.str "apart",T.str "with"]):=aq;generalize up3 Hb q1 (.lst [T.str "apart",T.str "with"])=Hc at lhc gq1 ⊢;clear lhb gk hq1;have gk:=lhc.k;walk_at "";have hwd2:atI [T.str "apart",T.str "with"] (if decide ((s1:Int)=(s2:Int))=true then 1 else 0)=some (T.str (wd A.length q)):=by
  by_cases z:s1=s2
  ·rw[hw,if_pos z,decide_eq_true (by rw[z]),if_pos rfl];rfl
  rw[hw,if_neg z,decide_eq_false (by omega),if_neg Bool.false_ne_true];rfl
 rw[hwd2,fZ];clear hwd2 hw gq1 gk;obtain⟨hRd⟩:=hRd;subst hRd;have gp:=lhc.p;refine aB fun Re hRe=>?_;walk_at "";refine⟨by decide,by decide,rfl,rfl,?_⟩;refine uB (p1:=True/\True) ⟨trivial,trivial⟩ (by decide) (by omega) fun b2 Hd ed=>?_;have lhd:LkH H3 Hd pk po pq us (bif b1 then O++[(nmO A.length,nmO q)] else O) (bif b2 then P++[(wd A.length q,nmO A.length,nmO q)] else P):=by
  cases b2
  ·rw[ed];exact lhc
  have:=lhc.putP (P':=P++[(wd A.length q,nmO A.length,nmO q)]);rw[List.map_append] at this;rw[ed];exact this
 have hP1:(bif b2 then P++[(wd A.length q,nmO A.length,nmO q)] else P).length<=2*(9*A.length+q)+1:=by
  cases b2
  ·exact Nat.le_succ_of_le pl_
  show (P++[_]).length<=_;rw[List.length_append];simp;exact pl_
 have hM2:=Box.mk (hM.out b1 b2);clear ed lhc gp hM;generalize (bif b2 then P++[(wd A.length q,nmO A.length,nmO q)] else P)=P1 at *;obtain⟨hRe⟩:=hRe;subst hRe;have gp:=lhd.p;refine aB fun Rf hRf=>?_;walk_at "";refine⟨by decide,by decide,rfl,rfl,?_⟩;refine uB (p1:=True/\True) ⟨trivial,trivial⟩ (by decide) (by omega) fun b3 He ee=>?_;have lhe:LkH H3 He pk po pq us (bif b1 then O++[(nmO A.length,nmO q)] else O) (bif b3 then P1++[(wd A.length q,nmO q,nmO A.length)] else P1):=by
  cases b3
  ·rw[ee];exact lhd
  have:=lhd.putP (P':=P1++[(wd A.length q,nmO q,nmO A.length)]);rw[List.map_append] at this;rw[ee];exact this
 clear ee lhd gp;obtain⟨hRf⟩:=hRf;subst hRf;walk_at "";exact⟨⟨by omega,lgb⟩,⟨by decide,by decide +kernel⟩,hM2.out b3 _ _ _ _ _ _ _ lhe⟩
abbrev iZ:List Str:=["_law_script","_law_most","_law_wide","_law_first","_law_pool_here","_law_spread","_law_kinds","_law_row","_law_k","_law_unit","_law_some","_law_names","_law_tasks","_law_orders","_law_pairs"]
theorem sc_works:FnScope iZ ["_law_script","_law_most","_law_wide"] (aA (top 36)):=bu
theorem Cw {f:Addr}{fd:FuncData}(g:G3 K mg "_law_works" (top 36) ["_law_script","_law_most","_law_wide"] f fd) (B:Bl mg) (F_cell:Cal P w K mg base 1 "_law_cell" (top 30) ["_law_script","_law_k"] GR) (F_pool:Cal P w K mg base 2 "_law_pool" (top 33) ["_law_cell_here"] Tz) (F_task:Cal P w K mg base 2 "_law_task" (top 34) ["_law_cell_here","_law_row","_law_pool_here","_law_unit"] TF) (F_unlike:Cal P w K mg base 1 "_law_unlike" (top 32) ["_law_words"] Ol) (F_links:Cal P w K mg base 2 "_law_links" (top 35) ["_law_script","_law_names","_law_some"] TJ):Cal P w K mg base 3 "_law_works" (top 36) ["_law_script","_law_most","_law_wide"] TV:=by
 refine⟨f,fd,g,?_⟩;refine fn3 g.fn sc_works (fun ts H Q h=>?_) (fun cdv A outer s H E ts H3 Q hr h=>?_)
 ·obtain⟨a,sc,most,wide,rfl,_⟩:=h;rfl
 obtain⟨a,sc,most,wide,rfl,ha,hsc,m1,m8,w1,w8,kk⟩:=h;refine⟨_,(aj (aG (i:=3) sc_works.nd (aP F_cell hr rfl (aa (v3 0) (aa ao ak))))
   (aj (aG (i:=4) sc_works.nd (aP F_pool hr rfl (aa (aP F_cell hr rfl (aa (v3 0) (aa ao ak))) ak)))
   (aj (aG (i:=5) sc_works.nd (aK ix3 (bh (aa ao (aa ao (aa ao (aa ao ak))))) (aF aU (aF bc (v3 3) ao) ao)))
   (aj (aG (i:=6) sc_works.nd (aP F_cell hr rfl (aa (v3 0) (aa ao ak))))
   (aj (aG (i:=7) sc_works.nd (bh ak))
   (aj (bx PassesOwn.never rfl (cH rfl B.range_ (aa (aF aY ao (aF aU (aF bc (v3 3) ao) (v3 2))) ak)) (aD (i:=8) sc_works.nd) (aj (bW (d9 PySem.F.plainAttrs_list PySem.F.slot_list_append PySem.F.type_list_append bG (v3 7) (aa (aK ix3 (v3 4) (aF aU (v3 6) (v3 5))) ak)))
    (au (aG (i:=6) sc_works.nd (aF bc (v3 6) (v3 5))))))
   (aj (aG (i:=9) sc_works.nd (aF aY ao (aF aU (aP F_cell hr rfl (aa (v3 0) (aa ao ak))) (aF iu ao ao))))
   (aj (aG (i:=10) sc_works.nd (bh ak))
   (aj (bx PassesOwn.never rfl (cH rfl B.range_ (aa (aF aY ao (aF aU (aF bc (v3 3) ao) (v3 1))) ak)) (aD (i:=8) sc_works.nd) (au (bW (d9 PySem.F.plainAttrs_list PySem.F.slot_list_append PySem.F.type_list_append bG (v3 10) (aa (aP F_task hr rfl (aa (aP F_cell hr rfl (aa (v3 0) (aa (aF aY ao (v3 8)) ak))) (aa (v3 7) (aa (v3 4) (aa (v3 9) ak))))) ak)))))
   (aj (aG (i:=11) sc_works.nd (aP F_unlike hr rfl (aa (bQ rfl (cj (n0:=(aA (top 36)).names) (N:=iZ) (N':=["_law_one"]) (nt:=1) (cap:=[]) rfl rfl (by decide +kernel)) (cG (v3 10)) (fun cl pins s H C0 fp=>⟨(aD (i:=0) (show List.Nodup [("_law_one":Str)] by decide +kernel)),cT,(aK ix3 (v3 0) ao)⟩)) ak)))
   (aj (uZ (i:=12) rfl sc_works.nd (cj (n0:=(aA (top 36)).names) (N:=iZ) (N':=["_law_name","_law_one"]) (nt:=2) (cap:=[]) rfl rfl (by decide +kernel)) (Ge rfl B.zip_ (aa (v3 11) (aa (v3 10) ak))) (fun cl pins s H C0 fp=>⟨(cB (n:=2) rfl (aH (aD (i:=0) (show List.Nodup [("_law_name":Str),("_law_one":Str)] by decide +kernel)) (aH (aD (i:=1) (show List.Nodup [("_law_name":Str),("_law_one":Str)] by decide +kernel)) bO))),cT,(bD (aa (v3 0) (aa (aK ix3 (v3 1) ao) (aa (aK ix3 (v3 1) ao) ak))))⟩))
   (aj (j6 (aP F_links hr rfl (aa (v3 0) (aa (v3 11) (aa (v3 10) ak)))) (cB (n:=2) rfl (aH (aD (i:=13) sc_works.nd) (aH (aD (i:=14) sc_works.nd) bO))))
   (au (aM (bD (aa (bD (aa (bL dh rfl B.tuple_ cF (aa (v3 12) ak)) (aa (v3 13) (aa (v3 14) (aa (bL dh rfl B.tuple_ cF (aa (v3 7) ak)) ak))))) (aa (bQ rfl (cj (n0:=(aA (top 36)).names) (N:=iZ) (N':=["_law_one"]) (nt:=1) (cap:=[]) rfl rfl (by decide +kernel)) (cG (v3 10)) (fun cl pins s H C0 fp=>⟨(aD (i:=0) (show List.Nodup [("_law_one":Str)] by decide +kernel)),cT,(aK ix3 (v3 0) ao)⟩)) ak))))))))))))))))),?_⟩
 rw[show aQ iZ [T.ref a,T.int most,T.int wide]=[some (T.ref a),some (T.int most),some (T.int wide),none,none,none,none,none,none,none,none,none,none,none,none] from rfl];have hsz:sizeLine=16777216:=rfl;have k':=Box.mk kk;clear kk;refine aB fun R0 hR0=>?_;walk_at "";refine⟨a,sc,0,rfl,ha,hsc,by decide,fun c0=>?_⟩;walk_at "n";refine aB fun R1 hR1=>?_;walk_at "";refine⟨a,sc,2,rfl,ha,hsc,by decide,fun c1=>⟨c1,rfl,fun pool hpl hpn pp hpp=>?_⟩⟩;have sb1:Sub3 H3 (up3 H3 pp (.lst (pool.map T.str))):=Sub3.new hpp;have gp1:up3 H3 pp (.lst (pool.map T.str)) pp=some (.lst (pool.map T.str)):=aq;generalize up3 H3 pp (.lst (pool.map T.str))=H4 at sb1 gp1 ⊢;clear hpp;walk_at "n";refine aB fun R2 hR2=>?_;obtain⟨sp,eb,hsp⟩:∃sp:Int,atI [T.int 1,T.int 2,T.int 3,T.int 8] (c0 / 512%4)=some (T.int sp)/\1<=sp/\sp<=8:=by
  have i0:=Int.emod_nonneg (c0 / 512) (show (4:Int)≠0 by decide);have i1:=Int.emod_lt_of_pos (c0 / 512) (show (0:Int)<4 by decide);rcases (show c0 / 512%4=0\/c0 / 512%4=1\/c0 / 512%4=2\/c0 / 512%4=3 by omega) with h | h | h | h
  ·rw[h];exact⟨1,rfl,by decide⟩
  ·rw[h];exact⟨2,rfl,by decide⟩
  ·rw[h];exact⟨3,rfl,by decide⟩
  rw[h];exact⟨8,rfl,by decide⟩
 walk_at "";refine⟨by decide,fun q1 hq1=>⟨⟨by decide,by decide +kernel⟩,by decide,?_⟩⟩;try rw[eb,fZ]
 have sb2:=sb1.trans (Sub3.new (o:=.lst [T.int 1,T.int 2,T.int 3,T.int 8]) hq1);have gp2:up3 H4 q1 (.lst [T.int 1,T.int 2,T.int 3,T.int 8]) pp=_ := upa gp1 hq1;generalize up3 H4 q1 (.lst [T.int 1,T.int 2,T.int 3,T.int 8])=H5 at sb2 gp2 ⊢;have lgs:sp.natAbs.log2<9000:=Nat.lt_of_le_of_lt (Nat.log2_le_self _) (by omega);clear sb1 gp1 hq1 eb;walk_at "n";refine aB fun R3 hR3=>?_;walk_at "";refine⟨a,sc,1,rfl,sb2 _ _ ha,hsc,by decide,fun c2=>?_⟩;walk_at "n";refine aB fun R4 hR4=>?_;walk_at "";refine⟨by decide,fun pr hpr=>?_⟩;have sb3:=sb2.trans (Sub3.new (o:=.lst []) hpr);have f0:=cz sb2 hpr;have gp3:up3 H5 pr (.lst []) pp=_ := upa gp2 hpr;have npr:pp≠pr:=bf gp2 hpr;have gr3:up3 H5 pr (.lst []) pr=some (.lst (([]:List Str).map T.str)):=aq;generalize up3 H5 pr (.lst [])=H6 at sb3 gp3 gr3 ⊢;clear sb2 gp2 hpr;walk_at "n";refine aB fun R5 hR5=>?_;walk_at "";have w0:=Int.emod_nonneg (c0 / 2) (show wide≠0 by omega);have w2:=Int.emod_lt_of_pos (c0 / 2) (show 0<wide by omega);refine⟨⟨by decide,by decide +kernel⟩,by omega,by first | trivial | omega,by omega,by omega,?_⟩;have rl:(dz 0 (1+c0 / 2%wide).toNat).length=(1+c0 / 2%wide).toNat:=by unfold dz;rw[List.length_map,List.length_range]
 generalize dz 0 (1+c0 / 2%wide).toNat=ts0 at rl;have hpn':=Box.mk hpn;clear hpn;refine gM (fun r Z H=>∃(row:List Str) (c2:Int) (v8:Option T),Z=[some (.ref a),some (.int most),some (.int wide),some (.int c0),some (.ref pp),some (.int sp),some (.int c2),some (.ref pr),v8,none,none,none,none,none,none]/\Sub3 H3 H/\H pp=some (.lst (pool.map T.str))/\H pr=some (.lst (row.map T.str))/\(row.length:Int)+r.length=1+c0 / 2%wide/\∀x∈row,isNm x) ⟨[],c2,_,rfl,sb3,gp3,gr3,by rw[rl,List.length_nil];omega,(fun _ z=>nomatch z)⟩ ?_ ?_
 ·rintro Z H ⟨row,c3,v8,rfl,sb,gp,gr,hrl,hrn⟩;refine⟨trivial,?_⟩;rw[List.length_nil] at hrl;have r1:1<=row.length:=by omega
  have r8:row.length<=8:=by omega
  have rw_:(row.length:Int)<=wide:=by omega
  have hrn':=Box.mk hrn;clear hrn sb3 gp3 gr3 hrl rl w0 w2;walk_at "n";refine aB fun R6 hR6=>?_;walk_at "";refine⟨a,sc,3,rfl,sb _ _ ha,hsc,by decide,fun c4=>⟨⟨by decide,by decide,by decide⟩,?_⟩⟩;walk_at "";refine⟨by decide +kernel,?_⟩;have p57:(10:Int)^Int.toNat 57=10^57:=rfl;rw[p57];have u0:=Int.emod_nonneg c4 (show ((10:Int)^57)≠0 by decide +kernel);have u9:=Int.emod_lt_of_pos c4 (show (0:Int)<(10:Int)^57 by decide +kernel);obtain⟨unit,hu⟩:∃unit:Int,1+c4%10^57=unit:=⟨_,rfl⟩;have u1:1<=unit:=by omega
  have u2:unit<=10^57:=by omega
  rw[hu];clear hu u0 u9 p57;walk_at "n";refine aB fun R7 hR7=>?_;walk_at "";refine⟨by decide,fun ps hps=>?_⟩;have sb4:=sb.trans (Sub3.new (o:=.lst []) hps);have g0:=cz sb hps;have gp4:up3 H ps (.lst []) pp=_ := upa gp hps;have gr4:up3 H ps (.lst []) pr=_ := upa gr hps;have gs4:up3 H ps (.lst []) ps=some (.lst (([]:List Tk5).map tk5)):=aq;have nps1:pp≠ps:=bf gp hps;have nps2:pr≠ps:=bf gr hps;generalize up3 H ps (.lst [])=H7 at sb4 gp4 gr4 gs4 ⊢;clear sb gp gr hps;walk_at "n";refine aB fun R8 hR8=>?_;walk_at "";have t0:=Int.emod_nonneg (c0 / 64) (show most≠0 by omega);have t2:=Int.emod_lt_of_pos (c0 / 64) (show 0<most by omega);refine⟨⟨by decide,by decide +kernel⟩,by omega,by first | trivial | omega,by omega,by omega,?_⟩;obtain⟨n,hn⟩:∃n:Nat,(1+c0 / 64%most).toNat=n:=⟨_,rfl⟩;have n1:1<=n:=by omega
  have n8:n<=8:=by omega
  have nm_:(n:Int)<=most:=by omega
  rw[hn,vN];clear hn t0 t2;refine aZ (fun (i:Nat)=>T.int (i:Int)) (List.range n) (fun A Z H=>∃(ss:List Tk5) (v8:Option T),Z=[some (.ref a),some (.int most),some (.int wide),some (.int c0),some (.ref pp),some (.int sp),some (.int c3),some (.ref pr),v8,some (.int unit),some (.ref ps),none,none,none,none]/\Sub3 H3 H/\H pp=some (.lst (pool.map T.str))/\H pr=some (.lst (row.map T.str))/\H ps=some (.lst (ss.map tk5))/\ss.length=A.length/\∀t∈ss,TkO row t) ⟨[],_,rfl,sb4,gp4,gr4,gs4,rfl,(fun _ z=>nomatch z)⟩ ?_ ?_
  ·rintro Z H ⟨ss,v8,rfl,sb,gp,gr,gs,hsl,hss⟩;refine⟨trivial,?_⟩;rw[List.length_range] at hsl;have hss':=Box.mk hss;clear hss sb4 gp4 gr4 gs4;walk_at "n";refine aB fun R9 hR9=>?_;walk_at "";walk_at "c";refine bT tk5 (fun t=>T.str t.2.2.2.2) ss [] (.inl gs) (by omega) (fun t ht Q' hq=>?_) (fun q1 hq1=>?_)
   ·have x1:atI [T.int (t.1:Int),T.int t.2.1,T.int t.2.2.1,sT t.2.2.2.1,T.str t.2.2.2.2] 4=some (T.str t.2.2.2.2):=rfl;have hq':=Box.mk hq;clear hq k' hR9;simp only[tk5];walk_at "";exact hq'.out
   rw[show (ss.map fun t=>T.str t.2.2.2.2)=(ss.map (·.2.2.2.2)).map T.str by rw[List.map_map];rfl];refine⟨q1,ss.map (·.2.2.2.2),rfl,aq,by rw[List.length_map];omega,fun x hx=>?_,fun ns hnl hnn pn hpn=>?_⟩
   ·obtain⟨t,ht,rfl⟩:=List.mem_map.mp hx;exact (hss'.out t ht).nm
   rw[List.length_map] at hnl;have sb5:=sb.trans ((Sub3.new hq1).trans (Sub3.new (o:=.lst (ns.map T.str)) hpn));have st5:=(Sub3.new hq1).trans (Sub3.new (o:=.lst (ns.map T.str)) hpn);have gr5:=st5 _ _ gr;have gs5:=st5 _ _ gs;have gn5:up3 (up3 H q1 (.lst ((ss.map (·.2.2.2.2)).map T.str))) pn (.lst (ns.map T.str)) pn=some (.lst (ns.map T.str)):=aq;try dsimp only
   generalize up3 (up3 H q1 (.lst ((ss.map (·.2.2.2.2)).map T.str))) pn (.lst (ns.map T.str))=H8 at sb5 gr5 gs5 gn5 ⊢;clear st5 sb gp gr gs hq1 hpn;walk_at "n";refine aB fun R10 hR10=>?_;walk_at "";rw[lC,show ∀x0 x1 x2 x3 x4 x5 x6 x7 x8 x9 x10 x11 x12 x13 x14,n6 2 [] [x0,x1,x2,x3,x4,x5,x6,x7,x8,x9,x10,x11,x12,x13,x14]=[none,none] from fun _ _ _ _ _ _ _ _ _ _ _ _ _ _ _=>rfl];refine qz (fun z=>T.str z.1) (fun z=>tk5 z.2) (fun z=>.tup [.str z.1,.int z.2.2.2.1,sT z.2.2.2.2.1]) (ns.zip ss) [] (still:=fun H'=>aV pn (ns.map T.str) H'/\aV ps (ss.map tk5) H') (H:=H8) ⟨.inl gn5,.inl gs5⟩ (by rw[List.length_zip];omega) (fun z hz Q' hq=>?_) ?_
   ·obtain⟨zn,zt⟩:=z;have x2:atI [T.int (zt.1:Int),T.int zt.2.1,T.int zt.2.2.1,sT zt.2.2.2.1,T.str zt.2.2.2.2] 2=some (T.int zt.2.2.1):=rfl;have x3:atI [T.int (zt.1:Int),T.int zt.2.1,T.int zt.2.2.1,sT zt.2.2.2.1,T.str zt.2.2.2.2] 3=some (sT zt.2.2.2.1):=rfl;have hq':=Box.mk hq;clear hq k' hR10;simp only[tk5];walk_at "";exact⟨by decide,hq'.out⟩
   try dsimp only
   intro pt hpt;have st6:=Sub3.new (o:=.lst ((ns.zip ss).map fun z=>T.tup [.str z.1,.int z.2.2.2.1,sT z.2.2.2.2.1])) hpt;have gr6:=st6 _ _ gr5;have gs6:=st6 _ _ gs5;have gn6:=st6 _ _ gn5;have gt6:up3 H8 pt (.lst ((ns.zip ss).map fun z=>T.tup [.str z.1,.int z.2.2.2.1,sT z.2.2.2.2.1])) pt=some (.lst ((ns.zip ss).map fun z=>T.tup [.str z.1,.int z.2.2.2.1,sT z.2.2.2.2.1])):=aq;have sb6:Sub3 H3 (up3 H8 pt (.lst ((ns.zip ss).map fun z=>T.tup [.str z.1,.int z.2.2.2.1,sT z.2.2.2.2.1]))):=sb5.trans st6;try dsimp only
   generalize up3 H8 pt (.lst ((ns.zip ss).map fun z=>T.tup [.str z.1,.int z.2.2.2.1,sT z.2.2.2.2.1]))=H9 at sb6 gr6 gs6 gn6 gt6 ⊢;clear st6 sb5 gr5 gs5 gn5 hpt;walk_at "n";refine aB fun R11 hR11=>?_;walk_at "";refine⟨a,pn,ps,sc,ns,ss,rfl,sb6 _ _ ha,hsc,gn6,hnn,by omega,gs6,by omega,fun O P lk=>?_⟩;try walk_at ""
   walk_at "n";walk_at "";refine⟨trivial,by decide,?_⟩;walk_at "c";refine bT tk5 (fun t=>T.int (t.1:Int)) ss [] (.inl gs6) (by omega) (fun t ht Q' hq=>?_) (fun pz hpz=>?_)
   ·have x0:atI [T.int (t.1:Int),T.int t.2.1,T.int t.2.2.1,sT t.2.2.2.1,T.str t.2.2.2.2] 0=some (T.int (t.1:Int)):=rfl;have hq':=Box.mk hq;clear hq k';simp only[tk5];walk_at "";exact hq'.out
   obtain⟨ok,ft,el⟩:=Ou hnn (by omega) (by omega) (by omega) hss'.out r1 r8 hrn'.out lk;refine⟨by decide,?_⟩;have ee:(ss.map fun t=>T.int (t.1:Int))=(ss.map (·.1)).map fun (s:Nat)=>T.int (s:Int):=by rw[List.map_map];rfl
   have ew:T.tup [T.tup ((ns.zip ss).map fun z=>T.tup [T.str z.1,T.int z.2.2.2.1,sT z.2.2.2.2.1]),T.tup (O.map orT),T.tup (P.map prT),T.tup (row.map T.str)]=(mkW ns ss O P row).enc:=by unfold Wk.enc mkW;rw[List.map_map];rfl
   rw[ee,ew];refine Fin3.of ?_ (k'.out (mkW ns ss O P row) (ss.map (·.1)) ok (by rw[el];omega) rw_ ft pz (cz sb6 hpz));intro b o hb;by_cases e:b=pz
   ·subst e;rw[aq] at hb ⊢;exact hb
   rw[aC e] at hb ⊢;exact sb6 b o hb
  rintro A i B Z H N e ⟨ss,v8,rfl,sb,gp,gr,gs,hsl,hss⟩ hN;refine⟨trivial,?_⟩;have hA:A.length<n:=by have:=congrArg List.length e;simp only[List.length_append,List.length_cons,List.length_range] at this;omega
  have hi:i<n:=List.mem_range.mp (by rw[e];simp);have hM:=Box.mk hN;have hss':=Box.mk hss;clear hN hss e sb4 gp4 gr4 gs4 k' hR8;walk_at "";refine⟨⟨trivial,trivial⟩,a,sc,4+i,by rw[show (4:Int)+(i:Int)=((4+i:Nat):Int) by push_cast;rfl],sb _ _ ha,hsc,by omega,fun c5=>⟨c5,pr,pp,row,pool,unit,rfl,gr,r1,r8,hrn'.out,gp,hpl,hpn'.out.nm,u1,u2,fun s tn len ks nam h1 h2 h3 h4 h5 h6 h7 h8 h9=>?_⟩⟩;dsimp only;rw[gs,zq];refine⟨by rw[List.length_map];omega,hM.out _ _ ⟨ss++[(s,tn,len,ks,nam)],_,rfl,fun b u hb=>?_,?_,?_,?_,by rw[List.length_append,List.length_append,hsl];rfl,fun z hz=>?_⟩⟩
  ·rw[aC (bf hb g0)];exact sb b u hb
  ·rw[aC nps1];exact gp
  ·rw[aC nps2];exact gr
  ·rw[aq,List.map_append];rfl
  rcases List.mem_append.mp hz with hz | hz
  ·exact hss'.out z hz
  rw[List.mem_singleton.mp hz];exact⟨h1,h4,h5,h6,h7,h8,h9⟩
 rintro x r Z H N ⟨row,c3,v8,rfl,sb,gp,gr,hrl,hrn⟩ hN;refine⟨trivial,?_⟩;rw[List.length_cons] at hrl;have hM:=Box.mk hN;have hrn':=Box.mk hrn;have hj0:=Int.emod_nonneg c3 (show sp≠0 by omega);have hj1:=Int.emod_lt_of_pos c3 (show 0<sp by omega);obtain⟨j,hj⟩:∃j:Nat,c3%sp=(j:Int):=⟨(c3%sp).toNat,by omega⟩;have hat:=jU (ns:=pool) (i:=j) (by omega);have hnx:=hpn'.out.nm _ (getD_memS (ns:=pool) (i:=j) (by omega));generalize pool.getD j ""=y at hat hnx;clear hN hrn sb3 gp3 gr3 k' hR5;walk_at "";refine⟨⟨trivial,trivial⟩,by omega,by omega,⟨by omega,lgs⟩,hM.out _ _ ⟨row++[y],_,_,rfl,fun b u hb=>?_,?_,?_,by rw[List.length_append,List.length_singleton];push_cast;push_cast at hrl;omega,fun z hz=>?_⟩⟩
 ·rw[aC (bf hb f0)];exact sb b u hb
 ·rw[aC npr];exact gp
 ·rw[aq,List.map_append];rfl
 rcases List.mem_append.mp hz with hz | hz
 ·exact hrn'.out z hz
 rw[List.mem_singleton.mp hz];exact hnx
abbrev wy:List Str:=["_law_works_here","_law_stands","_law_found","_law_task_here","_law_stand"]
theorem sc_loads:FnScope wy ["_law_works_here","_law_stands"] (aA (top 37)):=bu
theorem Cy {f:Addr}{fd:FuncData}(g:G3 K mg "_law_loads" (top 37) ["_law_works_here","_law_stands"] f fd) (B:Bl mg):Cal P w K mg base 1 "_law_loads" (top 37) ["_law_works_here","_law_stands"] Ov:=by
 refine⟨f,fd,g,?_⟩;refine fn3 g.fn sc_loads (fun ts H Q h=>?_) (fun cdv A outer s H E ts H3 Q hr h=>?_)
 ·obtain⟨W,q,sts,rfl,_⟩:=h;rfl
 obtain⟨W,q,sts,rfl,hW,hq,hsl,hlt,kk⟩:=h;refine⟨_,(aj (aG (i:=2) sc_loads.nd (aF tY (bh (aa ao ak)) (aO cC rfl B.len_ cD (aa (aK ix3 (v3 0) ao) ak))))
   (aj (bx PassesOwn.never rfl (Gh rfl B.zip_ (aa (aK ix3 (v3 0) ao) (aa (v3 1) ak))) (cB (n:=2) rfl (aH (aD (i:=3) sc_loads.nd) (aH (aD (i:=4) sc_loads.nd) bO))) (au (j6 (aF aY (aK ix3 (v3 2) (v3 4)) (aK ix3 (v3 3) ao)) (yM (v3 2) (v3 4) mW))))
   (au (aM (v3 2))))),?_⟩
 rw[show aQ wy [W.enc,T.ref q]=[some (W.enc),some (T.ref q),none,none,none] from rfl];have hsz:sizeLine=16777216:=rfl;have k':=Box.mk kk;clear kk;have r8:=hW.r8;have t8:=hW.t8;refine aB fun R0 hR0=>?_;walk_at "";refine⟨by decide,fun q1 hq1=>⟨⟨by omega,by omega,by omega⟩,fun pf hpf=>?_⟩⟩;have e0:∀n:Nat,(List.replicate n [T.int 0]).flatten=(List.replicate n (0:Int)).map T.int:=fun n=>by
  induction n with
  |zero=>rfl
  |succ n ih=>rw[List.replicate_succ,List.replicate_succ,List.flatten_cons,ih];rfl
 rw[e0];have f0:=(cu hpf).2;have sb0:Sub3 H3 (up3 (up3 H3 q1 (.lst [T.int 0])) pf (.lst ((List.replicate W.row.length (0:Int)).map T.int))):=(Sub3.new hq1).trans (Sub3.new hpf);have gf0:up3 (up3 H3 q1 (.lst [T.int 0])) pf (.lst ((List.replicate W.row.length (0:Int)).map T.int)) pf=some (.lst ((List.replicate W.row.length (0:Int)).map T.int)):=aq;have gq0:=sb0 _ _ hq;generalize up3 (up3 H3 q1 (.lst [T.int 0])) pf (.lst ((List.replicate W.row.length (0:Int)).map T.int))=H4 at sb0 gf0 gq0 ⊢;clear e0 hpf hq1;walk_at "n";refine aB fun R1 hR1=>?_;walk_at "";rw[lC];have hlt':=Box.mk hlt;clear hlt;refine aZ (fun z=>T.tup [tkT z.1,T.int (z.2:Int)]) (W.tasks.zip sts) (fun A Z H=>∃(v3 v4:Option T),Z=[some W.enc,some (.ref q),some (.ref pf),v3,v4]/\Sub3 H3 H/\H pf=some (.lst ((A.foldl ldZ (List.replicate W.row.length 0)).map T.int))) ⟨_,_,rfl,sb0,gf0⟩ ?_ ?_
 ·rintro Z H ⟨v3,v4,rfl,sb,gf⟩;refine⟨.inl (sb _ _ hq),?_⟩;walk_at "n";walk_at "";refine Fin3.of (fun b o hb=>?_) (k'.out pf f0);by_cases e:b=pf
  ·subst e;rw[aq] at hb;rw[<- hb];exact gf
  rw[aC e] at hb;exact sb b o hb
 rintro A z B Z H N e ⟨v3,v4,rfl,sb,gf⟩ hN;refine⟨.inl (sb _ _ hq),?_⟩;have hz:z∈W.tasks.zip sts:=by rw[e];simp
 have hs:z.2<W.row.length:=hlt'.out _ (List.of_mem_zip hz).2;have hfold:(A++[z]).foldl ldZ (List.replicate W.row.length 0)=ldZ (A.foldl ldZ (List.replicate W.row.length 0)) z:=by rw[List.foldl_append];rfl
 have hll:(A.foldl ldZ (List.replicate W.row.length 0)).length=W.row.length:=by rw[vZ,List.length_replicate]
 have hM:=Box.mk hN;clear hN e sb0 gf0 gq0 k' hR1 hz;rw[hfold] at hM;generalize A.foldl ldZ (List.replicate W.row.length 0)=L at *;clear hfold;have x1:atI (L.map T.int) (z.2:Int)=some (T.int (L.getD z.2 0)):=by
  have hl:z.2<L.length:=by omega
  rw[bV (by rw[List.getElem?_map,List.getElem?_eq_getElem hl];rfl),List.getD_eq_getElem?_getD,List.getElem?_eq_getElem hl];rfl
 obtain⟨⟨tn,tl,tk⟩,zs⟩:=z;simp only[tkT];walk_at "";rw[oH hs,fZ];refine⟨trivial,hM.out _ _ ⟨_,_,rfl,fun b o hb=>?_,?_⟩⟩
 ·rw[aC (bf hb f0)];exact sb b o hb
 rw[aq];unfold ldZ;rw[List.map_set]
abbrev uC:List Str:=["_law_cell_here","_law_works_here","_law_stands","_law_loads_here","_law_total","_law_some"]
theorem sc_beat:FnScope uC ["_law_cell_here","_law_works_here","_law_stands"] (aA (top 38)):=bu
theorem Hh {f:Addr}{fd:FuncData}(g:G3 K mg "_law_beat" (top 38) ["_law_cell_here","_law_works_here","_law_stands"] f fd) (B:Bl mg) (F_loads:Cal P w K mg base 1 "_law_loads" (top 37) ["_law_works_here","_law_stands"] Ov):Cal P w K mg base 2 "_law_beat" (top 38) ["_law_cell_here","_law_works_here","_law_stands"] TX:=by
 refine⟨f,fd,g,?_⟩;refine fn3 g.fn sc_beat (fun ts H Q h=>?_) (fun cdv A outer s H E ts H3 Q hr h=>?_)
 ·obtain⟨c,W,q,sts,rfl,_⟩:=h;rfl
 obtain⟨c,W,q,sts,rfl,hW,hq,hsl,hlt,kk⟩:=h;refine⟨_,(aj (aG (i:=3) sc_beat.nd (aP F_loads hr rfl (aa (v3 1) (aa (v3 2) ak))))
   (aj (aG (i:=4) sc_beat.nd (aO (Kq rfl) rfl B.sum_ Kr (aa (v3 3) ak)))
   (aj (aG (i:=5) sc_beat.nd (bh (aa (aO (iR rfl) rfl B.max_ jk (aa (v3 3) ak)) (aa (aO (iR rfl) rfl B.max_ jk (aa (v3 3) ak)) (aa (aO (Fg rfl) rfl B.max_ jk (aa ao (aa (aF ou (aO (iR rfl) rfl B.max_ jk (aa (v3 3) ak)) ao) ak))) (aa (aF bc (v3 4) (aO cC rfl B.len_ cD (aa (v3 3) ak))) (aa (aF aY (aF bc (v3 4) (aO cC rfl B.len_ cD (aa (v3 3) ak))) ao) ak)))))))
   (aj (aG (i:=5) sc_beat.nd (aF aY (v3 5) (bh (aa (aO (iR rfl) rfl B.max_ jk (aa (bQ rfl (cj (n0:=(aA (top 38)).names) (N:=uC) (N':=["_law_task_here"]) (nt:=1) (cap:=[]) rfl rfl (by decide +kernel)) (cg (aK ix3 (v3 1) ao)) (fun cl pins s H C0 fp=>⟨(aD (i:=0) (show List.Nodup [("_law_task_here":Str)] by decide +kernel)),cT,(aK ix3 (v3 0) ao)⟩)) ak)) (aa (v3 4) ak)))))
   (aj (aG (i:=5) sc_beat.nd (aF aY (v3 5) (bh (aa (aF aU (aF bc (v3 0) ao) (aO (Fi rfl) rfl B.min_ Mj (aa (aF cM ao (v3 4)) (aa (aF cM ao (aF iu ao ao)) ak)))) (aa (aF aU (aF bc (v3 0) ao) (aF iu ao ao)) ak)))))
   (au (aM (aK ix3 (v3 5) (aF aU (v3 0) ao))))))))),?_⟩
 rw[show aQ uC [T.int c,W.enc,T.ref q]=[some (T.int c),some (W.enc),some (T.ref q),none,none,none] from rfl];have hsz:sizeLine=16777216:=rfl;have k':=Box.mk kk;clear kk;have r1:=hW.r1;have r8:=hW.r8;have t8:=hW.t8;have t1:=hW.t1;have hln:=wg W sts;have hnn:=Ow (sts:=sts) hW;have hsm:=G6 hsl hlt;have htp:=G7 hW;rw[<- hsm] at htp;refine aB fun R0 hR0=>?_;walk_at "";refine⟨W,q,sts,rfl,hW,hq,hsl,hlt,fun pl hpl=>?_⟩;have sb0:Sub3 H3 (up3 H3 pl (.lst ((ldS W sts).map T.int))):=Sub3.new hpl;have gl:up3 H3 pl (.lst ((ldS W sts).map T.int)) pl=some (.lst ((ldS W sts).map T.int)):=aq;have hnn':=Box.mk hnn;clear hnn hsm hlt hq;try dsimp only
 generalize up3 H3 pl (.lst ((ldS W sts).map T.int))=H4 at sb0 gl ⊢;generalize ldS W sts=L at *;walk_at "n";refine aB fun R1 hR1=>?_;have is:=gK L;walk_at "";walk_at "n";refine aB fun R2 hR2=>?_;have lgr:(W.row.length:Int).natAbs.log2<9000:=Nat.lt_of_le_of_lt (Nat.log2_le_self _) (by omega);have hne:¬L=[]:=fun z=>by rw[z,List.length_nil] at hln;omega
 walk_at "";refine⟨trivial,fun m1 hm1 _=>⟨trivial,fun m2 hm2 _=>⟨trivial,fun m3 hm3 _=>⟨⟨by omega,lgr⟩,⟨by omega,lgr⟩,by decide,fun p1 hp1=>?_⟩⟩⟩⟩;obtain⟨xs,hxs,hx0,hxl⟩:∃xs:List Int,[T.int m1,T.int m2,T.int (if m3 - 1>0 then m3 - 1 else 0),T.int (L.sum / (W.row.length:Int)),T.int (L.sum / (W.row.length:Int)+1)]=xs.map T.int/\(∀x∈xs,0<=x)/\xs.length=5:=by
  have d0:0<=L.sum / (W.row.length:Int):=Int.ediv_nonneg (by omega) (by omega);refine⟨[m1,m2,if m3 - 1>0 then m3 - 1 else 0,L.sum / (W.row.length:Int),L.sum / (W.row.length:Int)+1],rfl,fun x hx=>?_,rfl⟩;simp only[List.mem_cons,List.not_mem_nil,or_false] at hx;rcases hx with rfl | rfl | rfl | rfl | rfl
  ·exact hnn'.out _ hm1
  ·exact hnn'.out _ hm2
  ·split <;> omega
  ·exact d0
  omega
 rw[hxs];have sb1:=sb0.trans (Sub3.new (o:=.lst (xs.map T.int)) hp1);have gx1:up3 H4 p1 (.lst (xs.map T.int)) p1=some (.lst (xs.map T.int)):=aq;generalize up3 H4 p1 (.lst (xs.map T.int))=H5 at sb1 gx1 ⊢;clear hxs hp1 sb0 gl hm1 hm2 hm3;walk_at "n";refine aB fun R3 hR3=>?_;walk_at "";walk_at "c";have htk:=Box.mk hW.tk;refine bT tkT (fun t=>T.int t.2.1) W.tasks [] trivial (by omega) (fun t ht Q' hq=>?_) (fun p2 hp2=>?_)
 ·have x1:atI [T.str t.1,T.int t.2.1,sT t.2.2] 1=some (T.int t.2.1):=rfl;have hq':=Box.mk hq;clear hq k' hR3;simp only[tkT];walk_at "";exact hq'.out
 rw[show (W.tasks.map fun t=>T.int t.2.1)=(W.tasks.map (·.2.1)).map T.int by rw[List.map_map];rfl,gK,fZ];refine⟨fun z=>by have:=congrArg List.length z;rw[List.length_map,List.length_nil] at this;omega,fun m hm _=>⟨by decide,fun p3 hp3=>?_⟩⟩;have hm0:0<=m:=by obtain⟨t,ht,rfl⟩:=List.mem_map.mp hm;have:=(htk.out t ht).lo;omega
 have st3:=(Sub3.new (o:=.lst ((W.tasks.map (·.2.1)).map T.int)) hp2).trans (Sub3.new (o:=.lst [T.int m,T.int L.sum]) hp3);have sb3:=sb1.trans st3;rw[st3 _ _ gx1,jj];generalize up3 (up3 H5 p2 (.lst ((W.tasks.map (·.2.1)).map T.int))) p3 (.lst [T.int m,T.int L.sum])=H6 at sb3 ⊢;refine⟨by rw[List.length_map,hxl,List.length_cons,List.length_singleton];omega,fun p4 hp4=>?_⟩;obtain⟨ys,hys,hy0,hyl⟩:∃ys:List Int,xs.map T.int++[T.int m,T.int L.sum]=ys.map T.int/\(∀x∈ys,0<=x)/\ys.length=7:=by
  refine⟨xs++[m,L.sum],by rw[List.map_append];rfl,fun x hx=>?_,by rw[List.length_append,hxl];rfl⟩;rcases List.mem_append.mp hx with hx | hx
  ·exact hx0 x hx
  simp only[List.mem_cons,List.not_mem_nil,or_false] at hx;rcases hx with rfl | rfl
  ·exact hm0
  omega
 rw[hys];have sb4:=sb3.trans (Sub3.new (o:=.lst (ys.map T.int)) hp4);have gy:up3 H6 p4 (.lst (ys.map T.int)) p4=some (.lst (ys.map T.int)):=aq;try dsimp only
 generalize up3 H6 p4 (.lst (ys.map T.int))=H7 at sb4 gy ⊢;clear hys hx0 hxl sb1 gx1 sb3 st3 hp2 hp3 hp4 hm;walk_at "n";refine aB fun R4 hR4=>?_;walk_at "";have hmn:0<(if 9*(10:Int)^Int.toNat 60<2*L.sum then 9*(10:Int)^Int.toNat 60 else 2*L.sum):=by
  split
  ·decide +kernel
  omega
 refine⟨⟨by decide,by decide +kernel⟩,.inl ⟨by decide,by decide⟩,⟨by decide,by decide,by decide⟩,.inl ⟨by decide,by decide⟩,hmn,⟨by decide,by decide +kernel⟩,⟨by decide,by decide,by decide⟩,by decide +kernel,by decide,fun p5 hp5=>?_⟩;generalize (if 9*(10:Int)^Int.toNat 60<2*L.sum then 9*(10:Int)^Int.toNat 60 else 2*L.sum)=mn at hmn hp5 ⊢;have e0:=Int.emod_nonneg (c / 9) (show mn≠0 by omega);have e1:=Int.emod_nonneg (c / 9) (show ((10:Int)^Int.toNat 60)≠0 by decide +kernel);generalize c / 9%mn=a1 at e0 ⊢;generalize c / 9%(10:Int)^Int.toNat 60=a2 at e1 ⊢;rw[aC (bf gy hp5),gy,jj];refine⟨by rw[List.length_map,hyl,List.length_cons,List.length_singleton];omega,fun p6 hp6=>?_⟩;obtain⟨zs,hzs,hz0,hzl⟩:∃zs:List Int,ys.map T.int++[T.int a1,T.int a2]=zs.map T.int/\(∀x∈zs,0<=x)/\zs.length=9:=by
  refine⟨ys++[a1,a2],by rw[List.map_append];rfl,fun x hx=>?_,by rw[List.length_append,hyl];rfl⟩;rcases List.mem_append.mp hx with hx | hx
  ·exact hy0 x hx
  simp only[List.mem_cons,List.not_mem_nil,or_false] at hx;rcases hx with rfl | rfl
  ·exact e0
  exact e1
 rw[hzs];have sb6:=sb4.trans ((Sub3.new hp5).trans (Sub3.new (o:=.lst (zs.map T.int)) hp6));have gz:∀Hx:Hp3,up3 Hx p6 (.lst (zs.map T.int)) p6=some (.lst (zs.map T.int)):=fun _=>aq;have i0:=Int.emod_nonneg c (show (9:Int)≠0 by decide);have i1:=Int.emod_lt_of_pos c (show (0:Int)<9 by decide);obtain⟨j,hj⟩:∃j:Nat,c%9=(j:Int):=⟨(c%9).toNat,by omega⟩;have hjl:j<zs.length:=by omega
 have hat:atI (zs.map T.int) (j:Int)=some (T.int zs[j]):=bV (by rw[List.getElem?_map,List.getElem?_eq_getElem hjl];rfl);have hn0:=hz0 _ (List.getElem_mem hjl);generalize zs[j]=n at hat hn0;try dsimp only
 have k2:=Box.mk (Fin3.of sb6 (k'.out n hn0));clear hzs hz0 hzl sb4 gy k' hp6 hp5;walk_at "n";walk_at "";refine⟨by decide,?_⟩;first
  |exact k2.out
  | (rw[fZ];exact k2.out)
abbrev wz:List Str:=["_law_script","_law_most","_law_wide","_law_works_here","_law_stands"]
theorem sc_drawn:FnScope wz ["_law_script","_law_most","_law_wide"] (aA (top 39)):=bu
theorem Cz {f:Addr}{fd:FuncData}(g:G3 K mg "_law_drawn" (top 39) ["_law_script","_law_most","_law_wide"] f fd) (B:Bl mg) (F_works:Cal P w K mg base 3 "_law_works" (top 36) ["_law_script","_law_most","_law_wide"] TV) (F_beat:Cal P w K mg base 2 "_law_beat" (top 38) ["_law_cell_here","_law_works_here","_law_stands"] TX) (F_cell:Cal P w K mg base 1 "_law_cell" (top 30) ["_law_script","_law_k"] GR):Cal P w K mg base 4 "_law_drawn" (top 39) ["_law_script","_law_most","_law_wide"] TY:=by
 refine⟨f,fd,g,?_⟩;refine fn3 g.fn sc_drawn (fun ts H Q h=>?_) (fun cdv A outer s H E ts H3 Q hr h=>?_)
 ·obtain⟨a,sc,most,wide,rfl,_⟩:=h;rfl
 obtain⟨a,sc,most,wide,rfl,ha,hsc,m1,m8,w1,w8,kk⟩:=h;refine⟨_,(aj (j6 (aP F_works hr rfl (aa (v3 0) (aa (v3 1) (aa (v3 2) ak)))) (cB (n:=2) rfl (aH (aD (i:=3) sc_drawn.nd) (aH (aD (i:=4) sc_drawn.nd) bO))))
   (au (aM (bD (aa (v3 3) (aa (v3 4) (aa (aP F_beat hr rfl (aa (aP F_cell hr rfl (aa (v3 0) (aa ao ak))) (aa (v3 3) (aa (v3 4) ak)))) (aa (aP F_cell hr rfl (aa (v3 0) (aa ao ak))) ak)))))))),?_⟩
 rw[show aQ wz [T.ref a,T.int most,T.int wide]=[some (T.ref a),some (T.int most),some (T.int wide),none,none] from rfl];have hsz:sizeLine=16777216:=rfl;have k':=Box.mk kk;clear kk;refine aB fun R0 hR0=>?_;walk_at "";refine⟨a,sc,most,wide,rfl,ha,hsc,m1,m8,w1,w8,fun W sts hW h1 h2 hf p hp=>?_⟩;have sb:Sub3 H3 (up3 H3 p (.lst (sts.map fun (s:Nat)=>T.int (s:Int)))):=Sub3.new hp;have gp:up3 H3 p (.lst (sts.map fun (s:Nat)=>T.int (s:Int))) p=some (.lst (sts.map fun (s:Nat)=>T.int (s:Int))):=aq;have k2:=Box.mk (fun bt c (hb:0<=bt)=>k'.out W sts bt c hW h1 h2 hf hb p hp);have ga:=sb _ _ ha;try walk_at ""
 generalize up3 H3 p (.lst (sts.map fun (s:Nat)=>T.int (s:Int)))=H4 at sb gp ga k2 ⊢;clear k';walk_at "n";walk_at "";refine⟨trivial,a,sc,14,rfl,ga,hsc,by decide,fun c1=>⟨c1,W,p,sts,rfl,hW,gp,hf.l,hf.lt,fun bt hb=>⟨a,sc,15,rfl,ga,hsc,by decide,fun c2=>?_⟩⟩⟩;try dsimp only
 exact⟨by decide,Fin3.of Sub3.refl (k2.out bt c2 hb)⟩
abbrev jV:List Str:=["_law_works_here","_law_beat_here","_law_dealing","_law_place","_law_k","_law_stand","_law_name","_law_one","_law_other","_law_word_here","_law_loads_here","_law_length","_law_kinds"]
theorem sc_right:FnScope jV ["_law_works_here","_law_beat_here","_law_dealing"] (aA (top 40)):=bu
theorem CG {f:Addr}{fd:FuncData}(g:G3 K mg "_law_right" (top 40) ["_law_works_here","_law_beat_here","_law_dealing"] f fd) (B:Bl mg):Cal P w K mg base 1 "_law_right" (top 40) ["_law_works_here","_law_beat_here","_law_dealing"] Tt:=by
 refine⟨f,fd,g,?_⟩;refine fn3 g.fn sc_right (fun ts H Q h=>?_) (fun cdv A outer s H E ts H3 Q hr h=>?_)
 ·obtain⟨W,beat,D,rfl,_⟩:=h;rfl
 have hu30:=Room.u30 hr;have hu31:=Room.u31 hr;have hu1:=Room.u1 hr;obtain⟨W,beat,D,rfl,hW,hD,hR,kk⟩:=h;refine⟨_,(aj (aG (i:=3) sc_right.nd Ey)
   (aj (bx PassesOwn.never rfl (zQ rfl B.enumerate_ (v3 2)) (cB (n:=2) rfl (aH (aD (i:=4) sc_right.nd) (aH (aD (i:=5) sc_right.nd) bO))) (au (bx PassesOwn.never rfl (cg (v3 5)) (aD (i:=6) sc_right.nd) (aj (bK (kE hu1 (v3 6) (v3 3)) (au (aM cZ)) aR)
     (au (vf hu1 (v3 3) (v3 6) (v3 4)))))))
   (aj (bK (aX (j9 hu30) (aO (FZ hr) rfl B.sorted_ jl (aa (v3 3) ak)) (aO (FQ hu30) rfl B.sorted_ jl (aa (bQ rfl (cj (n0:=(aA (top 40)).names) (N:=jV) (N':=["_law_task_here"]) (nt:=1) (cap:=[]) rfl rfl (by decide +kernel)) (cg (aK ix3 (v3 0) ao)) (fun cl pins s H C0 fp=>⟨(aD (i:=0) (show List.Nodup [("_law_task_here":Str)] by decide +kernel)),cT,(aK ix3 (v3 0) ao)⟩)) ak))) (au (aM cZ)) aR)
   (aj (bx PassesOwn.never rfl (cg (aK ix3 (v3 0) ao)) (cB (n:=2) rfl (aH (aD (i:=7) sc_right.nd) (aH (aD (i:=8) sc_right.nd) bO))) (au (bK (aX yU (fV hu1 (v3 3) (v3 7)) (fV hu1 (v3 3) (v3 8))) (au (aM cZ)) aR)))
   (aj (bx PassesOwn.never rfl (cg (aK ix3 (v3 0) ao)) (cB (n:=3) rfl (aH (aD (i:=9) sc_right.nd) (aH (aD (i:=7) sc_right.nd) (aH (aD (i:=8) sc_right.nd) bO)))) (au (bK (aX (j9 hu30) (gh (dG hu30) (fV hu1 (v3 3) (v3 7)) (fV hu1 (v3 3) (v3 8))) (gh (dG hu30) (v3 9) f9)) (au (aM cZ)) aR)))
   (aj (aG (i:=10) sc_right.nd (aF tY (bh (aa ao ak)) (aO cC rfl B.len_ cD (aa (v3 2) ak))))
   (aj (bx PassesOwn.never rfl (cg (aK ix3 (v3 0) ao)) (cB (n:=3) rfl (aH (aD (i:=6) sc_right.nd) (aH (aD (i:=11) sc_right.nd) (aH (aD (i:=12) sc_right.nd) bO)))) (aj (bK (PW3.pt (gm (aX (j9 hu30) (v3 12) (bD ak)) (fM (aX (ql hu31) (aK ix3 (aK ix3 (v3 0) ao) (fV hu1 (v3 3) (v3 6))) (v3 12) rfl)))) (au (aM cZ)) aR)
    (au (j6 (aF aY (aK ix3 (v3 10) (fV hu1 (v3 3) (v3 6))) (v3 11)) (yM (v3 10) (fV hu1 (v3 3) (v3 6)) mW)))))
   (au (aM (gh (dG hu30) (bQ rfl (cj (n0:=(aA (top 40)).names) (N:=jV) (N':=["_law_load","_law_beat_here"]) (nt:=1) (cap:=[1]) rfl rfl (by decide +kernel)) (cG (v3 10)) (fun cl pins s H C0 fp=>⟨(aD (i:=0) (show List.Nodup [("_law_load":Str),("_law_beat_here":Str)] by decide +kernel)),(fU (aX yU (v3 0) (v3 1))),(v3 0)⟩)) (bh ak))))))))))),?_⟩
 rw[show aQ jV [W.enc,T.int beat,T.tup (D.map sT)]=[some (W.enc),some (T.int beat),some (T.tup (D.map sT)),none,none,none,none,none,none,none,none,none,none] from rfl];have hsz:sizeLine=16777216:=rfl;have k':=Box.mk kk;clear kk;have t8:=hW.t8;have r8:=hW.r8;have hfl:=hD.fl hW;have hkd:=Tr hD.nd;have hdl:=hD.rw;have hnd:=Box.mk hD.nd;have hW':=Box.mk hW;have hD':=Box.mk hD;have hR':=Box.mk hR;clear hW hD hR;refine aB fun R0 hR0=>?_;walk_at "";intro p hp;walk_at "n";refine aB fun R1 hR1=>?_;walk_at "";refine xN sT D (fun A Z H=>∃(v4 v5 v6:Option T),Z=[some W.enc,some (.int beat),some (.tup (D.map sT)),some (.ref p),v4,v5,v6,none,none,none,none,none,none]/\H=up3 H3 p (.dct (dN (kD A) (fD A)))) ⟨_,_,_,rfl,rfl⟩ ?_ ?_;rotate_left
 ·rintro A s B Z H N e ⟨v4,v5,v6,rfl,rfl⟩ hN;have hs:A.flatten.length+s.length<=8:=by have:=congrArg (fun x=>x.flatten.length) e;simp only[qY,List.length_append] at this;omega
  have hns:=hnd.out;rw[e,qY] at hns;have ek:=Gs A s;have ef:=vO A s;have kl:=N8 A;have hN':=Box.mk hN;have ek':=Box.mk ek;have ef':=Box.mk ef;have hns':=Box.mk hns;clear hN e k' hR1 ek ef hns;refine⟨trivial,?_⟩;simp only[sT];walk_at "";try refine⟨trivial,?_⟩
  refine aZ T.str s (fun C Z H=>∃(v6:Option T),Z=[some W.enc,some (.int beat),some (.tup (D.map sT)),some (.ref p),some (.int (A.length:Int)),some (.tup (s.map T.str)),v6,none,none,none,none,none,none]/\H=up3 H3 p (.dct (dN (kst (kD A) C) (jm A.length (fD A) C)))) ⟨_,rfl,rfl⟩ ?_ ?_
  ·rintro Z H ⟨v6,rfl,rfl⟩;exact⟨trivial,hN'.out _ _ ⟨_,_,_,rfl,by rw[ek'.out,ef'.out]⟩⟩
  rintro C n E' Z H N2 e2 ⟨v6,rfl,rfl⟩ hN2;have hc:C.length<s.length:=by have:=congrArg List.length e2;simp only[List.length_append,List.length_cons] at this;omega
  have no:n∉kst (kD A) C:=by
   rw[o7,N7];have hz:=hns'.out;rw[e2] at hz;rintro (z | z)
   ·rw[List.append_assoc,List.nodup_append] at hz;exact hz.2.2 n z n (by simp) rfl
   rw[List.append_assoc,List.nodup_append] at hz;have hy:=hz.2.1;try rw[List.append_assoc] at hy
   rw[List.nodup_append] at hy;exact hy.2.2 n z n (by simp) rfl
  have lk:=Jd (f:=jm A.length (fD A) C) no;have p1:=Gu (kst (kD A) C) (jm A.length (fD A) C) n A.length;rw[<- Bo,<- Bp] at p1;have l1:=Bm (kst (kD A) C) (jm A.length (fD A) C);have l2:=kst_len C (kD A);have hN2':=Box.mk hN2;clear hN2 hN' e2 ek' ef' no;refine⟨trivial,?_⟩;walk_at "";rw[if_neg (by rw[Option.isSome_none];exact Bool.false_ne_true)];exact⟨by omega,hN2'.out _ _ ⟨_,rfl,rfl⟩⟩
 rintro Z H ⟨v4,v5,v6,rfl,rfl⟩;refine⟨trivial,?_⟩;rw[hkd];have gp:up3 H3 p (.dct (dN D.flatten (fD D))) p=some (.dct (dN D.flatten (fD D))):=aq;have sb:Sub3 H3 (up3 H3 p (.dct (dN D.flatten (fD D)))):=Sub3.new hp;generalize up3 H3 p (.dct (dN D.flatten (fD D)))=H4 at gp sb ⊢;clear hkd hp;walk_at "n";refine aB fun R2 hR2=>?_;have dl:=Bm D.flatten (fD D);have dk:=GK D.flatten (fD D);walk_at "";refine⟨by omega,fun us hu1 hu2 p1 hp1=>?_⟩;have g1:up3 H4 p1 (.lst (us.map T.str)) p1=some (.lst (us.map T.str)):=aq;have sb1:Sub3 H3 (up3 H4 p1 (.lst (us.map T.str))):=sb.trans (Sub3.new hp1);have gp1:up3 H4 p1 (.lst (us.map T.str)) p=_ := upa gp hp1;generalize up3 H4 p1 (.lst (us.map T.str))=H5 at g1 sb1 gp1 ⊢;clear gp sb hp1 dk;walk_at "c";refine bT tkT (fun t=>T.str t.1) W.tasks [] trivial (by omega) ?c1 ?c2
 case c1 =>
  intro t ht Q' hq
  clear k' hu1 hu2 hnd
  simp only[tkT]
  walk_at ""
  try exact hq
 intro pc hpc;have e1:W.tasks.map (fun t=>T.str t.1)=(nm W).map T.str:=by unfold nm;rw[List.map_map];rfl
 rw[e1];refine .inl ⟨nm W,.inr ⟨pc,rfl,aq⟩,by rw[dZ];omega,fun vs hv1 hv2 p2 hp2=>?_⟩;have e2:us=vs:=GJ hu1 hu2 (hv1.trans (hD'.out.pm hW'.out).symm) hv2;subst e2;have n12:p1≠p2:=fun z=>by rw[z] at g1;rw[aC (bf g1 hpc)] at hp2;rw[g1] at hp2;cases hp2
 have g1':up3 (up3 H5 pc (.lst ((nm W).map T.str))) p2 (.lst (us.map T.str)) p1=some (.lst (us.map T.str)):=by rw[aC n12,aC (bf g1 hpc)];exact g1
 have sb2:Sub3 H3 (up3 (up3 H5 pc (.lst ((nm W).map T.str))) p2 (.lst (us.map T.str))):=sb1.trans ((Sub3.new hpc).trans (Sub3.new hp2));have gp2:up3 (up3 H5 pc (.lst ((nm W).map T.str))) p2 (.lst (us.map T.str)) p=some (.dct (dN D.flatten (fD D))):=(Sub3.new (o:=.lst (us.map T.str)) hp2) _ _ ((Sub3.new (o:=.lst ((nm W).map T.str)) hpc) _ _ gp1);try dsimp only
 rw[HS,g1',aq,qu];refine⟨n12,dM us,dM us,?_⟩;generalize up3 (up3 H5 pc (.lst ((nm W).map T.str))) p2 (.lst (us.map T.str))=H6 at sb2 gp2 ⊢;clear g1 sb1 gp1 g1' hpc hp2 hu1 hu2 hv1 hv2 n12 e1;rw[jN,eZ,if_neg (by decide)];walk_at "n";refine aB fun R3 hR3=>?_;walk_at "";refine aZ orT W.orders (fun A Z H=>∃(v4 v5 v6 v7 v8 v9 v10 v11 v12:Option T),Z=[some W.enc,some (.int beat),some (.tup (D.map sT)),some (.ref p),v4,v5,v6,v7,v8,v9,v10,v11,v12]/\H=H6) ⟨_,_,_,_,_,_,_,_,_,rfl,rfl⟩ ?_ ?_;rotate_left
 ·rintro A ⟨x,y⟩ B Z H N e ⟨v4,v5,v6,v7,v8,v9,v10,v11,v12,rfl,rfl⟩ hN;refine⟨trivial,?_⟩;have hm:(x,y)∈W.orders:=by rw[e];simp
  have l1:=gQ (f:=fD D) (hD'.out.al _ (hW'.out.oo _ hm).2.1);have l2:=gQ (f:=fD D) (hD'.out.al _ (hW'.out.oo _ hm).2.2);have ho:fD D x<=fD D y:=hR'.out.ord _ hm;have fN:Box (∀v4 v5 v6 v9 v10 v11 v12,N [some W.enc,some (.int beat),some (.tup (D.map sT)),some (.ref p),v4,v5,v6,some (.str x),some (.str y),v9,v10,v11,v12] H):=⟨fun v4 v5 v6 v9 v10 v11 v12=>hN _ _ ⟨_,_,_,_,_,_,_,_,_,rfl,rfl⟩⟩;clear hN e k' hR3 hm hnd hfl;simp only[orT];walk_at "";refine⟨trivial,?_⟩;rw[if_neg (qN (by omega))];exact fN.out _ _ _ _ _ _ _
 rintro Z H ⟨v4,v5,v6,v7,v8,v9,v10,v11,v12,rfl,rfl⟩;refine⟨trivial,?_⟩;walk_at "n";refine aB fun R4 hR4=>?_;walk_at "";refine aZ prT W.pairs (fun A Z H'=>∃(v4 v5 v6 v7 v8 v9 v10 v11 v12:Option T),Z=[some W.enc,some (.int beat),some (.tup (D.map sT)),some (.ref p),v4,v5,v6,v7,v8,v9,v10,v11,v12]/\H'=H) ⟨_,_,_,_,_,_,_,_,_,rfl,rfl⟩ ?_ ?_;rotate_left
 ·rintro A ⟨wd,x,y⟩ B Z H' N e ⟨v4,v5,v6,v7,v8,v9,v10,v11,v12,rfl,rfl⟩ hN;refine⟨trivial,?_⟩;have hm:(wd,x,y)∈W.pairs:=by rw[e];simp
  have l1:=gQ (f:=fD D) (hD'.out.al _ (hW'.out.pp _ hm).2.2.1);have l2:=gQ (f:=fD D) (hD'.out.al _ (hW'.out.pp _ hm).2.2.2);have ho:fD D x=fD D y↔wd="with":=hR'.out.pai _ hm;have fN:Box (∀v4 v5 v6 v10 v11 v12,N [some W.enc,some (.int beat),some (.tup (D.map sT)),some (.ref p),v4,v5,v6,some (.str x),some (.str y),some (.str wd),v10,v11,v12] H'):=⟨fun v4 v5 v6 v10 v11 v12=>hN _ _ ⟨_,_,_,_,_,_,_,_,_,rfl,rfl⟩⟩;clear hN e k' hR4 hm hnd hfl;have ec:decide (((fD D x:Nat):Int)=((fD D y:Nat):Int))=decide (wd="with"):=by rw[decide_eq_decide,<- ho];omega
  have ho':=Box.mk ho;clear ho;simp only[prT];walk_at "";refine⟨trivial,?_⟩;exact fN.out _ _ _ _ _ _
 rintro Z H' ⟨v4,v5,v6,v7,v8,v9,v10,v11,v12,rfl,rfl⟩;refine⟨trivial,?_⟩;walk_at "n";refine aB fun R5 hR5=>?_;walk_at "";refine⟨by decide,fun q1 hq1=>⟨⟨by omega,by omega,by omega⟩,fun pl hpl=>?_⟩⟩;try simp only[List.length_map,Int.toNat_natCast] at hpl ⊢
 rw[GP (fD D)];have sb4:Sub3 H3 (up3 H' q1 (.lst [T.int 0])):=sb2.trans (Sub3.new hq1);have gp4:up3 H' q1 (.lst [T.int 0]) p=some (.dct (dN D.flatten (fD D))):=(Sub3.new (o:=.lst [T.int 0]) hq1) _ _ gp2;generalize up3 H' q1 (.lst [T.int 0])=H7 at sb4 gp4 hpl ⊢;have pl3:=cz sb4 hpl;have npl:p≠pl:=bf gp4 hpl;have sb5:Sub3 H3 (up3 H7 pl (.lst (((List.range D.length).map (ldF ([]:List (Str × Int × List Str)) (fD D))).map T.int))):=sb4.trans (Sub3.new hpl);have gp5:up3 H7 pl (.lst (((List.range D.length).map (ldF ([]:List (Str × Int × List Str)) (fD D))).map T.int)) p=some (.dct (dN D.flatten (fD D))):=by rw[aC npl];exact gp4
 have gl5:up3 H7 pl (.lst (((List.range D.length).map (ldF ([]:List (Str × Int × List Str)) (fD D))).map T.int)) pl=some (.lst (((List.range D.length).map (ldF ([]:List (Str × Int × List Str)) (fD D))).map T.int)):=aq;generalize up3 H7 pl (.lst (((List.range D.length).map (ldF ([]:List (Str × Int × List Str)) (fD D))).map T.int))=H8 at sb5 gp5 gl5 ⊢;clear sb4 gp4 sb2 gp2 hpl hq1;walk_at "n";refine aB fun R6 hR6=>?_;walk_at "";refine aZ tkT W.tasks (fun A Z H=>∃(v4 v5 v6 v7 v8 v9 v11 v12:Option T),Z=[some W.enc,some (.int beat),some (.tup (D.map sT)),some (.ref p),v4,v5,v6,v7,v8,v9,some (.ref pl),v11,v12]/\H=up3 H8 pl (.lst (((List.range D.length).map (ldF A (fD D))).map T.int))) ⟨_,_,_,_,_,_,_,_,rfl,(N6 gl5).symm⟩ ?_ ?_;rotate_left
 ·rintro A ⟨x,ln,ks⟩ B Z H N e ⟨v4,v5,v6,v7,v8,v9,v11,v12,rfl,rfl⟩ hN;refine⟨trivial,?_⟩;have hm:(x,ln,ks)∈W.tasks:=by rw[e];simp
  have hxn:x∈nm W:=List.mem_map.mpr ⟨_,hm,rfl⟩;have l1:=gQ (f:=fD D) (hD'.out.al _ hxn);have hgx:=hD'.out.lt hxn;have x0:=Bs (show fD D x<W.row.length by omega);have hmay:jJ ks (W.row.getD (fD D x) "")=true:=hR'.out.kd hD'.out hm;have x1:atI (((List.range D.length).map (ldF A (fD D))).map T.int) ((fD D x:Nat):Int)=some (.int (ldF A (fD D) (fD D x))):=bV (by rw[List.getElem?_map,List.getElem?_map,List.getElem?_range hgx];rfl);have x2:ixN (((List.range D.length).map (ldF A (fD D))).map T.int).length ((fD D x:Nat):Int)=some (fD D x):=oH (by rw[List.length_map,List.length_map,List.length_range];exact hgx);have x3:(((List.range D.length).map (ldF A (fD D))).map T.int).set (fD D x) (T.int (ldF A (fD D) (fD D x)+ln))=((List.range D.length).map (ldF (A++[(x,ln,ks)]) (fD D))).map T.int:=by rw[<- List.map_set];congr 1;exact vX (t:=(x,ln,ks)) hgx
  have fin:Box (∀v4 v5 v7 v8 v9,N [some W.enc,some (.int beat),some (.tup (D.map sT)),some (.ref p),v4,v5,some (.str x),v7,v8,v9,some (.ref pl),some (.int ln),some (sT ks)] (up3 H8 pl (.lst ((((List.range D.length).map (ldF A (fD D))).map T.int).set (fD D x) (T.int (ldF A (fD D) (fD D x)+ln)))))):=⟨fun v4 v5 v7 v8 v9=>hN _ _ ⟨_,_,_,_,_,_,_,_,rfl,by rw[x3]⟩⟩;have gp8:up3 H8 pl (.lst (((List.range D.length).map (ldF A (fD D))).map T.int)) p=some (.dct (dN D.flatten (fD D))):=by rw[aC npl];exact gp5
  clear hN e k' x3 hm gl5 hR6 hnd hfl;generalize ((List.range D.length).map (ldF A (fD D))).map T.int=LL at *;have i2:=dM ks;have em:=S8 (x:=W.row.getD (fD D x) "") (xs:=ks);simp only[tkT,sT] at *;unfold jJ at hmay;generalize W.row.getD (fD D x) ""=kd at *;walk_at "";refine⟨trivial,by decide,trivial,rfl,?_⟩;by_cases c:ks=[]
  ·rw[if_neg (by simp [c])];exact fin.out _ _ _ _ _
  have c2:kd∈ks:=by simpa [c] using hmay
  rw[if_pos (by simp [c])];refine⟨rfl,trivial,?_⟩;rw[if_neg (by simp [c2])];exact fin.out _ _ _ _ _
 rintro Z H ⟨v4,v5,v6,v7,v8,v9,v11,v12,rfl,rfl⟩;refine⟨trivial,?_⟩;walk_at "n";have e6:((List.range D.length).map (ldF W.tasks (fD D))).map T.int=(lds W (fD D) D.length).map T.int:=rfl;have hle:∀l∈lds W (fD D) D.length,l<=beat:=hR'.out.lds hD'.out;rw[e6];have gl6:up3 H8 pl (.lst ((lds W (fD D) D.length).map T.int)) pl=some (.lst ((lds W (fD D) D.length).map T.int)):=aq;have sb6:Sub3 H3 (up3 H8 pl (.lst ((lds W (fD D) D.length).map T.int))):=fun b o h=>by rw[aC (bf h pl3)];exact sb5 b o h
 generalize up3 H8 pl (.lst ((lds W (fD D) D.length).map T.int))=H9 at gl6 sb6 ⊢;clear e6 gl5 gp5 sb5 hfl hnd hD' hR' hW';generalize lds W (fD D) D.length=LD at *;walk_at "";walk_at "c";refine fc T.int LD (fun A ys Z H=>∃v:Option T,Z=[v,some (.int beat)]/\ys=[]/\H=H9) ⟨_,rfl,rfl,rfl⟩ ?_ ?_
 ·rintro ys Z H ⟨v,rfl,rfl,rfl⟩;refine⟨.inl gl6,by simp,fun q2 hq2=>⟨by decide,fun q3 hq3=>?_⟩⟩;have n23:q2≠q3:=fun z=>by rw[z,aq] at hq3;cases hq3
  rw[aC n23,aq,qu];exact⟨n23,rfl,rfl,Fin3.of (sb6.trans ((Sub3.new hq2).trans (Sub3.new hq3))) k'.out⟩
 rintro A l B ys Z H N e ⟨v,rfl,rfl,rfl⟩ hN;refine⟨.inl gl6,?_⟩;have hl:l<=beat:=hle l (by rw[e];simp);have hN':=Box.mk hN;clear hN e k' hle;walk_at "";rw[if_neg (qN (by omega))];exact hN'.out _ _ _ ⟨_,rfl,rfl,rfl⟩
abbrev dj:List Str:=["_law_works_here","_law_beat_here","_law_many","_law_found","_law_names","_law_stand"]
theorem sc_is_dealing:FnScope dj ["_law_works_here","_law_beat_here","_law_many","_law_found"] (aA (top 41)):=bu
theorem lW {f:Addr}{fd:FuncData}(g:G3 K mg "_law_is_dealing" (top 41) ["_law_works_here","_law_beat_here","_law_many","_law_found"] f fd) (B:Bl mg) (F_right:Cal P w K mg base 1 "_law_right" (top 40) ["_law_works_here","_law_beat_here","_law_dealing"] Tt):Cal P w K mg base 2 "_law_is_dealing" (top 41) ["_law_works_here","_law_beat_here","_law_many","_law_found"] Tu:=by
 refine⟨f,fd,g,?_⟩;refine fn3 g.fn sc_is_dealing (fun ts H Q h=>?_) (fun cdv A outer s H E ts H3 Q hr h=>?_)
 ·obtain⟨W,beat,m,D,rfl,_⟩:=h;rfl
 have hu30:=Room.u30 hr;have hu31:=Room.u31 hr;obtain⟨W,beat,m,D,rfl,hW,hm,hs,hD,hR,kk⟩:=h;refine⟨_,(aj (bK (PW3.pt (qb (fP (c7 (aO tD rfl B.isinstance_ eX (aa (v3 3) (aa (zb rfl B.tuple_ cF) ak))))) (qb (aX (j9 hu30) (aO cC rfl B.len_ cD (aa (v3 3) ak)) (v3 2)) (nY (aX yU (v3 2) (aO cC rfl B.len_ cD (aa (aK ix3 (v3 0) ao) ak))))))) (au (aM cZ)) aR)
   (aj (uZ (i:=4) rfl sc_is_dealing.nd (cj (n0:=(aA (top 41)).names) (N:=dj) (N':=["_law_task_here"]) (nt:=1) (cap:=[]) rfl rfl (by decide +kernel)) (cg (aK ix3 (v3 0) ao)) (fun cl pins s H C0 fp=>⟨(aD (i:=0) (show List.Nodup [("_law_task_here":Str)] by decide +kernel)),cT,(aK ix3 (v3 0) ao)⟩))
   (aj (bx PassesOwn.never rfl (cg (v3 3)) (aD (i:=5) sc_is_dealing.nd) (aj (bK (PW3.pt (qb (fP (c7 (aO tD rfl B.isinstance_ eX (aa (v3 5) (aa (zb rfl B.tuple_ cF) ak))))) (nY (aX (j9 hu30) (bQ rfl (cj (n0:=(aA (top 41)).names) (N:=dj) (N':=["_law_name"]) (nt:=1) (cap:=[]) rfl rfl (by decide +kernel)) (cg (v3 5)) (fun cl pins s H C0 fp=>⟨(aD (i:=0) (show List.Nodup [("_law_name":Str)] by decide +kernel)),(fU (fP (c7 (aO tD rfl B.isinstance_ eX (aa (v3 0) (aa (zb rfl B.str_ Kv) ak)))))),(v3 0)⟩)) (bh ak))))) (au (aM cZ)) aR)
    (au (bK (aX (j9 hu30) (bQ rfl (cj (n0:=(aA (top 41)).names) (N:=dj) (N':=["_law_name","_law_stand"]) (nt:=1) (cap:=[5]) rfl rfl (by decide +kernel)) (cG (v3 4)) (fun cl pins s H C0 fp=>⟨(aD (i:=0) (show List.Nodup [("_law_name":Str),("_law_stand":Str)] by decide +kernel)),(fU (aX (mV hu31) (v3 0) (v3 1) rfl)),(v3 0)⟩)) (bL vh rfl B.list_ oG (aa (v3 5) ak))) (au (aM cZ)) aR))))
   (au (aM (aP F_right hr rfl (aa (v3 0) (aa (v3 1) (aa (v3 3) ak))))))))),?_⟩
 rw[show aQ dj [W.enc,T.int beat,T.int (m:Int),T.tup (D.map sT)]=[some (W.enc),some (T.int beat),some (T.int (m:Int)),some (T.tup (D.map sT)),none,none] from rfl];have hsz:sizeLine=16777216:=rfl;have k':=Box.mk kk;clear kk;subst hm;have t8:=hW.t8;have r8:=hW.r8;have hdl:=hD.rw;have hW':=Box.mk hW;have hD':=Box.mk hD;have hR':=Box.mk hR;have hs':=Box.mk hs;clear hW hD hR hs;refine aB fun R0 hR0=>?_;walk_at "";rw[if_neg (qN (by omega))];walk_at "n";refine aB fun R1 hR1=>?_;walk_at "";walk_at "c";refine bT tkT (fun t=>T.str t.1) W.tasks [] trivial (by omega) ?c1 ?c2
 case c1 =>
  intro t ht Q' hq
  clear k'
  simp only[tkT]
  walk_at ""
  try exact hq
 intro pn hpn;have e1:W.tasks.map (fun t=>T.str t.1)=(nm W).map T.str:=by unfold nm;rw[List.map_map];rfl
 rw[e1];have sb0:Sub3 H3 (up3 H3 pn (.lst ((nm W).map T.str))):=Sub3.new hpn;have gn0:up3 H3 pn (.lst ((nm W).map T.str)) pn=some (.lst ((nm W).map T.str)):=aq;generalize up3 H3 pn (.lst ((nm W).map T.str))=H4 at sb0 gn0 ⊢;clear e1;walk_at "n";refine aB fun R2 hR2=>?_;walk_at "";refine aZ sT D (fun A Z H=>∃(v5:Option T),Z=[some W.enc,some (.int beat),some (.int (D.length:Int)),some (.tup (D.map sT)),some (.ref pn),v5]/\Sub3 H3 H/\H pn=some (.lst ((nm W).map T.str))) ⟨_,rfl,sb0,gn0⟩ ?_ ?_
 ·rintro Z H ⟨v5,rfl,sb,gn⟩;refine⟨trivial,?_⟩;walk_at "n";walk_at "";exact⟨W,beat,D,rfl,hW'.out,hD'.out,hR'.out,Fin3.of sb k'.out⟩
 rintro A s B Z H N e ⟨v5,rfl,sb,gn⟩ hN;refine⟨trivial,?_⟩;have hsD:s∈D:=by rw[e];simp
 have hs0:=hs'.out s hsD;have hsl:s.length<=8:=by rw[<- hs0];have:=List.length_filter_le (fun n=>decide (n∈s)) (nm W);rw[dZ] at this;omega
 have hN':=Box.mk hN;have hs0':=Box.mk hs0;clear hN e k' hR2 hs' hD' hR' hW' hs0;simp only[sT];refine aB fun R3 hR3=>?_;walk_at "";walk_at "c";refine fc T.str s (fun A ys Z H'=>∃v:Option T,Z=[v]/\ys=[]/\H'=H) ⟨_,rfl,rfl,rfl⟩ ?_ ?_;rotate_left
 ·rintro A2 n B2 ys Z H' N2 e ⟨v,rfl,rfl,rfl⟩ hN2;refine⟨trivial,?_⟩;have hN2':=Box.mk hN2;clear hN2 e hN' hR3;walk_at "";exact hN2'.out _ _ _ ⟨_,rfl,rfl,rfl⟩
 rintro ys Z H' ⟨v,rfl,rfl,rfl⟩;refine⟨trivial,by simp,fun q2 hq2=>⟨by decide,fun q3 hq3=>?_⟩⟩;have n23:q2≠q3:=fun z=>by rw[z,aq] at hq3;cases hq3
 rw[aC n23,aq,qu];refine⟨n23,rfl,rfl,?_⟩;have sb2:Sub3 H3 (up3 (up3 H' q2 (.lst [])) q3 (.lst [])):=sb.trans ((Sub3.new hq2).trans (Sub3.new hq3));have gn2:up3 (up3 H' q2 (.lst [])) q3 (.lst []) pn=some (.lst ((nm W).map T.str)):=(Sub3.new (o:=.lst []) hq3) _ _ ((Sub3.new (o:=.lst []) hq2) _ _ gn);generalize up3 (up3 H' q2 (.lst [])) q3 (.lst [])=H5 at sb2 gn2 ⊢;rw[jN,eZ,if_neg (by decide)];clear sb gn hq2 hq3 n23;walk_at "n";have pls:=dM s;walk_at "";walk_at "c";refine fc T.str (nm W) (fun A ys Z H'=>∃v:Option T,Z=[v,some (.tup (s.map T.str))]/\ys=(A.filter fun n=>decide (n∈s)).map T.str/\H'=H5) ⟨_,rfl,rfl,rfl⟩ ?_ ?_;rotate_left
 ·rintro A2 n B2 ys Z H' N2 e ⟨v,rfl,rfl,rfl⟩ hN2;refine⟨.inl gn2,?_⟩;have em:=S8 (x:=n) (xs:=s);have hlA:((A2.filter fun n=>decide (n∈s)).map T.str).length<=8:=by rw[List.length_map];have h1:=List.length_filter_le (fun n=>decide (n∈s)) A2;have h2:=congrArg List.length e;rw[dZ,List.length_append] at h2;omega
  have yes:Box (n∈s->N2 ((A2.filter fun n=>decide (n∈s)).map T.str++[T.str n]) [some (.str n),some (.tup (s.map T.str))] H'):=⟨fun z=>hN2 _ _ _ ⟨_,rfl,by rw[List.filter_append,List.filter_cons,decide_eq_true z];simp,rfl⟩⟩;have no:Box (n∉s->N2 ((A2.filter fun n=>decide (n∈s)).map T.str) [some (.str n),some (.tup (s.map T.str))] H'):=⟨fun z=>hN2 _ _ _ ⟨_,rfl,by rw[List.filter_append,List.filter_cons,decide_eq_false z];simp,rfl⟩⟩;clear hN2 e hN' hs0' hsD;generalize (A2.filter fun n=>decide (n∈s)).map T.str=cur at *;walk_at "";rw[show du false (T.str n) (s.map T.str)=decide (n∈s) from S9];refine⟨rfl,trivial,?_⟩;by_cases c:n∈s
  ·rw[if_pos (decide_eq_true c)];exact⟨by omega,yes.out c⟩
  rw[if_neg (qN c)];exact no.out c
 rintro ys Z H' ⟨v,rfl,rfl,rfl⟩;rw[hs0'.out];refine⟨.inl gn2,by rw[List.length_map];omega,fun q4 hq4 q5 hq5=>?_⟩;have n45:q4≠q5:=fun z=>by rw[z,aq] at hq5;cases hq5
 rw[aC n45,aq,qu];refine⟨n45,pls,pls,?_⟩;rw[jN,eZ,if_neg (by decide)];exact hN'.out _ _ ⟨_,rfl,sb2.trans ((Sub3.new hq4).trans (Sub3.new hq5)),(Sub3.new (o:=.lst (s.map T.str)) hq5) _ _ ((Sub3.new (o:=.lst (s.map T.str)) hq4) _ _ gn2)⟩
theorem Vh {X:Cx}(i:Nat) {x:Str}{pos pos' p5:Pos}{k v:Expr}{tk tv:TE3}(hN:X.N.Nodup) (hk:PE3 X k tk) (hv:PE3 X v tv) (hi:X.N[i]?=some x) (hx:Loc X.env.scope x) (hf:X.fn x=true\/X.env.scope.names.lookup x=some .local):PS3 X (.Assign [.Name x pos'] (.Dict [some k] [v] p5) pos) (uV (oV tk tv) (gA i)):=aG hN (xm hk hv) hi hx rfl hf
abbrev jb:List Str:=["works","beat","many","walk","ways","stand"]
theorem sc_dealing_to:FnScope jb ["works","beat","many"] (aA (top 28)):=bu
theorem lX {f:Addr}{fd:FuncData}(g:G3 K mg "dealing_to" (top 28) ["works","beat","many"] f fd) (B:Bl mg) {C_Walk:Addr}(I_Walk:InsC K C_Walk ["works","beat","rules","whole"]) (M_Walk:MkC P w K mg base C_Walk 5 "Walk" ["self","works","beat"] (Tf C_Walk)) (F_ways_behind:Cal P w K mg base 5 "ways_behind" (top 27) ["walk","stand","ways"] (Tp C_Walk)) (M_dealing_of:MtC P w K mg base C_Walk 2 "dealing_of" ["self","fillings"] (Th C_Walk)):Cal P w K mg base 7 "dealing_to" (top 28) ["works","beat","many"] Tq:=by
 refine⟨f,fd,g,?_⟩;refine fn3 g.fn sc_dealing_to (fun ts H Q h=>?_) (fun cdv A outer s H E ts H3 Q hr h=>?_)
 ·obtain⟨W,beat,m,rfl,_⟩:=h;rfl
 have hu1:=Room.u1 hr;obtain⟨W,beat,m,rfl,hW,hm,kk⟩:=h;refine⟨_,(aj (aG (i:=3) sc_dealing_to.nd (Fy M_Walk (hr.mono (by decide)) rfl (aa (v3 0) (aa (v3 1) ak))))
   (@aj _ _ _ _ _ (@Vh _ 4 _ _ _ _ _ _ _ _ sc_dealing_to.nd ao (bD ak) rfl (by first | exact Or.inl rfl | exact Or.inr rfl) (by first | exact .inl rfl | exact .inr rfl | assumption))
   (aj (bx PassesOwn.never rfl (cH rfl B.range_ (aa (v3 2) ak)) (aD (i:=5) sc_dealing_to.nd) (au (aG (i:=4) sc_dealing_to.nd (aP F_ways_behind hr rfl (aa (v3 3) (aa (v3 5) (aa (v3 4) ak)))))))
   (aj (bK (t7 hu1 (gB I_Walk (v3 3)) (v3 4)) (au (aM sX)) aR)
   (au (aM (oX M_dealing_of (hr.mono (by decide)) (v3 3) (aa (Af hu1 (v3 4) (gB I_Walk (v3 3))) ak)))))))),?_⟩
 rw[show aQ jb [W.enc,T.int beat,T.int (m:Int)]=[some (W.enc),some (T.int beat),some (T.int (m:Int)),none,none,none] from rfl];have hsz:sizeLine=16777216:=rfl;have k':=Box.mk kk;clear kk;have t1:=lz W;have r8:W.row.length<=8:=hW.r8;refine aB fun R0 hR0=>?_;walk_at "";intro a ha;refine⟨a,W,beat,rfl,hW,aq,fun H4 kp hw=>⟨rfl,?_⟩⟩;have sb:Sub3 H3 H4:=fun b u hb=>kp b u (bf hb ha) (by rw[aC (bf hb ha)];exact hb);clear kp ha;walk_at "n";refine aB fun R1 hR1=>?_;walk_at "";intro q0 hq0;refine⟨by decide,trivial,?_⟩;have e0:([(0,T.tup [])]:List (Int × T))=dI wyT (wys W beat 0):=rfl;rw[e0];have sb0:Sub3 H3 (up3 H4 q0 (.dci (dI wyT (wys W beat 0)))):=sb.trans (Sub3.new hq0);have hw0:=hw.sub (Sub3.new (o:=.dci (dI wyT (wys W beat 0))) hq0);have gq0:up3 H4 q0 (.dci (dI wyT (wys W beat 0))) q0=some (.dci (dI wyT (wys W beat 0))):=aq;have hq3:=cz sb hq0;generalize up3 H4 q0 (.dci (dI wyT (wys W beat 0)))=H5 at sb0 gq0 hw0 ⊢;clear e0 hq0 sb hw;walk_at "n";refine aB fun R2 hR2=>?_;walk_at "";refine⟨trivial,by omega,by omega,?_⟩;rw[vN];refine aZ (fun (j:Nat)=>T.int (j:Int)) (List.range m) (fun A Z H=>∃(q:Addr) (v5:Option T),Z=[some W.enc,some (.int beat),some (.int (m:Int)),some (.ref a),some (.ref q),v5]/\Sub3 H3 H/\H3 q=none/\Wlk C_Walk W beat H a/\H q=some (.dci (dI wyT (wys W beat A.length)))) ⟨q0,_,rfl,sb0,hq3,hw0,gq0⟩ ?_ ?_
 ·rintro Z H ⟨q,v5,rfl,sb,hq,hw,gq⟩;refine⟨trivial,?_⟩;rw[List.length_range] at gq;walk_at "n";obtain⟨pw,gw,_⟩:=hw.ex;have f4:=rB (W:=W) (beat:=beat) (p:=pw);have lm:=Bv (W:=W) (beat:=beat) (p:=pw) (m:="dealing_of") (by decide +kernel);have lk:=ph wyT (top2 W - 1) (wys W beat m);have ec:((top2 W - 1:Nat):Int)=(top2 W:Int) - 1:=by omega
  rw[ec] at lk;have k2:=k'.out;unfold dtT at k2;have htb:=wtb (W:=W) (beat:=beat) hW hm;clear sb0 hw0 gq0;refine aB fun R3 hR3=>?_;cases el:cP (top2 W - 1) (wys W beat m) with
  |none=>rw[el] at lk k2;rw[Option.map_none] at lk;have k3:=Box.mk k2;clear k' k2 hR3 htb;walk_at "";simp only[Option.isSome_none,Bool.not_false,if_true];exact Fin3.of sb k3.out
  |some v =>
  obtain⟨_,hb2,hb3⟩:=(htb.wok hW).lt _ (fC el);have hb4:v.length<=m:=hb2;clear hb2;rw[el] at lk k2;rw[Option.map_some] at lk;simp only[wyT] at lk;have k3:=Box.mk k2;clear k' k2 htb el;generalize wys W beat m=E at *;walk_at "";simp only[Option.isSome_some,Bool.not_true,Bool.false_eq_true,if_false];walk_at "n";walk_at "";refine⟨by first | trivial | exact lm,a,W,beat,v,rfl,hW,hw,by omega,hb3,?_⟩;exact Fin3.of sb k3.out
 rintro A j B Z H N e ⟨q,v5,rfl,sb,hq,hw,gq⟩ hN;refine⟨trivial,?_⟩;have hA:A.length<m:=by have:=congrArg List.length e;simp only[List.length_append,List.length_cons,List.length_range] at this;omega
 have hj:j=A.length:=by
  have h1:(List.range m)[A.length]?=some j:=by rw[e,List.getElem?_append_right (Nat.le_refl _)];simp
  rw[List.getElem?_range hA] at h1;exact (Option.some.inj h1).symm
 subst hj;have hN':=Box.mk hN;clear hN e k' hR2 sb0 hw0 gq0;walk_at "";refine⟨a,q,W,beat,A.length,A.length,wys W beat A.length,rfl,hW,hw,by omega,by omega,(wtb hW (by omega)).wok hW,gq,fun o p2 hp2=>?_⟩;have nq2:q≠p2:=bf gq hp2;have hwf:=hw.frz (o:=.dif o (dI wyT (wys W beat A.length))) gq;refine hN'.out _ _ ⟨p2,_,rfl,fun b u hb=>?_,cz sb ?_,hwf.sub (Sub3.new (by rw[aC (Ne.symm nq2)];exact hp2)),?_⟩
 ·rw[aC (bf (sb b u hb) ?_),aC (bf hb hq)]
  ·exact sb b u hb
  exact hp2
 ·exact hp2
 rw[aq,List.length_append];rfl
abbrev ig:List Str:=["walk","stand","ways","behind","done","fillings","filling"]
theorem sc_ways_behind:FnScope ig ["walk","stand","ways"] (aA (top 27)):=bu
theorem lD {f:Addr}{fd:FuncData}(g:G3 K mg "ways_behind" (top 27) ["walk","stand","ways"] f fd) (B:Bl mg) {C_Walk:Addr}(I_Walk:InsC K C_Walk ["works","beat","rules","whole"]) (M_greatest_at:MtC P w K mg base C_Walk 4 "greatest_at" ["self","stand","done"] (Tn C_Walk)):Cal P w K mg base 5 "ways_behind" (top 27) ["walk","stand","ways"] (Tp C_Walk):=by
 refine⟨f,fd,g,?_⟩;refine fn3 g.fn sc_ways_behind (fun ts H Q h=>?_) (fun cdv A outer s H E ts H3 Q hr h=>?_)
 ·obtain⟨a,q,W,beat,k,n,E,rfl,_⟩:=h;rfl
 obtain⟨a,q,W,beat,k,n,E,rfl,hW,hw,hk,hn,hE,hq,kk⟩:=h;refine⟨_,(aj (aG (i:=3) sc_ways_behind.nd Ad)
   (aj (bx PassesOwn.never rfl (Ak (v3 2)) (cB (n:=2) rfl (aH (aD (i:=4) sc_ways_behind.nd) (aH (aD (i:=5) sc_ways_behind.nd) bO))) (au (bx PassesOwn.never rfl (cG (oX M_greatest_at (hr.mono (by decide)) (v3 0) (aa (v3 1) (aa (v3 4) ak)))) (aD (i:=6) sc_ways_behind.nd) (au (bW (Fx (v3 3) (aF aY (v3 4) (v3 6)) (aF aY (v3 5) (bD (aa (v3 6) ak)))))))))
   (au (aM (v3 3))))),?_⟩
 rw[show aQ ig [T.ref a,T.int (k:Int),T.ref q]=[some (T.ref a),some (T.int (k:Int)),some (T.ref q),none,none,none,none] from rfl];have hsz:sizeLine=16777216:=rfl;have k':=Box.mk kk;clear kk;have t2:=o9 hW;have hE':=Box.mk hE;clear hE;refine aB fun R0 hR0=>?_;walk_at "";intro pb hpb;have nqb:q≠pb:=bf hq hpb;walk_at "n";refine aB fun R1 hR1=>?_;have gq:up3 H3 pb (.dci []) q=some (.dci (dI wyT E)):=by rw[aC nqb];exact hq
 walk_at "";intro o;rw[Ti];have hw0:Wlk C_Walk W beat (up3 H3 q (.dif o (dI wyT E))) a:=hw.frz hq;have g0:up3 H3 q (.dif o (dI wyT E)) q=some (.dif o (dI wyT E)):=aq;have n0:up3 H3 q (.dif o (dI wyT E)) pb=none:=by rw[aC (Ne.symm nqb)];exact hpb
 have kb0:Kb1 pb (up3 H3 q (.dif o (dI wyT E))) (up3 (up3 H3 pb (.dci [])) q (.dif o (dI wyT E))):=fun b u hb h=>by
  by_cases e:b=q
  ·subst e;rw[aq] at h ⊢;exact h
  rw[aC e] at h ⊢;rw[aC hb];exact h
 have gb0:up3 (up3 H3 pb (.dci [])) q (.dif o (dI wyT E)) pb=some (.dci (dI wyT [])):=by rw[aC (Ne.symm nqb),aq];rfl
 have k2:=Box.mk (k'.out o pb hpb);generalize up3 (up3 H3 pb (.dci [])) q (.dif o (dI wyT E))=H4 at kb0 gb0 ⊢;generalize up3 H3 q (.dif o (dI wyT E))=H0 at *;clear k' gq hq hw;refine aZ wyE E (fun A Z H=>∃(v4 v5 v6:Option T),Z=[some (.ref a),some (.int (k:Int)),some (.ref q),some (.ref pb),v4,v5,v6]/\Kb1 pb H0 H/\H pb=some (.dci (dI wyT (A.foldl (wbF W beat k) [])))/\WOk W (n+1) (A.foldl (wbF W beat k) [])) ⟨_,_,_,rfl,kb0,gb0,⟨List.nodup_nil,fun _ z=>(nomatch z)⟩⟩ ?_ ?_
 ·rintro Z H ⟨v4,v5,v6,rfl,kb,gb,_⟩;refine⟨kb q _ nqb g0,?_⟩;walk_at "n";walk_at "";refine Fin3.of (fun b u hb=>?_) k2.out;by_cases e:b=pb
  ·subst e;rw[aq] at hb;rw[gb,<- hb];rfl
  rw[aC e] at hb;exact kb b u e hb
 rintro A e B Z H N eE ⟨v4,v5,v6,rfl,kb,gb,hB⟩ hN;refine⟨kb q _ nqb g0,?_⟩;obtain⟨ed,el,et⟩:=hE'.out.lt e (by rw[eE];simp);have hfold:(A++[e]).foldl (wbF W beat k) []=wbF W beat k (A.foldl (wbF W beat k) []) e:=by rw[List.foldl_append];rfl
 have hN':=Box.mk hN;clear hN eE hR1 k2 kb0 gb0;rw[hfold] at hN';generalize A.foldl (wbF W beat k) []=B0 at *;clear hfold;simp only[wyE];walk_at "";have hwH:=kb.wlk n0 hw0;obtain⟨pw,gw,_⟩:=hwH.ex;have lm:=Bv (W:=W) (beat:=beat) (p:=pw) (m:="greatest_at") (by decide +kernel);refine⟨trivial,?_⟩;try rw[gw,Ja]
 refine⟨lm,a,W,beat,k,e.1,rfl,hW,hwH,hk,ed,fun pf hpf=>?_⟩;have npf:pb≠pf:=bf gb hpf;have flen:(gfl W beat k e.1).length<=256:=by have:=pB bA (fls W beat k e.1);have h2:(fls W beat k e.1).length<=256:=Nat.le_trans (List.length_filter_le _ _) (by rw[List.length_range];exact t2);unfold gfl;rw[List.length_reverse];omega
 have kb1:Kb1 pb H0 (up3 H pf (.lst ((gfl W beat k e.1).map bw))):=kb.new hpf;have gb1:up3 H pf (.lst ((gfl W beat k e.1).map bw)) pb=some (.dci (dI wyT B0)):=by rw[aC npf];exact gb
 have gf1:up3 H pf (.lst ((gfl W beat k e.1).map bw)) pf=some (.lst ((gfl W beat k e.1).map bw)):=aq;generalize up3 H pf (.lst ((gfl W beat k e.1).map bw))=H5 at kb1 gb1 gf1 ⊢;clear kb gb hwH gw lm hpf;try walk_at ""
 refine aZ bw (gfl W beat k e.1) (fun A2 Z H=>∃(v6:Option T),Z=[some (.ref a),some (.int (k:Int)),some (.ref q),some (.ref pb),some (.int (e.1:Int)),some (wyT e.2),v6]/\Kb1 pb H0 H/\H pf=some (.lst ((gfl W beat k e.1).map bw))/\H pb=some (.dci (dI wyT (A2.foldl (gW e.1 e.2) B0)))/\WOk W (n+1) (A2.foldl (gW e.1 e.2) B0)) ⟨_,rfl,kb1,gf1,gb1,hB⟩ ?_ ?_
 ·rintro Z H ⟨v6,rfl,kb,gf,gb,hB2⟩;refine⟨.inl gf,?_⟩;exact hN'.out _ _ ⟨_,_,_,rfl,kb,gb,hB2⟩
 rintro A2 f B2 Z H N eF ⟨v6,rfl,kb,gf,gb,hB2⟩ hN2;refine⟨.inl gf,?_⟩;have hf:f∈fls W beat k e.1:=pA (by rw[eF];simp);have hfold:(A2++[f]).foldl (gW e.1 e.2) B0=gW e.1 e.2 (A2.foldl (gW e.1 e.2) B0) f:=by rw[List.foldl_append];rfl
 have hB3:=hB2.stp hW ed el et hf;have hlen:=hB2.len;have hN2':=Box.mk hN2;clear hN2 eF hN' kb1 gf1 gb1 hB;rw[hfold] at hN2';generalize A2.foldl (gW e.1 e.2) B0=B3 at *;clear hfold;have hN3:Box (∀(v6:Option T) (H':Hp3),Kb1 pb H0 H'->H' pf=some (.lst ((gfl W beat k e.1).map bw))->H' pb=some (.dci (dI wyT (gW e.1 e.2 B3 f)))->N [some (.ref a),some (.int (k:Int)),some (.ref q),some (.ref pb),some (.int (e.1:Int)),some (wyT e.2),v6] H'):=⟨fun v6 H' h1 h2 h3=>hN2'.out _ _ ⟨v6,rfl,h1,h2,h3,hB3⟩⟩;clear hN2' hB3;have lk:=ph wyT (e.1+f) B3;have pt:=Od wyT (e.1+f) (e.2++[f]) B3;have dl:=Oc wyT B3;have et2:wyT (e.2++[f])=.tup (e.2.map bw++[.int (f:Int)]):=by unfold wyT;rw[List.map_append];rfl
 have ec:((e.1+f:Nat):Int)=(e.1:Int)+(f:Int):=by push_cast;rfl
 rw[et2,ec] at pt;rw[ec] at lk;have hst:gW e.1 e.2 B3 f=match cP (e.1+f) B3 with
   |none=>putN (e.1+f) (e.2++[f]) B3
   |some _=>B3:=rfl
 have hst':=Box.mk hst;clear hst;try simp only[wyT,bw] at pt
 simp only[wyT,bw];cases el2:cP (e.1+f) B3 with
 |none =>
  rw[el2] at lk hst';rw[Option.map_none] at lk;have yes:=Box.mk (fun v6=>hN3.out v6 _ kb.put (by rw[aC (Ne.symm npf)];exact gf) (by rw[aq,hst'.out,<- pt]));try simp only[wyT,bw] at yes
  clear hN3 pt et2;walk_at "";exact⟨trivial,by omega,by omega,by omega,yes.out _⟩
 |some u =>
 rw[el2] at lk hst';rw[Option.map_some] at lk;have no:=Box.mk (fun v6=>hN3.out v6 H kb gf (by rw[hst'.out];exact gb));try simp only[wyT,bw] at no
 clear hN3 pt et2;walk_at "";exact⟨trivial,by omega,by omega,by omega,no.out _⟩
abbrev cA:List Str:=["self","stand","done"]
theorem lE:FnScope cA cA (aA (topm 25 2)):=bu
theorem lF {f:Addr}{fd:FuncData}{C_Walk:Addr}(g:GM K C_Walk "greatest_at" "Walk.greatest_at" (topm 25 2) cA f fd) (B:Bl mg) (I_Walk:InsC K C_Walk ["works","beat","rules","whole"]) (F_greatest_numbers:Cal P w K mg base 2 "greatest_numbers" (top 22) ["numbers"] Tj) (M_fillings_at:MtC P w K mg base C_Walk 3 "fillings_at" cA (Tg C_Walk)):MtC P w K mg base C_Walk 4 "greatest_at" cA (Tn C_Walk):=by
 refine⟨g.cls,f,fd,g.mt,g.b,?_⟩;refine fn3 g.fn lE (fun ts H Q h=>?_) (fun cdv A outer s H E ts H3 Q hr h=>?_)
 ·obtain⟨a,W,beat,k,d,rfl,_⟩:=h;rfl
 obtain⟨a,W,beat,k,d,rfl,hW,hw,hk,hd,kk⟩:=h;refine⟨_,(au (aM (aP F_greatest_numbers hr rfl (aa (oX M_fillings_at (hr.mono (by decide)) (v3 0) (aa (v3 1) (aa (v3 2) ak))) ak)))),?_⟩;rw[show aQ cA [T.ref a,T.int (k:Int),T.int (d:Int)]=[some (T.ref a),some (T.int (k:Int)),some (T.int (d:Int))] from rfl];have hsz:sizeLine=16777216:=rfl;have k':=Box.mk kk;clear kk;have t2:=o9 hW;obtain⟨pw,gw,_⟩:=hw.ex;have lm:=Bv (W:=W) (beat:=beat) (p:=pw) (m:="fillings_at") (by decide +kernel);walk_at "";refine⟨by first | trivial | exact lm,a,W,beat,k,d,rfl,hW,hw,hk,hd,fun pf hpf=>?_⟩;have flen:(fls W beat k d).length<=256:=Nat.le_trans (List.length_filter_le _ _) (by rw[List.length_range];exact t2);refine⟨pf,fls W beat k d,rfl,aq,flen,fun p hp=>?_⟩;have hs1:Sub3 H3 (up3 H3 pf (.lst ((fls W beat k d).map bw))):=Sub3.new hpf;refine Fin3.of ?_ (k'.out p (cz hs1 hp));intro b o hb;by_cases e:b=p
 ·subst e;rw[aq] at hb ⊢;exact hb
 rw[aC e] at hb ⊢;exact hs1 b o hb
def Oz:Sp3:=fun ts H Q=>∃W:Wk,ts=[W.enc]/\WkOk W/\∀p,H p=none->Q (.ref p) (up3 H p (.lst ((lkW ["with"] W).map orT)))
def OD:Sp3:=fun ts H Q=>∃(x:T) (L:List (Str × Str)) (s:Str),ts=[x,.str s]/\((∃a,x=.ref a/\H a=some (.lst (L.map orT)))\/x=.tup (L.map orT))/\L.length<=100 /\
 ∀(p:Addr) (kvs:List (Str × T)),H p=none->(∀z,(aL z kvs).isSome=true↔RT (fun a b=>(a,b)∈L) s z)->Q (.ref p) (up3 H p (.dct kvs))
def OJ:Sp3:=fun ts H Q=>∃(W:Wk) (t:Str),ts=[W.enc,.str t]/\WkOk W/\∀(p:Addr) (kvs:List (Str × T)),H p=none->(∀z,(aL z kvs).isSome=true↔RT (lkR ["with"] W) t z)->Q (.ref p) (up3 H p (.dct kvs))
def O1:Sp3:=fun ts H Q=>∃(W:Wk) (t:Str),ts=[W.enc,.str t]/\WkOk W/\∀(p:Addr) (kvs:List (Str × T)),H p=none->(∀z,(aL z kvs).isSome=true↔RT (lkR ["with"] W) z t)->Q (.ref p) (up3 H p (.dct kvs))
def T3:Sp3:=fun ts H Q=>∃(W:Wk) (a b:Addr) (ka kb:List (Str × T)),ts=[W.enc,.ref a,.ref b]/\WkOk W/\H a=some (.dct ka)/\H b=some (.dct kb)/\Q (sT ((W.tasks.map (·.1)).filter fun x=>(aL x ka).isSome&&(aL x kb).isSome)) H
def T4:Sp3:=fun ts H Q=>∃(W:Wk) (a b:Addr) (ka kb:List (Str × T)),ts=[W.enc,.ref a,.ref b]/\WkOk W/\H a=some (.dct ka)/\H b=some (.dct kb)/\Q (sT ((W.tasks.map (·.1)).filter fun x=>(aL x ka).isSome&&!(aL x kb).isSome)) H
def T5:Sp3:=fun ts H Q=>∃(W:Wk) (t:Str),ts=[W.enc,.str t]/\WkOk W/\Q (sT (fj W t)) H
def T6:Sp3:=fun ts H Q=>∃(W:Wk) (t:Str),ts=[W.enc,.str t]/\WkOk W/\Q (sT (iD W t)) H
abbrev lG:List Str:=["works","links","word","one","other"]
theorem sc_links_of:FnScope lG ["works"] (aA (top 2)):=bu
theorem rG {f:Addr}{fd:FuncData}(g:G3 K mg "links_of" (top 2) ["works"] f fd) (B:Bl mg):Cal P w K mg base 1 "links_of" (top 2) ["works"] Oz:=by
 refine⟨f,fd,g,?_⟩;refine fn3 g.fn sc_links_of (fun ts H Q h=>?_) (fun cdv A outer s H E ts H3 Q hr h=>?_)
 ·obtain⟨W,rfl,_⟩:=h;rfl
 have hu30:=Room.u30 hr;obtain⟨⟨tk,ors,prs,row⟩,rfl,hW,k⟩:=h;refine⟨_,(aj (aG (i:=1) sc_links_of.nd (bL vh rfl B.list_ oG (aa (aK ix3 (v3 0) ao) ak)))
   (aj (bx PassesOwn.never rfl (cg (aK ix3 (v3 0) ao)) (cB (n:=3) rfl (aH (aD (i:=2) sc_links_of.nd) (aH (aD (i:=3) sc_links_of.nd) (aH (aD (i:=4) sc_links_of.nd) bO)))) (au (bK (aX (dG hu30) (v3 2) f9) (aj (bW (d9 PySem.F.plainAttrs_list PySem.F.slot_list_append PySem.F.type_list_append bG (v3 1) (aa (bD (aa (v3 3) (aa (v3 4) ak))) ak)))
     (au (bW (d9 PySem.F.plainAttrs_list PySem.F.slot_list_append PySem.F.type_list_append bG (v3 1) (aa (bD (aa (v3 4) (aa (v3 3) ak))) ak))))) aR)))
   (au (aM (v3 1))))),?_⟩
 rw[show aQ lG [Wk.enc ⟨tk,ors,prs,row⟩]=[some (T.tup [T.tup (tk.map tkT),T.tup (ors.map orT),T.tup (prs.map prT),T.tup (row.map T.str)]),none,none,none,none] from rfl];have hsz:sizeLine=16777216:=rfl;have os28:ors.length<=28:=hW.os;have ps12:prs.length<=12:=hW.ps;walk_at "";intro p hp;refine aZ prT prs (fun A Z H=>∃(v2 v3 v4:Option T),Z=[some (T.tup [T.tup (tk.map tkT),T.tup (ors.map orT),T.tup (prs.map prT),T.tup (row.map T.str)]),some (.ref p),v2,v3,v4]/\H=up3 H3 p (.lst ((ors++A.flatMap (lkP ["with"])).map orT))) ⟨none,none,none,rfl,by simp⟩ ?_ ?_
 ·rintro Z H ⟨v2,v3,v4,rfl,rfl⟩;refine⟨trivial,?_⟩;walk_at "";exact Fin3.of Sub3.refl (k p hp)
 rintro A ⟨w,a,b⟩ B Z H N e ⟨v2,v3,v4,rfl,rfl⟩ hN;have hl:=o6 ["with"] A;have hA:A.length<=12:=by have:=congrArg List.length e;simp only[List.length_append,List.length_cons] at this;omega
 have hl2:(ors++A.flatMap (lkP ["with"])).length<=52:=by rw[List.length_append];omega
 have fin:N [some (T.tup [T.tup (tk.map tkT),T.tup (ors.map orT),T.tup (prs.map prT),T.tup (row.map T.str)]),some (.ref p),some (.str w),some (.str a),some (.str b)] (up3 H3 p (.lst ((ors++A.flatMap (lkP ["with"])).map orT++(lkP ["with"] (w,a,b)).map orT))):=hN _ _ ⟨_,_,_,rfl,by rw[List.flatMap_append,<- List.append_assoc,List.map_append];simp⟩;generalize ors++A.flatMap (lkP ["with"])=cur at fin hl2;replace fin:=Box.mk fin;refine⟨trivial,?_⟩;clear hN e k hW hl;simp only[prT];walk_at "";refine⟨trivial,?_⟩;by_cases hw:w="with"
 ·subst hw;have e1:lkP ["with"] ("with",a,b)=[(a,b),(b,a)]:=by unfold lkP;simp
  rw[e1] at fin;try simp only[decide_true,if_true]
  refine⟨⟨trivial,trivial⟩,by omega,by omega,⟨trivial,trivial⟩,by omega,by simp;omega,?_⟩;have fo:=fin.out;simp only[List.map_cons,List.map_nil,orT] at fo;rw[List.append_assoc];exact fo
 have e1:lkP ["with"] (w,a,b)=[]:=by unfold lkP;simp [hw]
 rw[e1,List.map_nil,List.append_nil] at fin;simp only[hw,decide_false,Bool.false_eq_true,if_false];exact fin.out
abbrev nG:List Str:=["links","start","found","grown","one","other"]
theorem sc_reached:FnScope nG ["links","start"] (aA (top 3)):=bu
theorem uD {f:Addr}{fd:FuncData}(g:G3 K mg "reached" (top 3) ["links","start"] f fd) (B:Bl mg):Cal P w K mg base 1 "reached" (top 3) ["links","start"] OD:=by
 refine⟨f,fd,g,?_⟩;refine fn3 g.fn sc_reached (fun ts H Q h=>?_) (fun cdv A outer s H E ts H3 Q hr h=>?_)
 ·obtain⟨x,L,s,rfl,_⟩:=h;rfl
 have hu1:=Room.u1 hr;obtain⟨x,L,s0,rfl,hx,hL,k⟩:=h;refine⟨_,(aj (aG (i:=2) sc_reached.nd (zE (v3 1) cZ))
   (aj (aG (i:=3) sc_reached.nd cZ)
   (aj (j7 PassesOwn.never (c7 (v3 3)) (aj (aG (i:=3) sc_reached.nd cZ)
    (au (bx PassesOwn.never rfl (EY 0) (cB (n:=2) rfl (aH (aD (i:=4) sc_reached.nd) (aH (aD (i:=5) sc_reached.nd) bO))) (au (bK (PW3.pt (gm (kE hu1 (v3 4) (v3 2)) (fM (mY hu1 (v3 5) (v3 2))))) (aj (vf hu1 (v3 2) (v3 5) cZ)
      (au (aG (i:=3) sc_reached.nd cZ))) aR))))))
   (au (aM (v3 2)))))),?_⟩
 rw[show aQ nG [x,T.str s0]=[some (x),some (T.str s0),none,none,none,none] from rfl];have hsz:sizeLine=16777216:=rfl;walk_at "";intro p hp;refine⟨trivial,?_⟩;rw[NQ];refine⟨fun m Z H=>∃(F:List Str) (g:Bool) (v4 v5:Option T),Z=[some x,some (.str s0),some (.ref p),some (.bl g),v4,v5]/\H=up3 H3 p (.dct (dF F))/\s0∈F/\F.Nodup/\(∀z∈F,RT (fun a b=>(a,b)∈L) s0 z)/\(g=false->∀a b,(a,b)∈L->a∈F->b∈F)/\m=2*(L.length+1 - F.length)+(if g then 1 else 0),
  ⟨_,[s0],true,none,none,rfl,rfl,List.mem_cons_self,by simp,(fun z hz=>by rw[List.mem_singleton.mp hz];exact .refl),(fun z=>nomatch z),rfl⟩,?_⟩
 have bound:∀F:List Str,F.Nodup->(∀z∈F,RT (fun a b=>(a,b)∈L) s0 z)->F.length<=L.length+1:=fun F nd hF=>by
  have:=o5 (l:=F) (m:=s0::L.map (·.2)) nd fun z hz=>by
   cases hF z hz with
   |refl=>exact List.mem_cons_self
   |step _ r=>exact List.mem_cons_of_mem _ (List.mem_map.mpr ⟨_,r,rfl⟩)
  simpa using this
 rintro m Z H ⟨F,g,v4,v5,rfl,rfl,hs,nd,hR,hg,rfl⟩;walk_at "";cases g with
 |false=>simp only[Bool.false_eq_true,if_false];refine Fin3.of Sub3.refl (k p _ hp fun z=>?_);rw[jR,decide_eq_true_iff];exact⟨hR z,fun h=>S6 hs (hg rfl) h⟩
 |true =>
  try simp only[if_true]
  have hx':(∃a,x=.ref a/\up3 H3 p (.dct (dF F)) a=some (.lst (L.map orT)))\/x=.tup (L.map orT):=by
   rcases hx with ⟨a,rfl,e⟩ | e
   ·
    exact .inl ⟨a,rfl,by rw[aC (bf e hp)];exact e⟩
   ·
    exact .inr e
  refine Bk hx' fun still hst=>?_
  have hst':∀F',still (up3 H3 p (.dct (dF F'))):=by
   rcases hst with rfl | ⟨a,rfl,e⟩
   ·
    exact fun _=>trivial
   ·
    have hpa:a≠p:=fun z=>by subst z;rw[aq] at e;cases e
    rw[aC hpa] at e
    exact fun F'=>.inl (by rw[aC hpa];exact e)
  refine aZ orT L (fun A Z H=>∃(F':List Str) (g':Bool) (v4 v5:Option T),Z=[some x,some (.str s0),some (.ref p),some (.bl g'),v4,v5]/\H=up3 H3 p (.dct (dF F'))/\s0∈F'/\F'.Nodup/\(∀z∈F',RT (fun a b=>(a,b)∈L) s0 z)/\(g'=false->F'=F/\∀o∈A,o.1∈F->o.2∈F)/\(g'=true->F.length<F'.length)) ⟨F,false,v4,v5,rfl,rfl,hs,nd,hR,fun _=>⟨rfl,(fun _ h=>nomatch h)⟩,(fun z=>nomatch z)⟩ ?_ ?_
  ·
   rintro Z H ⟨F',g',v4,v5,rfl,rfl,hs',nd',hR',h1,h2⟩
   refine⟨hst' F',?_⟩
   have b1:=bound F nd hR
   have b2:=bound F' nd' hR'
   cases g' with
   |true =>
    have:=h2 rfl
    exact⟨_,by simp only[if_true];omega,F',true,v4,v5,rfl,rfl,hs',nd',hR',(fun z=>nomatch z),rfl⟩
   |false =>
    obtain⟨e,hc⟩:=h1 rfl
    subst e
    exact⟨_,by simp,F',false,v4,v5,rfl,rfl,hs',nd',hR',fun _ a b hab ha=>hc (a,b) hab ha,rfl⟩
  ·
   rintro A ⟨a,b⟩ B Z H N e ⟨F',g',v4,v5,rfl,rfl,hs',nd',hR',h1,h2⟩ hN
   refine⟨hst' F',?_⟩
   have hab:(a,b)∈L:=by rw[e];simp
   have b2:=bound F' nd' hR'
   have l1:=jR a F'
   have l2:=jR b F'
   have l3:=NP F'
   have no:¬(a∈F'/\b∉F')->N [some x,some (.str s0),some (.ref p),some (.bl g'),some (.str a),some (.str b)] (up3 H3 p (.dct (dF F'))):=fun hno=>hN _ _ ⟨F',g',_,_,rfl,rfl,hs',nd',hR',fun hg'=>by
    obtain⟨e1,hc⟩:=h1 hg'
    subst e1
    refine⟨rfl,fun o ho=>?_⟩
    rcases List.mem_append.mp ho with ho | ho
    ·
     exact hc o ho
    ·
     rw[List.mem_singleton.mp ho]
     intro ha
     exact Classical.byContradiction fun hb=>hno ⟨ha,hb⟩,h2⟩
   have yes:a∈F'->b∉F'->N [some x,some (.str s0),some (.ref p),some (.bl true),some (.str a),some (.str b)] (up3 H3 p (.dct (put3 b (T.bl true) (dF F')))):=fun ha hb=>by
    rw[NK hb]
    refine hN _ _ ⟨F'++[b],true,_,_,rfl,rfl,List.mem_append_left _ hs',fK nd' hb,fun z hz=>?_,(fun z=>nomatch z),fun _=>?_⟩
    ·
     rcases List.mem_append.mp hz with hz | hz
     ·
      exact hR' z hz
     ·
      rw[List.mem_singleton.mp hz]
      exact .step (hR' a ha) hab
    ·
     rw[List.length_append,List.length_singleton]
     cases g' with
     |true=>have:=h2 rfl;omega
     |false=>obtain⟨e1,_⟩:=h1 rfl;subst e1;omega
   replace no:=Box.mk no
   replace yes:=Box.mk yes
   clear hN h1 h2 hst' hst bound k hx hx' hg hR hR' nd nd' hs hs' e hab
   simp only[orT]
   walk_at ""
   refine⟨trivial,?_⟩
   by_cases ha:a∈F'
   ·
    simp only[ha,decide_true,if_true]
    by_cases hb:b∈F'
    ·
     simp only[hb,decide_true,Bool.not_true,Bool.false_eq_true,if_false]
     exact no.out fun z=>z.2 hb
    ·
     simp only[hb,decide_false,Bool.not_false,if_true]
     exact⟨by omega,yes.out ha hb⟩
   ·
    simp only[ha,decide_false,Bool.false_eq_true,if_false]
    exact no.out fun z=>ha z.1
abbrev gG:List Str:=["works","task"]
theorem xU:FnScope gG gG (aA (top 4)):=bu
theorem xV {f:Addr}{fd:FuncData}(g:G3 K mg "led_to" (top 4) gG f fd) (B:Bl mg) (F_reached:Cal P w K mg base 1 "reached" (top 3) ["links","start"] OD) (F_links_of:Cal P w K mg base 1 "links_of" (top 2) ["works"] Oz):Cal P w K mg base 2 "led_to" (top 4) gG OJ:=by
 refine⟨f,fd,g,?_⟩;refine fn3 g.fn xU (fun ts H Q h=>?_) (fun cdv A outer s H E ts H3 Q hr h=>?_)
 ·obtain⟨W,t,rfl,_⟩:=h;rfl
 obtain⟨W,t,rfl,hW,k⟩:=h;refine⟨_,(au (aM (aP F_reached hr rfl (aa (aP F_links_of hr rfl (aa (v3 0) ak)) (aa (v3 1) ak))))),?_⟩;rw[show aQ gG [W.enc,T.str t]=[some (W.enc),some (T.str t)] from rfl];walk_at "";refine⟨W,rfl,hW,fun q hq=>?_⟩;try dsimp only
 refine⟨_,lkW ["with"] W,t,rfl,.inl ⟨q,rfl,aq⟩,Nat.le_trans (vL hW) (by decide),fun p kvs hp hk=>?_⟩;obtain⟨n1,hp⟩:=cu hp;refine Fin3.of (fun a o e=>?_) (k p kvs hp hk);by_cases h:a=p
 ·subst h;rw[aq] at e ⊢;exact e
 rw[aC h] at e ⊢;rw[aC (bf e hq)];exact e
abbrev dw:List Str:=["works","task"]
theorem rH:FnScope dw dw (aA (top 5)):=bu
theorem rJ {f:Addr}{fd:FuncData}(g:G3 K mg "led_from" (top 5) dw f fd) (B:Bl mg) (F_reached:Cal P w K mg base 1 "reached" (top 3) ["links","start"] OD) (F_links_of:Cal P w K mg base 1 "links_of" (top 2) ["works"] Oz):Cal P w K mg base 2 "led_from" (top 5) dw O1:=by
 refine⟨f,fd,g,?_⟩;refine fn3 g.fn rH (fun ts H Q h=>?_) (fun cdv A outer s H E ts H3 Q hr h=>?_)
 ·obtain⟨W,t,rfl,_⟩:=h;rfl
 obtain⟨W,t,rfl,hW,k⟩:=h;refine⟨_,(au (aM (aP F_reached hr rfl (aa (bQ rfl (cj (n0:=(aA (top 5)).names) (N:=dw) (N':=["one","other"]) (nt:=2) (cap:=[]) rfl rfl (by decide +kernel)) (cG (aP F_links_of hr rfl (aa (v3 0) ak))) (fun cl pins s H C0 fp=>⟨(cB (n:=2) rfl (aH (aD (i:=0) (show List.Nodup [("one":Str),("other":Str)] by decide +kernel)) (aH (aD (i:=1) (show List.Nodup [("one":Str),("other":Str)] by decide +kernel)) bO))),cT,(bD (aa (v3 1) (aa (v3 0) ak)))⟩)) (aa (v3 1) ak))))),?_⟩;rw[show aQ dw [W.enc,T.str t]=[some (W.enc),some (T.str t)] from rfl];have hsz:sizeLine=16777216:=rfl;have hl:=vL (ws:=["with"]) hW;walk_at "";refine⟨W,rfl,hW,fun q hq=>?_⟩;try dsimp only
 rw[Ib,aq,vp];walk_at "c";refine fc orT (lkW ["with"] W) (fun A ys Z H=>H=up3 H3 q (.lst ((lkW ["with"] W).map orT))/\ys=(A.map swp).map orT/\∃v0 v1:Option T,Z=[v0,v1]) ⟨rfl,rfl,none,none,rfl⟩ ?_ ?_
 ·rintro ys Z H ⟨rfl,rfl,v0,v1,rfl⟩;refine⟨.inl aq,by rw[List.length_map,List.length_map];omega,fun r hr=>?_⟩;obtain⟨n0,hr0⟩:=cu hr;refine⟨_,(lkW ["with"] W).map swp,t,rfl,.inl ⟨r,rfl,aq⟩,by rw[List.length_map];omega,fun p kvs hp hk=>?_⟩;obtain⟨n1,hp⟩:=cu hp;obtain⟨n2,hp⟩:=cu hp;refine Fin3.of (fun a o e=>?_) (k p kvs hp fun z=>(hk z).trans NT);by_cases h:a=p
  ·subst h;rw[aq] at e ⊢;exact e
  rw[aC h] at e ⊢;rw[aC (bf e hr0),aC (bf e hq)];exact e
 rintro A ⟨a,b⟩ B ys Z H N e ⟨rfl,rfl,v0,v1,rfl⟩ hN;have hA:A.length<=52:=by have:=congrArg List.length e;simp only[List.length_append,List.length_cons] at this;omega
 refine⟨.inl aq,?_⟩;have fin:=hN (((A.map swp).map orT)++[orT (b,a)]) [some (.str a),some (.str b)] _ ⟨rfl,by rw[List.map_append,List.map_append];rfl,_,_,rfl⟩;replace fin:=Box.mk fin;clear hN k e;simp only[orT] at fin ⊢;walk_at "";exact⟨trivial,by omega,by omega,fin.out⟩
abbrev dR:List Str:=["works","found","other"]
theorem uE:FnScope dR dR (aA (top 6)):=bu
theorem uF {f:Addr}{fd:FuncData}(g:G3 K mg "in_both" (top 6) dR f fd) (B:Bl mg):Cal P w K mg base 1 "in_both" (top 6) dR T3:=by
 refine⟨f,fd,g,?_⟩;refine fn3 g.fn uE (fun ts H Q h=>?_) (fun cdv A outer s H E ts H3 Q hr h=>?_)
 ·obtain⟨W,a,b,ka,kb,rfl,_⟩:=h;rfl
 have hu1:=Room.u1 hr;obtain⟨⟨tk,ors,prs,row⟩,a,b,ka,kb,rfl,hW,ha,hb,k⟩:=h;refine⟨_,(au (aM (bL dh rfl B.tuple_ cF (aa (bQ rfl (cj (n0:=(aA (top 6)).names) (N:=dR) (N':=["task","found","other"]) (nt:=1) (cap:=[1,2]) rfl rfl (by decide +kernel)) (cg (aK ix3 (v3 0) ao)) (fun cl pins s H C0 fp=>⟨(aD (i:=0) (show List.Nodup [("task":Str),("found":Str),("other":Str)] by decide +kernel)),(fU (PW3.pt (gm (kE hu1 (aK ix3 (v3 0) ao) (v3 1)) (fM (kE hu1 (aK ix3 (v3 0) ao) (v3 2)))))),(aK ix3 (v3 0) ao)⟩)) ak)))),?_⟩;rw[show aQ dR [Wk.enc ⟨tk,ors,prs,row⟩,T.ref a,T.ref b]=[some (T.tup [T.tup (tk.map tkT),T.tup (ors.map orT),T.tup (prs.map prT),T.tup (row.map T.str)]),some (T.ref a),some (T.ref b)] from rfl];have hsz:sizeLine=16777216:=rfl;have t8:tk.length<=8:=hW.t8;walk_at "";walk_at "c";refine iC tkT (fun t=>T.str t.1) (fun t=>(aL t.1 ka).isSome&&(aL t.1 kb).isSome) tk [some (.ref a),some (.ref b)] trivial (by omega) (fun t ht Q' hq=>?_) (fun t ht hpt Q' hq=>?_) (fun p hp=>?_)
 ·obtain⟨nm,len,ks⟩:=t;simp only[tkT];dsimp only at hq;cases e1:(aL nm ka).isSome <;> cases e2:(aL nm kb).isSome <;> simp only[e1,e2,Bool.and_true,Bool.and_false,Bool.not_true,Bool.not_false,Bool.true_and,Bool.false_and] at hq <;> walk_at ""
 ·simp only[tkT];walk_at "";try exact hq
 walk_at "";refine Fin3.of (Sub3.new hp) ?_;have e:(tk.filter fun t=>(aL t.1 ka).isSome&&(aL t.1 kb).isSome).map (fun t=>T.str t.1)=((tk.map (·.1)).filter fun x=>(aL x ka).isSome&&(aL x kb).isSome).map T.str:=by rw[List.filter_map,List.map_map];rfl
 rw[e];exact k
abbrev cW:List Str:=["works","task"]
theorem rK:FnScope cW cW (aA (top 8)):=bu
theorem rM {f:Addr}{fd:FuncData}(g:G3 K mg "group_of" (top 8) cW f fd) (B:Bl mg) (F_in_both:Cal P w K mg base 1 "in_both" (top 6) ["works","found","other"] T3) (F_led_to:Cal P w K mg base 2 "led_to" (top 4) cW OJ) (F_led_from:Cal P w K mg base 2 "led_from" (top 5) cW O1):Cal P w K mg base 3 "group_of" (top 8) cW T5:=by
 refine⟨f,fd,g,?_⟩;refine fn3 g.fn rK (fun ts H Q h=>?_) (fun cdv A outer s H E ts H3 Q hr h=>?_)
 ·obtain⟨W,t,rfl,_⟩:=h;rfl
 obtain⟨W,t,rfl,hW,k⟩:=h;refine⟨_,(au (aM (aP F_in_both hr rfl (aa (v3 0) (aa (aP F_led_to hr rfl (aa (v3 0) (aa (v3 1) ak))) (aa (aP F_led_from hr rfl (aa (v3 0) (aa (v3 1) ak))) ak)))))),?_⟩;rw[show aQ cW [W.enc,T.str t]=[some (W.enc),some (T.str t)] from rfl];walk_at "";refine⟨W,t,rfl,hW,fun p ka hp hka=>?_⟩;try dsimp only
 refine⟨W,t,rfl,hW,fun q kb hq hkb=>?_⟩;obtain⟨n1,hq0⟩:=cu hq;try dsimp only
 refine⟨W,p,q,ka,kb,rfl,hW,by rw[aC (Ne.symm n1)];exact aq,aq,?_⟩;refine Fin3.of (fun a o e=>by rw[aC (bf e hq0),aC (bf e hp)];exact e) ?_;rw[show (W.tasks.map (·.1)).filter (fun x=>(aL x ka).isSome&&(aL x kb).isSome)=fj W t from ?_]
 ·exact k
 unfold fj;refine List.filter_congr fun x hx=>?_;rw[Bool.eq_iff_iff,Bool.and_eq_true,@decide_eq_true_iff _ (Classical.propDecidable _),hka x,hkb x]
abbrev bI:List Str:=["works","found","other"]
theorem jc:FnScope bI bI (aA (top 7)):=bu
theorem jd {f:Addr}{fd:FuncData}(g:G3 K mg "in_first_alone" (top 7) bI f fd) (B:Bl mg):Cal P w K mg base 1 "in_first_alone" (top 7) bI T4:=by
 refine⟨f,fd,g,?_⟩;refine fn3 g.fn jc (fun ts H Q h=>?_) (fun cdv A outer s H E ts H3 Q hr h=>?_)
 ·obtain⟨W,a,b,ka,kb,rfl,_⟩:=h;rfl
 have hu1:=Room.u1 hr;obtain⟨⟨tk,ors,prs,row⟩,a,b,ka,kb,rfl,hW,ha,hb,k⟩:=h;refine⟨_,(au (aM (bL dh rfl B.tuple_ cF (aa (bQ rfl (cj (n0:=(aA (top 7)).names) (N:=bI) (N':=["task","found","other"]) (nt:=1) (cap:=[1,2]) rfl rfl (by decide +kernel)) (cg (aK ix3 (v3 0) ao)) (fun cl pins s H C0 fp=>⟨(aD (i:=0) (show List.Nodup [("task":Str),("found":Str),("other":Str)] by decide +kernel)),(fU (PW3.pt (gm (kE hu1 (aK ix3 (v3 0) ao) (v3 1)) (fM (mY hu1 (aK ix3 (v3 0) ao) (v3 2)))))),(aK ix3 (v3 0) ao)⟩)) ak)))),?_⟩;rw[show aQ bI [Wk.enc ⟨tk,ors,prs,row⟩,T.ref a,T.ref b]=[some (T.tup [T.tup (tk.map tkT),T.tup (ors.map orT),T.tup (prs.map prT),T.tup (row.map T.str)]),some (T.ref a),some (T.ref b)] from rfl];have hsz:sizeLine=16777216:=rfl;have t8:tk.length<=8:=hW.t8;walk_at "";walk_at "c";refine iC tkT (fun t=>T.str t.1) (fun t=>(aL t.1 ka).isSome&&!(aL t.1 kb).isSome) tk [some (.ref a),some (.ref b)] trivial (by omega) (fun t ht Q' hq=>?_) (fun t ht hpt Q' hq=>?_) (fun p hp=>?_)
 ·obtain⟨nm,len,ks⟩:=t;simp only[tkT];dsimp only at hq;cases e1:(aL nm ka).isSome <;> cases e2:(aL nm kb).isSome <;> simp only[e1,e2,Bool.and_true,Bool.and_false,Bool.not_true,Bool.not_false,Bool.true_and,Bool.false_and] at hq <;> walk_at ""
 ·simp only[tkT];walk_at "";try exact hq
 walk_at "";refine Fin3.of (Sub3.new hp) ?_;have e:(tk.filter fun t=>(aL t.1 ka).isSome&&!(aL t.1 kb).isSome).map (fun t=>T.str t.1)=((tk.map (·.1)).filter fun x=>(aL x ka).isSome&&!(aL x kb).isSome).map T.str:=by rw[List.filter_map,List.map_map];rfl
 rw[e];exact k
abbrev cX:List Str:=["works","task"]
theorem rN:FnScope cX cX (aA (top 9)):=bu
theorem rO {f:Addr}{fd:FuncData}(g:G3 K mg "ahead_of" (top 9) cX f fd) (B:Bl mg) (F_in_first_alone:Cal P w K mg base 1 "in_first_alone" (top 7) ["works","found","other"] T4) (F_led_from:Cal P w K mg base 2 "led_from" (top 5) cX O1) (F_led_to:Cal P w K mg base 2 "led_to" (top 4) cX OJ):Cal P w K mg base 3 "ahead_of" (top 9) cX T6:=by
 refine⟨f,fd,g,?_⟩;refine fn3 g.fn rN (fun ts H Q h=>?_) (fun cdv A outer s H E ts H3 Q hr h=>?_)
 ·obtain⟨W,t,rfl,_⟩:=h;rfl
 obtain⟨W,t,rfl,hW,k⟩:=h;refine⟨_,(au (aM (aP F_in_first_alone hr rfl (aa (v3 0) (aa (aP F_led_from hr rfl (aa (v3 0) (aa (v3 1) ak))) (aa (aP F_led_to hr rfl (aa (v3 0) (aa (v3 1) ak))) ak)))))),?_⟩;rw[show aQ cX [W.enc,T.str t]=[some (W.enc),some (T.str t)] from rfl];walk_at "";refine⟨W,t,rfl,hW,fun p ka hp hka=>?_⟩;try dsimp only
 refine⟨W,t,rfl,hW,fun q kb hq hkb=>?_⟩;obtain⟨n1,hq0⟩:=cu hq;try dsimp only
 refine⟨W,p,q,ka,kb,rfl,hW,by rw[aC (Ne.symm n1)];exact aq,aq,?_⟩;refine Fin3.of (fun a o e=>by rw[aC (bf e hq0),aC (bf e hp)];exact e) ?_;rw[show (W.tasks.map (·.1)).filter (fun x=>(aL x ka).isSome&&!(aL x kb).isSome)=iD W t from ?_]
 ·exact k
 unfold iD;refine List.filter_congr fun x hx=>?_;rw[Bool.eq_iff_iff,Bool.and_eq_true,@decide_eq_true_iff _ (Classical.propDecidable _),hka x,Bool.not_eq_true',<- Bool.not_eq_true,hkb x]
def CJ:Sp3:=fun ts H Q=>∃(W:Wk) (x:T) (ss:List Str),ts=[W.enc,x]/\WkOk W/\SeqS H x ss/\Q (.int (numOf (W.tasks.map (·.1)) ss)) H
def Jj:Sp3:=fun ts H Q=>∃(W:Wk) (n:Int),ts=[W.enc,.int n]/\WkOk W/\0<=n/\n<2^W.tasks.length/\Q (sT (pick (W.tasks.map (·.1)) n)) H
def Jk:Sp3:=fun ts H Q=>∃(ks:List Str) (k:Str),ts=[sT ks,.str k]/\Q (.bl (jJ ks k)) H
def wA:Sp3:=fun ts H Q=>∃a b:Int,ts=[.int a,.int b]/\Q (.bl (decide (Builtin.bitAnd a b=b))) H
def Jl:Sp3:=fun ts H Q=>∃(W:Wk) (t:Str),ts=[W.enc,.str t]/\WkOk W/\∀p,H p=none->Q (.ref p) (up3 H p (.lst ((iW W t).map T.str)))
def Jm:Sp3:=fun ts H Q=>∃W:Wk,ts=[W.enc]/\WkOk W/\∀p,H p=none->Q (.ref p) (up3 H p (.lst (W.tasks.map (ruT W (W.tasks.map (·.1))))))
def Jo:Sp3:=fun ts H Q=>∃(W:Wk) (a:Addr) (beat:Int) (kind:Str) (D S:List Str),ts=[.ref a,.int beat,.str kind,.int (numOf (W.tasks.map (·.1)) D),.int (numOf (W.tasks.map (·.1)) S)]/\WkOk W/\H a=some (.lst (W.tasks.map (ruT W (W.tasks.map (·.1)))))/\Q (.bl (uv W beat kind D S)) H
abbrev jE:List Str:=["works","tasks","number","worth","task"]
theorem sc_number_of:FnScope jE ["works","tasks"] (aA (top 15)):=bu
theorem pG {f:Addr}{fd:FuncData}(g:G3 K mg "number_of" (top 15) ["works","tasks"] f fd) (B:Bl mg):Cal P w K mg base 1 "number_of" (top 15) ["works","tasks"] CJ:=by
 refine⟨f,fd,g,?_⟩;refine fn3 g.fn sc_number_of (fun ts H Q h=>?_) (fun cdv A outer s H E ts H3 Q hr h=>?_)
 ·obtain⟨W,x,ss,rfl,_⟩:=h;rfl
 have hu31:=Room.u31 hr;obtain⟨⟨tk,ors,prs,row⟩,x,ss,rfl,hW,hx,k⟩:=h;refine⟨_,(aj (aG (i:=2) sc_number_of.nd ao)
   (aj (aG (i:=3) sc_number_of.nd ao)
   (aj (bx PassesOwn.never rfl (cg (aK ix3 (v3 0) ao)) (aD (i:=4) sc_number_of.nd) (aj (bK (aX (mV hu31) (aK ix3 (v3 4) ao) (v3 1) rfl) (au (aG (i:=2) sc_number_of.nd (aF aY (v3 2) (v3 3)))) aR)
    (au (aG (i:=3) sc_number_of.nd (aF cM (v3 3) ao)))))
   (au (aM (v3 2)))))),?_⟩
 rw[show aQ jE [Wk.enc ⟨tk,ors,prs,row⟩,x]=[some (T.tup [T.tup (tk.map tkT),T.tup (ors.map orT),T.tup (prs.map prT),T.tup (row.map T.str)]),some (x),none,none,none] from rfl];have hsz:sizeLine=16777216:=rfl;have t8:tk.length<=8:=hW.t8;walk_at "";refine aZ tkT tk (fun A Z H=>∃v:Option T,H=H3/\Z=[some (T.tup [T.tup (tk.map tkT),T.tup (ors.map orT),T.tup (prs.map prT),T.tup (row.map T.str)]),some x,some (.int (numOf (A.map (·.1)) ss)),some (.int (2^A.length)),v]) ⟨none,rfl,rfl⟩ ?_ ?_
 ·rintro Z H ⟨v,rfl,rfl⟩;refine⟨trivial,?_⟩;walk_at "";exact Fin3.of Sub3.refl k
 rintro A t B Z H N e ⟨v,rfl,rfl⟩ hN;have hlA:A.length+1<=8:=by have:=congrArg List.length e;simp only[List.length_append,List.length_cons] at this;omega
 have p3:0<(2:Int)^A.length/\(2:Int)^A.length<=256:=by
  have:A.length=0\/A.length=1\/A.length=2\/A.length=3\/A.length=4\/A.length=5\/A.length=6\/A.length=7:=by omega
  rcases this with e | e | e | e | e | e | e | e <;> rw[e] <;> decide
 have cm:CMul (2^A.length) 2:=.inl ⟨by omega,by omega⟩;have fin:∀v,N [some (T.tup [T.tup (tk.map tkT),T.tup (ors.map orT),T.tup (prs.map prT),T.tup (row.map T.str)]),some x,some (.int (numOf (A.map (·.1)) ss+2^A.length*(if t.1∈ss then 1 else 0))),some (.int (2^A.length*2)),v] H:=fun v=>by have:=hN [some (T.tup [T.tup (tk.map tkT),T.tup (ors.map orT),T.tup (prs.map prT),T.tup (row.map T.str)]),some x,some (.int (numOf ((A++[t]).map (·.1)) ss)),some (.int (2^(A++[t]).length)),v] H ⟨v,rfl,rfl⟩;rw[show (2:Int)^(A++[t]).length=2^A.length*2 by rw[List.length_append,List.length_singleton,Int.pow_succ],List.map_append,List.map_cons,List.map_nil,lr,List.length_map] at this;exact this
 replace fin:=Box.mk fin;obtain⟨nm,len,ks⟩:=t;refine⟨trivial,?_⟩;clear hN e k;simp only[tkT,sT];walk_at "";refine Gr hx ?_;by_cases hm:nm∈ss
 ·simp only[hm,decide_true,if_true,Bool.false_eq_true,if_false,eZ,Int.mul_one] at fin ⊢;exact⟨by first | trivial | exact cm,fin.out _⟩
 simp only[hm,decide_false,if_true,Bool.false_eq_true,if_false,eZ,Int.mul_zero,Int.add_zero] at fin ⊢;exact⟨by first | trivial | exact cm,fin.out _⟩
abbrev cR:List Str:=["kinds","kind"]
theorem lH:FnScope cR cR (aA (top 11)):=bu
theorem lJ {f:Addr}{fd:FuncData}(g:G3 K mg "may_be_done" (top 11) cR f fd) (B:Bl mg):Cal P w K mg base 1 "may_be_done" (top 11) cR Jk:=by
 refine⟨f,fd,g,?_⟩;refine fn3 g.fn lH (fun ts H Q h=>?_) (fun cdv A outer s H E ts H3 Q hr h=>?_)
 ·obtain⟨ks,k,rfl,_⟩:=h;rfl
 have hu30:=Room.u30 hr;have hu31:=Room.u31 hr;obtain⟨ks,kd,rfl,k⟩:=h;refine⟨_,(au (aM (Qt (gh (dG hu30) (aO cC rfl B.len_ cD (aa (v3 0) ak)) ao) (Kg (gh (mV hu31) (v3 1) (v3 0) rfl))))),?_⟩;rw[show aQ cR [sT ks,T.str kd]=[some (T.tup (ks.map T.str)),some (T.str kd)] from rfl];have i1:pl 20 (T.str kd)=true:=rfl;have i2:=dM ks;have e1:du false (T.str kd) (ks.map T.str)=decide (kd∈ks):=by unfold du;have:(T.str kd∈ks.map T.str)↔kd∈ks:=eQ iT;simp only[this];simp
 walk_at "";unfold jJ at k;cases ks with
 |nil=>simp only[decide_true,Bool.true_or,List.length_nil,if_true] at k ⊢;exact Fin3.of Sub3.refl k
 |cons y r =>
  have:¬(((r.length+1:Nat)):Int)=0:=by omega
  simp only[List.length_cons,this,decide_false,Bool.false_eq_true,if_false] at k ⊢
  exact⟨trivial,trivial,Fin3.of Sub3.refl (by simpa using k)⟩
abbrev fG:List Str:=["number","part"]
theorem uG:FnScope fG fG (aA (top 20)):=bu
theorem uH {f:Addr}{fd:FuncData}(g:G3 K mg "has_all" (top 20) fG f fd) (B:Bl mg):Cal P w K mg base 1 "has_all" (top 20) fG wA:=by
 refine⟨f,fd,g,?_⟩;refine fn3 g.fn uG (fun ts H Q h=>?_) (fun cdv A outer s H E ts H3 Q hr h=>?_)
 ·obtain⟨a,b,rfl,_⟩:=h;rfl
 have hu30:=Room.u30 hr;obtain⟨a,b,rfl,k⟩:=h;refine⟨_,(au (aM (gh (dG hu30) (aF zU (v3 0) (v3 1)) (v3 1)))),?_⟩;rw[show aQ fG [T.int a,T.int b]=[some (T.int a),some (T.int b)] from rfl];walk_at "";exact Fin3.of Sub3.refl k
abbrev cI:List Str:=["works","task"]
theorem lY:FnScope cI cI (aA (top 18)):=bu
theorem lZ {f:Addr}{fd:FuncData}(g:G3 K mg "apart_from" (top 18) cI f fd) (B:Bl mg):Cal P w K mg base 1 "apart_from" (top 18) cI Jl:=by
 refine⟨f,fd,g,?_⟩;refine fn3 g.fn lY (fun ts H Q h=>?_) (fun cdv A outer s H E ts H3 Q hr h=>?_)
 ·obtain⟨W,t,rfl,_⟩:=h;rfl
 have hu30:=Room.u30 hr;obtain⟨⟨tk,ors,prs,row⟩,t,rfl,hW,k⟩:=h;refine⟨_,(au (aM (bQ rfl (cj (n0:=(aA (top 18)).names) (N:=cI) (N':=["word","one","other","task"]) (nt:=3) (cap:=[1]) rfl rfl (by decide +kernel)) (cg (aK ix3 (v3 0) ao)) (fun cl pins s H C0 fp=>⟨(cB (n:=3) rfl (aH (aD (i:=0) (show List.Nodup [("word":Str),("one":Str),("other":Str),("task":Str)] by decide +kernel)) (aH (aD (i:=1) (show List.Nodup [("word":Str),("one":Str),("other":Str),("task":Str)] by decide +kernel)) (aH (aD (i:=2) (show List.Nodup [("word":Str),("one":Str),("other":Str),("task":Str)] by decide +kernel)) bO)))),(fU (PW3.pt (gm (aX (dG hu30) (v3 0) f9) (fM (aX (dG hu30) (v3 1) (v3 3)))))),(v3 2)⟩)))),?_⟩;rw[show aQ cI [Wk.enc ⟨tk,ors,prs,row⟩,T.str t]=[some (T.tup [T.tup (tk.map tkT),T.tup (ors.map orT),T.tup (prs.map prT),T.tup (row.map T.str)]),some (T.str t)] from rfl];have hsz:sizeLine=16777216:=rfl;have p12:prs.length<=12:=hW.ps;walk_at "";walk_at "c";refine fc prT prs (fun A ys Z H=>H=H3/\ys=((A.filter fun p=>decide (p.1=("apart":Str))&&decide (p.2.1=t)).map (·.2.2)).map T.str/\∃v0 v1 v2:Option T,Z=[v0,v1,v2,some (.str t)]) ⟨rfl,rfl,none,none,none,rfl⟩ ?_ ?_
 ·rintro ys Z H ⟨rfl,rfl,v0,v1,v2,rfl⟩;refine⟨trivial,?_,fun p hp=>Fin3.of Sub3.refl (k p hp)⟩;rw[List.length_map,List.length_map];exact Nat.le_trans (List.length_filter_le _ _) (by omega)
 rintro A ⟨w,a,b⟩ B ys Z H N e ⟨rfl,rfl,v0,v1,v2,rfl⟩ hN;have hA:A.length<=12:=by have:=congrArg List.length e;simp only[List.length_append,List.length_cons] at this;omega
 have hl:((A.filter fun p=>decide (p.1=("apart":Str))&&decide (p.2.1=t)).map (·.2.2)).length<=12:=by rw[List.length_map];exact Nat.le_trans (List.length_filter_le _ _) hA
 refine⟨trivial,?_⟩;have fY:Box (w="apart"/\a=t->N (((A.filter fun p=>decide (p.1=("apart":Str))&&decide (p.2.1=t)).map (·.2.2)).map T.str++[T.str b]) [some (.str w),some (.str a),some (.str b),some (.str t)] H):=⟨fun h=>hN _ _ _ ⟨rfl,by rw[List.filter_append];simp [h],_,_,_,rfl⟩⟩;have fN:Box (¬(w="apart"/\a=t)->N (((A.filter fun p=>decide (p.1=("apart":Str))&&decide (p.2.1=t)).map (·.2.2)).map T.str) [some (.str w),some (.str a),some (.str b),some (.str t)] H):=⟨fun h=>hN _ _ _ ⟨rfl,by rw[List.filter_append];simp [h],_,_,_,rfl⟩⟩;generalize ((A.filter fun p=>decide (p.1=("apart":Str))&&decide (p.2.1=t)).map (·.2.2))=cur at *;clear hN k e;simp only[prT];walk_at "";refine⟨trivial,?_⟩;by_cases h1:w="apart"
 ·simp only[h1,decide_true,if_true];by_cases h2:a=t
  ·simp only[h2,decide_true,if_true];have:=fY.out ⟨h1,h2⟩;rw[h1,h2] at this;exact⟨by omega,this⟩
  simp only[h2,decide_false,Bool.false_eq_true,if_false];have:=fN.out fun z=>h2 z.2;rw[h1] at this;exact this
 simp only[h1,decide_false,Bool.false_eq_true,if_false];exact fN.out fun z=>h1 z.1
abbrev cY:List Str:=["numbers","greatest","number"]
theorem sc_greatest_numbers:FnScope cY ["numbers"] (aA (top 22)):=bu
theorem gY {f:Addr}{fd:FuncData}(g:G3 K mg "greatest_numbers" (top 22) ["numbers"] f fd) (B:Bl mg) (F_has_all:Cal P w K mg base 1 "has_all" (top 20) ["number","part"] wA):Cal P w K mg base 2 "greatest_numbers" (top 22) ["numbers"] Tj:=by
 refine⟨f,fd,g,?_⟩;refine fn3 g.fn sc_greatest_numbers (fun ts H Q h=>?_) (fun cdv A outer s H E ts H3 Q hr h=>?_)
 ·obtain⟨a,fs,rfl,_⟩:=h;rfl
 obtain⟨a,fs,rfl,ha,hl,k⟩:=h;refine⟨_,(aj (aG (i:=1) sc_greatest_numbers.nd (bh ak))
   (aj (bx PassesOwn.never rfl (Mr rfl B.reversed_ (v3 0)) (aD (i:=2) sc_greatest_numbers.nd) (au (bK (fP (c7 (aO (Mg rfl) rfl B.any_ Ks (aa (bQ rfl (cj (n0:=(aA (top 22)).names) (N:=cY) (N':=["other","number"]) (nt:=1) (cap:=[2]) rfl rfl (by decide +kernel)) (cG (v3 1)) (fun cl pins s H C0 fp=>⟨(aD (i:=0) (show List.Nodup [("other":Str),("number":Str)] by decide +kernel)),cT,(aP F_has_all hr rfl (aa (v3 0) (aa (v3 1) ak)))⟩)) ak)))) (au (bW (d9 PySem.F.plainAttrs_list PySem.F.slot_list_append PySem.F.type_list_append bG (v3 1) (aa (v3 2) ak)))) aR)))
   (au (aM (z6 rfl rfl B.list_ rfl B.reversed_ (v3 1)))))),?_⟩
 rw[show aQ cY [T.ref a]=[some (T.ref a),none,none] from rfl];have hsz:sizeLine=16777216:=rfl;refine aB fun R0 hR0=>?_;walk_at "";refine⟨by omega,fun p0 hp0=>?_⟩;walk_at "n";have hS1:Sub3 H3 (up3 H3 p0 (.lst [])):=Sub3.new hp0;have g1:up3 H3 p0 (.lst []) p0=some (.lst ((gre bA []).map bw)):=aq;generalize up3 H3 p0 (.lst [])=H1 at hS1 g1;try dsimp only
 refine aB fun R1 hR1=>?_;have ga:=hS1 _ _ ha;walk_at "";rw[<- List.map_reverse];refine aZ bw fs.reverse (fun A Z H=>∃(q:Addr) (v:Option T),Z=[some (.ref a),some (.ref q),v]/\Sub3 H3 H/\H3 q=none/\H q=some (.lst ((gre bA A.reverse).map bw))) ⟨p0,none,rfl,hS1,hp0,g1⟩ ?_ ?_
 ·rintro Z H ⟨q,v,rfl,hS,hq0,hq⟩;refine⟨.inl (hS _ _ ha),?_⟩;walk_at "n";rw[List.reverse_reverse] at hq;clear g1 ga;walk_at "";intro p hp;have h30:H3 p=none:=by
   cases e:H3 p with
   |none=>rfl
   |some o=>rw[hS _ _ e] at hp;cases hp
  rw[<- List.map_reverse];refine Fin3.of ?_ (k p h30);intro b o hb;by_cases e:b=p
  ·subst e;rw[aq] at hb ⊢;exact hb
  rw[aC e] at hb ⊢;exact hS b o hb
 rintro A n B Z H N e ⟨q,v,rfl,hS,hq0,hq⟩ hN;refine⟨.inl (hS _ _ ha),?_⟩;have hA:A.length+1<=256:=by have:=congrArg List.length e;simp only[List.length_append,List.length_cons,List.length_reverse] at this;omega
 have hN':=Box.mk hN;have eG:gre bA (A++[n]).reverse=if (gre bA A.reverse).any (fun g=>bA g n) then gre bA A.reverse else gre bA A.reverse++[n]:=by rw[List.reverse_append];rfl
 have gl:=pB bA A.reverse;rw[List.length_reverse] at gl;clear hN e k hR1 g1 ga;generalize gre bA A.reverse=G at *;walk_at "";walk_at "c";refine bT bw (fun g=>T.bl (bA g n)) G [some (bw n)] (.inl hq) (by omega) (fun g hg Q' hq'=>?_) (fun pc hpc=>?_)
 ·clear hN';walk_at "";exact⟨(g:Int),(n:Int),rfl,hq'⟩
 have nqc:q≠pc:=bf hq hpc;have bm:(G.map fun g=>T.bl (bA g n))=(G.map fun g=>bA g n).map T.bl:=by rw[List.map_map];rfl
 have g2:up3 H pc (.lst ((G.map fun g=>bA g n).map T.bl)) q=some (.lst (G.map bw)):=by rw[aC nqc];exact hq
 have hS2:Sub3 H3 (up3 H pc (.lst ((G.map fun g=>bA g n).map T.bl))):=hS.trans (Sub3.new hpc);rw[bm,km,fZ];generalize up3 H pc (.lst ((G.map fun g=>bA g n).map T.bl))=H5 at g2 hS2;have ea:(G.map fun g=>bA g n).any id=G.any fun g=>bA g n:=by rw[List.any_map];rfl
 rw[ea];cases hb:G.any fun g=>bA g n
 ·rw[hb] at eG;simp only[Bool.false_eq_true,if_false] at eG;clear ea bm hpc nqc;simp only[Bool.not_false,if_true];walk_at "";refine⟨⟨trivial,trivial⟩,by omega,hN'.out _ _ ⟨q,_,rfl,?_,hq0,?_⟩⟩
  ·intro b o hb';by_cases e:b=q
   ·subst e;rw[hq0] at hb';cases hb'
   rw[aC e];exact hS2 b o hb'
  rw[aq,eG,List.map_append];rfl
 rw[hb] at eG;simp only[if_true] at eG;simp only[Bool.not_true,Bool.false_eq_true,if_false];exact hN'.out _ _ ⟨q,_,rfl,hS2,hq0,by rw[eG];exact g2⟩
abbrev lK:List Str:=["self","works","beat"]
theorem Hj:FnScope lK lK (aA (topm 25 0)):=bu
theorem Hk {f:Addr}{fd:FuncData}{C_Walk:Addr}(g:GI K mg C_Walk "Walk" "Walk.__init__" (topm 25 0) lK f fd) (B:Bl mg) (I_Walk:InsC K C_Walk ["works","beat","rules","whole"]) (F_rules_of:Cal P w K mg base 4 "rules_of" (top 19) ["works"] Jm) (F_number_of:Cal P w K mg base 1 "number_of" (top 15) ["works","tasks"] CJ) (F_names_of:Cal P w K mg base 1 "names_of" (top 13) ["tasks"] Tc):MkC P w K mg base C_Walk 5 "Walk" lK (Tf C_Walk):=by
 refine⟨g.at_,f,fd,g.mk_,g.b,?_⟩;refine fn3 g.fn Hj (fun ts H Q h=>?_) (fun cdv A outer s H E ts H3 Q hr h=>?_)
 ·obtain⟨a,W,beat,rfl,_⟩:=h;rfl
 obtain⟨a,W,beat,rfl,hW,ha,k⟩:=h;refine⟨_,(aj (oW I_Walk (v3 0) (v3 1))
   (aj (oW I_Walk (v3 0) (v3 2))
   (aj (oW I_Walk (v3 0) (aP F_rules_of hr rfl (aa (v3 1) ak)))
   (au (oW I_Walk (v3 0) (aP F_number_of hr rfl (aa (v3 1) (aa (aP F_names_of hr rfl (aa (aK ix3 (v3 1) ao) ak)) ak)))))))),?_⟩
 rw[show aQ lK [T.ref a,W.enc,T.int beat]=[some (T.ref a),some (W.enc),some (T.int beat)] from rfl];have hsz:sizeLine=16777216:=rfl;have k':=Box.mk k;clear k;refine aB fun R0 hR0=>?_;walk_at "";have g1:up3 H3 a (.ins C_Walk (dm "works" W.enc [])) a=some (.ins C_Walk [("works",W.enc)]):=aq;refine⟨by decide,?_⟩;have kp1:∀b o,b≠a->H3 b=some o->up3 H3 a (.ins C_Walk (dm "works" W.enc [])) b=some o:=fun b o hb e=>by rw[aC hb];exact e
 generalize up3 H3 a (.ins C_Walk (dm "works" W.enc []))=H4 at g1 kp1 ⊢;walk_at "n";refine aB fun R1 hR1=>?_;walk_at "";refine⟨by decide,?_⟩;have e1:dm "beat" (T.int beat) [("works",W.enc)]=[(("works":Str),W.enc),(("beat":Str),.int beat)]:=by unfold dm;rw[if_neg (by decide +kernel)];rfl
 rw[e1];have g2:up3 H4 a (.ins C_Walk [("works",W.enc),("beat",.int beat)]) a=some (.ins C_Walk [("works",W.enc),("beat",.int beat)]):=aq;have kp2:∀b o,b≠a->H3 b=some o->up3 H4 a (.ins C_Walk [("works",W.enc),("beat",.int beat)]) b=some o:=fun b o hb e=>by rw[aC hb];exact kp1 b o hb e
 generalize up3 H4 a (.ins C_Walk [("works",W.enc),("beat",.int beat)])=H5 at g2 kp2 ⊢;clear g1 kp1 e1;walk_at "n";refine aB fun R2 hR2=>?_;walk_at "";refine⟨W,rfl,hW,fun p hp=>?_⟩;have nap:a≠p:=bf g2 hp;have g3:up3 H5 p (.lst (W.tasks.map (ruT W (W.tasks.map (·.1))))) p=some (.lst (W.tasks.map (ruT W (W.tasks.map (·.1))))):=aq;have g4:up3 H5 p (.lst (W.tasks.map (ruT W (W.tasks.map (·.1))))) a=some (.ins C_Walk [("works",W.enc),("beat",.int beat)]):=by rw[aC nap];exact g2
 have kp3:∀b o,b≠a->H3 b=some o->up3 H5 p (.lst (W.tasks.map (ruT W (W.tasks.map (·.1))))) b=some o:=fun b o hb e=>by rw[aC (bf (kp2 b o hb e) hp)];exact kp2 b o hb e
 generalize up3 H5 p (.lst (W.tasks.map (ruT W (W.tasks.map (·.1)))))=H6 at g3 g4 kp3 ⊢;clear g2 kp2 hp;walk_at "";refine⟨by decide,?_⟩;have e1:dm "rules" (T.ref p) [("works",W.enc),("beat",.int beat)]=[(("works":Str),W.enc),(("beat":Str),.int beat),(("rules":Str),.ref p)]:=by unfold dm;rw[if_neg (by decide +kernel)];unfold dm;rw[if_neg (by decide +kernel)];rfl
 rw[e1];have g5:up3 H6 a (.ins C_Walk [("works",W.enc),("beat",.int beat),("rules",.ref p)]) a=some (.ins C_Walk [("works",W.enc),("beat",.int beat),("rules",.ref p)]):=aq;have g6:up3 H6 a (.ins C_Walk [("works",W.enc),("beat",.int beat),("rules",.ref p)]) p=some (.lst (W.tasks.map (ruT W (W.tasks.map (·.1))))):=by rw[aC (Ne.symm nap)];exact g3
 have kp4:∀b o,b≠a->H3 b=some o->up3 H6 a (.ins C_Walk [("works",W.enc),("beat",.int beat),("rules",.ref p)]) b=some o:=fun b o hb e=>by rw[aC hb];exact kp3 b o hb e
 generalize up3 H6 a (.ins C_Walk [("works",W.enc),("beat",.int beat),("rules",.ref p)])=H7 at g5 g6 kp4 ⊢;clear g3 g4 kp3 e1;walk_at "n";walk_at "";refine⟨W.tasks,rfl,hW.t8,fun q hq=>?_⟩;have naq:a≠q:=bf g5 hq;have npq:p≠q:=bf g6 hq;try dsimp only
 refine⟨W,_,W.tasks.map (·.1),rfl,hW,.inr ⟨q,rfl,aq⟩,?_⟩;have ew:numOf (W.tasks.map (·.1)) (W.tasks.map (·.1))=(top2 W:Int) - 1:=by have h1:=jq (W:=W) (A:=nm W) fun x hx=>hx;have h2:=lz W;rw[bY];show ((bH (nm W) (nm W):Nat):Int)=_;rw[h1];omega
 rw[ew];have g7:up3 H7 q (.lst ((W.tasks.map (·.1)).map T.str)) a=some (.ins C_Walk [("works",W.enc),("beat",.int beat),("rules",.ref p)]):=by rw[aC naq];exact g5
 have g8:up3 H7 q (.lst ((W.tasks.map (·.1)).map T.str)) p=some (.lst (W.tasks.map (ruT W (W.tasks.map (·.1))))):=by rw[aC npq];exact g6
 have kp5:∀b o,b≠a->H3 b=some o->up3 H7 q (.lst ((W.tasks.map (·.1)).map T.str)) b=some o:=fun b o hb e=>by rw[aC (bf (kp4 b o hb e) hq)];exact kp4 b o hb e
 generalize up3 H7 q (.lst ((W.tasks.map (·.1)).map T.str))=H8 at g7 g8 kp5 ⊢;clear g5 g6 kp4 hq;walk_at "";refine⟨by decide,?_⟩;have e1:dm "whole" (T.int ((top2 W:Int) - 1)) [("works",W.enc),("beat",.int beat),("rules",.ref p)]=wkF W beat p:=by unfold dm;rw[if_neg (by decide +kernel)];unfold dm;rw[if_neg (by decide +kernel)];unfold dm;rw[if_neg (by decide +kernel)];rfl
 rw[e1];exact Fin3.of Sub3.refl (k'.out _ (fun b o hb e=>by rw[aC hb];exact kp5 b o hb e) ⟨p,aq,by rw[aC (Ne.symm nap)];exact g8⟩)
abbrev eY:List Str:=["self","stand","done","kind","left"]
theorem sc_fillings_at:FnScope eY ["self","stand","done"] (aA (topm 25 1)):=bu
theorem lL {f:Addr}{fd:FuncData}{C_Walk:Addr}(g:GM K C_Walk "fillings_at" "Walk.fillings_at" (topm 25 1) ["self","stand","done"] f fd) (B:Bl mg) (I_Walk:InsC K C_Walk ["works","beat","rules","whole"]) (F_parts_of:Cal P w K mg base 2 "parts_of" (top 24) ["number"] Jf) (F_is_filling_number:Cal P w K mg base 2 "is_filling_number" (top 21) ["rules","beat","kind","done","number"] Jo):MtC P w K mg base C_Walk 3 "fillings_at" ["self","stand","done"] (Tg C_Walk):=by
 refine⟨g.cls,f,fd,g.mt,g.b,?_⟩;refine fn3 g.fn sc_fillings_at (fun ts H Q h=>?_) (fun cdv A outer s H E ts H3 Q hr h=>?_)
 ·obtain⟨a,W,beat,k,d,rfl,_⟩:=h;rfl
 obtain⟨a,W,beat,k,d,rfl,hW,hw,hk,hd,kk⟩:=h;refine⟨_,(aj (bK (aX HJ (v3 1) (aO cC rfl B.len_ cD (aa (aK ix3 (gB I_Walk (v3 0)) ao) ak))) (au (aM (bh ak))) aR)
   (aj (aG (i:=3) sc_fillings_at.nd (aK ix3 (aK ix3 (gB I_Walk (v3 0)) ao) (v3 1)))
   (aj (aG (i:=4) sc_fillings_at.nd (aP F_parts_of hr rfl (aa (aF ou (gB I_Walk (v3 0)) (v3 2)) ak)))
   (au (aM (bQ rfl (cj (n0:=(aA (topm 25 1)).names) (N:=eY) (N':=["number","kind","done","self"]) (nt:=1) (cap:=[3,2,0]) rfl rfl (by decide +kernel)) (cG (v3 4)) (fun cl pins s H C0 fp=>⟨(aD (i:=0) (show List.Nodup [("number":Str),("kind":Str),("done":Str),("self":Str)] by decide +kernel)),(fU (c7 (aP F_is_filling_number hr rfl (aa (gB I_Walk (v3 3)) (aa (gB I_Walk (v3 3)) (aa (v3 1) (aa (v3 2) (aa (v3 0) ak)))))))),(v3 0)⟩))))))),?_⟩
 rw[show aQ eY [T.ref a,T.int (k:Int),T.int (d:Int)]=[some (T.ref a),some (T.int (k:Int)),some (T.int (d:Int)),none,none] from rfl];have hsz:sizeLine=16777216:=rfl;have k':=Box.mk kk;clear kk;have t2:=o9 hW;have t1:=lz W;obtain⟨p,g1,g2⟩:=hw.ex;have f1:=rA (W:=W) (beat:=beat) (p:=p);have f2:=Gz (W:=W) (beat:=beat) (p:=p);have f3:=Bu (W:=W) (beat:=beat) (p:=p);have f4:=rB (W:=W) (beat:=beat) (p:=p);have x1:=Bs hk;have g1':=Box.mk g1;have g2':=Box.mk g2;generalize wkF W beat p=fs at *;refine aB fun R0 hR0=>?_;walk_at "";rw[decide_eq_false (by omega),if_neg Bool.false_ne_true];walk_at "n";refine aB fun R1 hR1=>?_;walk_at "";walk_at "n";refine aB fun R2 hR2=>?_;walk_at "";refine⟨top2 W - 1 - d,by rw[show ((top2 W - 1 - d:Nat):Int)=(top2 W:Int) - 1 - (d:Int) by omega],by omega,fun pl hpl=>?_⟩;have n1:a≠pl:=bf g1 hpl;have n2:p≠pl:=bf g2 hpl;have efl:=xQ (W:=W) (beat:=beat) (k:=k) hW hd;have hlen:(q9 (top2 W - 1 - d)).length<=256:=by unfold q9;exact Nat.le_trans (List.length_filter_le _ _) (by rw[List.length_range];omega)
 have hlt:∀i∈q9 (top2 W - 1 - d),i<top2 W:=fun i hi=>by have:=List.mem_range.mp (List.mem_filter.mp hi).1;omega
 generalize q9 (top2 W - 1 - d)=ps at *;have hs1:Sub3 H3 (up3 H3 pl (.lst (ps.map bw))):=Sub3.new hpl;have h1:=hs1 _ _ g1'.out;have h2:=hs1 _ _ g2'.out;have h3:up3 H3 pl (.lst (ps.map bw)) pl=some (.lst (ps.map bw)):=aq;generalize up3 H3 pl (.lst (ps.map bw))=H4 at hs1 h1 h2 h3 ⊢;clear g1 g2 x1 f1 f4 n1 n2 hpl;walk_at "n";have hlt':=Box.mk hlt;have efl':=Box.mk efl;clear hlt efl;walk_at "";walk_at "c";refine iC (still:=aV pl (ps.map bw)) (H:=H4) bw bw (fil W beat k d) ps [some (.str (W.row.getD k "")),some (.int (d:Int)),some (.ref a)] (.inl h3) (by omega) ?c1 ?c2 ?c3
 case c2=>exact fun i hi _ Q' hq=>hq
 case c1 =>
  intro i hi Q' hq
  have hi':=hlt'.out i hi
  have hq':=Box.mk hq
  clear k' hq
  simp only[bw]
  walk_at ""
  refine⟨W,p,beat,W.row.getD k "",pk W d,pk W i,?_,hW,h2,?_⟩
  ·
   rw[Te hW hd,Te hW hi']
  ·
   exact hq'.out
 case c3 =>
  intro q hq
  rw[efl'.out]
  refine Fin3.of ?_ (k'.out q (cz hs1 hq))
  intro b o hb
  by_cases e:b=q
  ·
   subst e;rw[aq] at hb ⊢;exact hb
  ·
   rw[aC e] at hb ⊢;exact hs1 b o hb
abbrev cJ:List Str:=["self","fillings"]
theorem mj:FnScope cJ cJ (aA (topm 25 4)):=bu
theorem mq {f:Addr}{fd:FuncData}{C_Walk:Addr}(g:GM K C_Walk "dealing_of" "Walk.dealing_of" (topm 25 4) cJ f fd) (B:Bl mg) (I_Walk:InsC K C_Walk ["works","beat","rules","whole"]) (F_tasks_of:Cal P w K mg base 1 "tasks_of" (top 16) ["works","number"] Jj):MtC P w K mg base C_Walk 2 "dealing_of" cJ (Th C_Walk):=by
 refine⟨g.cls,f,fd,g.mt,g.b,?_⟩;refine fn3 g.fn mj (fun ts H Q h=>?_) (fun cdv A outer s H E ts H3 Q hr h=>?_)
 ·obtain⟨a,W,beat,fs,rfl,_⟩:=h;rfl
 obtain⟨a,W,beat,fs,rfl,hW,hw,hl,hf,kk⟩:=h;refine⟨_,(au (aM (bL dh rfl B.tuple_ cF (aa (bQ rfl (cj (n0:=(aA (topm 25 4)).names) (N:=cJ) (N':=["filling","self"]) (nt:=1) (cap:=[0]) rfl rfl (by decide +kernel)) (cg (v3 1)) (fun cl pins s H C0 fp=>⟨(aD (i:=0) (show List.Nodup [("filling":Str),("self":Str)] by decide +kernel)),cT,(aP F_tasks_of hr rfl (aa (gB I_Walk (v3 1)) (aa (v3 0) ak)))⟩)) ak)))),?_⟩;rw[show aQ cJ [T.ref a,T.tup (fs.map bw)]=[some (T.ref a),some (T.tup (fs.map bw))] from rfl];have hsz:sizeLine=16777216:=rfl;have k':=Box.mk kk;clear kk;obtain⟨p,g1,g2⟩:=hw.ex;have f1:=rA (W:=W) (beat:=beat) (p:=p);generalize wkF W beat p=gs at *;walk_at "";walk_at "c";refine bT (still:=bZ) (H:=H3) bw (fun i=>sT (pk W i)) fs [some (.ref a)] trivial (by omega) ?c1 ?c2
 case c1 =>
  intro i hi Q' hq
  have hi':=hf i hi
  have ecast:((2^W.tasks.length:Nat):Int)=(2:Int)^W.tasks.length:=by push_cast;rfl
  have hq':=Box.mk hq
  clear k' hq
  simp only[bw]
  walk_at ""
  exact⟨W,(i:Int),rfl,hW,Int.natCast_nonneg _,by rw[<- ecast];exact Int.ofNat_lt.mpr hi',hq'.out⟩
 case c2 =>
  intro q hq
  have kk:=k'.out
  rw[List.map_map] at kk
  walk_at ""
  exact Fin3.of (Sub3.new hq) kk
abbrev iG:List Str:=["number","parts","worth"]
theorem sc_parts_of:FnScope iG ["number"] (aA (top 24)):=bu
theorem rP {f:Addr}{fd:FuncData}(g:G3 K mg "parts_of" (top 24) ["number"] f fd) (B:Bl mg) (F_has_all:Cal P w K mg base 1 "has_all" (top 20) ["number","part"] wA):Cal P w K mg base 2 "parts_of" (top 24) ["number"] Jf:=by
 refine⟨f,fd,g,?_⟩;refine fn3 g.fn sc_parts_of (fun ts H Q h=>?_) (fun cdv A outer s H E ts H3 Q hr h=>?_)
 ·obtain⟨N,rfl,_⟩:=h;rfl
 obtain⟨N,rfl,hN,k⟩:=h;refine⟨_,(aj (aG (i:=1) sc_parts_of.nd (bh (aa ao ak)))
   (aj (aG (i:=2) sc_parts_of.nd ao)
   (aj (j7 PassesOwn.never (aX HH (v3 2) (v3 0)) (aj (bK (c7 (aP F_has_all hr rfl (aa (v3 0) (aa (v3 2) ak)))) (au (aG (i:=1) sc_parts_of.nd (aF aY (v3 1) (bQ rfl (cj (n0:=(aA (top 24)).names) (N:=iG) (N':=["part","worth"]) (nt:=1) (cap:=[2]) rfl rfl (by decide +kernel)) (cG (v3 1)) (fun cl pins s H C0 fp=>⟨(aD (i:=0) (show List.Nodup [("part":Str),("worth":Str)] by decide +kernel)),cT,(aF aY (v3 0) (v3 1))⟩))))) aR)
    (au (aG (i:=2) sc_parts_of.nd (aF cM (v3 2) ao)))))
   (au (aM (v3 1)))))),?_⟩
 rw[show aQ iG [T.int (N:Int)]=[some (T.int (N:Int)),none,none] from rfl];have hsz:sizeLine=16777216:=rfl;have k':=Box.mk k;clear k;refine aB fun R0 hR0=>?_;walk_at "";refine⟨by decide,fun p0 hp0=>?_⟩;have hS1:Sub3 H3 (up3 H3 p0 (.lst [T.int 0])):=Sub3.new hp0;have g1:up3 H3 p0 (.lst [T.int 0]) p0=some (.lst (((List.range (2^0)).filter (bA N)).map bw)):=by
  have h0:bA N 0=true:=by rw[fB];exact Nat.and_zero N
  rw[aq,show (List.range (2^0))=[0] from rfl,List.filter_cons,h0];rfl
 generalize up3 H3 p0 (.lst [T.int 0])=H4 at hS1 g1 ⊢;walk_at "n";refine aB fun R1 hR1=>?_;walk_at "";walk_at "n";refine aB fun R2 hR2=>?_;refine⟨fun m Z H=>∃(j:Nat) (q:Addr),Z=[some (.int (N:Int)),some (.ref q),some (.int ((2^j:Nat):Int))]/\Sub3 H3 H/\H3 q=none/\H q=some (.lst (((List.range (2^j)).filter (bA N)).map bw))/\m=512 - 2^j/\(∀i,i+1=j->2^i<=N),⟨_,0,p0,rfl,hS1,hp0,g1,rfl,(fun i h=>by omega)⟩,?_⟩;rintro m Z H ⟨j,q,rfl,hS,hq0,hq,rfl,hj⟩;have hj9:2^j<=256:=by
  cases j with
  |zero=>decide
  |succ i =>
   have h1:=hj i rfl
   have h2:i<8:=by
    rcases Nat.lt_or_ge i 8 with z | z
    ·
     exact z
    ·
     have:=Nat.pow_le_pow_right (n:=2) (by decide) z
     omega
   exact Nat.le_trans (Nat.pow_le_pow_right (by decide) (show i+1<=8 by omega)) (by decide)
 have hp:=Nat.pow_pos (n:=j) (show 0<2 by decide);walk_at "";by_cases hle:2^j<=N
 ·have hle':decide (((2^j:Nat):Int)<=(N:Int))=true:=decide_eq_true (Int.ofNat_le.mpr hle);rw[hle',if_pos rfl];have hlen:(((List.range (2^j)).filter (bA N))).length<=256:=Nat.le_trans (List.length_filter_le _ _) (by rw[List.length_range];exact hj9);have est:=Bt (N:=N) (k:=j);have e2:((2^j:Nat):Int)*2=((2^(j+1):Nat):Int):=by rw[Nat.pow_succ];push_cast;rfl
  have cm:CMul ((2^j:Nat):Int) 2:=.inl ⟨by omega,by omega⟩;have hpow:2^(j+1)=2^j*2:=by rw[Nat.pow_succ]
  have fin:Box (∀(q2:Addr) (H':Hp3),Sub3 H3 H'->H3 q2=none->H' q2=some (.lst (((List.range (2^(j+1))).filter (bA N)).map bw))->∃m',m'<512 - 2^j/\∃(j2:Nat) (q:Addr),([some (.int (N:Int)),some (.ref q2),some (.int (((2^j:Nat):Int)*2))]:St3)=[some (.int (N:Int)),some (.ref q),some (.int ((2^j2:Nat):Int))]/\Sub3 H3 H'/\H3 q=none/\H' q=some (.lst (((List.range (2^j2)).filter (bA N)).map bw))/\m'=512 - 2^j2/\(∀i,i+1=j2->2^i<=N)):=⟨fun q2 H' s1 s2 s3=>⟨_,by omega,j+1,q2,by rw[e2],s1,s2,s3,rfl,fun i hi=>by rw[show i=j by omega];exact hle⟩⟩;clear hj hR2 k' g1 hS1 e2 hle' hpow;generalize (List.range (2^(j+1))).filter (bA N)=nx at *;generalize hcur:(List.range (2^j)).filter (bA N)=cur at *;refine⟨(N:Int),((2^j:Nat):Int),rfl,?_⟩;rw[show decide (Builtin.bitAnd (N:Int) ((2^j:Nat):Int)=((2^j:Nat):Int))=bA N (2^j) from rfl];generalize 2^j=w2 at *;cases hb:bA N w2 with
  |false=>rw[hb] at est;simp only[Bool.false_eq_true,if_false,List.append_nil] at est;simp only[eZ,Bool.false_eq_true,if_false];rw[<- est] at hq;exact⟨by first | trivial | exact cm,fin.out q _ hS hq0 hq⟩
  |true =>
  rw[hb] at est;simp only[if_true] at est;try simp only[eZ,if_true]
  walk_at "c";rw[hq,vp];refine bT bw (fun i=>bw (i+w2)) cur [some (.int (w2:Int))] (.inl hq) (by omega) (fun i hi Q' hq'=>?_) (fun pc hpc=>?_)
  ·simp only[bw] at hq' ⊢;rw[show ((i+w2:Nat):Int)=(i:Int)+(w2:Int) by push_cast;rfl] at hq';have hq2:=Box.mk hq';clear hq' fin;walk_at "";exact hq2.out
  have nqc:q≠pc:=bf hq hpc;rw[aC nqc,hq,jj];refine⟨by rw[List.length_map,List.length_map];omega,fun pq hpq=>?_⟩;have hS2:Sub3 H3 (up3 (up3 H pc (.lst (cur.map fun i=>bw (i+w2)))) pq (.lst (cur.map bw++cur.map fun i=>bw (i+w2)))):=(hS.trans (Sub3.new hpc)).trans (Sub3.new hpq);have h30:H3 pq=none:=cz (hS.trans (Sub3.new hpc)) hpq;have gq:up3 (up3 H pc (.lst (cur.map fun i=>bw (i+w2)))) pq (.lst (cur.map bw++cur.map fun i=>bw (i+w2))) pq=some (.lst (nx.map bw)):=by rw[aq,est,List.map_append,List.map_map];rfl
  generalize up3 (up3 H pc (.lst (cur.map fun i=>bw (i+w2)))) pq (.lst (cur.map bw++cur.map fun i=>bw (i+w2)))=H5 at hS2 gq ⊢;exact⟨by first | trivial | exact cm,fin.out pq _ hS2 h30 gq⟩
 have hle':decide (((2^j:Nat):Int)<=(N:Int))=false:=decide_eq_false (fun z=>hle (Int.ofNat_le.mp z));rw[hle',if_neg Bool.false_ne_true];rw[vU (by omega)] at hq;walk_at "n";walk_at "";refine Fin3.of ?_ (k'.out q hq0);intro b o hb;by_cases e:b=q
 ·subst e;rw[aq] at hb;rw[hq,hb]
 rw[aC e] at hb;exact hS b o hb
theorem rQ:FnScope ["tasks"] ["tasks"] (aA (top 13)):=bu
theorem rR {f:Addr}{fd:FuncData}(g:G3 K mg "names_of" (top 13) ["tasks"] f fd) (B:Bl mg):Cal P w K mg base 1 "names_of" (top 13) ["tasks"] Tc:=by
 refine⟨f,fd,g,?_⟩;refine fn3 g.fn rQ (fun ts H Q h=>?_) (fun cdv A outer s H E ts H3 Q hr h=>?_)
 ·obtain⟨tk,rfl,_⟩:=h;rfl
 obtain⟨tk,rfl,t8,k⟩:=h;refine⟨_,(au (aM (bQ rfl (cj (n0:=(aA (top 13)).names) (N:=["tasks"]) (N':=["task"]) (nt:=1) (cap:=[]) rfl rfl (by decide +kernel)) (cg (v3 0)) (fun cl pins s H C0 fp=>⟨(aD (i:=0) (show List.Nodup [("task":Str)] by decide +kernel)),cT,(aK ix3 (v3 0) ao)⟩)))),?_⟩;rw[show aQ ["tasks"] [T.tup (tk.map tkT)]=[some (T.tup (tk.map tkT))] from rfl];have hsz:sizeLine=16777216:=rfl;have k':=Box.mk k;clear k;walk_at "";walk_at "c";refine bT tkT (fun t=>T.str t.1) tk [] trivial (by omega) (fun t ht Q' hq=>?_) (fun pc hpc=>?_)
 ·clear k';simp only[tkT];walk_at "";try exact hq
 have:=k'.out pc hpc;rw[List.map_map] at this;exact Fin3.of Sub3.refl this
abbrev lM:List Str:=["works","rules","name","length","kinds","own","group","ahead","apart"]
theorem sc_rules_of:FnScope lM ["works"] (aA (top 19)):=bu
theorem rT {f:Addr}{fd:FuncData}(g:G3 K mg "rules_of" (top 19) ["works"] f fd) (B:Bl mg) (F_number_of:Cal P w K mg base 1 "number_of" (top 15) ["works","tasks"] CJ) (F_apart_from:Cal P w K mg base 1 "apart_from" (top 18) ["works","task"] Jl) (F_ahead_of:Cal P w K mg base 3 "ahead_of" (top 9) ["works","task"] T6) (F_group_of:Cal P w K mg base 3 "group_of" (top 8) ["works","task"] T5):Cal P w K mg base 4 "rules_of" (top 19) ["works"] Jm:=by
 refine⟨f,fd,g,?_⟩;refine fn3 g.fn sc_rules_of (fun ts H Q h=>?_) (fun cdv A outer s H E ts H3 Q hr h=>?_)
 ·obtain⟨W,rfl,_⟩:=h;rfl
 obtain⟨⟨tk,ors,prs,row⟩,rfl,hW,k⟩:=h;refine⟨_,(aj (aG (i:=1) sc_rules_of.nd (bh ak))
   (aj (bx PassesOwn.never rfl (cg (aK ix3 (v3 0) ao)) (cB (n:=3) rfl (aH (aD (i:=2) sc_rules_of.nd) (aH (aD (i:=3) sc_rules_of.nd) (aH (aD (i:=4) sc_rules_of.nd) bO)))) (aj (aG (i:=5) sc_rules_of.nd (aP F_number_of hr rfl (aa (v3 0) (aa (bD (aa (v3 2) ak)) ak))))
    (aj (aG (i:=6) sc_rules_of.nd (aP F_number_of hr rfl (aa (v3 0) (aa (aP F_group_of hr rfl (aa (v3 0) (aa (v3 2) ak))) ak))))
    (aj (aG (i:=7) sc_rules_of.nd (aP F_number_of hr rfl (aa (v3 0) (aa (aP F_ahead_of hr rfl (aa (v3 0) (aa (v3 2) ak))) ak))))
    (aj (aG (i:=8) sc_rules_of.nd (aP F_number_of hr rfl (aa (v3 0) (aa (aP F_apart_from hr rfl (aa (v3 0) (aa (v3 2) ak))) ak))))
    (au (bW (d9 PySem.F.plainAttrs_list PySem.F.slot_list_append PySem.F.type_list_append bG (v3 1) (aa (bD (aa (v3 5) (aa (v3 3) (aa (v3 4) (aa (v3 6) (aa (v3 7) (aa (v3 8) ak))))))) ak)))))))))
   (au (aM (v3 1))))),?_⟩
 rw[show aQ lM [Wk.enc ⟨tk,ors,prs,row⟩]=[some (T.tup [T.tup (tk.map tkT),T.tup (ors.map orT),T.tup (prs.map prT),T.tup (row.map T.str)]),none,none,none,none,none,none,none,none] from rfl];have hsz:sizeLine=16777216:=rfl;have t8:tk.length<=8:=hW.t8;walk_at "";refine⟨by omega,fun p hp=>?_⟩;refine aZ tkT tk (fun A Z H=>∃(v2 v3 v4 v5 v6 v7 v8:Option T) (H0:Hp3),Z=[some (T.tup [T.tup (tk.map tkT),T.tup (ors.map orT),T.tup (prs.map prT),T.tup (row.map T.str)]),some (.ref p),v2,v3,v4,v5,v6,v7,v8]/\H=up3 H0 p (.lst (A.map (ruT ⟨tk,ors,prs,row⟩ (tk.map (·.1)))))/\Sub3 H3 H0/\H3 p=none) ⟨none,none,none,none,none,none,none,H3,rfl,rfl,Sub3.refl,hp⟩ ?_ ?_
 ·rintro Z H ⟨v2,v3,v4,v5,v6,v7,v8,H0,rfl,rfl,hS,_⟩;refine⟨trivial,?_⟩;walk_at "";refine Fin3.of (fun a o e=>?_) (k p hp);by_cases h:a=p
  ·subst h;rw[aq] at e ⊢;exact e
  rw[aC h] at e ⊢;exact hS _ _ e
 rintro A ⟨nm,len,ks⟩ B Z H N e ⟨v2,v3,v4,v5,v6,v7,v8,H0,rfl,rfl,hS,_⟩ hN;have hA:A.length<=8:=by have:=congrArg List.length e;simp only[List.length_append,List.length_cons] at this;omega
 refine⟨trivial,?_⟩;have fin:Box (∀q,up3 H0 p (.lst (A.map (ruT ⟨tk,ors,prs,row⟩ (tk.map (·.1))))) q=none->N [some (T.tup [T.tup (tk.map tkT),T.tup (ors.map orT),T.tup (prs.map prT),T.tup (row.map T.str)]),some (.ref p),some (.str nm),some (.int len),some (sT ks),some (.int (numOf (tk.map (·.1)) [nm])),some (.int (numOf (tk.map (·.1)) (fj ⟨tk,ors,prs,row⟩ nm))),some (.int (numOf (tk.map (·.1)) (iD ⟨tk,ors,prs,row⟩ nm))),some (.int (numOf (tk.map (·.1)) (iW ⟨tk,ors,prs,row⟩ nm)))] (up3 (up3 (up3 H0 p (.lst (A.map (ruT ⟨tk,ors,prs,row⟩ (tk.map (·.1)))))) q (.lst ((iW ⟨tk,ors,prs,row⟩ nm).map T.str))) p (.lst (A.map (ruT ⟨tk,ors,prs,row⟩ (tk.map (·.1)))++[ruT ⟨tk,ors,prs,row⟩ (tk.map (·.1)) (nm,len,ks)])))):=⟨fun q hq=>by
  obtain⟨n1,hq0⟩:=cu hq
  refine hN _ _ ⟨_,_,_,_,_,_,_,up3 H0 q (.lst ((iW ⟨tk,ors,prs,row⟩ nm).map T.str)),rfl,?_,hS.trans (Sub3.new hq0),hp⟩
  rw[List.map_append,zx (Ne.symm n1),nU]
  rfl⟩
 have hlA:(A.map (ruT ⟨tk,ors,prs,row⟩ (tk.map (·.1)))).length<=8:=by rw[List.length_map];exact hA
 generalize A.map (ruT ⟨tk,ors,prs,row⟩ (tk.map (·.1)))=cur at fin hlA;clear hN e k hA;simp only[tkT];walk_at "";refine⟨trivial,by omega,⟨tk,ors,prs,row⟩,_,[nm],rfl,hW,.inl rfl,?_⟩;walk_at "";refine⟨⟨tk,ors,prs,row⟩,nm,rfl,hW,?_⟩;try dsimp only
 refine⟨⟨tk,ors,prs,row⟩,_,fj ⟨tk,ors,prs,row⟩ nm,rfl,hW,.inl rfl,?_⟩;walk_at "";refine⟨⟨tk,ors,prs,row⟩,nm,rfl,hW,?_⟩;try dsimp only
 refine⟨⟨tk,ors,prs,row⟩,_,iD ⟨tk,ors,prs,row⟩ nm,rfl,hW,.inl rfl,?_⟩;walk_at "";refine⟨⟨tk,ors,prs,row⟩,nm,rfl,hW,fun q hq=>?_⟩;obtain⟨n1,hq0⟩:=cu hq;have n1':=Ne.symm n1;try dsimp only
 refine⟨⟨tk,ors,prs,row⟩,_,iW ⟨tk,ors,prs,row⟩ nm,rfl,hW,.inr ⟨q,rfl,aq⟩,?_⟩;walk_at "";exact⟨⟨trivial,trivial⟩,by omega,by omega,fin.out q hq⟩
abbrev dH:List Str:=["rules","beat","kind","done","number","load","own","length","kinds","group","ahead","apart"]
theorem sc_is_filling_number:FnScope dH ["rules","beat","kind","done","number"] (aA (top 21)):=bu
theorem gH {f:Addr}{fd:FuncData}(g:G3 K mg "is_filling_number" (top 21) ["rules","beat","kind","done","number"] f fd) (B:Bl mg) (F_has_all:Cal P w K mg base 1 "has_all" (top 20) ["number","part"] wA) (F_may_be_done:Cal P w K mg base 1 "may_be_done" (top 11) ["kinds","kind"] Jk):Cal P w K mg base 2 "is_filling_number" (top 21) ["rules","beat","kind","done","number"] Jo:=by
 refine⟨f,fd,g,?_⟩;refine fn3 g.fn sc_is_filling_number (fun ts H Q h=>?_) (fun cdv A outer s H E ts H3 Q hr h=>?_)
 ·obtain⟨W,a,beat,kind,D,S,rfl,_⟩:=h;rfl
 have hu30:=Room.u30 hr;obtain⟨W,a,beat,kind,D,S,rfl,hW,ha,k⟩:=h;refine⟨_,(aj (aG (i:=5) sc_is_filling_number.nd ao)
   (aj (bx PassesOwn.never rfl (cG (v3 0)) (cB (n:=6) rfl (aH (aD (i:=6) sc_is_filling_number.nd) (aH (aD (i:=7) sc_is_filling_number.nd) (aH (aD (i:=8) sc_is_filling_number.nd) (aH (aD (i:=9) sc_is_filling_number.nd) (aH (aD (i:=10) sc_is_filling_number.nd) (aH (aD (i:=11) sc_is_filling_number.nd) bO))))))) (au (bK (c7 (aP F_has_all hr rfl (aa (v3 4) (aa (v3 6) ak)))) (aj (bK (PW3.pt (qb (c7 (aP F_has_all hr rfl (aa (v3 3) (aa (v3 6) ak)))) (nY (fP (c7 (aP F_may_be_done hr rfl (aa (v3 8) (aa (v3 2) ak)))))))) (au (aM cZ)) aR)
     (aj (bK (PW3.pt (qb (fP (c7 (aP F_has_all hr rfl (aa (v3 4) (aa (v3 9) ak))))) (nY (fP (c7 (aP F_has_all hr rfl (aa (aF RC (v3 4) (v3 3)) (aa (v3 10) ak)))))))) (au (aM cZ)) aR)
     (aj (bK (aX (j9 hu30) (aF zU (v3 4) (v3 11)) ao) (au (aM cZ)) aR)
     (au (aG (i:=5) sc_is_filling_number.nd (aF aY (v3 5) (v3 7))))))) aR)))
   (au (aM (gh HH (v3 5) (v3 1)))))),?_⟩
 rw[show aQ dH [T.ref a,T.int beat,T.str kind,T.int (numOf (W.tasks.map (·.1)) D),T.int (numOf (W.tasks.map (·.1)) S)]=[some (T.ref a),some (T.int beat),some (T.str kind),some (T.int (numOf (W.tasks.map (·.1)) D)),some (T.int (numOf (W.tasks.map (·.1)) S)),none,none,none,none,none,none,none] from rfl];have hsz:sizeLine=16777216:=rfl;walk_at "";refine aZ (ruT W (W.tasks.map (·.1))) W.tasks (fun A Z H=>∃(v6 v7 v8 v9 v10 v11:Option T),Z=[some (.ref a),some (.int beat),some (.str kind),some (.int (numOf (W.tasks.map (·.1)) D)),some (.int (numOf (W.tasks.map (·.1)) S)),some (.int (di A S)),v6,v7,v8,v9,v10,v11]/\H=H3/\(A.all fun t=>!decide (t.1∈S)||okT W kind D S t)=true) ⟨none,none,none,none,none,none,rfl,rfl,rfl⟩ ?_ ?_
 ·rintro Z H ⟨v6,v7,v8,v9,v10,v11,rfl,rfl,hall⟩;refine⟨.inl ha,?_⟩;walk_at "";refine Fin3.of Sub3.refl ?_;unfold uv at k;rw[hall,Bool.true_and] at k;exact k
 rintro A t B Z H N e ⟨v6,v7,v8,v9,v10,v11,rfl,rfl,hall⟩ hN;refine⟨.inl ha,?_⟩;have htm:t∈W.tasks:=by rw[e];simp
 have htn:t.1∈W.tasks.map (·.1):=List.mem_map.mpr ⟨t,htm,rfl⟩;have gsub:∀x∈fj W t.1,x∈W.tasks.map (·.1):=fun x hx=>(List.mem_filter.mp hx).1;have asub:∀x∈iD W t.1,x∈W.tasks.map (·.1):=fun x hx=>(List.mem_filter.mp hx).1;have psub:∀x∈iW W t.1,x∈W.tasks.map (·.1):=fun x hx=>by obtain⟨p,hp,rfl⟩:=List.mem_map.mp hx;exact (hW.pp p (List.mem_filter.mp hp).1).2.2.2
 have b1:decide (Builtin.bitAnd (numOf (W.tasks.map (·.1)) S) (numOf (W.tasks.map (·.1)) [t.1])=numOf (W.tasks.map (·.1)) [t.1])=decide (t.1∈S):=by rw[Bool.eq_iff_iff,decide_eq_true_iff,decide_eq_true_iff];exact vM htn
 have b2:decide (Builtin.bitAnd (numOf (W.tasks.map (·.1)) D) (numOf (W.tasks.map (·.1)) [t.1])=numOf (W.tasks.map (·.1)) [t.1])=decide (t.1∈D):=by rw[Bool.eq_iff_iff,decide_eq_true_iff,decide_eq_true_iff];exact vM htn
 have b3:decide (Builtin.bitAnd (numOf (W.tasks.map (·.1)) S) (numOf (W.tasks.map (·.1)) (fj W t.1))=numOf (W.tasks.map (·.1)) (fj W t.1))=@decide (∀x∈fj W t.1,x∈S) (Classical.propDecidable _):=by rw[Bool.eq_iff_iff,decide_eq_true_iff,@decide_eq_true_iff _ (Classical.propDecidable _),eU];exact⟨fun h x hx=>h x (gsub x hx) hx,fun h x _ hx=>h x hx⟩
 have b4:decide (Builtin.bitAnd (Builtin.bitOr (numOf (W.tasks.map (·.1)) S) (numOf (W.tasks.map (·.1)) D)) (numOf (W.tasks.map (·.1)) (iD W t.1))=numOf (W.tasks.map (·.1)) (iD W t.1))=@decide (∀x∈iD W t.1,x∈S++D) (Classical.propDecidable _):=by rw[Bool.eq_iff_iff,decide_eq_true_iff,@decide_eq_true_iff _ (Classical.propDecidable _),Nx,eU];exact⟨fun h x hx=>h x (asub x hx) hx,fun h x _ hx=>h x hx⟩
 have b5:decide (Builtin.bitAnd (numOf (W.tasks.map (·.1)) S) (numOf (W.tasks.map (·.1)) (iW W t.1))=0)=@decide (∀x∈iW W t.1,x∉S) (Classical.propDecidable _):=by rw[Bool.eq_iff_iff,decide_eq_true_iff,@decide_eq_true_iff _ (Classical.propDecidable _),o4];exact⟨fun h x hx hs=>h x (psub x hx) ⟨hs,hx⟩,fun h x _ z=>h x z.2 z.1⟩
 have fF:Box (t.1∈S->okT W kind D S t=false->Fin3 Q (.bl false) H):=⟨fun h1 h2=>by
  refine Fin3.of Sub3.refl ?_
  have e0:uv W beat kind D S=false:=by
   unfold uv
   rw[Bool.and_eq_false_iff]
   refine .inl ?_
   rw[List.all_eq_false]
   exact⟨t,htm,by simp [h1,h2]⟩
  rw[e0] at k
  exact k⟩
 have fN:Box (∀(v6 v7 v8 v9 v10 v11:Option T),(t.1∈S->okT W kind D S t=true)->N [some (.ref a),some (.int beat),some (.str kind),some (.int (numOf (W.tasks.map (·.1)) D)),some (.int (numOf (W.tasks.map (·.1)) S)),some (.int (di A S+if t.1∈S then t.2.1 else 0)),v6,v7,v8,v9,v10,v11] H):=⟨fun v6 v7 v8 v9 v10 v11 h=>hN _ _ ⟨v6,v7,v8,v9,v10,v11,by rw[uw],rfl,by
  rw[List.all_append,hall]
  by_cases z:t.1∈S
  ·
   simp [h z]
  ·
   simp [z]⟩⟩
 clear hN hall k e gsub asub psub htn htm;obtain⟨nm,len,ks⟩:=t;dsimp only at *;generalize numOf (W.tasks.map (·.1)) D=nD at *;generalize numOf (W.tasks.map (·.1)) S=nS at *;simp only[ruT];generalize numOf (W.tasks.map (·.1)) [nm]=n1 at *;generalize numOf (W.tasks.map (·.1)) (fj W nm)=n2 at *;generalize numOf (W.tasks.map (·.1)) (iD W nm)=n3 at *;generalize numOf (W.tasks.map (·.1)) (iW W nm)=n4 at *;unfold okT at fF fN;dsimp only at fF fN;generalize hc1:decide (nm∈D)=c1 at *;generalize hc3:@decide (∀x∈fj W nm,x∈S) (Classical.propDecidable _)=c3 at *;generalize hc4:@decide (∀x∈iD W nm,x∈S++D) (Classical.propDecidable _)=c4 at *;generalize hc5:@decide (∀x∈iW W nm,x∉S) (Classical.propDecidable _)=c5 at *;clear hc1 hc3 hc4 hc5;walk_at "";refine⟨trivial,nS,n1,rfl,?_⟩;rw[b1];by_cases hS:nm∈S
 ·simp only[hS,decide_true,if_true,eZ,true_implies] at fF fN ⊢;refine⟨nD,n1,rfl,?_⟩;rw[b2];cases c1 with
  |true =>
   try simp only[eZ,if_true]
   exact fF.out (by simp)
  |false =>
  simp only[eZ,Bool.false_eq_true,if_false];refine⟨ks,kind,rfl,?_⟩;generalize jJ ks kind=c2 at *;cases c2 with
  |false=>simp only[eZ,Bool.not_false,if_true];exact fF.out (by simp)
  |true =>
  simp only[eZ,Bool.not_true,Bool.false_eq_true,if_false];refine⟨nS,n2,rfl,?_⟩;rw[b3];cases c3 with
  |false=>simp only[eZ,Bool.not_false,if_true];exact fF.out (by simp)
  |true =>
  simp only[eZ,Bool.not_true,Bool.false_eq_true,if_false];refine⟨Builtin.bitOr nS nD,n3,rfl,?_⟩;rw[b4];cases c4 with
  |false=>simp only[eZ,Bool.not_false,if_true];exact fF.out (by simp)
  |true =>
  simp only[eZ,Bool.not_true,Bool.false_eq_true,if_false];try rw[b5]
  cases c5 with
  |false=>simp only[Bool.not_false,if_true];exact fF.out (by simp)
  |true =>
  simp only[Bool.not_true,Bool.false_eq_true,if_false];exact fN.out _ _ _ _ _ _ (by simp)
 simp only[hS,decide_false,Bool.false_eq_true,if_false,eZ,Int.add_zero,false_implies] at fF fN ⊢;exact fN.out _ _ _ _ _ _ (by first | trivial | simp)
abbrev lN:List Str:=["works","number","tasks","left","task"]
theorem sc_tasks_of:FnScope lN ["works","number"] (aA (top 16)):=bu
theorem rW {f:Addr}{fd:FuncData}(g:G3 K mg "tasks_of" (top 16) ["works","number"] f fd) (B:Bl mg):Cal P w K mg base 1 "tasks_of" (top 16) ["works","number"] Jj:=by
 refine⟨f,fd,g,?_⟩;refine fn3 g.fn sc_tasks_of (fun ts H Q h=>?_) (fun cdv A outer s H E ts H3 Q hr h=>?_)
 ·obtain⟨W,n,rfl,_⟩:=h;rfl
 have hu30:=Room.u30 hr;obtain⟨⟨tk,ors,prs,row⟩,n,rfl,hW,n0,n1,k⟩:=h;refine⟨_,(aj (aG (i:=2) sc_tasks_of.nd (bh ak))
   (aj (aG (i:=3) sc_tasks_of.nd (v3 1))
   (aj (bx PassesOwn.never rfl (cg (aK ix3 (v3 0) ao)) (aD (i:=4) sc_tasks_of.nd) (aj (bK (aX (dG hu30) (aF aU (v3 3) ao) ao) (au (bW (d9 PySem.F.plainAttrs_list PySem.F.slot_list_append PySem.F.type_list_append bG (v3 2) (aa (aK ix3 (v3 4) ao) ak)))) aR)
    (au (aG (i:=3) sc_tasks_of.nd (aF bc (v3 3) ao)))))
   (au (aM (bL dh rfl B.tuple_ cF (aa (v3 2) ak))))))),?_⟩
 rw[show aQ lN [Wk.enc ⟨tk,ors,prs,row⟩,T.int n]=[some (T.tup [T.tup (tk.map tkT),T.tup (ors.map orT),T.tup (prs.map prT),T.tup (row.map T.str)]),some (T.int n),none,none,none] from rfl];have hsz:sizeLine=16777216:=rfl;have t8:tk.length<=8:=hW.t8;walk_at "";refine⟨by omega,fun p hp=>?_⟩;refine gM (fun r Z H=>∃(A B:List (Str × Int × List Str)) (v:Option T),tk=A++B/\r=B.map tkT/\H=up3 H3 p (.lst ((pick (A.map (·.1)) n).map T.str))/\Z=[some (T.tup [T.tup (tk.map tkT),T.tup (ors.map orT),T.tup (prs.map prT),T.tup (row.map T.str)]),some (.int n),some (.ref p),some (.int (n / 2^A.length)),v]) ⟨[],tk,none,rfl,rfl,rfl,by simp⟩ ?_ ?_
 ·rintro Z H ⟨A,B,v,e1,e2,rfl,rfl⟩;have hB:B=[]:=List.map_eq_nil_iff.mp e2.symm;subst hB;rw[List.append_nil] at e1;subst e1;clear e2;refine⟨trivial,?_⟩;walk_at "";exact Fin3.of (Sub3.new hp) k
 rintro x r Z H N ⟨A,B,v,e1,e2,rfl,rfl⟩ hN;cases B with
 |nil=>cases e2
 |cons t B =>
 rw[List.map_cons,List.cons.injEq] at e2;obtain⟨rfl,rfl⟩:=e2;have hlA:A.length+1<=8:=by have:=congrArg List.length e1;simp only[List.length_append,List.length_cons] at this;omega
 have epk:=qU (A.map (·.1)) [t.1] n;simp only[pick,List.length_map] at epk;have pkl:=vR (A.map (·.1)) n;rw[List.length_map] at pkl;have epw:n / 2^A.length / 2=n / 2^(A++[t]).length:=by rw[List.length_append,List.length_singleton,Int.pow_succ,Int.ediv_ediv_of_nonneg (Int.le_of_lt (Int.pow_pos (by decide)))]
 have fin:∀v,N [some (T.tup [T.tup (tk.map tkT),T.tup (ors.map orT),T.tup (prs.map prT),T.tup (row.map T.str)]),some (.int n),some (.ref p),some (.int (n / 2^A.length / 2)),v] (up3 H3 p (.lst ((pick (A.map (·.1)++[t.1]) n).map T.str))):=fun v=>by rw[epw];exact hN _ _ ⟨A++[t],B,v,by rw[e1];simp,rfl,by simp,rfl⟩
 rw[epk] at fin;replace fin:=Box.mk fin;obtain⟨nm,len,ks⟩:=t;refine⟨trivial,?_⟩;clear hN e1 k epk epw;simp only[tkT,sT];walk_at "";try simp only[true_and]
 refine⟨by decide,?_⟩;by_cases hb:n / 2^A.length%2=1
 ·simp only[hb,if_true,decide_true] at fin ⊢;refine⟨by omega,?_⟩;have fo:=fin.out (some (T.tup [T.str nm,T.int len,T.tup (ks.map T.str)]));rw[List.map_append] at fo;exact⟨⟨by decide,by decide +kernel⟩,fo⟩
 simp only[hb,if_false,decide_false,Bool.false_eq_true,List.append_nil] at fin ⊢;exact⟨⟨by decide,by decide +kernel⟩,fin.out _⟩
end
def CK (K:Frag):Bool:=K.all fun p=>!(p.2.cls==.type "list")
theorem CN {K:Frag}{a:Addr}{o:Obj}(e:K.lookup a=some o):(a,o)∈K:=by
 induction K with
 |nil=>cases e
 |cons p r ih =>
 obtain⟨b,u⟩:=p;rw[List.lookup_cons] at e;split at e
 ·rename_i h;rw[eq_of_beq h,Option.some.inj e];exact List.mem_cons_self
 exact List.mem_cons_of_mem _ (ih e)
theorem xW {K:Frag}(h:CK K=true) {a:Addr}{o:Obj}(e:K.lookup a=some o):o.cls≠.type "list":=fun z=>by
 have hm:(a,o)∈K:=CN e;have q:=List.all_eq_true.mp h (a,o) hm;rw[z] at q;simp at q
theorem uc {n:Nat}{us:List Value}(h:us.length=n+1):∃(a:Value) (r:List Value),us=a::r/\r.length=n:=by
 cases us with
 |nil=>exact nomatch h
 |cons a r=>exact⟨a,r,rfl,Nat.succ.inj h⟩
theorem uz {us:List Value}(h:us.length=0):us=[]:=List.eq_nil_of_length_eq_zero h
theorem ub1 {fd:FuncData}{x0:Str}(h:∀a0:Value,bindArgs fd ⟨[a0],[]⟩=pure ([x0].zip [a0])) (us:List Value) (e:us.length=1):bindArgs fd ⟨us,[]⟩=pure ([x0].zip us):=by
 obtain⟨a0,r0,q0,e0⟩:=uc e;rw[q0,uz e0];exact h a0
theorem ub2 {fd:FuncData}{x0 x1:Str}(h:∀a0 a1:Value,bindArgs fd ⟨[a0,a1],[]⟩=pure ([x0,x1].zip [a0,a1])) (us:List Value) (e:us.length=2):bindArgs fd ⟨us,[]⟩=pure ([x0,x1].zip us):=by
 obtain⟨a0,r0,q0,e0⟩:=uc e;obtain⟨a1,r1,q1,e1⟩:=uc e0;rw[q0,q1,uz e1];exact h a0 a1
theorem ub3 {fd:FuncData}{x0 x1 x2:Str}(h:∀a0 a1 a2:Value,bindArgs fd ⟨[a0,a1,a2],[]⟩=pure ([x0,x1,x2].zip [a0,a1,a2])) (us:List Value) (e:us.length=3):bindArgs fd ⟨us,[]⟩=pure ([x0,x1,x2].zip us):=by
 obtain⟨a0,r0,q0,e0⟩:=uc e;obtain⟨a1,r1,q1,e1⟩:=uc e0;obtain⟨a2,r2,q2,e2⟩:=uc e1;rw[q0,q1,q2,uz e2];exact h a0 a1 a2
theorem ub4 {fd:FuncData}{x0 x1 x2 x3:Str}(h:∀a0 a1 a2 a3:Value,bindArgs fd ⟨[a0,a1,a2,a3],[]⟩=pure ([x0,x1,x2,x3].zip [a0,a1,a2,a3])) (us:List Value) (e:us.length=4):bindArgs fd ⟨us,[]⟩=pure ([x0,x1,x2,x3].zip us):=by
 obtain⟨a0,r0,q0,e0⟩:=uc e;obtain⟨a1,r1,q1,e1⟩:=uc e0;obtain⟨a2,r2,q2,e2⟩:=uc e1;obtain⟨a3,r3,q3,e3⟩:=uc e2;rw[q0,q1,q2,q3,uz e3];exact h a0 a1 a2 a3
theorem ub5 {fd:FuncData}{x0 x1 x2 x3 x4:Str}(h:∀a0 a1 a2 a3 a4:Value,bindArgs fd ⟨[a0,a1,a2,a3,a4],[]⟩=pure ([x0,x1,x2,x3,x4].zip [a0,a1,a2,a3,a4])) (us:List Value) (e:us.length=5):bindArgs fd ⟨us,[]⟩=pure ([x0,x1,x2,x3,x4].zip us):=by
 obtain⟨a0,r0,q0,e0⟩:=uc e;obtain⟨a1,r1,q1,e1⟩:=uc e0;obtain⟨a2,r2,q2,e2⟩:=uc e1;obtain⟨a3,r3,q3,e3⟩:=uc e2;obtain⟨a4,r4,q4,e4⟩:=uc e3;rw[q0,q1,q2,q3,q4,uz e4];exact h a0 a1 a2 a3 a4
theorem Vi {K:Frag}{h:Heap}{mg:Str->Option Value}{x:Str}{st:Stmt}{ps:List Str}{f:Addr}{oc:Value}{od an:Option Addr}{osl:Array (Option Value)}{kV doc pm cdv ct:Value}(X:K.In h) (G:h.Ns mainGlobals mg)
  (a:nsIn K mainGlobals x=some (some (.ref f))) (l:K.lookup f=some ⟨oc,od,.func (fnOf x x (bM st) (bB st) (aA st) .none kV doc pm an cdv ct),osl⟩) (c:codeIn K cdv x=true) (k:keepIn K (.ref f)=true)
  (hb:∀(kV doc pm:Value) (an:Option Addr) (cdv ct:Value) (us:List Value),us.length=ps.length->bindArgs (fnOf x x (bM st) (bB st) (aA st) .none kV doc pm an cdv ct) ⟨us,[]⟩=pure (ps.zip us)) :
  G3 K mg x st ps f (fnOf x x (bM st) (bB st) (aA st) .none kV doc pm an cdv ct) :=
 have F:=j4 (st:=st) l c k
 ⟨F,F.binds hb,mg_of X G a⟩
theorem cL (i:Nat) (ps:List Str) (x:Str) (f:Addr) (m:Str) (t c:Nat) {K:Frag}{h:Heap}{mg:Str->Option Value}(X:K.In h) (G:h.Ns mainGlobals mg)
  (hb:∀(kV doc pm:Value) (an:Option Addr) (cdv ct:Value) (us:List Value),us.length=ps.length->bindArgs (fnOf x x (bM (top i)) (bB (top i)) (aA (top i)) .none kV doc pm an cdv ct) ⟨us,[]⟩=pure (ps.zip us))
  (a:nsIn K mainGlobals x=some (some (.ref f)):=by kernel_rfl) (l:K.lookup f=some (fO i x m t c):=by kernel_rfl) (e:codeIn K (.ref c) x=true:=by kernel_rfl) (k:keepIn K (.ref f)=true:=by kernel_rfl) :
  G3 K mg x (top i) ps f (fnOf x x (bM (top i)) (bB (top i)) (aA (top i)) .none .none .none (.str m t) none (.ref c) .none) :=
 Vi X G a l e k hb
def T7:Stmt->Pos->Pos
 |.FunctionDef _ _ _ _ _ _ _ _ _ p,_=>p
 |_,p=>p
def dv:DefRec:=⟨"law",bM (top 42),bB (top 42),aA (top 42),T7 (top 42) default⟩
theorem all_ok {l:PySem.W.OpenLaw}{w:World}{h:Heap}{mg:Str->Option Value}{fa:Addr}(X:(KK w.params).In h) (G:h.Ns mainGlobals mg) (hfa:mg "law"=some (.ref fa)) :
  ∃fd:FuncData,(∀(s:Shared) (v:Value),BindsTo s fd ⟨[v],[]⟩ [("_law_script",v)])/\∀base:Heap,(KK w.params).In base->base.Ns mainGlobals mg->FnOk3 l.prog w (KK w.params) mg base 8 fa fd ["_law_script"] ww:=by
 have at_:∀{n:Str} {v:Value},nsIn (KK w.params) mainGlobals n=some (some v)->mg n=some v:=fun e=>mg_of X G e;have no_:∀{n:Str},nsIn (KK w.params) mainGlobals n=some none->mg n=none:=fun e=>PySem.W.mg_none_of X G e;have e:=hfa.symm.trans (at_ (v:=.ref 273) (by kernel_rfl));cases e;have B:Bl mg:=⟨no_ (by kernel_rfl),no_ (by kernel_rfl),no_ (by kernel_rfl),no_ (by kernel_rfl),no_ (by kernel_rfl),no_ (by kernel_rfl),no_ (by kernel_rfl),no_ (by kernel_rfl),no_ (by kernel_rfl),no_ (by kernel_rfl),no_ (by kernel_rfl),no_ (by kernel_rfl),no_ (by kernel_rfl),no_ (by kernel_rfl),no_ (by kernel_rfl),no_ (by kernel_rfl),no_ (by kernel_rfl),no_ (by kernel_rfl),no_ (by kernel_rfl),no_ (by kernel_rfl)⟩;have g__wall:=cL 0 ["k"] "_wall" 21 "__main__" 164 20 X G fun _ _ _ _ _ _=>ub1 fun _=>rfl;have g_links_of:=cL 2 ["works"] "links_of" 28 "stationrow.chains" 194 27 X G fun _ _ _ _ _ _=>ub1 fun _=>rfl;have g_reached:=cL 3 ["links","start"] "reached" 35 "stationrow.chains" 194 34 X G fun _ _ _ _ _ _=>ub2 fun _ _=>rfl;have g_led_to:=cL 4 ["works","task"] "led_to" 42 "stationrow.chains" 194 41 X G fun _ _ _ _ _ _=>ub2 fun _ _=>rfl;have g_led_from:=cL 5 ["works","task"] "led_from" 47 "stationrow.chains" 194 46 X G fun _ _ _ _ _ _=>ub2 fun _ _=>rfl;have g_in_both:=cL 6 ["works","found","other"] "in_both" 52 "stationrow.chains" 194 51 X G fun _ _ _ _ _ _=>ub3 fun _ _ _=>rfl;have g_in_first_alone:=cL 7 ["works","found","other"] "in_first_alone" 57 "stationrow.chains" 194 56 X G fun _ _ _ _ _ _=>ub3 fun _ _ _=>rfl;have g_group_of:=cL 8 ["works","task"] "group_of" 64 "stationrow.chains" 194 63 X G fun _ _ _ _ _ _=>ub2 fun _ _=>rfl;have g_ahead_of:=cL 9 ["works","task"] "ahead_of" 71 "stationrow.chains" 194 70 X G fun _ _ _ _ _ _=>ub2 fun _ _=>rfl;have g_may_be_done:=cL 11 ["kinds","kind"] "may_be_done" 78 "stationrow.checks" 261 77 X G fun _ _ _ _ _ _=>ub2 fun _ _=>rfl;have g_names_of:=cL 13 ["tasks"] "names_of" 83 "stationrow.texts" 271 82 X G fun _ _ _ _ _ _=>ub1 fun _=>rfl;have g_number_of:=cL 15 ["works","tasks"] "number_of" 90 "stationrow.sets" 279 89 X G fun _ _ _ _ _ _=>ub2 fun _ _=>rfl;have g_tasks_of:=cL 16 ["works","number"] "tasks_of" 97 "stationrow.sets" 279 96 X G fun _ _ _ _ _ _=>ub2 fun _ _=>rfl;have g_apart_from:=cL 18 ["works","task"] "apart_from" 102 "stationrow.fillings" 303 101 X G fun _ _ _ _ _ _=>ub2 fun _ _=>rfl;have g_rules_of:=cL 19 ["works"] "rules_of" 109 "stationrow.fillings" 303 108 X G fun _ _ _ _ _ _=>ub1 fun _=>rfl;have g_has_all:=cL 20 ["number","part"] "has_all" 116 "stationrow.fillings" 303 115 X G fun _ _ _ _ _ _=>ub2 fun _ _=>rfl;have g_is_filling_number:=cL 21 ["rules","beat","kind","done","number"] "is_filling_number" 123 "stationrow.fillings" 303 122 X G fun _ _ _ _ _ _=>ub5 fun _ _ _ _ _=>rfl;have g_greatest_numbers:=cL 22 ["numbers"] "greatest_numbers" 128 "stationrow.fillings" 303 127 X G fun _ _ _ _ _ _=>ub1 fun _=>rfl;have g_parts_of:=cL 24 ["number"] "parts_of" 133 "stationrow.walks" 358 132 X G fun _ _ _ _ _ _=>ub1 fun _=>rfl;have g_ways_behind:=cL 27 ["walk","stand","ways"] "ways_behind" 185 "stationrow.dealt" 428 184 X G fun _ _ _ _ _ _=>ub3 fun _ _ _=>rfl;have g_dealing_to:=cL 28 ["works","beat","many"] "dealing_to" 192 "stationrow.dealt" 428 191 X G fun _ _ _ _ _ _=>ub3 fun _ _ _=>rfl;have g_cell:=cL 30 ["_law_script","_law_k"] "_law_cell" 199 mlw 455 198 X G fun _ _ _ _ _ _=>ub2 fun _ _=>rfl;have g_word:=cL 31 ["_law_cell_here"] "_law_word" 206 mlw 455 205 X G fun _ _ _ _ _ _=>ub1 fun _=>rfl;have g_unlike:=cL 32 ["_law_words"] "_law_unlike" 213 mlw 455 212 X G fun _ _ _ _ _ _=>ub1 fun _=>rfl;have g_pool:=cL 33 ["_law_cell_here"] "_law_pool" 220 mlw 455 219 X G fun _ _ _ _ _ _=>ub1 fun _=>rfl;have g_task:=cL 34 ["_law_cell_here","_law_row","_law_pool_here","_law_unit"] "_law_task" 227 mlw 455 226 X G fun _ _ _ _ _ _=>ub4 fun _ _ _ _=>rfl;have g_links:=cL 35 ["_law_script","_law_names","_law_some"] "_law_links" 232 mlw 455 231 X G fun _ _ _ _ _ _=>ub3 fun _ _ _=>rfl;have g_works:=cL 36 ["_law_script","_law_most","_law_wide"] "_law_works" 237 mlw 455 236 X G fun _ _ _ _ _ _=>ub3 fun _ _ _=>rfl;have g_loads:=cL 37 ["_law_works_here","_law_stands"] "_law_loads" 244 mlw 455 243 X G fun _ _ _ _ _ _=>ub2 fun _ _=>rfl;have g_beat:=cL 38 ["_law_cell_here","_law_works_here","_law_stands"] "_law_beat" 249 mlw 455 248 X G fun _ _ _ _ _ _=>ub3 fun _ _ _=>rfl;have g_drawn:=cL 39 ["_law_script","_law_most","_law_wide"] "_law_drawn" 256 mlw 455 255 X G fun _ _ _ _ _ _=>ub3 fun _ _ _=>rfl;have g_right:=cL 40 ["_law_works_here","_law_beat_here","_law_dealing"] "_law_right" 261 mlw 455 260 X G fun _ _ _ _ _ _=>ub3 fun _ _ _=>rfl;have g_is_dealing:=cL 41 ["_law_works_here","_law_beat_here","_law_many","_law_found"] "_law_is_dealing" 266 mlw 455 265 X G fun _ _ _ _ _ _=>ub4 fun _ _ _ _=>rfl;have g_law:=cL 42 ["_law_script"] "law" 273 mlw 455 272 X G fun _ _ _ _ _ _=>ub1 fun _=>rfl;refine⟨fnOf "law" "law" (bM (top 42)) (bB (top 42)) (aA (top 42)) .none .none .none (.str mlw 455) none (.ref 272) .none,fun s v=>.of_eq rfl,fun base _ _=>?_⟩;have Cls_Walk:Cls (KK w.params) 174:=⟨by kernel_rfl,by kernel_rfl,by kernel_rfl,by kernel_rfl⟩;have NF_Walk:∀n∈(["works","beat","rules","whole"]:List Str),findIn (KK w.params) (.ref 174) n=some none:=fun n hn=>by
  rcases List.mem_cons.mp hn with rfl | hn
  ·kernel_rfl
  rcases List.mem_cons.mp hn with rfl | hn
  ·kernel_rfl
  rcases List.mem_cons.mp hn with rfl | hn
  ·kernel_rfl
  rw[List.mem_singleton.mp hn];kernel_rfl
 have I_Walk:InsC (KK w.params) 174 ["works","beat","rules","whole"]:=⟨Cls_Walk,NF_Walk⟩;have fw___init__:Fun (KK w.params) "__init__" "Walk.__init__" (topm 25 0) 147 (fnOf "__init__" "Walk.__init__" (bM (topm 25 0)) (bB (topm 25 0)) (aA (topm 25 0)) .none .none .none (.str "stationrow.walks" 358) none (.ref 146) .none):=j4 (oc:=.type "function") (od:=none) (osl:=#[]) (by kernel_rfl) (by kernel_rfl) (by kernel_rfl);have g_Walk:GI (KK w.params) mg 174 "Walk" "Walk.__init__" (topm 25 0) ["self","works","beat"] 147 _:=⟨⟨by kernel_rfl,by kernel_rfl,by kernel_rfl,by kernel_rfl⟩,fw___init__,fw___init__.binds fun _ _ _ _ _ _=>ub3 fun _ _ _=>rfl,at_ (v:=.ref 174) (by kernel_rfl)⟩;have fw_fillings_at:Fun (KK w.params) "fillings_at" "Walk.fillings_at" (topm 25 1) 152 (fnOf "fillings_at" "Walk.fillings_at" (bM (topm 25 1)) (bB (topm 25 1)) (aA (topm 25 1)) .none .none .none (.str "stationrow.walks" 358) none (.ref 151) .none):=j4 (oc:=.type "function") (od:=none) (osl:=#[]) (by kernel_rfl) (by kernel_rfl) (by kernel_rfl);have g_fillings_at:GM (KK w.params) 174 "fillings_at" "Walk.fillings_at" (topm 25 1) ["self","stand","done"] 152 _:=⟨Cls_Walk,fw_fillings_at,fw_fillings_at.binds fun _ _ _ _ _ _=>ub3 fun _ _ _=>rfl,⟨by kernel_rfl,by kernel_rfl,by kernel_rfl⟩⟩;have fw_greatest_at:Fun (KK w.params) "greatest_at" "Walk.greatest_at" (topm 25 2) 159 (fnOf "greatest_at" "Walk.greatest_at" (bM (topm 25 2)) (bB (topm 25 2)) (aA (topm 25 2)) .none .none .none (.str "stationrow.walks" 358) none (.ref 158) .none):=j4 (oc:=.type "function") (od:=none) (osl:=#[]) (by kernel_rfl) (by kernel_rfl) (by kernel_rfl);have g_greatest_at:GM (KK w.params) 174 "greatest_at" "Walk.greatest_at" (topm 25 2) ["self","stand","done"] 159 _:=⟨Cls_Walk,fw_greatest_at,fw_greatest_at.binds fun _ _ _ _ _ _=>ub3 fun _ _ _=>rfl,⟨by kernel_rfl,by kernel_rfl,by kernel_rfl⟩⟩;have fw_dealing_of:Fun (KK w.params) "dealing_of" "Walk.dealing_of" (topm 25 4) 171 (fnOf "dealing_of" "Walk.dealing_of" (bM (topm 25 4)) (bB (topm 25 4)) (aA (topm 25 4)) .none .none .none (.str "stationrow.walks" 358) none (.ref 170) .none):=j4 (oc:=.type "function") (od:=none) (osl:=#[]) (by kernel_rfl) (by kernel_rfl) (by kernel_rfl);have g_dealing_of:GM (KK w.params) 174 "dealing_of" "Walk.dealing_of" (topm 25 4) ["self","fillings"] 171 _:=⟨Cls_Walk,fw_dealing_of,fw_dealing_of.binds fun _ _ _ _ _ _=>ub2 fun _ _=>rfl,⟨by kernel_rfl,by kernel_rfl,by kernel_rfl⟩⟩;have F_cell:=G9 (P:=l.prog) (w:=w) (base:=base) g_cell B;have F_word:=Ha (P:=l.prog) (w:=w) (base:=base) g_word B;have F_unlike:=xT (P:=l.prog) (w:=w) (base:=base) g_unlike B;have F_pool:=Hf g_pool B F_word F_unlike;have F_task:=Hg g_task B F_word;have F_links:=Cv g_links B F_cell;have F_works:=Cw g_works B F_cell F_pool F_task F_unlike F_links;have F_loads:=Cy (P:=l.prog) (w:=w) (base:=base) g_loads B;have F_beat:=Hh g_beat B F_loads;have F_drawn:=Cz g_drawn B F_works F_beat F_cell;have F_right:=CG (P:=l.prog) (w:=w) (base:=base) g_right B;have F_is_dealing:=lW g_is_dealing B F_right;have F_number_of:=pG (P:=l.prog) (w:=w) (base:=base) g_number_of B;have F_apart_from:=lZ (P:=l.prog) (w:=w) (base:=base) g_apart_from B;have F_in_first_alone:=jd (P:=l.prog) (w:=w) (base:=base) g_in_first_alone B;have F_reached:=uD (P:=l.prog) (w:=w) (base:=base) g_reached B;have F_links_of:=rG (P:=l.prog) (w:=w) (base:=base) g_links_of B;have F_led_from:=rJ g_led_from B F_reached F_links_of;have F_led_to:=xV g_led_to B F_reached F_links_of;have F_ahead_of:=rO g_ahead_of B F_in_first_alone F_led_from F_led_to;have F_in_both:=uF (P:=l.prog) (w:=w) (base:=base) g_in_both B;have F_group_of:=rM g_group_of B F_in_both F_led_to F_led_from
 have F_rules_of:=rT g_rules_of B F_number_of F_apart_from F_ahead_of F_group_of;have F_names_of:=rR (P:=l.prog) (w:=w) (base:=base) g_names_of B;have M_Walk:=Hk g_Walk B I_Walk F_rules_of F_number_of F_names_of;have F_has_all:=uH (P:=l.prog) (w:=w) (base:=base) g_has_all B;have F_greatest_numbers:=gY g_greatest_numbers B F_has_all;have F_parts_of:=rP g_parts_of B F_has_all;have F_may_be_done:=lJ (P:=l.prog) (w:=w) (base:=base) g_may_be_done B;have F_is_filling_number:=gH g_is_filling_number B F_has_all F_may_be_done;have M_fillings_at:=lL g_fillings_at B I_Walk F_parts_of F_is_filling_number;have M_greatest_at:=lF g_greatest_at B I_Walk F_greatest_numbers M_fillings_at
 have F_ways_behind:=lD g_ways_behind B I_Walk M_greatest_at
 have F_tasks_of:=rW (P:=l.prog) (w:=w) (base:=base) g_tasks_of B;have M_dealing_of:=mq g_dealing_of B I_Walk F_tasks_of;have F_dealing_to:=lX g_dealing_to B I_Walk M_Walk F_ways_behind M_dealing_of;exact Ox g_law B F_drawn F_loads F_is_dealing F_dealing_to
theorem walk {l:PySem.W.OpenLaw}{q:Program}{loose:List Str}{XP:(Str->Option Value)->Heap->Prop}{YP:World->Heap->Prop}{d:DefRec}{K:Params->Frag}(hn:l.most=some 63) (hdf:d.params.defaults=[])
  (hY:∀(w:World) (h:Heap),YP w h->(K w.params).In h) (hNL:∀w:World,CK (K w.params)=true)
  (F:∀(w:World) (mg:Str->Option Value) (fa:Addr) (h:Heap),(K w.params).In h->h.Ns mainGlobals mg->mg d.name=some (.ref fa) ->
   ∃fd:FuncData,(∀(s:Shared) (u:Value),BindsTo s fd ⟨[u],[]⟩ [("_law_script",u)])/\∀base:Heap,(K w.params).In base->base.Ns mainGlobals mg->FnOk3 l.prog w (K w.params) mg base 8 fa fd ["_law_script"] ww) :
  PySem.W.WalkO q loose XP YP l.row.toRowW d [] (fun f vs=>PySem.call f vs):=by
 refine L2.walk_of (n:=63) (k:=8) (x:="_law_script") (CX:=fun _=>CX0) (sp:=fun w=>qg (K w.params) ww) hn (by decide) hdf ⟨rfl,by decide,by decide,rfl⟩ hY F (fun w H a ns hl hO hS=>?_) fun _ _ _ _ _ z=>z;refine⟨[.ref a],fun b=>if b=a then some (.rol (ns.map T.int)) else none,fun t _=>t=.bl true,.cons .ofRef .nil,fun b o e=>?_,⟨a,ns,rfl,if_pos rfl,hl,fun _=>rfl⟩,fun v H' t H3' _ _ r q=>?_⟩
 ·dsimp only at e;by_cases hb:b=a
  ·rw[if_pos hb] at e;cases e;subst hb;rcases hS with hS | ⟨o,its,n,hk,hc,_⟩
   ·refine⟨_,hS,?_⟩;have:∀ms:List Int,Reps (K w.params) H (ms.map T.int) (ms.map V.int):=fun ms=>by
     induction ms with
     |nil=>exact .nil
     |cons m r ih=>exact .cons .ofInt ih
    exact this ns
   exact absurd hc (xW (hNL w) hk)
  rw[if_neg hb] at e;cases e
 subst q;exact r.bl
end M
open PySem PySem.W PyProof.Rows
set_option maxRecDepth 100000 in
set_option maxHeartbeats 0 in
theorem PySem.Challenge.cw_stationrow_k41_a_dealing_that_is_there_holds : PySem.Challenge.rw_stationrow_k41_a_dealing_that_is_there.Holds := by
 refine holds_law (by kernel_rfl) fun said=>?_;refine holds_open (d:=M.dv) (kwd:=[]) (q:=M.qv) (loose:=[]) (Xt:=fun s=>xlAt M.qv [] s&&recOk (RowW.records (OpenLaw.row PySem.Challenge.rw_stationrow_k41_a_dealing_that_is_there).toRowW) s) (XP:=XL M.qv []) (Yf:=Hook.obs M.HK) (Ya:=Hook.val M.HK) (YP:=Hook.says M.HK) (N:=3056) M.left (Hook.of M.HK) (Hook.keeps M.HK) (fun s e=>xl_of s (Bool.and_eq_true_iff.mp e).1) XL.keeps (by kernel_rfl) (by kernel_rfl) (by kernel_rfl) (fun s e=>recFacts_of (Bool.and_eq_true_iff.mp e).2) (by kernel_rfl) (by first | assumption | kernel_rfl) (by kernel_rfl) ⟨rfl,rfl,rfl,rfl,rfl,by decide +kernel⟩ ?hw ?hc
 case hw=>w_witness2
 case hc=>exact M.walk (l:=PySem.Challenge.rw_stationrow_k41_a_dealing_that_is_there) rfl rfl (fun w h Y=>kIn_of Y) (fun w=>by kernel_rfl) fun w mg fa h KX G hmg=>M.all_ok KX G hmg
#print axioms PySem.Challenge.cw_stationrow_k41_a_dealing_that_is_there_holds
