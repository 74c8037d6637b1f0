import PyProof.Rows.All
import Wide.All
import OpenK.AllK
import Wide.FinOn
import Lean
import PyProof.EqAt
import PyProof.EqKinds
import PyProof.TupleCall
import PyProof.NeKinds
import PyProof.StrWalks
import PyProof.Rows.SetFrom
import PyProof.WalksMore
import KE.KIntText
import PyProof.EnumMake
import PyProof.StrLawsTight
import KE.KRevSl
import PyProof.ReprRoads
import PyProof.ReprLen
import KE.KRevIter
import KE.KDictOf
import PyProof.AttrMissHeap
import KE.KSortTup
import PySem.Challenge.RW_stationrow_k14_named_and_told_otherwise
set_option Elab.async false
set_option linter.all false
set_option maxRecDepth 100000
namespace L2
open PySem PySem.Spec PyProof.Rows
abbrev Key:=Sum Int Str
noncomputable def keyIs : Key -> Value -> Bool
 | .inl k,v => Value.isInt k v
 | .inr x,v => Value.isStrOf x v
noncomputable def keyH (w : World) : Key -> Int
 | .inl k => hashInt k
 | .inr x => hashStr w x
theorem keyIs_shape : ∀ {k : Key} {v : Value},keyIs k v = true -> (∃ i t,k = Sum.inl i /\ v = Value.int i t) \/ (∃ x t,k = Sum.inr x /\ v = Value.str x t)
 | .inl i,v,h => by
  obtain ⟨t,e⟩:=Value.isInt_shape (k:=i) (v:=v) h
  exact .inl ⟨i,t,rfl,e⟩
 | .inr x,v,h => by
  obtain ⟨t,e⟩:=Value.isStrOf_shape (x:=x) (v:=v) h
  exact .inr ⟨x,t,rfl,e⟩
theorem keyIs_int (i : Int) (t : Tok) : keyIs (.inl i) (.int i t) = true:=by simp [keyIs,Value.isInt]
theorem keyIs_str (x : Str) (t : Tok) : keyIs (.inr x) (.str x t) = true:=by simp [keyIs,Value.isStrOf]
theorem key_ll (a b : Int) : decide ((Sum.inl a : Key) = Sum.inl b) = (a == b):=by
 by_cases e : a = b
 ·
  subst e; simp
 ·
  have h : ¬ (Sum.inl a : Key) = Sum.inl b:=fun q => e (Sum.inl.inj q)
  rw [decide_eq_false h]
  exact (beq_eq_false_iff_ne.mpr e).symm
theorem key_rr (a b : Str) : decide ((Sum.inr a : Key) = Sum.inr b) = decide (a = b):=by
 by_cases e : a = b
 ·
  subst e; simp
 ·
  have h : ¬ (Sum.inr a : Key) = Sum.inr b:=fun q => e (Sum.inr.inj q)
  rw [decide_eq_false h,decide_eq_false e]
theorem key_lr (a : Int) (b : Str) : decide ((Sum.inl a : Key) = Sum.inr b) = false:=decide_eq_false (fun q => nomatch q)
theorem key_rl (a : Str) (b : Int) : decide ((Sum.inr a : Key) = Sum.inl b) = false:=decide_eq_false (fun q => nomatch q)
noncomputable def mixKind (prog : Program) (w : World) : PySem.KeyKind prog w Key where
 is:=keyIs
 hash:=keyH w
 inj:=fun v a b ha hb => by
  rcases keyIs_shape ha with ⟨i,t,rfl,rfl⟩ | ⟨x,t,rfl,rfl⟩
  ·
   rcases keyIs_shape hb with ⟨j,u,rfl,e⟩ | ⟨y,u,rfl,e⟩
   ·
    injection e with e1 _; rw [e1]
   ·
    exact nomatch e
  ·
   rcases keyIs_shape hb with ⟨j,u,rfl,e⟩ | ⟨y,u,rfl,e⟩
   ·
    exact nomatch e
   ·
    injection e with e1 _; rw [e1]
 byValue:=fun k v h => by
  rcases keyIs_shape h with ⟨i,t,rfl,rfl⟩ | ⟨x,t,rfl,rfl⟩ <;> rfl
 pyHash:=fun hv h => by
  rcases keyIs_shape hv with ⟨i,t,rfl,rfl⟩ | ⟨x,t,rfl,rfl⟩
  ·
   exact wpAny_pyHash_int h
  ·
   exact wpAny_pyHash_str h
 eqBool:=fun hu hv h => by
  rcases keyIs_shape hu with ⟨i,t,rfl,rfl⟩ | ⟨x,t,rfl,rfl⟩
  ·
   rcases keyIs_shape hv with ⟨j,u,rfl,rfl⟩ | ⟨y,u,rfl,rfl⟩
   ·
    rw [key_ll] at h; exact wpAny_eqBool_int h
   ·
    rw [key_lr] at h; exact SeqAt.EqAt.int_str i t y u _ _ _ _ h
  ·
   rcases keyIs_shape hv with ⟨j,u,rfl,rfl⟩ | ⟨y,u,rfl,rfl⟩
   ·
    rw [key_rl] at h; exact SeqAt.EqAt.str_int x t j u _ _ _ _ h
   ·
    rw [key_rr] at h; exact wpAny_eqBool_str h
 «strs»:=fun k x t v h => by
  rcases keyIs_shape h with ⟨i,u,rfl,e⟩ | ⟨y,u,rfl,e⟩
  ·
   exact nomatch e
  ·
   injection e with e1 _
   subst e1
   cases v <;> rfl
theorem mixKind_int (prog : Program) (w : World) (i : Int) (t : Tok) : (mixKind prog w).is (.inl i) (.int i t) = true:=keyIs_int i t
theorem mixKind_str (prog : Program) (w : World) (x : Str) (t : Tok) : (mixKind prog w).is (.inr x) (.str x t) = true:=keyIs_str x t
end L2
namespace L2
open PySem PySem.Spec PyProof.Rows
inductive V where
 | non | bl (b : Bool) | int (i : Int) | str (x : Str) | byt (b : Array UInt8) | flt (b : UInt64) | ref (a : Addr) | ty (n : String)
 deriving DecidableEq
def RelV : V -> Value -> Prop
 | .non,u => u = Value.none
 | .bl b,u => u = Value.bool b
 | .int i,u => ∃ t,u = Value.int i t
 | .str x,u => ∃ t,u = Value.str x t
 | .byt b,u => ∃ t,u = Value.bytes b t
 | .flt b,u => ∃ t,u = Value.float b t
 | .ref a,u => u = Value.ref a
 | .ty n,u => u = Value.type n
abbrev Vals : List V -> List Value -> Prop:=Paired RelV
theorem Vals.length {xs : List V} {us : List Value} (r : Vals xs us) : xs.length = us.length:=Paired.length r
theorem Vals.get : ∀ {xs : List V} {us : List Value} {i : Nat} {x : V},Vals xs us -> xs[i]? = some x -> ∃ u,us[i]? = some u /\ RelV x u
 | _,_,_,_,.nil,e => by simp at e
 | _,_,0,_,.cons r _,e => by simp at e; subst e; exact ⟨_,rfl,r⟩
 | _,_,i + 1,x,.cons _ t,e => by
  obtain ⟨u,h1,h2⟩:=Vals.get (i:=i) (x:=x) t (by simpa using e)
  exact ⟨u,by simpa using h1,h2⟩
theorem Vals.set {x : V} {u : Value} (r : RelV x u) : ∀ {xs : List V} {us : List Value} (i : Nat),Vals xs us -> Vals (xs.set i x) (us.set i u)
 | _,_,_,.nil => .nil
 | _,_,0,.cons _ t => .cons r t
 | _,_,i + 1,.cons q t => .cons q (Vals.set r i t)
theorem Vals.append : ∀ {xs ys : List V} {us ws : List Value},Vals xs us -> Vals ys ws -> Vals (xs ++ ys) (us ++ ws)
 | _,_,_,_,.nil,s => s
 | _,_,_,_,.cons r t,s => .cons r (Vals.append t s)
theorem Vals.take : ∀ {xs : List V} {us : List Value} (n : Nat),Vals xs us -> Vals (xs.take n) (us.take n)
 | _,_,0,_ => .nil
 | _,_,_ + 1,.nil => .nil
 | _,_,n + 1,.cons r t => .cons r (Vals.take n t)
theorem Vals.drop : ∀ {xs : List V} {us : List Value} (n : Nat),Vals xs us -> Vals (xs.drop n) (us.drop n)
 | _,_,0,r => r
 | _,_,_ + 1,.nil => .nil
 | _,_,n + 1,.cons _ t => Vals.drop n t
theorem Vals.none_of : ∀ {xs : List V} {us : List Value} {i : Nat},Vals xs us -> xs[i]? = none -> us[i]? = none:=fun {xs us i} r e => by
 have h1:=r.length
 have h2 : xs.length <= i:=List.getElem?_eq_none_iff.mp e
 exact List.getElem?_eq_none_iff.mpr (by omega)
def RelO : Option V -> Option Value -> Prop
 | some v,some u => RelV v u
 | none,none => True
 | _,_ => False
def KV {κ : Type} : List (κ × V) -> List (κ × Value) -> Prop:=Paired fun (p : κ × V) (q : κ × Value) => p.1 = q.1 /\ RelV p.2 q.2
noncomputable def kV : Key -> V
 | .inl i => .int i
 | .inr x => .str x
inductive HO where
 | lst (xs : List V)
 | tup (xs : List V)
 | dK (kvs : List (Key × V)) | dT (kvs : List (List Key × V))
 | set (S : Int -> Bool) (n : Nat)
 | ins (C dx : Addr) (fs : List (Str × V))
 | own (x : Addr)
 | xd (fs : List (Str × V))
 | met (f x : Addr)
 | rng (lo hi : Int)
 | frz (o : Obj) (u : HO)
 | tbl (ps : Array Value)
 | ext (φ : Heap -> Prop)
abbrev Hp:=Addr -> Option HO
noncomputable def upd (H : Hp) (a : Addr) (o : HO) : Hp:=fun b => if b = a then some o else H b
theorem upd_same {H : Hp} {a : Addr} {o : HO} : upd H a o a = some o:=by unfold upd; rw [if_pos rfl]
theorem upd_ne {H : Hp} {a b : Addr} {o : HO} (h : b ≠ a) : upd H a o b = H b:=by unfold upd; rw [if_neg h]
theorem ne_of {H : Hp} {a b : Addr} {o u : HO} (h : H a = some o) (h' : H b = some u) (d : o ≠ u) : a ≠ b:=by
 intro e; subst e; rw [h] at h'; exact d (Option.some.inj h')
theorem ne_of_none {H : Hp} {a b : Addr} {o : HO} (h : H a = some o) (h' : H b = none) : a ≠ b:=by
 intro e; subst e; rw [h] at h'; cases h'
def Tup0 (h : Heap) (a : Addr) (items : Array Value) : Prop:=∃ o,h.get? a = some o /\ o.cls = .type "tuple" /\ ∃ n,o.data = .seq items n /\ o.dict = none
theorem Tup0.is {h : Heap} {a : Addr} {items : Array Value} (x : Tup0 h a items) : IsTup h a items:=by
 obtain ⟨o,ho,hc,n,hd,_⟩:=x
 exact ⟨o,ho,hc,n,hd⟩
theorem Tup0.new (h : Heap) (items : Array Value) : Tup0 (h.push { cls:=.type "tuple",data:=.seq items }) h.objs.size items:=⟨_,Heap.get?_push_size _ rfl,rfl,_,rfl,rfl⟩
section
variable (P : Program) (w : World)
def ObjOk (H : Hp) (h : Heap) (a : Addr) : HO -> Prop
 | .lst xs => xs.length <= sizeLine /\ ∃ (its : List Value) (n : Nat),Vals xs its /\ h.get? a = some { cls:=.type "list",data:=.seq its.toArray n }
 | .tup xs => xs.length <= sizeLine /\ ∃ its : List Value,Vals xs its /\ Tup0 h a its.toArray
 | .dK kvs => kvs.length <= sizeLine /\ (a == sysModules) = false /\ ∃ vs,KV kvs vs /\ h.DictOf (mixKind P w) a vs
 | .dT kvs => kvs.length <= sizeLine /\ (a == sysModules) = false /\ ∃ xs : List (List Key × Addr × Value),
   Paired (fun (p : List Key × V) (q : List Key × Addr × Value) => p.1 = q.1 /\ H q.2.1 = some (.tup (p.1.map kV)) /\ RelV p.2 q.2.2) kvs xs /\
   ∃ o es ep,h.get? a = some o /\ o.ExactDict /\ o.data = .dict es ep /\ es.toList = xs.map (entryOfKey (tupleKind (mixKind P w))) /\ (xs.map (·.1)).Nodup
 | .set S n => h.SetOf (intKind P w) a S n
 | .ins C dx fs => H dx = some (.own a) /\ fs.length <= 1000 /\ dx ≠ a /\ h.get? a = some (PySem.W.instObj C dx) /\
   ∃ mA,h.Ns1 dx mA /\ (∀ f,RelO (fs.lookup f) (mA f)) /\ PySem.Within mA (fs.map (·.1))
 | .own _ => ∃ o,h.get? a = some o
 | .xd fs => ∃ mA,h.Ns1 a mA /\ ∀ f,RelO (fs.lookup f) (mA f)
 | .rng lo hi => ∃ t u v,h.get? a = some { cls:=.type "range",data:=.fields #[.int lo t,.int hi u,.int 1 v] }
 | .frz o u => h.get? a = some o /\ ObjOk H h a u
 | .tbl ps => h.get? a = some { cls:=.none,data:=.fields ps }
 | .met f x => h.get? a = some (PySem.W.methodObj (.ref f) (.ref x))
 | .ext φ => φ h /\ (∃ o,h.get? a = some o) /\ ∀ h1 h2 : Heap,φ h1 -> (∀ o,h1.get? a = some o -> h2.get? a = some o) -> φ h2
def HOk (H : Hp) (h : Heap) : Prop:=∀ a o,H a = some o -> ObjOk P w H h a o
end
section
variable {P : Program} {w : World} {H H' : Hp} {h h' : Heap} {a : Addr} {o : HO}
theorem ObjOk.lt (x : ObjOk P w H h a o) : a < h.objs.size:=by
 cases o with
 | lst xs => obtain ⟨_,_,_,_,e⟩:=x; exact Heap.lt_size e
 | tup xs => obtain ⟨_,_,_,p⟩:=x; exact p.is.lt
 | dK kvs => obtain ⟨_,_,_,_,o,_,_,e,_⟩:=x; exact Heap.lt_size e
 | dT kvs => obtain ⟨_,_,_,_,o,_,_,e,_⟩:=x; exact Heap.lt_size e
 | set S n => obtain ⟨o,_,_,_,e,_⟩:=x; exact Heap.lt_size e
 | ins C dx fs => obtain ⟨_,_,_,e,_⟩:=x; exact Heap.lt_size e
 | own y => obtain ⟨_,e⟩:=x; exact Heap.lt_size e
 | xd fs => obtain ⟨_,⟨_,_,_,e,_⟩,_⟩:=x; exact Heap.lt_size e
 | rng lo hi => obtain ⟨_,_,_,e⟩:=x; exact Heap.lt_size e
 | frz ob u => obtain ⟨e,_⟩:=x; exact Heap.lt_size e
 | tbl ps => exact Heap.lt_size (show h.get? a = some _ from x)
 | met f y => exact Heap.lt_size (show h.get? a = some _ from x)
 | ext φ => obtain ⟨_,⟨_,e⟩,_⟩:=x; exact Heap.lt_size e
theorem Paired.mapP {α β : Type} {F G : α -> β -> Prop} : ∀ {l₁ : List α} {l₂ : List β},Paired F l₁ l₂ -> (∀ a b,F a b -> G a b) -> Paired G l₁ l₂
 | _,_,.nil,_ => .nil
 | _,_,.cons r t,f => .cons (f _ _ r) (Paired.mapP t f)
theorem ObjOk.stay (x : ObjOk P w H h a o) (k : ∀ b u,(b = a \/ H b = some (.own a)) -> h.get? b = some u -> h'.get? b = some u)
  (ho : ∀ b,H b = some (.own a) -> H' b = some (.own a)) (ht : ∀ b xs,H b = some (.tup xs) -> H' b = some (.tup xs)) : ObjOk P w H' h' a o:=by
 induction o with
 | lst xs => obtain ⟨z,its,n,r,e⟩:=x; exact ⟨z,its,n,r,k _ _ (.inl rfl) e⟩
 | tup xs => obtain ⟨z,its,r,ob,e,c⟩:=x; exact ⟨z,its,r,ob,k _ _ (.inl rfl) e,c⟩
 | dK kvs => obtain ⟨z,y,vs,r,ob,es,ep,e,c⟩:=x; exact ⟨z,y,vs,r,ob,es,ep,k _ _ (.inl rfl) e,c⟩
 | dT kvs =>
  obtain ⟨z,y,xs,r,ob,es,ep,e,c⟩:=x
  exact ⟨z,y,xs,Paired.mapP r fun p q z => ⟨z.1,ht _ _ z.2.1,z.2.2⟩,ob,es,ep,k _ _ (.inl rfl) e,c⟩
 | set S n => obtain ⟨ob,es,ep,t,e,c⟩:=x; exact ⟨ob,es,ep,t,k _ _ (.inl rfl) e,c⟩
 | ins C dx fs =>
  obtain ⟨d,z,ne,e,mA,⟨od,es,ep,e2,c⟩,r⟩:=x
  exact ⟨ho _ d,z,ne,k _ _ (.inl rfl) e,mA,⟨od,es,ep,k _ _ (.inr d) e2,c⟩,r⟩
 | own y => obtain ⟨ob,e⟩:=x; exact ⟨ob,k _ _ (.inl rfl) e⟩
 | xd fs => obtain ⟨mA,⟨od,es,ep,e,c⟩,r⟩:=x; exact ⟨mA,⟨od,es,ep,k _ _ (.inl rfl) e,c⟩,r⟩
 | rng lo hi => obtain ⟨t,u,v,e⟩:=x; exact ⟨t,u,v,k _ _ (.inl rfl) e⟩
 | frz ob u ih => obtain ⟨e,q⟩:=x; exact ⟨k _ _ (.inl rfl) e,ih q⟩
 | tbl ps =>
  have e : h.get? a = some { cls:=.none,data:=.fields ps }:=x
  show h'.get? a = some { cls:=.none,data:=.fields ps }
  exact k a _ (.inl rfl) e
 | met f y =>
  have e : h.get? a = some (PySem.W.methodObj (.ref f) (.ref y)):=x
  show h'.get? a = some (PySem.W.methodObj (.ref f) (.ref y))
  exact k a _ (.inl rfl) e
 | ext φ => obtain ⟨p,⟨o,e⟩,st⟩:=x; exact ⟨st _ _ p fun o q => k _ _ (.inl rfl) q,⟨o,k _ _ (.inl rfl) e⟩,st⟩
theorem HOk.lt (x : HOk P w H h) (e : H a = some o) : a < h.objs.size:=(x a o e).lt
theorem HOk.fresh (x : HOk P w H h) (e : h.objs.size <= a) : H a = none:=by
 cases q : H a with
 | none => rfl
 | some u => exact absurd (Nat.lt_of_lt_of_le (x.lt q) e) (Nat.lt_irrefl _)
theorem HOk.kept (x : HOk P w H h) (k : ∀ b u,h.get? b = some u -> h'.get? b = some u) : HOk P w H h':=fun a o e =>
 (x a o e).stay (fun b u _ q => k b u q) (fun _ q => q) fun _ _ q => q
theorem HOk.laid (x : HOk P w H h) (k : ∀ b u,h.get? b = some u -> h'.get? b = some u) (hp : h.objs.size <= a) (new : ObjOk P w (upd H a o) h' a o) : HOk P w (upd H a o) h':=fun b u e => by
 have hn:=x.fresh hp
 by_cases hb : b = a
 ·
  subst hb; rw [upd_same] at e; cases e; exact new
 ·
  rw [upd_ne hb] at e
  exact (x b u e).stay (fun c v _ q => k c v q) (fun c q => by rw [upd_ne (ne_of_none q hn)]; exact q) fun c xs q => by rw [upd_ne (ne_of_none q hn)]; exact q
end
def Rd (H : Hp) (a : Addr) (u : HO) : Prop:=H a = some u \/ ∃ o,H a = some (.frz o u)
theorem Rd.of {H : Hp} {a : Addr} {u : HO} (h : H a = some u) : Rd H a u:=.inl h
theorem Rd.ok {P : Program} {w : World} {H : Hp} {h : Heap} {a : Addr} {u : HO} (r : Rd H a u) (x : HOk P w H h) : ObjOk P w H h a u:=by
 rcases r with r | ⟨o,r⟩
 ·
  exact x a u r
 ·
  obtain ⟨_,q⟩:=x a _ r
  exact q
def Mut : Option HO -> Prop
 | some (.lst _) => True
 | some (.dK _) => True
 | some (.dT _) => True
 | some (.set _ _) => True
 | some (.ins _ _ _) => True
 | some (.ext _) => True
 | _ => False
section
variable {P : Program} {w : World} {H : Hp} {h h' : Heap} {x e : Addr} {o' : HO}
theorem HOk.write (ok : HOk P w H h) (mu : Mut (H x)) (he : e = x \/ H e = some (.own x)) (k : ∀ b u,b ≠ e -> h.get? b = some u -> h'.get? b = some u) (heo : ∃ u,h'.get? e = some u)
  (new : ObjOk P w (upd H x o') h' x o') : HOk P w (upd H x o') h':=fun b u q => by
 have nown : ∀ c y,H c = some (.own y) -> c ≠ x:=fun c y r z => by subst z; rw [r] at mu; exact mu
 have ntup : ∀ c xs,H c = some (.tup xs) -> c ≠ x:=fun c xs r z => by subst z; rw [r] at mu; exact mu
 by_cases hb : b = x
 ·
  subst hb; rw [upd_same] at q; cases q; exact new
 ·
  rw [upd_ne hb] at q
  by_cases hbe : b = e
  ·
   have q' : H b = some (.own x):=by
    rcases he with z | z
    ·
     exact absurd (hbe.trans z) hb
    ·
     rw [hbe]; exact z
   rw [q] at q'; cases q'
   obtain ⟨v,hv⟩:=heo
   exact ⟨v,by rw [hbe]; exact hv⟩
  ·
   refine (ok b u q).stay (fun c v hc r => k c v ?_ r) (fun c r => by rw [upd_ne (nown c b r)]; exact r) fun c xs r => by rw [upd_ne (ntup c xs r)]; exact r
   rcases hc with rfl | hc
   ·
    exact hbe
   ·
    rintro rfl
    rcases he with z | z
    ·
     exact nown c b hc z
    ·
     rw [hc] at z; cases z; exact hb rfl
end
structure Un (fs ex : List Addr) (H H' : Hp) (h h' : Heap) : Prop where
 keep : ∀ b o,h.get? b = some o -> H b = none -> b ∉ fs -> b ∉ ex -> h'.get? b = some o
 slot : ∀ b o,h.get? b = some o -> H b = none -> b ∈ fs -> b ∉ ex -> ∃ sl,h'.get? b = some { o with slots:=sl }
 free : ∀ b o,h.get? b = some o -> H b = none -> b ∉ ex -> H' b = none
 there : ∀ b o,h.get? b = some o -> b ∉ ex -> ∃ o',h'.get? b = some o'
 tups : ∀ b xs,H b = some (.tup xs) -> H' b = some (.tup xs)
 frzs : ∀ b o u,H b = some (.frz o u) -> H' b = some (.frz o u)
 tbls : ∀ b ps,H b = some (.tbl ps) -> ∃ more,H' b = some (.tbl (ps ++ more))
section
variable {fs fs' ex ex' : List Addr} {H H1 H2 : Hp} {h h1 h2 h' : Heap} {a x e : Addr} {o : HO}
theorem Un.any (u : Un fs ex H H1 h h1) {b : Addr} {ob : Obj} (q : h.get? b = some ob) (n : H b = none) (hx : b ∉ ex) : ∃ sl,h1.get? b = some { ob with slots:=sl }:=by
 by_cases hb : b ∈ fs
 ·
  exact u.slot b ob q n hb hx
 ·
  exact ⟨ob.slots,u.keep b ob q n hb hx⟩
theorem Un.trans (a : Un fs ex H H1 h h1) (b : Un fs ex H1 H2 h1 h2) : Un fs ex H H2 h h2 where
 keep:=fun c ob q n hc hx => b.keep c ob (a.keep c ob q n hc hx) (a.free c ob q n hx) hc hx
 slot:=fun c ob q n hc hx => by
  obtain ⟨sl,e1⟩:=a.slot c ob q n hc hx
  obtain ⟨sl',e2⟩:=b.slot c _ e1 (a.free c ob q n hx) hc hx
  exact ⟨sl',e2⟩
 free:=fun c ob q n hx => by
  obtain ⟨o',e1⟩:=a.there c ob q hx
  exact b.free c o' e1 (a.free c ob q n hx) hx
 there:=fun c ob q hx => by
  obtain ⟨o',e1⟩:=a.there c ob q hx
  exact b.there c o' e1 hx
 tups:=fun c xs q => b.tups c xs (a.tups c xs q)
 frzs:=fun c ob xs q => b.frzs c ob xs (a.frzs c ob xs q)
 tbls:=fun c ps q => by
  obtain ⟨m1,e1⟩:=a.tbls c ps q
  obtain ⟨m2,e2⟩:=b.tbls c _ e1
  exact ⟨m1 ++ m2,by rw [e2,Array.append_assoc]⟩
theorem Un.kept (k : ∀ b u,h.get? b = some u -> h'.get? b = some u) : Un fs ex H H h h' :=
 ⟨fun b ob q _ _ _ => k b ob q,fun b ob q _ _ _ => ⟨ob.slots,k b ob q⟩,fun _ _ _ n _ => n,fun b ob q _ => ⟨ob,k b ob q⟩,fun _ _ q => q,fun _ _ _ q => q,fun _ ps q => ⟨#[],by rw [q]; simp⟩⟩
theorem Un.refl : Un fs ex H H h h:=Un.kept fun _ _ q => q
theorem Un.laid (k : ∀ b u,h.get? b = some u -> h'.get? b = some u) (hp : h.objs.size <= a) (hn : H a = none) : Un fs ex H (upd H a o) h h' where
 keep:=fun b u q _ _ _ => k b u q
 slot:=fun b u q _ _ _ => ⟨u.slots,k b u q⟩
 free:=fun b u q n _ => by rw [upd_ne (Nat.ne_of_lt (Nat.lt_of_lt_of_le (Heap.lt_size q) hp))]; exact n
 there:=fun b u q _ => ⟨u,k b u q⟩
 tups:=fun b xs q => by rw [upd_ne (ne_of_none q hn)]; exact q
 frzs:=fun b u xs q => by rw [upd_ne (ne_of_none q hn)]; exact q
 tbls:=fun b ps q => ⟨#[],by rw [upd_ne (ne_of_none q hn),q]; simp⟩
theorem Un.write (mu : Mut (H x)) (he : e = x \/ H e = some (.own x)) (k : ∀ b u,b ≠ e -> h.get? b = some u -> h'.get? b = some u) (heo : ∃ u,h'.get? e = some u) : Un fs ex H (upd H x o) h h':=by
 have hx : ∀ b,H b = none -> b ≠ x:=fun b n z => by subst z; rw [n] at mu; exact mu
 have hb : ∀ b,H b = none -> b ≠ e:=fun b n z => by
  subst z
  rcases he with r | r
  ·
   exact hx b n r
  ·
   rw [n] at r; cases r
 have hm : ∀ b u,H b = some u -> ¬ Mut (some u) -> b ≠ x:=fun b u q nm z => by subst z; rw [q] at mu; exact nm mu
 refine ⟨fun b u q n _ _ => k b u (hb b n) q,fun b u q n _ _ => ⟨u.slots,k b u (hb b n) q⟩,fun b u q n _ => by rw [upd_ne (hx b n)]; exact n,fun b u q _ => ?_,
  fun b xs q => by rw [upd_ne (hm b _ q fun z => z)]; exact q,fun b u xs q => by rw [upd_ne (hm b _ q fun z => z)]; exact q,fun b ps q => ⟨#[],by rw [upd_ne (hm b _ q fun z => z),q]; simp⟩⟩
 by_cases hbe : b = e
 ·
  subst hbe; exact heo
 ·
  exact ⟨u,k b u hbe q⟩
theorem Un.mono (u : Un fs ex H H1 h h1) (hs : ∀ b ∈ fs,b ∈ fs') (hx : ∀ b ∈ ex,b ∈ ex') : Un fs' ex' H H1 h h1 :=
 ⟨fun b ob q n hb he => u.keep b ob q n (fun z => hb (hs b z)) fun z => he (hx b z),fun _ _ q n _ he => u.any q n fun z => he (hx _ z),fun b ob q n he => u.free b ob q n fun z => he (hx b z),fun b ob q he => u.there b ob q fun z => he (hx b z),u.tups,u.frzs,u.tbls⟩
end
noncomputable def trk (h : Heap) (H : Hp) : List Addr:=(List.range h.objs.size).filter fun a => (H a).isSome
noncomputable def hidT (h : Heap) (H : Hp) : Heap:=PySem.W.hideAll h (trk h H)
theorem hidT_size (h : Heap) (H : Hp) : (hidT h H).objs.size = h.objs.size:=PySem.W.hideAll_size _ _
theorem hidT_get {h : Heap} {H : Hp} {b : Addr} {o : Obj} (e : h.get? b = some o) (n : H b = none) : (hidT h H).get? b = some o :=
 PySem.W.hideAll_get _ e fun hm => by
  have q : (H b).isSome = true:=(List.mem_filter.mp hm).2
  rw [n] at q; simp at q
theorem of_hidT {h : Heap} {H : Hp} {b : Addr} {o : Obj} (e : (hidT h H).get? b = some o) : h.get? b = some o /\ H b = none:=by
 have e' : h.get? b = some o:=PySem.W.of_hideAll (trk h H) e
 refine ⟨e',?_⟩
 cases q : H b with
 | none => rfl
 | some x =>
  have hm : b ∈ trk h H:=List.mem_filter.mpr ⟨List.mem_range.mpr (Heap.lt_size e'),by simp [q]⟩
  have z : (hidT h H).get? b = none:=PySem.W.hideAll_none (trk h H) hm
  rw [z] at e; cases e
noncomputable def allNews (g h : Heap) (L : Addr) : List (Addr × Obj):=(List.range h.objs.size).filterMap fun a => if a = L \/ (g.get? a).isSome = true then none else (h.get? a).map fun o => (a,o)
noncomputable def rest (g h : Heap) (L d : Addr) : List (Addr × Obj):=(allNews g h L).filter fun p => decide (p.1 ≠ d)
end L2
namespace L2
open PySem PySem.Spec PyProof.Rows
structure Mod (K : PySem.W.Frag) (mg : Str -> Option Value) (base : Heap) : Prop where
 kin : K.In base
 glob : base.Ns mainGlobals mg
 blt : ∃ mb,base.Ns builtinsNs mb /\ ∀ x : Str,x ≠ "__name__" -> mb x = bootBuiltins x
 nolimit : base.NoLimit
structure Cx where
 prog : Program
 w : World
 K : PySem.W.Frag
 mg : Str -> Option Value
 base : Heap
 A : Around
 N : List Str
 s₀ : Shared
 H₀ : Hp
 env : Env
 outer : List Env
 stack : List Env
 ex : List Addr
 fn : Str -> Bool
 calm : Bool
 pn : List (Addr × Obj)
 xe : Value -> Shared -> Prop
noncomputable def frs (l : List Env) : List Addr:=l.filterMap (·.frame)
noncomputable abbrev Cx.fs (X : Cx) : List Addr:=frs X.outer
def Vis (sc : Scope) (x : Str) : Prop:=sc.names.lookup x = some .local \/ sc.names.lookup x = some .cell \/ sc.names.lookup x = some .free
def Loc (sc : Scope) (x : Str) : Prop:=sc.names.lookup x = some .local \/ sc.names.lookup x = some .cell
def Look (env : Env) (h : Heap) (m : Str -> Option Value) (x : Str) (u : Value) : Prop :=
 (env.kindOf x = some .local /\ m x = some u) \/ ((env.kindOf x = some .cell \/ env.kindOf x = some .free) /\ ∃ c,env.cells.lookup x = some c /\ h.IsCell c (some u))
structure Cx.Ok (X : Cx) : Prop where
 mod : Mod X.K X.mg X.base
 kind : X.env.scope.kind = .function
 glob : X.env.globals = mainGlobals
 blt : X.env.builtins = builtinsNs
 above : X.s₀.heap.objs.size <= X.env.locals
 inj : ∀ x y c,X.env.cells.lookup x = some c -> X.env.cells.lookup y = some c -> x = y
 has : ∀ x,(X.env.kindOf x = some .cell \/ X.env.kindOf x = some .free) -> ∃ c,X.env.cells.lookup x = some c
 cab : ∀ x c,X.fn x = true -> X.env.cells.lookup x = some c -> X.s₀.heap.objs.size <= c
 hd : X.calm = true -> X.A.handled = none
 frames : X.A.frames = some X.stack
 stk : X.stack = X.outer \/ (X.stack = X.env :: X.outer /\ X.env.frame = some X.env.locals)
 exf : ∀ b ∈ X.ex,b ≠ X.env.locals /\ ∀ x c,X.env.cells.lookup x = some c -> c ≠ b
 bs : ∀ b o,X.base.get? b = some o -> X.s₀.heap.get? b = some o /\ X.H₀ b = none
 bsz : X.base.objs.size <= X.s₀.heap.objs.size
 noex : ∀ b o,X.base.get? b = some o -> b ∉ X.ex
 exfs : ∀ b ∈ X.ex,b ∉ X.fs
 funs : X.s₀.heap.FunFrames X.base X.outer
 frf : ∀ b ∈ X.fs,X.H₀ b = none
structure Inv (X : Cx) (pins : List (Addr × Obj)) (σ : List (Option V)) (H : Hp) (s : Shared) : Prop where
 ok : X.Ok
 os : s.os = X.s₀.os
 bare : AllBare s.gens
 base : Un X.fs X.ex X.H₀ H X.s₀.heap s.heap
 loc : ∃ m,s.heap.Ns X.env.locals m /\ ∀ (i : Nat) (x : Str) (v : V),X.N[i]? = some x -> σ[i]? = some (some v) -> Vis X.env.scope x -> ∃ u,RelV v u /\ Look X.env s.heap m x u
 cell : ∀ x c,X.env.cells.lookup x = some c -> ∃ v,s.heap.IsCell c v
 free : H X.env.locals = none
 freeC : ∀ x c,X.env.cells.lookup x = some c -> H c = none
 pin : ∀ p ∈ X.pn ++ pins,s.heap.get? p.1 = some p.2 /\ H p.1 = none /\ p.1 ≠ X.env.locals /\ p.1 ∉ X.fs /\ ∀ v,p.2.data ≠ .cell v
 hok : HOk X.prog X.w H s.heap
 len : σ.length = X.N.length
section
variable {X : Cx} {pins : List (Addr × Obj)} {σ : List (Option V)} {H H' : Hp} {s : Shared} {h' : Heap}
theorem Cx.Ok.nofr (ok : X.Ok) {b : Addr} {o : Obj} (e : X.base.get? b = some o) : b ∉ X.fs:=fun hb => by
 have:=(ok.funs.mem hb).1
 rw [e] at this; cases this
theorem Inv.bs (I : Inv X pins σ H s) : ∀ b o,X.base.get? b = some o -> s.heap.get? b = some o /\ H b = none:=fun b o e =>
 ⟨I.base.keep b o (I.ok.bs b o e).1 (I.ok.bs b o e).2 (I.ok.nofr e) (I.ok.noex b o e),I.base.free b o (I.ok.bs b o e).1 (I.ok.bs b o e).2 (I.ok.noex b o e)⟩
theorem Inv.bk (I : Inv X pins σ H s) : ∀ b o,X.base.get? b = some o -> s.heap.get? b = some o:=fun b o e => (I.bs b o e).1
theorem Inv.mod (I : Inv X pins σ H s) : Mod X.K X.mg X.base:=I.ok.mod
theorem Inv.kIn (I : Inv X pins σ H s) : X.K.In s.heap:=I.ok.mod.kin.keeps I.bk
theorem Inv.nolimit (I : Inv X pins σ H s) : s.heap.NoLimit:=I.ok.mod.nolimit.keeps I.bk
theorem Inv.lt (I : Inv X pins σ H s) : X.env.locals < s.heap.objs.size:=let ⟨_,hn,_⟩:=I.loc; hn.lt
theorem Inv.sz (I : Inv X pins σ H s) : X.s₀.heap.objs.size <= s.heap.objs.size:=Nat.le_trans I.ok.above (Nat.le_of_lt I.lt)
theorem Inv.nofs (I : Inv X pins σ H s) {a : Addr} (h : s.heap.objs.size <= a) : a ∉ X.fs:=fun hb => by
 obtain ⟨_,o,ho,_⟩:=I.ok.funs.mem hb
 exact absurd (Nat.lt_of_lt_of_le (Heap.lt_size ho) (Nat.le_trans I.sz h)) (Nat.lt_irrefl _)
theorem Inv.cne (I : Inv X pins σ H s) : ∀ x c,X.env.cells.lookup x = some c -> c ≠ X.env.locals:=fun x c e z => by
 obtain ⟨v,o,ho,hd⟩:=I.cell x c e
 obtain ⟨m,⟨o',es,ep,ho',hd',_⟩,_⟩:=I.loc
 rw [z,ho'] at ho; cases ho; rw [hd'] at hd; cases hd
theorem Inv.funs (I : Inv X pins σ H s) : s.heap.FunFrames X.base X.outer:=by
 have all : ∀ (l : List Env),(∀ b ∈ frs l,b ∈ X.fs) -> X.s₀.heap.FunFrames X.base l -> s.heap.FunFrames X.base l:=by
  intro l
  induction l with
  | nil => intro _ _; trivial
  | cons env r ih =>
   intro hs hl
   obtain ⟨hk,⟨L,o,hf,hn,ho,hd⟩,hr⟩:=hl
   have hL : L ∈ X.fs:=hs L (by unfold frs; rw [List.filterMap_cons,hf]; exact List.mem_cons_self)
   obtain ⟨sl,e⟩:=I.base.slot L o ho (I.ok.frf L hL) hL fun z => I.ok.exfs L z hL
   exact ⟨hk,⟨L,_,hf,hn,e,hd⟩,ih (fun b hb => hs b (by unfold frs; rw [List.filterMap_cons,hf]; exact List.mem_cons_of_mem _ hb)) hr⟩
 exact all X.outer (fun _ hb => hb) I.ok.funs
theorem Inv.stack (I : Inv X pins σ H s) : s.heap.FunFrames X.base X.stack:=by
 rcases I.ok.stk with e | ⟨e,hf⟩
 ·
  rw [e]; exact I.funs
 ·
  rw [e]
  obtain ⟨m,hn,_⟩:=I.loc
  refine .cons (by rw [I.ok.kind]; decide) hf hn ?_ I.funs
  exact Heap.get?_none_of_le (Nat.le_trans I.ok.bsz I.ok.above)
theorem Inv.stkSub (I : Inv X pins σ H s) : ∀ b ∈ frs X.stack,b ∈ X.env.locals :: X.fs:=fun b hb => by
 rcases I.ok.stk with e | ⟨e,hf⟩
 ·
  rw [e] at hb; exact List.mem_cons_of_mem _ hb
 ·
  rw [e] at hb
  unfold frs at hb
  rw [List.filterMap_cons,hf] at hb
  exact hb
theorem Inv.stkFree (I : Inv X pins σ H s) : ∀ b ∈ frs X.stack,H b = none:=fun b hb => by
 rcases List.mem_cons.mp (I.stkSub b hb) with e | hb
 ·
  rw [e]; exact I.free
 ·
  obtain ⟨_,o,ho,_⟩:=I.ok.funs.mem hb
  exact I.base.free b o ho (I.ok.frf b hb) fun z => I.ok.exfs b z hb
theorem Inv.step {g' : Array GenState} {t' : Nat} {d' : Drawn} {ch : List Addr} (I : Inv X pins σ H s)
  (hch : ∀ b ∈ ch,(b ∈ X.ex \/ X.s₀.heap.objs.size <= b) /\ b ≠ X.env.locals /\ (∀ x c,X.env.cells.lookup x = some c -> c ≠ b) /\ ∀ p ∈ X.pn ++ pins,p.1 ≠ b)
  (keep : ∀ b o,b ≠ X.env.locals -> b ∉ X.fs -> b ∉ ch -> s.heap.get? b = some o -> H b = none -> h'.get? b = some o)
  (slot : ∀ b o,b ≠ X.env.locals -> b ∈ X.fs -> b ∉ ch -> s.heap.get? b = some o -> H b = none -> ∃ sl,h'.get? b = some { o with slots:=sl }) (free : ∀ b o,b ∉ ch -> s.heap.get? b = some o -> H b = none -> H' b = none)
  (there : ∀ b o,b ∉ ch -> s.heap.get? b = some o -> ∃ o',h'.get? b = some o')
  (tups : ∀ b xs,H b = some (.tup xs) -> H' b = some (.tup xs)) (frzs : ∀ b o u,H b = some (.frz o u) -> H' b = some (.frz o u)) (tbls : ∀ b ps,H b = some (.tbl ps) -> ∃ more,H' b = some (.tbl (ps ++ more)))
  (ns : ∀ m,s.heap.Ns X.env.locals m -> h'.Ns X.env.locals m) (hok : HOk X.prog X.w H' h') (hg : AllBare g') :
  Inv X pins σ H' { s with heap:=h',gens:=g',drawn:=d',toks:=t' }:=by
 have neL : ∀ b o,X.s₀.heap.get? b = some o -> b ≠ X.env.locals:=fun b o e => Nat.ne_of_lt (Nat.lt_of_lt_of_le (Heap.lt_size e) I.ok.above)
 have neC : ∀ b o,X.s₀.heap.get? b = some o -> b ∉ X.ex -> b ∉ ch:=fun b o e hx hb => by
  rcases (hch b hb).1 with z | z
  ·
   exact hx z
  ·
   exact absurd (Nat.lt_of_lt_of_le (Heap.lt_size e) z) (Nat.lt_irrefl _)
 have cellK : ∀ x c,X.env.cells.lookup x = some c -> ∀ v,s.heap.IsCell c v -> h'.IsCell c v:=fun x c e v ⟨o,ho,hd⟩ => by
  have nch : c ∉ ch:=fun z => (hch c z).2.2.1 x c e rfl
  by_cases hc : c ∈ X.fs
  ·
   obtain ⟨sl,q⟩:=slot c o (I.cne x c e) hc nch ho (I.freeC x c e)
   exact ⟨_,q,hd⟩
  ·
   exact ⟨o,keep c o (I.cne x c e) hc nch ho (I.freeC x c e),hd⟩
 refine ⟨I.ok,I.os,hg,⟨fun b o e n hb hx => ?_,fun b o e n hb hx => ?_,fun b o e n hx => ?_,fun b o e hx => ?_,fun b xs e => tups b xs (I.base.tups b xs e),fun b o xs e => frzs b o xs (I.base.frzs b o xs e),fun b ps e => ?_⟩,?_,fun x c e => ?_,?_,fun x c e => ?_,fun p hp => ?_,hok,I.len⟩
 ·
  exact keep b o (neL b o e) hb (neC b o e hx) (I.base.keep b o e n hb hx) (I.base.free b o e n hx)
 ·
  obtain ⟨sl,e1⟩:=I.base.slot b o e n hb hx
  obtain ⟨sl',e2⟩:=slot b _ (neL b o e) hb (neC b o e hx) e1 (I.base.free b o e n hx)
  exact ⟨sl',e2⟩
 ·
  obtain ⟨o',e1⟩:=I.base.there b o e hx
  exact free b o' (neC b o e hx) e1 (I.base.free b o e n hx)
 ·
  obtain ⟨o',e1⟩:=I.base.there b o e hx
  exact there b o' (neC b o e hx) e1
 ·
  obtain ⟨m1,e1⟩:=I.base.tbls b ps e
  obtain ⟨m2,e2⟩:=tbls b _ e1
  exact ⟨m1 ++ m2,by rw [e2,Array.append_assoc]⟩
 ·
  obtain ⟨m,hn,hl⟩:=I.loc
  refine ⟨m,ns m hn,fun i x v e1 e2 e3 => ?_⟩
  obtain ⟨u,r,l⟩:=hl i x v e1 e2 e3
  refine ⟨u,r,?_⟩
  rcases l with l | ⟨k,c,e,z⟩
  ·
   exact .inl l
  ·
   exact .inr ⟨k,c,e,cellK x c e _ z⟩
 ·
  obtain ⟨v,z⟩:=I.cell x c e
  exact ⟨v,cellK x c e v z⟩
 ·
  obtain ⟨m,⟨o,_,_,ho,_⟩,_⟩:=I.loc
  exact free _ o (fun z => (hch _ z).2.1 rfl) ho I.free
 ·
  obtain ⟨v,o,ho,hd⟩:=I.cell x c e
  exact free c o (fun z => (hch c z).2.2.1 x c e rfl) ho (I.freeC x c e)
 ·
  obtain ⟨e,n,ne,nf,d⟩:=I.pin p hp
  have nch : p.1 ∉ ch:=fun z => (hch p.1 z).2.2.2 p hp rfl
  exact ⟨keep p.1 p.2 ne nf nch e n,free p.1 p.2 nch e n,ne,nf,d⟩
theorem Inv.un {t' : Nat} (I : Inv X pins σ H s) (u : Un X.fs [] H H' s.heap h') (hok : HOk X.prog X.w H' h') : Inv X pins σ H' { s with heap:=h',toks:=t' }:=by
 obtain ⟨m,⟨o,es,ep,ho,r⟩,_⟩:=id I.loc
 obtain ⟨sl,hL⟩:=u.any ho I.free (by simp)
 exact I.step (g':=s.gens) (d':=s.drawn) (ch:=[]) (fun _ z => nomatch z) (fun b o _ hb _ e n => u.keep b o e n hb (by simp)) (fun b o _ hb _ e n => u.slot b o e n hb (by simp)) (fun b o _ e n => u.free b o e n (by simp)) (fun b o _ e => u.there b o e (by simp)) u.tups u.frzs u.tbls (fun m' hm => by
  obtain ⟨o',es',ep',ho',r'⟩:=hm
  rw [ho] at ho'; cases ho'
  exact ⟨_,es',ep',hL,r'⟩) hok I.bare
theorem Inv.call {g' : Array GenState} {t' : Nat} {d' : Drawn} {ch : List Addr} (I : Inv X pins σ H s) (u : Un (frs X.stack) ch H H' s.heap h') (hok : HOk X.prog X.w H' h') (hg : AllBare g')
  (hch : ∀ b ∈ ch,(b ∈ X.ex \/ X.s₀.heap.objs.size <= b) /\ b ≠ X.env.locals /\ (∀ x c,X.env.cells.lookup x = some c -> c ≠ b) /\ ∀ p ∈ X.pn ++ pins,p.1 ≠ b) :
  Inv X pins σ H' { s with heap:=h',gens:=g',drawn:=d',toks:=t' }:=by
 obtain ⟨m,⟨o,es,ep,ho,r⟩,_⟩:=id I.loc
 obtain ⟨sl,hL⟩:=u.any ho I.free fun z => (hch _ z).2.1 rfl
 exact I.step (ch:=ch) hch (fun b o hL hb hc e n => u.keep b o e n (fun z => (List.mem_cons.mp (I.stkSub b z)).elim hL hb) hc) (fun b o _ _ hc e n => u.any e n hc) (fun b o hc e n => u.free b o e n hc) (fun b o hc e => u.there b o e hc) u.tups u.frzs u.tbls (fun m' hm => by
  obtain ⟨o',es',ep',ho',r'⟩:=hm
  rw [ho] at ho'; cases ho'
  exact ⟨_,es',ep',hL,r'⟩) hok hg
theorem Inv.turned {t' : Nat} {it : Addr} (I : Inv X pins σ H s) (k : ∀ b o,b ≠ it -> s.heap.get? b = some o -> h'.get? b = some o) (hn : H it = none) (hL : it ≠ X.env.locals)
  (h1 : it ∈ X.ex \/ X.s₀.heap.objs.size <= it) (h2 : ∀ x c,X.env.cells.lookup x = some c -> c ≠ it) (h3 : ∀ p ∈ X.pn ++ pins,p.1 ≠ it) : Inv X pins σ H { s with heap:=h',toks:=t' }:=by
 have nit : ∀ b u,H b = some u -> b ≠ it:=fun b u e z => by rw [z,hn] at e; cases e
 refine I.step (g':=s.gens) (d':=s.drawn) (ch:=[it]) (fun b hb => ?_) (fun b o _ _ hc e _ => k b o (fun z => hc (by simp [z])) e) (fun b o _ _ hc e _ => ⟨o.slots,k b o (fun z => hc (by simp [z])) e⟩) (fun _ _ _ _ n => n)
  (fun b o hc e => ⟨o,k b o (fun z => hc (by simp [z])) e⟩) (fun _ _ e => e) (fun _ _ _ e => e) (fun b ps e => ⟨#[],by rw [e]; simp⟩) (fun m hm => ?_) (fun b u e => ?_) I.bare
 ·
  have e : b = it:=by simpa using hb
  subst e
  exact ⟨h1,hL,h2,h3⟩
 ·
  obtain ⟨o,es,ep,ho,r⟩:=hm
  exact ⟨o,es,ep,k _ o (Ne.symm hL) ho,r⟩
 ·
  refine (I.hok b u e).stay (fun c v hc q => k c v ?_ q) (fun _ q => q) fun _ _ q => q
  rcases hc with z | z
  ·
   rw [z]; exact nit b u e
  ·
   exact nit c _ z
theorem Inv.tok (I : Inv X pins σ H s) (t : Nat) : Inv X pins σ H { s with toks:=t }:=I.un (h':=s.heap) (t':=t) Un.refl I.hok
theorem Inv.kept {t' : Nat} (I : Inv X pins σ H s) (k : ∀ b u,s.heap.get? b = some u -> h'.get? b = some u) : Inv X pins σ H { s with heap:=h',toks:=t' }:=I.un (Un.kept k) (I.hok.kept k)
theorem Inv.laid {a : Addr} {o : HO} {t' : Nat} (I : Inv X pins σ H s) (k : ∀ b u,s.heap.get? b = some u -> h'.get? b = some u) (hp : s.heap.objs.size <= a) (new : ObjOk X.prog X.w (upd H a o) h' a o) :
  Inv X pins σ (upd H a o) { s with heap:=h',toks:=t' }:=I.un (Un.laid k hp (I.hok.fresh hp)) (I.hok.laid k hp new)
theorem Inv.write {x e : Addr} {o : HO} {t' : Nat} (I : Inv X pins σ H s) (mu : Mut (H x)) (he : e = x \/ H e = some (.own x)) (k : ∀ b u,b ≠ e -> s.heap.get? b = some u -> h'.get? b = some u) (heo : ∃ u,h'.get? e = some u)
  (new : ObjOk X.prog X.w (upd H x o) h' x o) : Inv X pins σ (upd H x o) { s with heap:=h',toks:=t' }:=I.un (Un.write mu he k heo) (I.hok.write mu he k heo new)
theorem Inv.pins_of {pins' : List (Addr × Obj)} (I : Inv X pins σ H s) (h : ∀ p ∈ pins',s.heap.get? p.1 = some p.2 /\ H p.1 = none /\ p.1 ≠ X.env.locals /\ p.1 ∉ X.fs /\ ∀ v,p.2.data ≠ .cell v) : Inv X pins' σ H s :=
 ⟨I.ok,I.os,I.bare,I.base,I.loc,I.cell,I.free,I.freeC,fun p hp => (List.mem_append.mp hp).elim (fun z => I.pin p (List.mem_append_left _ z)) (h p),I.hok,I.len⟩
theorem nodup_ix {N : List Str} (hN : N.Nodup) {i j : Nat} {x : Str} (a : N[i]? = some x) (b : N[j]? = some x) : i = j:=by
 obtain ⟨h1,e1⟩:=List.getElem?_eq_some_iff.mp a
 obtain ⟨h2,e2⟩:=List.getElem?_eq_some_iff.mp b
 exact (List.getElem_inj hN).mp (e1.trans e2.symm)
theorem store_ok2 {M : Model} {A : Around} {E : Value -> Shared -> Prop} {i : Nat} {x : Str} {v : V} {u : Value} {Q : Unit -> Shared -> Prop} (I : Inv X pins σ H s) (hN : X.N.Nodup) (hi : X.N[i]? = some x) (hx : Loc X.env.scope x) (r : RelV v u)
  (h : ∀ s',Inv X pins (σ.set i (some v)) H s' -> (∃ a,Heap.SameBut a s.heap s'.heap /\ (a = X.env.locals \/ X.env.cells.lookup x = some a)) -> Q () s') (hf : X.fn x = true \/ X.env.scope.names.lookup x = some .local:=by first | exact .inl rfl | exact .inr rfl | assumption) : wpAny M A (storeName X.env x u) Q E s:=by
 obtain ⟨m,hn,hl⟩:=id I.loc
 have hcls : (X.env.scope.kind == .class || (X.env.scope.kind == .module && X.env.locals != X.env.globals)) = false:=by rw [I.ok.kind]; rfl
 have hiσ : i < σ.length:=by rw [I.len]; exact (List.getElem?_eq_some_iff.mp hi).1
 have cne:=I.cne
 have tracked : ∀ {a : Addr} {h' : Heap},(∃ o,s.heap.get? a = some o /\ H a = none) -> Heap.SameBut a s.heap h' -> HOk X.prog X.w H h':=fun {a h'} ha hs b ob e => by
  obtain ⟨_,_,hfree⟩:=ha
  refine (I.hok b ob e).stay (fun c w' hc q => (hs.2 c ?_).trans q) (fun _ q => q) fun _ _ q => q
  rintro rfl
  rcases hc with rfl | hc
  ·
   rw [hfree] at e; cases e
  ·
   rw [hfree] at hc; cases hc
 rcases hx with hk | hk
 ·
  refine wpAny_storeName_local hk hn (fun h' hn' hs => ?_) hcls
  obtain ⟨oL,_,_,hoL,_⟩:=id hn
  refine h _ ⟨I.ok,I.os,I.bare,⟨fun b o e n hb hx => ?_,fun b o e n hb hx => ?_,I.base.free,fun b o e hx => ?_,I.base.tups,I.base.frzs,I.base.tbls⟩,⟨_,hn',fun j y v' e1 e2 e3 => ?_⟩,fun y c e => ?_,I.free,I.freeC,fun p hp => ?_,tracked ⟨oL,hoL,I.free⟩ hs,by simpa using I.len⟩ ⟨_,hs,.inl rfl⟩
  ·
   exact (hs.2 b (Nat.ne_of_lt (Nat.lt_of_lt_of_le (Heap.lt_size e) I.ok.above))).trans (I.base.keep b o e n hb hx)
  ·
   obtain ⟨sl,e1⟩:=I.base.slot b o e n hb hx
   exact ⟨sl,(hs.2 b (Nat.ne_of_lt (Nat.lt_of_lt_of_le (Heap.lt_size e) I.ok.above))).trans e1⟩
  ·
   obtain ⟨o',e1⟩:=I.base.there b o e hx
   exact ⟨o',(hs.2 b (Nat.ne_of_lt (Nat.lt_of_lt_of_le (Heap.lt_size e) I.ok.above))).trans e1⟩
  ·
   by_cases hj : j = i
   ·
    subst hj
    rw [hi] at e1; cases e1
    rw [List.getElem?_set_self hiσ] at e2
    cases e2
    exact ⟨u,r,.inl ⟨hk,by simp⟩⟩
   ·
    rw [List.getElem?_set_ne (Ne.symm hj)] at e2
    obtain ⟨u',r',q⟩:=hl j y v' e1 e2 e3
    refine ⟨u',r',?_⟩
    rcases q with ⟨k,e⟩ | ⟨k,c,e,z⟩
    ·
     refine .inl ⟨k,?_⟩
     have : y ≠ x:=fun e => hj (nodup_ix hN e1 (e ▸ hi))
     simp [this,e]
    ·
     exact .inr ⟨k,c,e,z.sameBut hs (cne y c e)⟩
  ·
   obtain ⟨w',z⟩:=I.cell y c e
   exact ⟨w',z.sameBut hs (cne y c e)⟩
  ·
   obtain ⟨e,n,ne,nf,d⟩:=I.pin p hp
   exact ⟨(hs.2 p.1 ne).trans e,n,ne,nf,d⟩
 ·
  have hfn : X.fn x = true:=by
   rcases hf with z | z
   ·
    exact z
   ·
    rw [z] at hk; cases hk
  obtain ⟨c,hc⟩:=I.ok.has x (.inl hk)
  obtain ⟨w',z⟩:=I.cell x c hc
  refine wpAny_storeName_cell I.ok.kind hk hc z (fun h' hc' hs => ?_)
  obtain ⟨oc,hoc,hocd⟩:=id z
  refine h { s with heap:=h' } ⟨I.ok,I.os,I.bare,⟨fun b o e n hb hx => ?_,fun b o e n hb hx => ?_,I.base.free,fun b o e hx => ?_,I.base.tups,I.base.frzs,I.base.tbls⟩,⟨m,hn.sameBut hs (Ne.symm (cne x c hc)),fun j y v' e1 e2 e3 => ?_⟩,fun y c' e => ?_,I.free,I.freeC,fun p hp => ?_,tracked ⟨oc,hoc,I.freeC x c hc⟩ hs,by simpa using I.len⟩ ⟨c,hs,.inr hc⟩
  ·
   exact (hs.2 b (Nat.ne_of_lt (Nat.lt_of_lt_of_le (Heap.lt_size e) (I.ok.cab x c hfn hc)))).trans (I.base.keep b o e n hb hx)
  ·
   obtain ⟨sl,e1⟩:=I.base.slot b o e n hb hx
   exact ⟨sl,(hs.2 b (Nat.ne_of_lt (Nat.lt_of_lt_of_le (Heap.lt_size e) (I.ok.cab x c hfn hc)))).trans e1⟩
  ·
   obtain ⟨o',e1⟩:=I.base.there b o e hx
   exact ⟨o',(hs.2 b (Nat.ne_of_lt (Nat.lt_of_lt_of_le (Heap.lt_size e) (I.ok.cab x c hfn hc)))).trans e1⟩
  ·
   by_cases hj : j = i
   ·
    subst hj
    rw [hi] at e1; cases e1
    rw [List.getElem?_set_self hiσ] at e2
    cases e2
    exact ⟨u,r,.inr ⟨.inl hk,c,hc,hc'⟩⟩
   ·
    rw [List.getElem?_set_ne (Ne.symm hj)] at e2
    obtain ⟨u',r',q⟩:=hl j y v' e1 e2 e3
    refine ⟨u',r',?_⟩
    rcases q with q | ⟨k,c',e,z'⟩
    ·
     exact .inl q
    ·
     refine .inr ⟨k,c',e,z'.sameBut hs ?_⟩
     rintro rfl
     exact hj (nodup_ix hN e1 (I.ok.inj _ _ _ e hc ▸ hi))
  ·
   by_cases hcc : c' = c
   ·
    subst hcc; exact ⟨_,hc'⟩
   ·
    obtain ⟨w2,z2⟩:=I.cell y c' e
    exact ⟨w2,z2.sameBut hs hcc⟩
  ·
   obtain ⟨e,n,ne,nf,d⟩:=I.pin p hp
   refine ⟨(hs.2 p.1 ?_).trans e,n,ne,nf,d⟩
   intro q
   rw [q,hoc] at e
   have q' : oc = p.2:=Option.some.inj e
   exact d w' (by rw [<- q']; exact hocd)
theorem store_ok {M : Model} {A : Around} {E : Value -> Shared -> Prop} {i : Nat} {x : Str} {v : V} {u : Value} {Q : Unit -> Shared -> Prop} (I : Inv X pins σ H s) (hN : X.N.Nodup) (hi : X.N[i]? = some x) (hx : Loc X.env.scope x) (r : RelV v u)
  (h : ∀ s',Inv X pins (σ.set i (some v)) H s' -> Q () s') (hf : X.fn x = true \/ X.env.scope.names.lookup x = some .local:=by first | exact .inl rfl | exact .inr rfl | assumption) : wpAny M A (storeName X.env x u) Q E s :=
 store_ok2 I hN hi hx r (fun s' I' _ => h s' I') hf
theorem Inv.call' {s' : Shared} {ch : List Addr} (I : Inv X pins σ H s) (ho : s'.os = s.os) (u : Un (frs X.stack) ch H H' s.heap s'.heap) (hok : HOk X.prog X.w H' s'.heap) (hg : AllBare s'.gens)
  (hch : ∀ b ∈ ch,(b ∈ X.ex \/ X.s₀.heap.objs.size <= b) /\ b ≠ X.env.locals /\ (∀ x c,X.env.cells.lookup x = some c -> c ≠ b) /\ ∀ p ∈ X.pn ++ pins,p.1 ≠ b) : Inv X pins σ H' s':=by
 obtain ⟨h',g',d',t',o'⟩:=s'
 have e : o' = s.os:=ho
 subst e
 exact I.call (g':=g') (t':=t') (d':=d') u hok hg hch
end
abbrev XK:=Value -> Option Addr -> Hp -> Prop
abbrev St:=List (Option V)
abbrev VK:=V -> Hp -> Prop
abbrev TE:=St -> Hp -> VK -> Prop
abbrev TT:=St -> Hp -> (Bool -> Hp -> Prop) -> Prop
abbrev TA:=St -> Hp -> (List V -> Hp -> Prop) -> Prop
structure Ends where
 nx : St -> Hp -> Prop
 rt : VK
 bk : St -> Hp -> Prop:=fun _ _ => False
 ct : St -> Hp -> Prop:=fun _ _ => False
abbrev TS:=Ends -> St -> Hp -> Prop
def EP (X : Cx) (pins : List (Addr × Obj)) (σ : St) (Q : VK) (u : Value) (s' : Shared) : Prop:=∃ v H',Inv X pins σ H' s' /\ RelV v u /\ Q v H'
def TP (X : Cx) (pins : List (Addr × Obj)) (σ : St) (Q : Bool -> Hp -> Prop) (b : Bool) (s' : Shared) : Prop:=∃ H',Inv X pins σ H' s' /\ Q b H'
def AP (X : Cx) (pins : List (Addr × Obj)) (σ : St) (Q : List V -> Hp -> Prop) (us : List Value) (s' : Shared) : Prop:=∃ vs H',Inv X pins σ H' s' /\ Vals vs us /\ Q vs H'
def SP (X : Cx) (pins : List (Addr × Obj)) (D : Ends) (f : Flow) (s' : Shared) : Prop :=
 match f with
 | .next => ∃ σ' H',Inv X pins σ' H' s' /\ D.nx σ' H'
 | .brk => ∃ σ' H',Inv X pins σ' H' s' /\ D.bk σ' H'
 | .cont => ∃ σ' H',Inv X pins σ' H' s' /\ D.ct σ' H'
 | .ret u => ∃ v σ' H',Inv X pins σ' H' s' /\ RelV v u /\ D.rt v H'
def PE (X : Cx) (e : Expr) (t : TE) : Prop :=
 ∀ (pins : List (Addr × Obj)) (s : Shared) (σ : St) (H : Hp) (Q : VK),Inv X pins σ H s -> t σ H Q -> wpAny (model X.prog X.w) X.A (eval e X.env) (EP X pins σ Q) X.xe s
def PT (X : Cx) (e : Expr) (t : TT) : Prop :=
 ∀ (pins : List (Addr × Obj)) (s : Shared) (σ : St) (H : Hp) (Q : Bool -> Hp -> Prop),Inv X pins σ H s -> t σ H Q -> wpAny (model X.prog X.w) X.A (isTrue e X.env (eval e X.env)) (TP X pins σ Q) X.xe s
def PW (X : Cx) (e : Expr) (t : TT) : Prop :=
 ∀ (whole : Sem Value) (pins : List (Addr × Obj)) (s : Shared) (σ : St) (H : Hp) (Q : Bool -> Hp -> Prop),Inv X pins σ H s -> t σ H Q -> wpAny (model X.prog X.w) X.A (isTrue e X.env whole) (TP X pins σ Q) X.xe s
theorem PW.pt {X : Cx} {e : Expr} {t : TT} (h : PW X e t) : PT X e t:=h _
def PA (X : Cx) (es : List Expr) (t : TA) : Prop :=
 ∀ (pos : Pos) (pins : List (Addr × Obj)) (s : Shared) (σ : St) (H : Hp) (Q : List V -> Hp -> Prop),Inv X pins σ H s -> t σ H Q -> wpAny (model X.prog X.w) X.A (spliced (backTo pos (starEach es X.env))) (AP X pins σ Q) X.xe s
def PS (X : Cx) (st : Stmt) (t : TS) : Prop :=
 ∀ (pins : List (Addr × Obj)) (s : Shared) (σ : St) (H : Hp) (D : Ends),Inv X pins σ H s -> t D σ H -> wpAny (model X.prog X.w) X.A (exec st X.env) (SP X pins D) X.xe s
def PSs (X : Cx) (st : List Stmt) (t : TS) : Prop :=
 ∀ (pins : List (Addr × Obj)) (s : Shared) (σ : St) (H : Hp) (D : Ends),Inv X pins σ H s -> t D σ H -> wpAny (model X.prog X.w) X.A (execs st X.env) (SP X pins D) X.xe s
theorem thn {α : Type} {t : Sem α} {Q Q' : α -> Shared -> Prop} {M : Model} {A : Around} {E : Value -> Shared -> Prop} {s : Shared} (h : wpAny M A t Q E s) (hQ : ∀ a s,Q a s -> Q' a s) : wpAny M A t Q' E s:=wpAny_mono h hQ fun _ _ x => x
end L2
namespace L2
open PySem PySem.Spec PyProof.Rows
section
variable {X : Cx}
def tVar (i : Nat) : TE:=fun σ H Q => ∃ v,σ[i]? = some (some v) /\ Q v H
def tC (v : V) : TE:=fun _ H Q => Q v H
theorem pe_var {i : Nat} {x : Str} {pos : Pos} (hN : X.N[i]? = some x) (hv : Vis X.env.scope x) (hd : (x == ("__debug__" : Str)) = false:=by decide) (hcd : (x == ("__classdict__" : Str)) = false:=by decide) : PE X (.Name x pos) (tVar i):=by
 intro pins s σ H Q I h
 obtain ⟨v,e,h⟩:=h
 obtain ⟨m,hn,hl⟩:=I.loc
 obtain ⟨u,r,l⟩:=hl i x v hN e hv
 have fin : EP X pins σ Q u s:=⟨v,H,I,r,h⟩
 rcases l with ⟨hk,hm⟩ | ⟨hk,c,hc,hcell⟩
 ·
  exact wpAny_Name (wpAny_loadName_local I.ok.kind hk hn hm fin) hd
 ·
  rcases hk with hk | hk
  ·
   exact wpAny_Name (wpAny_loadName_cell I.ok.kind hk hc hcell fin) hd
  ·
   exact wpAny_Name (wpAny_loadName_free I.ok.kind hk hc hcell fin hcd) hd
theorem pe_int {i j pos} : PE X (.Constant (.int i) j pos) (tC (.int i)):=fun _ _ _ H _ I h => wpAny_Constant_int ⟨.int i,H,I.tok _,⟨_,rfl⟩,h⟩
theorem pe_bl {b j pos} : PE X (.Constant (.bool b) j pos) (tC (.bl b)):=fun _ _ _ H _ I h => Constant_bool ⟨.bl b,H,I,rfl,h⟩
theorem pe_str {x j pos} : PE X (.Constant (.str x) j pos) (tC (.str x)):=fun _ _ _ H _ I h => Calls.Constant_str ⟨.str x,H,I.tok _,⟨_,rfl⟩,h⟩
def Gl (X : Cx) (x : Str) : Prop:=X.env.kindOf x = some .globalImplicit
theorem ld_glob {E : Value -> Shared -> Prop} {pins : List (Addr × Obj)} {s : Shared} {σ : St} {H : Hp} {x : Str} {u : Value} {pos : Pos} {Q : Value -> Shared -> Prop} (I : Inv X pins σ H s) (hg : Gl X x) (hm : X.mg x = some u) (h : Q u s)
  (hd : (x == ("__debug__" : Str)) = false:=by decide) : wpAny (model X.prog X.w) X.A (eval (.Name x pos) X.env) Q E s :=
 Calls.Name_function_global I.ok.kind hg (Calls.loadGlobal_global (by rw [I.ok.glob]; exact I.mod.glob.keeps I.bk) hm h) hd
theorem ld_blt {E : Value -> Shared -> Prop} {pins : List (Addr × Obj)} {s : Shared} {σ : St} {H : Hp} {x : Str} {u : Value} {pos : Pos} {Q : Value -> Shared -> Prop} (I : Inv X pins σ H s) (hg : Gl X x) (hm : X.mg x = none) (hv : bootBuiltins x = some u) (h : Q u s)
  (hn : x ≠ "__name__":=by decide) (hd : (x == ("__debug__" : Str)) = false:=by decide) : wpAny (model X.prog X.w) X.A (eval (.Name x pos) X.env) Q E s:=by
 obtain ⟨mb,h1,h2⟩:=I.mod.blt
 exact Calls.Name_function_global I.ok.kind hg (Calls.loadGlobal_builtin (by rw [I.ok.glob]; exact I.mod.glob.keeps I.bk) hm (by rw [I.ok.blt]; exact h1.keeps I.bk) ((h2 x hn).trans hv) h) hd
theorem pe_glob {x : Str} {v : V} {u : Value} {pos : Pos} (hg : Gl X x) (hm : X.mg x = some u) (r : RelV v u) (hd : (x == ("__debug__" : Str)) = false:=by decide) : PE X (.Name x pos) (tC v) :=
 fun _ _ _ H _ I h => ld_glob I hg hm ⟨v,H,I,r,h⟩ hd
variable {a b : Expr} {ta tb : TE} {pos : Pos}
def PC (X : Cx) (op : CmpOp) (a b : Expr) (t : TE) : Prop :=
 ∀ (pins : List (Addr × Obj)) (s : Shared) (σ : St) (H : Hp) (Q : VK),Inv X pins σ H s -> t σ H Q ->
  wpAny (model X.prog X.w) X.A (eval a X.env) (fun v s₁ => wpAny (model X.prog X.w) X.A (eval b X.env) (fun u s₂ => wpAny (model X.prog X.w) X.A (compareOp op v u) (EP X pins σ Q) X.xe s₂) X.xe s₁) X.xe s
theorem nobehind (b : Expr) {op : CmpOp} (h : op ≠ .In) (h2 : op ≠ .NotIn) : behindInMarks op b = false:=by
 have e1 : (op == CmpOp.In) = false:=by cases op <;> first | rfl | exact absurd rfl h
 have e2 : (op == CmpOp.NotIn) = false:=by cases op <;> first | rfl | exact absurd rfl h2
 cases b <;> simp [behindInMarks,e1,e2]
def tB (t : TE) : TT:=fun σ H Q => t σ H fun x H1 => ∃ c,x = .bl c /\ Q c H1
theorem pt_cmp {op : CmpOp} {t : TE} (h : PC X op a b t) (h1 : behindInMarks op b = false:=by first | exact nobehind _ (by decide) (by decide) | rfl) : PT X (.Compare a [op] [b] pos) (tB t):=by
 intro pins s σ H Q I hw
 refine wpAny_isTrue_Compare1 (thn (h pins s σ H _ I hw) fun v s1 h1 => thn h1 fun u s2 h2 => thn h2 fun c s3 ⟨x,H1,I1,r1,q1⟩ => ?_) h1
 obtain ⟨d,rfl,q⟩:=q1
 cases r1
 exact wpAny_truthy_bool ⟨H1,I1,q⟩
theorem pt_val {e : Expr} {t : TE} (h : PE X e t) (he : ∀ whole,isTrue e X.env whole = (do let v <- whole; standAt e.pos; holding [v] (truthy v)):=by intro _; rfl) : PT X e (tB t):=by
 intro pins s σ H Q I hw
 refine isTrue_plain (thn (h pins s σ H _ I hw) fun v s1 ⟨x,H1,I1,r1,q1⟩ => ?_) (he _)
 obtain ⟨d,rfl,q⟩:=q1
 cases r1
 exact wpAny_truthy_bool ⟨H1,I1,q⟩
variable {tA tB' : TT} {rest : List Expr}
def tAnd (t u : TT) : TT:=fun σ H Q => t σ H fun c H1 => if c = true then u σ H1 Q else Q false H1
def tOr (t u : TT) : TT:=fun σ H Q => t σ H fun c H1 => if c = true then Q true H1 else u σ H1 Q
def tNot (t : TT) : TT:=fun σ H Q => t σ H fun c H1 => Q (!c) H1
theorem pw_and1 (ha : PT X a tA) : PW X (.BoolOp .And [a] pos) tA:=by
 intro wh pins s σ H Q I h
 refine isTrue_and (thn (ha pins s σ H Q I h) fun c s1 e => ?_)
 cases c with
 | true => exact isTrue_and_nil e
 | false => exact e
theorem pw_or1 (ha : PT X a tA) : PW X (.BoolOp .Or [a] pos) tA:=by
 intro wh pins s σ H Q I h
 refine isTrue_or (thn (ha pins s σ H Q I h) fun c s1 e => ?_)
 cases c with
 | false => exact isTrue_or_nil e
 | true => exact e
theorem pw_and (ha : PT X a tA) (hb : PW X (.BoolOp .And (b :: rest) pos) tB') : PW X (.BoolOp .And (a :: b :: rest) pos) (tAnd tA tB'):=by
 intro wh pins s σ H Q I h
 refine isTrue_and (thn (ha pins s σ H _ I h) fun c s1 ⟨H1,I1,q1⟩ => ?_)
 cases c with
 | true => exact hb wh pins s1 σ H1 Q I1 q1
 | false => exact ⟨H1,I1,q1⟩
theorem pw_or (ha : PT X a tA) (hb : PW X (.BoolOp .Or (b :: rest) pos) tB') : PW X (.BoolOp .Or (a :: b :: rest) pos) (tOr tA tB'):=by
 intro wh pins s σ H Q I h
 refine isTrue_or (thn (ha pins s σ H _ I h) fun c s1 ⟨H1,I1,q1⟩ => ?_)
 cases c with
 | true => exact ⟨H1,I1,q1⟩
 | false => exact hb wh pins s1 σ H1 Q I1 q1
theorem pt_not (ha : PT X a tA) : PT X (.UnaryOp .Not a pos) (tNot tA):=by
 intro pins s σ H Q I h
 exact isTrue_not (ha pins s σ H (fun c H1 => Q (!c) H1) I h)
end
end L2
namespace L2
open PySem PySem.Spec PyProof.Rows
def SqL (K : PySem.W.Frag) (H : Hp) (a : Addr) (xs : List V) : Prop :=
 Rd H a (.lst xs) \/
  ∃ (o : Obj) (its : Array Value) (n : Nat),K.lookup a = some o /\ o.cls = .type "list" /\ o.dict = none /\ o.data = .seq its n /\ its.size <= sizeLine /\ Vals xs its.toList
def SqT (K : PySem.W.Frag) (H : Hp) (a : Addr) (xs : List V) : Prop :=
 Rd H a (.tup xs) \/
  ∃ (o : Obj) (its : Array Value) (n : Nat),K.lookup a = some o /\ o.cls = .type "tuple" /\ o.dict = none /\ o.data = .seq its n /\ its.size <= sizeLine /\ Vals xs its.toList
noncomputable def absV : Value -> Option V
 | .none => some .non
 | .bool b => some (.bl b)
 | .int i _ => some (.int i)
 | .str x _ => some (.str x)
 | .bytes b _ => some (.byt b)
 | .float b _ => some (.flt b)
 | .ref a => some (.ref a)
 | .type n => some (.ty n)
 | _ => none
theorem RelV.abs {x : V} {u : Value} (r : RelV x u) : absV u = some x:=by
 cases x with
 | non => cases r; rfl
 | bl _ => cases r; rfl
 | int _ => obtain ⟨t,rfl⟩:=r; rfl
 | str _ => obtain ⟨t,rfl⟩:=r; rfl
 | byt _ => obtain ⟨t,rfl⟩:=r; rfl
 | flt _ => obtain ⟨t,rfl⟩:=r; rfl
 | ref _ => cases r; rfl
 | ty _ => cases r; rfl
theorem RelV.inj {x y : V} {u : Value} (r : RelV x u) (q : RelV y u) : x = y:=Option.some.inj (r.abs.symm.trans q.abs)
theorem Vals.inj {xs ys : List V} {us : List Value} (h : Vals xs us) (h' : Vals ys us) : xs = ys:=by
 induction h generalizing ys with
 | nil => cases h'; rfl
 | cons r t ih =>
  cases h' with
  | cons r' t' => rw [r.inj r',ih t']
section
variable {X : Cx} {pins : List (Addr × Obj)} {σ : St} {H : Hp} {s : Shared} {a : Addr} {xs ys : List V}
theorem SqL.of {K : PySem.W.Frag} (h : H a = some (.lst xs)) : SqL K H a xs:=.inl (.inl h)
theorem SqT.of {K : PySem.W.Frag} (h : H a = some (.tup xs)) : SqT K H a xs:=.inl (.inl h)
theorem Inv.list (I : Inv X pins σ H s) (h : SqL X.K H a xs) : ∃ its : List Value,Vals xs its /\ PlainL s.heap a its.toArray /\ xs.length <= sizeLine:=by
 rcases h with h | ⟨o,its,n,hk,hc,hd,hs,hz,r⟩
 ·
  obtain ⟨z,its,n,r,e⟩:=h.ok I.hok
  exact ⟨its,r,⟨_,n,e,rfl,rfl,rfl⟩,z⟩
 ·
  refine ⟨its.toList,r,⟨o,n,I.kIn a o hk,hc,hd,by simpa using hs⟩,?_⟩
  have e:=r.length
  simp only [Array.length_toList] at e
  omega
theorem Inv.tuple (I : Inv X pins σ H s) (h : SqT X.K H a xs) : ∃ its : List Value,Vals xs its /\ IsTup s.heap a its.toArray /\ xs.length <= sizeLine:=by
 rcases h with h | ⟨o,its,n,hk,hc,_,hs,hz,r⟩
 ·
  obtain ⟨z,its,r,p⟩:=h.ok I.hok
  exact ⟨its,r,p.is,z⟩
 ·
  refine ⟨its.toList,r,⟨o,I.kIn a o hk,hc,n,by simpa using hs⟩,?_⟩
  have e:=r.length
  simp only [Array.length_toList] at e
  omega
theorem Inv.list_inj (I : Inv X pins σ H s) (h : SqL X.K H a xs) (h' : SqL X.K H a ys) : xs = ys:=by
 obtain ⟨its,r,⟨o,n,e,_,_,d⟩,_⟩:=I.list h
 obtain ⟨its',r',⟨o',n',e',_,_,d'⟩,_⟩:=I.list h'
 rw [e] at e'; cases e'
 rw [d] at d'
 injection d' with d1 _
 have : its = its':=by simpa using congrArg Array.toList d1
 subst this
 exact r.inj r'
theorem Inv.tuple_inj (I : Inv X pins σ H s) (h : SqT X.K H a xs) (h' : SqT X.K H a ys) : xs = ys:=by
 obtain ⟨its,r,⟨o,e,_,n,d⟩,_⟩:=I.tuple h
 obtain ⟨its',r',⟨o',e',_,n',d'⟩,_⟩:=I.tuple h'
 rw [e] at e'; cases e'
 rw [d] at d'
 injection d' with d1 _
 have : its = its':=by simpa using congrArg Array.toList d1
 subst this
 exact r.inj r'
end
noncomputable abbrev Cx.wish (X : Cx) (E : Value -> Shared -> Prop) : Cx:={ X with xe:=E }
noncomputable abbrev Cx.nox (X : Cx) : Cx:=X.wish fun _ _ => False
theorem Cx.Ok.wish {X : Cx} (ok : X.Ok) (E : Value -> Shared -> Prop) : (X.wish E).Ok :=
 ⟨ok.mod,ok.kind,ok.glob,ok.blt,ok.above,ok.inj,ok.has,ok.cab,ok.hd,ok.frames,ok.stk,ok.exf,ok.bs,ok.bsz,ok.noex,ok.exfs,ok.funs,ok.frf⟩
theorem Cx.Ok.unwish {X : Cx} {E : Value -> Shared -> Prop} (ok : (X.wish E).Ok) : X.Ok :=
 ⟨ok.mod,ok.kind,ok.glob,ok.blt,ok.above,ok.inj,ok.has,ok.cab,ok.hd,ok.frames,ok.stk,ok.exf,ok.bs,ok.bsz,ok.noex,ok.exfs,ok.funs,ok.frf⟩
section
variable {X : Cx} {pins : List (Addr × Obj)} {σ : St} {H : Hp} {s : Shared} {E : Value -> Shared -> Prop}
theorem Inv.wish (I : Inv X pins σ H s) (E : Value -> Shared -> Prop) : Inv (X.wish E) pins σ H s:=⟨I.ok.wish E,I.os,I.bare,I.base,I.loc,I.cell,I.free,I.freeC,I.pin,I.hok,I.len⟩
theorem Inv.unwish (I : Inv (X.wish E) pins σ H s) : Inv X pins σ H s:=⟨I.ok.unwish,I.os,I.bare,I.base,I.loc,I.cell,I.free,I.freeC,I.pin,I.hok,I.len⟩
theorem SP.unwish {D : Ends} {f : Flow} {s' : Shared} (h : SP (X.wish E) pins D f s') : SP X pins D f s':=by
 cases f with
 | next => obtain ⟨σ',H',I,q⟩:=h; exact ⟨σ',H',I.unwish,q⟩
 | brk => obtain ⟨σ',H',I,q⟩:=h; exact ⟨σ',H',I.unwish,q⟩
 | cont => obtain ⟨σ',H',I,q⟩:=h; exact ⟨σ',H',I.unwish,q⟩
 | ret u => obtain ⟨v,σ',H',I,r,q⟩:=h; exact ⟨v,σ',H',I.unwish,r,q⟩
theorem PE.nox {e : Expr} {t : TE} (h : PE X.nox e t) : PE X e t:=fun pins s σ H Q I hw =>
 wpAny_mono (h pins s σ H Q (I.wish _) hw) (fun _ _ ⟨v,H',I',r,q⟩ => ⟨v,H',I'.unwish,r,q⟩) fun _ _ z => False.elim z
theorem PT.nox {e : Expr} {t : TT} (h : PT X.nox e t) : PT X e t:=fun pins s σ H Q I hw =>
 wpAny_mono (h pins s σ H Q (I.wish _) hw) (fun _ _ ⟨H',I',q⟩ => ⟨H',I'.unwish,q⟩) fun _ _ z => False.elim z
theorem PSs.nox {st : List Stmt} {t : TS} (h : PSs X.nox st t) : PSs X st t:=fun pins s σ H D I hw =>
 wpAny_mono (h pins s σ H D (I.wish _) hw) (fun _ _ q => q.unwish) fun _ _ z => False.elim z
end
section
variable {X : Cx} {st : Stmt} {rest : List Stmt} {t u : TS} {e : Expr} {te : TE} {pos : Pos}
def tNext : TS:=fun D σ H => D.nx σ H
def tSeq (t u : TS) : TS:=fun D σ H => t { D with nx:=u D } σ H
theorem pss_nil : PSs X [] tNext:=fun _ _ σ H _ I h => wpAny_execs_nil ⟨σ,H,I,h⟩
theorem pss_cons (h1 : PS X st t) (h2 : PSs X rest u) : PSs X (st :: rest) (tSeq t u):=by
 intro pins s σ H D I h
 refine wpAny_execs_cons (thn (h1 pins s σ H { D with nx:=u D } I h) fun f s1 q => ?_)
 cases f with
 | next =>
  obtain ⟨σ',H',I',q⟩:=q
  exact h2 pins s1 σ' H' D I' q
 | ret v => exact q
 | brk => exact q
 | cont => exact q
theorem pss_one (h1 : PS X st t) : PSs X [st] t:=by
 intro pins s σ H D I h
 refine wpAny_execs_cons (thn (h1 pins s σ H D I h) fun f s1 q => ?_)
 cases f with
 | next => exact wpAny_execs_nil q
 | ret v => exact q
 | brk => exact q
 | cont => exact q
theorem Inv.quiet {pins : List (Addr × Obj)} {σ : St} {H : Hp} {s : Shared} (I : Inv X pins σ H s) : interactive X.env = false:=by simp [interactive,I.ok.kind]
def tDrop (te : TE) : TS:=fun D σ H => te σ H fun _ H1 => D.nx σ H1
theorem ps_expr (he : PE X e te) (hs : swapsWith e none pos.line X.env = pure false:=by rfl) : PS X (.Expr e pos) (tDrop te):=by
 intro pins s σ H D I h
 exact wpAny_Expr_any (thn (he pins s σ H _ I h) fun v s1 ⟨x,H1,I1,r1,q1⟩ => ⟨σ,H1,I1,q1⟩) I.quiet hs
def tRet (te : TE) : TS:=fun D σ H => te σ H D.rt
theorem ps_ret (he : PE X e te) : PS X (.Return (some e) pos) (tRet te):=by
 intro pins s σ H D I h
 exact wpAny_Return_some (thn (he pins s σ H _ I h) fun v s1 ⟨x,H1,I1,r1,q1⟩ => ⟨x,σ,H1,I1,r1,q1⟩)
def tIfS (c : TT) (t u : TS) : TS:=fun D σ H => c σ H fun b H1 => if b = true then t D σ H1 else u D σ H1
theorem ps_if {c : Expr} {a b : List Stmt} {tc : TT} (hc : PT X c tc) (ha : PSs X a t) (hb : PSs X b u) : PS X (.If c a b pos) (tIfS tc t u):=by
 intro pins s σ H D I h
 refine wpAny_If (thn (hc pins s σ H _ I h) fun d s1 ⟨H1,I1,q1⟩ => ?_)
 cases d with
 | true => exact ha pins s1 σ H1 D I1 q1
 | false => exact hb pins s1 σ H1 D I1 q1
end
abbrev TG:=V -> St -> Hp -> (St -> Hp -> Prop) -> Prop
abbrev TGs:=List V -> St -> Hp -> (St -> Hp -> Prop) -> Prop
def PG (X : Cx) (target : Expr) (t : TG) : Prop :=
 ∀ (pins : List (Addr × Obj)) (s : Shared) (σ : St) (H : Hp) (v : V) (u : Value) (Q : St -> Hp -> Prop),Inv X pins σ H s -> RelV v u -> t v σ H Q ->
  wpAny (model X.prog X.w) X.A (assign target X.env u) (fun _ s' => ∃ σ' H',Inv X pins σ' H' s' /\ Q σ' H') X.xe s
def PGs (X : Cx) (ts : List Expr) (t : TGs) : Prop :=
 ∀ (pins : List (Addr × Obj)) (s : Shared) (σ : St) (H : Hp) (vs : List V) (us : List Value) (Q : St -> Hp -> Prop),Inv X pins σ H s -> Vals vs us -> t vs σ H Q ->
  wpAny (model X.prog X.w) X.A (assignInOrder ((assignEach ts X.env).map (·.2)) us) (fun _ s' => ∃ σ' H',Inv X pins σ' H' s' /\ Q σ' H') X.xe s
abbrev TSet:=V -> V -> V -> Hp -> (Hp -> Prop) -> Prop
def PSet (X : Cx) (t : TSet) : Prop :=
 ∀ (pins : List (Addr × Obj)) (s : Shared) (σ : St) (H : Hp) (o i v : V) (ov iv u : Value) (Q : Hp -> Prop),Inv X pins σ H s -> RelV o ov -> RelV i iv -> RelV v u -> t o i v H Q ->
  wpAny (model X.prog X.w) X.A (setItem ov iv u) (fun _ s' => ∃ H',Inv X pins σ H' s' /\ Q H') X.xe s
section
variable {X : Cx} {pos : Pos}
def gName (i : Nat) : TG:=fun v σ H Q => Q (σ.set i (some v)) H
theorem pg_name {i : Nat} {x : Str} (hN : X.N.Nodup) (hi : X.N[i]? = some x) (hx : Loc X.env.scope x) (hf : X.fn x = true \/ X.env.scope.names.lookup x = some .local:=by first | exact .inl rfl | exact .inr rfl | assumption) : PG X (.Name x pos) (gName i):=by
 intro pins s σ H v u Q I r h
 exact wpAny_assign_Name (store_ok I hN hi hx r (fun s' I' => ⟨_,H,I',h⟩) hf)
def gNil : TGs:=fun vs σ H Q => vs = [] /\ Q σ H
def gCons (t : TG) (u : TGs) : TGs:=fun vs σ H Q => ∃ v r,vs = v :: r /\ t v σ H fun σ' H' => u r σ' H' Q
theorem pgs_nil : PGs X [] gNil:=by
 intro pins s σ H vs us Q I r h
 obtain ⟨e,h⟩:=h
 subst e
 cases r
 exact assignInOrder_nil ⟨σ,H,I,h⟩
theorem pgs_cons {e : Expr} {es : List Expr} {t : TG} {u : TGs} (h1 : PG X e t) (h2 : PGs X es u)
  (hs : (assignEach (e :: es) X.env).map (·.2) = assign e X.env :: (assignEach es X.env).map (·.2):=by rfl) : PGs X (e :: es) (gCons t u):=by
 intro pins s σ H vs us Q I r h
 obtain ⟨v,vr,e1,h⟩:=h
 subst e1
 cases r with
 | cons r rr =>
  rw [hs]
  refine assignInOrder_cons (thn (h1 pins s σ H _ _ _ I r h) fun _ s1 ⟨σ1,H1,I1,q1⟩ => ?_)
  exact h2 pins s1 σ1 H1 _ _ Q I1 rr q1
def gTup (K : PySem.W.Frag) (n : Nat) (t : TGs) : TG:=fun v σ H Q => ∃ a xs,v = .ref a /\ SqT K H a xs /\ xs.length = n /\ t xs σ H Q
theorem pg_tup {es : List Expr} {k : Nat} {t : TGs} {n : Nat} (hc : X.calm = true) (h : PGs X es t)
  (hn : (assignEach es X.env).length = n:=by rfl) (hst : (assignEach es X.env).findIdx? (·.1) = none:=by rfl) : PG X (.Tuple es k pos) (gTup X.K n t):=by
 intro pins s σ H v u Q I r hw
 obtain ⟨a,xs,e1,hq,hl,hw⟩:=hw
 subst e1
 cases r
 obtain ⟨its,rv,ht,hz⟩:=I.tuple hq
 refine assign_Tuple_tuple (I.ok.hd hc) ht (by simp [hn,<- hl,rv.length]) hst fun h' hx => ?_
 have I1 : Inv X pins σ H { s with heap:=h' }:=I.kept (t':=s.toks) fun b o e => hx b o (Nat.ne_of_lt (Heap.lt_size e)) e
 exact h pins _ σ H xs _ Q I1 (by simpa using rv) hw
def gSub (to ti : TE) (t : TSet) : TG:=fun v σ H Q => to σ H fun o H1 => ti σ H1 fun i H2 => t o i v H2 fun H3 => Q σ H3
theorem pg_sub {o i : Expr} {to ti : TE} {t : TSet} (ho : PE X o to) (hi : PE X i ti) (hs : PSet X t)
  (ha : ∀ v,assign (.Subscript o i pos) X.env v = (do
   let ov <- holding [v] (eval o X.env)
   let iv <- holding [v,ov] (eval i X.env)
   standAt pos
   holding [v,ov,iv] (setItem ov iv v)
   release [v,ov,iv] []):=by intro _; rfl) : PG X (.Subscript o i pos) (gSub to ti t):=by
 intro pins s σ H v u Q I r h
 rw [ha]
 refine wpAny_bind (wpAny_holding (thn (ho pins s σ H _ I h) fun ov s1 ⟨x,H1,I1,r1,q1⟩ => ?_))
 refine wpAny_bind (wpAny_holding (thn (hi pins s1 σ H1 _ I1 q1) fun iv s2 ⟨y,H2,I2,r2,q2⟩ => ?_))
 refine wpAny_bind (wpAny_standAt (wpAny_bind (wpAny_holding (thn (hs pins s2 σ H2 x y v ov iv u _ I2 r1 r2 r q2) fun _ s3 ⟨H3,I3,q3⟩ => ?_))))
 exact wpAny_release ⟨σ,H3,I3,q3⟩
def tAsg (te : TE) (g : TG) : TS:=fun D σ H => te σ H fun x H1 => g x σ H1 D.nx
theorem ps_asg {tg e : Expr} {te : TE} {g : TG} (he : PE X e te) (hg : PG X tg g) (hs : swapsWithSole [tg] e pos.line X.env = pure false:=by rfl) (hw : swappedStores [tg] e X.env = pure none:=by rfl)
  (h1 : (assignEach [tg] X.env).map (·.2) = [assign tg X.env]:=by rfl) : PS X (.Assign [tg] e pos) (tAsg te g):=by
 intro pins s σ H D I h
 refine wpAny_Assign_stores (thn (he pins s σ H _ I h) fun v s1 ⟨x,H1,I1,r1,q1⟩ => ?_) hs hw
 rw [h1]
 exact thn (hg pins s1 σ H1 x v _ I1 r1 q1) fun _ s2 q => q
theorem ps_set {i : Nat} {x : Str} {e : Expr} {te : TE} {pos' : Pos} (hN : X.N.Nodup) (hi : X.N[i]? = some x) (hx : Loc X.env.scope x) (he : PE X e te) (hs : swapsWith e (some (.Name x pos')) pos.line X.env = pure false:=by rfl) (hf : X.fn x = true \/ X.env.scope.names.lookup x = some .local:=by first | exact .inl rfl | exact .inr rfl | assumption) :
  PS X (.Assign [.Name x pos'] e pos) (tAsg te (gName i)):=by
 intro pins s σ H D I h
 refine wpAny_Assign_Name (thn (he pins s σ H _ I h) fun v s1 ⟨y,H1,I1,r1,q1⟩ => ?_) hs
 exact store_ok I1 hN hi hx r1 (fun s2 I2 => ⟨_,H1,I2,q1⟩) hf
end
section
variable {X : Cx} {pos : Pos}
def tWhile (c : TT) (tb : TS) : TS:=fun D σ H => ∃ W : Nat -> St -> Hp -> Prop,(∃ m,W m σ H) /\ ∀ m σ H,W m σ H ->
 c σ H fun b H1 => if b = true then ∃ N : St -> Hp -> Prop,(∀ σ' H',N σ' H' -> ∃ m',m' < m /\ W m' σ' H') /\ tb { D with nx:=N,ct:=N,bk:=D.nx } σ H1 else D.nx σ H1
theorem ps_while {c : Expr} {body : List Stmt} {tc : TT} {tb : TS} (hp : PassesOwn (model X.prog X.w) X.A X.env X.xe) (hc : PT X c tc) (hb : PSs X body tb) : PS X (.While c body [] pos) (tWhile tc tb):=by
 intro pins s σ H D I h
 obtain ⟨W,⟨m0,w0⟩,turn⟩:=h
 refine wpAny_While (codeAny_whileLoop (fun n s' => ∃ σ' H',Inv X pins σ' H' s' /\ W n σ' H') ?_ m0 ⟨σ,H,I,w0⟩)
 rintro n s1 ⟨σ1,H1,I1,w1⟩
 refine wpAny_passesOwn hp (thn (hc pins s1 σ1 H1 _ I1 (turn n σ1 H1 w1)) fun b s2 ⟨H2,I2,q2⟩ => ?_)
 cases b with
 | true =>
  obtain ⟨N,hN,q2⟩:=q2
  rw [if_pos rfl]
  refine wpAny_passesOwn hp (thn (hb pins s2 σ1 H2 _ I2 q2) fun f s3 q3 => ?_)
  cases f with
  | next =>
   obtain ⟨σ3,H3,I3,n3⟩:=q3
   obtain ⟨m',hm,w3⟩:=hN σ3 H3 n3
   exact ⟨m',hm,σ3,H3,I3,w3⟩
  | cont =>
   obtain ⟨σ3,H3,I3,n3⟩:=q3
   obtain ⟨m',hm,w3⟩:=hN σ3 H3 n3
   exact ⟨m',hm,σ3,H3,I3,w3⟩
  | brk => exact q3
  | ret v => exact q3
 | false =>
  rw [if_neg Bool.false_ne_true]
  exact wpAny_execs_nil ⟨σ1,H2,I2,q2⟩
end
structure It where
 go : Nat -> Hp -> Prop
 yld : Nat -> Hp -> V -> Hp -> Prop
 stop : Nat -> Hp -> Prop
def FpOk (X : Cx) (pins : List (Addr × Obj)) (H : Hp) (b : Addr) : Prop :=
 H b = none /\ b ≠ X.env.locals /\ b ∉ X.fs /\ (b ∈ X.ex \/ X.s₀.heap.objs.size <= b) /\ (∀ x c,X.env.cells.lookup x = some c -> c ≠ b) /\ ∀ p ∈ X.pn ++ pins,p.1 ≠ b
theorem Inv.fpOk {X : Cx} {pins : List (Addr × Obj)} {σ : St} {H H' : Hp} {s : Shared} {b : Addr} (I : Inv X pins σ H s) (hb : s.heap.objs.size <= b) (hn : H' b = none) : FpOk X pins H' b:=by
 refine ⟨hn,Nat.ne_of_gt (Nat.lt_of_lt_of_le I.lt hb),I.nofs hb,.inr (Nat.le_trans I.sz hb),fun x c e z => ?_,fun p hp z => ?_⟩
 ·
  obtain ⟨v,q⟩:=I.cell x c e
  exact absurd (Nat.lt_of_lt_of_le q.lt (by rw [z]; exact hb)) (Nat.lt_irrefl _)
 ·
  exact absurd (Nat.lt_of_lt_of_le (Heap.lt_size (I.pin p hp).1) (by rw [z]; exact hb)) (Nat.lt_irrefl _)
structure Turn (P : Program) (w : World) (K : PySem.W.Frag) (tg : Expr) (J : It) (fp : List Addr) (it : Addr) (tn : Nat -> Heap -> Prop) : Prop where
 mem : it ∈ fp
 obj : ∀ i h,tn i h -> ∀ b ∈ fp,∃ o,h.get? b = some o /\ ∀ v,o.data ≠ .cell v
 keep : ∀ i h h',tn i h -> (∀ b ∈ fp,∀ o,h.get? b = some o -> h'.get? b = some o) -> tn i h'
 item : ∀ (X : Cx),X.prog = P -> X.w = w -> X.K = K -> X.calm = true -> ∀ (i : Nat) (pins : List (Addr × Obj)) (s : Shared) (σ : St) (H : Hp) (E : Value -> Shared -> Prop),Inv X pins σ H s -> (∀ b ∈ fp,FpOk X pins H b) -> tn i s.heap -> J.go i H ->
  wpAny (model P w) X.A (pyNext (.ref it)) (fun r s1 => ∃ u,r = some u /\
   wpAny (model P w) X.A (letOwnedTupleGo tg (.ref it) u) (fun _ s2 => ∃ x H',Inv X pins σ H' s2 /\ RelV x u /\ J.yld i H x H' /\ tn (i + 1) s2.heap /\ ∀ b ∈ fp,H' b = none) E s1) E s
 done : ∀ (X : Cx),X.prog = P -> X.w = w -> X.K = K -> X.calm = true -> ∀ (i : Nat) (pins : List (Addr × Obj)) (s : Shared) (σ : St) (H : Hp) (E : Value -> Shared -> Prop),Inv X pins σ H s -> (∀ b ∈ fp,FpOk X pins H b) -> tn i s.heap -> J.stop i H ->
  wpAny (model P w) X.A (pyNext (.ref it)) (fun r s1 => r = none /\ Inv X pins σ H s1) E s
 self : ∀ (A : Around) (i : Nat) (s : Shared) (Q : Value -> Shared -> Prop) (E : Value -> Shared -> Prop),tn i s.heap -> Q (.ref it) s -> wpAny (model P w) A (pyIter (.ref it)) Q E s
abbrev TI:=St -> Hp -> (It -> Hp -> Prop) -> Prop
def PIE (X : Cx) (pins : List (Addr × Obj)) (σ : St) (tg : Expr) (R : It -> Hp -> Prop) (itv : Value) (s2 : Shared) : Prop :=
 ∃ (it : Addr) (fp : List Addr) (tn : Nat -> Heap -> Prop) (J : It) (H' : Hp),itv = .ref it /\ Inv X pins σ H' s2 /\ Turn X.prog X.w X.K tg J fp it tn /\ tn 0 s2.heap /\ (∀ b ∈ fp,FpOk X pins H' b) /\ R J H'
def PI (X : Cx) (tg iter : Expr) (wi : TI) : Prop :=
 ∀ (pins : List (Addr × Obj)) (s : Shared) (σ : St) (H : Hp) (R : It -> Hp -> Prop),Inv X pins σ H s -> wi σ H R ->
  wpAny (model X.prog X.w) X.A (eval iter X.env) (fun v s1 => wpAny (model X.prog X.w) X.A (pyIter v) (PIE X pins σ tg R) X.xe s1) X.xe s
theorem go_of {M : Model} {A : Around} {E : Value -> Shared -> Prop} {s : Shared} {tg : Expr} {it : Addr} {u : Value} {o : Obj} {n : String} {vs : Array Value} {Q : Unit -> Shared -> Prop} (ho : s.heap.get? it = some o) (hc : o.cls = .type n) (hd : o.data = .fields vs)
  (hn : ["enumerate","zip","dict_itemiterator","dict_reverseitemiterator","odict_iterator","itertools.zip_longest","itertools.pairwise"].contains n = false) (hQ : Q () s) : wpAny M A (letOwnedTupleGo tg (.ref it) u) Q E s:=by
 unfold letOwnedTupleGo
 cases tg <;> first
  | exact wpAny_pure hQ
  | (cases u <;> first
    | exact wpAny_pure hQ
    | (refine wpAny_bind (wpAny_load ho ?_)
       rw [hc,hd]
       show wpAny M A (if (["enumerate","zip","dict_itemiterator","dict_reverseitemiterator","odict_iterator","itertools.zip_longest","itertools.pairwise"].contains n && vs[0]? == some (rawInt _)) = true then _ else _) Q E s
       rw [if_neg (by intro h; rw [hn,Bool.false_and] at h; cases h)]
       exact wpAny_pure hQ))
noncomputable def Itl (K : PySem.W.Frag) (a : Addr) : It :=
 ⟨fun i H => ∃ xs x,SqL K H a xs /\ xs[i]? = some x,fun i H x H' => H' = H /\ ∀ xs,SqL K H a xs -> xs[i]? = some x,fun i H => ∃ xs,SqL K H a xs /\ xs.length <= i⟩
noncomputable def Itt (K : PySem.W.Frag) (a : Addr) : It :=
 ⟨fun i H => ∃ xs x,SqT K H a xs /\ xs[i]? = some x,fun i H x H' => H' = H /\ ∀ xs,SqT K H a xs -> xs[i]? = some x,fun i H => ∃ xs,SqT K H a xs /\ xs.length <= i⟩
noncomputable def Itr (lo : Int) (n : Nat) : It:=⟨fun i _ => i < n,fun i H x H' => H' = H /\ x = .int (lo + i),fun i _ => n <= i⟩
theorem turn_list {P : Program} {w : World} {K : PySem.W.Frag} {tg : Expr} (a it : Addr) : Turn P w K tg (Itl K a) [it] it (fun i h => h.IsListIter it a i) where
 mem:=by simp
 obj:=fun i h st b hb => by
  have e : b = it:=by simpa using hb
  subst e
  obtain ⟨o,e,c,d⟩:=st
  exact ⟨o,e,fun v z => by rw [d] at z; cases z⟩
 keep:=fun i h h' st k => st.at fun o e => k it (by simp) o e
 item:=by
  intro X hP hw hK hc i pins s σ H E I hf st hg
  subst hP hw hK
  obtain ⟨xs,x,hq,hx⟩:=hg
  obtain ⟨its,rv,p,hz⟩:=I.list hq
  obtain ⟨u,hu,ru⟩:=rv.get hx
  obtain ⟨f0,f1,f2,f3,f4,f5⟩:=hf it (by simp)
  refine wpAny_pyNext_list_item st p.isList (x:=u) (by simpa using hu) fun h' st' sb => ?_
  have I1 : Inv X pins σ H { s with heap:=h' }:=I.turned (t':=s.toks) (fun b o hb e => (sb.2 b hb).trans e) f0 f1 f3 f4 f5
  obtain ⟨o,e,c,d⟩:=id st'
  exact ⟨u,rfl,go_of (s:={ s with heap:=h' }) e c d (by decide) ⟨x,H,I1,ru,⟨rfl,fun ys hy => by rw [I.list_inj hy hq]; exact hx⟩,st',fun b hb => (hf b hb).1⟩⟩
 done:=by
  intro X hP hw hK hc i pins s σ H E I hf st hg
  subst hP hw hK
  obtain ⟨xs,hq,hx⟩:=hg
  obtain ⟨its,rv,p,hz⟩:=I.list hq
  obtain ⟨f0,f1,f2,f3,f4,f5⟩:=hf it (by simp)
  have hl:=rv.length
  exact wpAny_pyNext_list_end (I.ok.hd hc) st p.isList (by simp; omega) fun h' eb => ⟨rfl,I.turned (t':=s.toks) (fun b o hb e => eb b o hb e) f0 f1 f3 f4 f5⟩
 self:=fun _ _ _ _ _ st h => wpAny_pyIter_listiter st h
theorem turn_tuple {P : Program} {w : World} {K : PySem.W.Frag} {tg : Expr} (a it : Addr) : Turn P w K tg (Itt K a) [it] it (fun i h => h.IsTupleIter it a i) where
 mem:=by simp
 obj:=fun i h st b hb => by
  have e : b = it:=by simpa using hb
  subst e
  obtain ⟨o,e,c,d⟩:=st
  exact ⟨o,e,fun v z => by rw [d] at z; cases z⟩
 keep:=fun i h h' st k => st.at fun o e => k it (by simp) o e
 item:=by
  intro X hP hw hK hc i pins s σ H E I hf st hg
  subst hP hw hK
  obtain ⟨xs,x,hq,hx⟩:=hg
  obtain ⟨its,rv,p,hz⟩:=I.tuple hq
  obtain ⟨u,hu,ru⟩:=rv.get hx
  obtain ⟨f0,f1,f2,f3,f4,f5⟩:=hf it (by simp)
  refine wpAny_pyNext_tuple_item st (show s.heap.IsTuple a its.toArray from p) (x:=u) (by simpa using hu) fun h' st' sb => ?_
  have I1 : Inv X pins σ H { s with heap:=h' }:=I.turned (t':=s.toks) (fun b o hb e => (sb.2 b hb).trans e) f0 f1 f3 f4 f5
  obtain ⟨o,e,c,d⟩:=id st'
  exact ⟨u,rfl,go_of (s:={ s with heap:=h' }) e c d (by decide) ⟨x,H,I1,ru,⟨rfl,fun ys hy => by rw [I.tuple_inj hy hq]; exact hx⟩,st',fun b hb => (hf b hb).1⟩⟩
 done:=by
  intro X hP hw hK hc i pins s σ H E I hf st hg
  subst hP hw hK
  obtain ⟨xs,hq,hx⟩:=hg
  obtain ⟨its,rv,p,hz⟩:=I.tuple hq
  obtain ⟨f0,f1,f2,f3,f4,f5⟩:=hf it (by simp)
  have hl:=rv.length
  exact wpAny_pyNext_tuple_end (I.ok.hd hc) st (show s.heap.IsTuple a its.toArray from p) (by simp; omega) fun h' eb => ⟨rfl,I.turned (t':=s.toks) (fun b o hb e => eb b o hb e) f0 f1 f3 f4 f5⟩
 self:=fun _ _ _ _ _ st h => wpAny_pyIter_tupleiter st h
theorem turn_range {P : Program} {w : World} {K : PySem.W.Frag} {tg : Expr} (it : Addr) (lo : Int) (n : Nat) : Turn P w K tg (Itr lo n) [it] it (fun i h => IsRangeIter h it (lo + (i : Nat) * 1) ((n : Int) - (i : Nat)) 1) where
 mem:=by simp
 obj:=fun i h st b hb => by
  have e : b = it:=by simpa using hb
  subst e
  exact ⟨_,st,fun v z => by
   have z' : Data.fields _ = Data.cell v:=z
   cases z'⟩
 keep:=fun i h h' st k => k it (by simp) _ st
 item:=by
  intro X hP hw hK hc i pins s σ H E I hf st hg
  subst hP hw hK
  obtain ⟨f0,f1,f2,f3,f4,f5⟩:=hf it (by simp)
  have W:=Walks.range (prog:=X.prog) (w:=X.w) (I.ok.hd hc) it lo 1 n
  refine W.item i s _ _ hg st fun v h' tk hv st' kk => ?_
  obtain ⟨t,rfl⟩:=hv
  have I1 : Inv X pins σ H { s with heap:=h',toks:=tk }:=I.turned (fun b o hb e => kk b o (by simpa using hb) e) f0 f1 f3 f4 f5
  refine ⟨_,rfl,go_of (s:={ s with heap:=h',toks:=tk }) (n:="range_iterator") st' rfl rfl (by decide) ⟨.int (lo + i),H,I1,⟨t,?_⟩,⟨rfl,rfl⟩,st',fun b hb => (hf b hb).1⟩⟩
  rw [Int.mul_one]
 done:=by
  intro X hP hw hK hc i pins s σ H E I hf st hg
  subst hP hw hK
  obtain ⟨f0,f1,f2,f3,f4,f5⟩:=hf it (by simp)
  exact wpAny_pyNext_range_end (I.ok.hd hc) st (by have : n <= i:=hg; omega) fun h' eb => ⟨rfl,I.turned (t':=s.toks) (fun b o hb e => eb b o hb e) f0 f1 f3 f4 f5⟩
 self:=fun _ _ _ _ _ st h => wpAny_pyIter_rangeiter st h
end L2
namespace L2
open PySem PySem.Spec PyProof.Rows
section
variable {X : Cx} {tg : Expr}
def iList (K : PySem.W.Frag) (tl : TE) : TI:=fun σ H R => tl σ H fun x H1 => ∃ a,x = .ref a /\ (∃ xs,SqL K H1 a xs) /\ R (Itl K a) H1
def iTup (K : PySem.W.Frag) (tl : TE) : TI:=fun σ H R => tl σ H fun x H1 => ∃ a,x = .ref a /\ (∃ xs,SqT K H1 a xs) /\ R (Itt K a) H1
theorem pi_list {l : Expr} {tl : TE} (hl : PE X l tl) : PI X tg l (iList X.K tl):=by
 intro pins s σ H R I h
 refine thn (hl pins s σ H _ I h) fun v s1 ⟨x,H1,I1,r1,q1⟩ => ?_
 obtain ⟨a,e,⟨xs,hq⟩,q⟩:=q1
 subst e
 cases r1
 obtain ⟨its,rv,p,hz⟩:=I1.list hq
 refine wpAny_pyIter_list p.isList ?_
 refine ⟨s1.heap.objs.size,[s1.heap.objs.size],_,_,H1,rfl,I1.kept (t':=s1.toks) fun b o e => Heap.get?_push_of_some _ e,turn_list a _,⟨_,Heap.get?_push_size _ rfl,rfl,rfl⟩,fun b hb => ?_,q⟩
 have e : b = s1.heap.objs.size:=by simpa using hb
 subst e
 exact I1.fpOk (Nat.le_refl _) (I1.hok.fresh (Nat.le_refl _))
theorem pi_tup {l : Expr} {tl : TE} (hl : PE X l tl) : PI X tg l (iTup X.K tl):=by
 intro pins s σ H R I h
 refine thn (hl pins s σ H _ I h) fun v s1 ⟨x,H1,I1,r1,q1⟩ => ?_
 obtain ⟨a,e,⟨xs,hq⟩,q⟩:=q1
 subst e
 cases r1
 obtain ⟨its,rv,p,hz⟩:=I1.tuple hq
 refine wpAny_pyIter_tuple (show s1.heap.IsTuple a its.toArray from p) ?_
 refine ⟨s1.heap.objs.size,[s1.heap.objs.size],_,_,H1,rfl,I1.kept (t':=s1.toks) fun b o e => Heap.get?_push_of_some _ e,turn_tuple a _,⟨_,Heap.get?_push_size _ rfl,rfl,rfl⟩,fun b hb => ?_,q⟩
 have e : b = s1.heap.objs.size:=by simpa using hb
 subst e
 exact I1.fpOk (Nat.le_refl _) (I1.hok.fresh (Nat.le_refl _))
theorem range_it {pins : List (Addr × Obj)} {σ : St} {H : Hp} {s : Shared} {R : It -> Hp -> Prop} {E : Value -> Shared -> Prop} {lo hi : Int} {t u v : Tok} {tk : Nat} (I : Inv X pins σ H s) (h1 : -(2 ^ 62) <= lo) (h2 : lo < 2 ^ 62) (h3 : -(2 ^ 62) <= hi) (h4 : hi < 2 ^ 62)
  (q : R (Itr lo (hi - lo).toNat) H) : wpAny (model X.prog X.w) X.A (pyIter (.ref s.heap.objs.size)) (PIE X pins σ tg R) E { s with heap:=s.heap.push { cls:=.type "range",data:=.fields #[.int lo t,.int hi u,.int 1 v] },toks:=tk }:=by
 refine wpAny_pyIter_range (IsRange.new ..) (small_one h1 h2 h3 h4) ?_
 have I1 : Inv X pins σ H { s with heap:=s.heap.push { cls:=.type "range",data:=.fields #[.int lo t,.int hi u,.int 1 v] },toks:=tk }:=I.kept fun b o e => Heap.get?_push_of_some _ e
 refine ⟨(s.heap.push { cls:=.type "range",data:=.fields #[.int lo t,.int hi u,.int 1 v] }).objs.size,[(s.heap.push { cls:=.type "range",data:=.fields #[.int lo t,.int hi u,.int 1 v] }).objs.size],_,_,H,rfl,
  I1.kept (t':=tk) fun b o e => Heap.get?_push_of_some _ e,turn_range _ lo (hi - lo).toNat,?_,fun b hb => ?_,q⟩
 ·
  have e1 : lo + ((0 : Nat) : Int) * 1 = lo:=by simp
  have e2 : (((hi - lo).toNat : Nat) : Int) - ((0 : Nat) : Int) = Builtin.Range.rangeSize lo hi 1:=by rw [rangeSize_one]; split <;> omega
  show IsRangeIter _ _ (lo + ((0 : Nat) : Int) * 1) ((((hi - lo).toNat : Nat) : Int) - ((0 : Nat) : Int)) 1
  rw [e1,e2]
  exact Heap.get?_push_size _ rfl
 ·
  have e : b = (s.heap.push { cls:=.type "range",data:=.fields #[.int lo t,.int hi u,.int 1 v] }).objs.size:=by simpa using hb
  subst e
  exact I1.fpOk (Nat.le_refl _) (I1.hok.fresh (Nat.le_refl _))
def iRng1 (ta : TA) : TI:=fun σ H R => ta σ H fun vs H1 => ∃ j : Int,vs = [.int j] /\ -(2 ^ 62) <= j /\ j < 2 ^ 62 /\ R (Itr 0 j.toNat) H1
theorem pi_range1 {a : Expr} {ta : TA} {p pos : Pos} (hg : Gl X "range") (hm : X.mg "range" = none) (ha : PA X [a] ta) (hs : starEach [a] X.env = [(false,eval a X.env)]:=by rfl) : PI X tg (.Call (.Name "range" p) [a] [] pos) (iRng1 ta):=by
 intro pins s σ H R I h
 refine Call_ (ld_blt I hg hm boot_range (PyProof.Rows.callWith_type1 (thn (ha pos pins s σ H _ I h) fun us s1 ⟨vs,H1,I1,r1,q1⟩ => ?_) hs rfl))
 obtain ⟨j,e,q1,q2,q⟩:=q1
 subst e
 cases r1 with
 | cons r rr =>
  cases rr
  obtain ⟨t,rfl⟩:=r
  exact call_range_1 (range_it I1 (by omega) (by omega) q1 q2 (by simpa using q))
def tFor (wi : TI) (g : TG) (tb : TS) : TS:=fun D σ H => wi σ H fun J H1 => ∃ W : Nat -> Nat -> St -> Hp -> Prop,(∃ m,W 0 m σ H1) /\ ∀ i m σ H,W i m σ H ->
 (J.stop i H /\ D.nx σ H) \/ (J.go i H /\ ∃ N : St -> Hp -> Prop,(∀ σ' H',N σ' H' -> ∃ m',m' < m /\ W (i + 1) m' σ' H') /\ ∀ x H',J.yld i H x H' -> g x σ H' fun σ2 H2 => tb { D with nx:=N,ct:=N,bk:=D.nx } σ2 H2)
noncomputable def pinsAt (fp : List Addr) (h : Heap) : List (Addr × Obj):=fp.filterMap fun b => (h.get? b).map fun o => (b,o)
theorem mem_pinsAt {fp : List Addr} {h : Heap} {b : Addr} {o : Obj} (hb : b ∈ fp) (e : h.get? b = some o) : (b,o) ∈ pinsAt fp h:=List.mem_filterMap.mpr ⟨b,hb,by rw [e]; rfl⟩
theorem of_pinsAt {fp : List Addr} {h : Heap} {p : Addr × Obj} (hp : p ∈ pinsAt fp h) : p.1 ∈ fp /\ h.get? p.1 = some p.2:=by
 obtain ⟨b,hb,e⟩:=List.mem_filterMap.mp hp
 cases q : h.get? b with
 | none => rw [q] at e; cases e
 | some o =>
  rw [q] at e
  have e' : (b,o) = p:=Option.some.inj e
  subst e'
  exact ⟨hb,q⟩
theorem Inv.pinned {pins : List (Addr × Obj)} {σ : St} {H : Hp} {s : Shared} {fp : List Addr} (I : Inv X pins σ H s) (hf : ∀ b ∈ fp,FpOk X pins H b) (ho : ∀ b ∈ fp,∃ o,s.heap.get? b = some o /\ ∀ v,o.data ≠ .cell v) : Inv X (pins ++ pinsAt fp s.heap) σ H s :=
 I.pins_of fun p hp => (List.mem_append.mp hp).elim (fun z => I.pin p (List.mem_append_right _ z)) fun z => by
  obtain ⟨hb,e⟩:=of_pinsAt z
  obtain ⟨f0,f1,f2,_⟩:=hf p.1 hb
  obtain ⟨o,e',d⟩:=ho p.1 hb
  rw [e] at e'; cases e'
  exact ⟨e,f0,f1,f2,d⟩
theorem Inv.unpinned {pins pl : List (Addr × Obj)} {σ : St} {H : Hp} {s : Shared} (I : Inv X (pins ++ pl) σ H s) : Inv X pins σ H s:=I.pins_of fun p hp => I.pin p (List.mem_append_right _ (List.mem_append_left _ hp))
theorem ps_for {iter : Expr} {body : List Stmt} {wi : TI} {g : TG} {tb : TS} {pos : Pos} (hp : PassesOwn (model X.prog X.w) X.A X.env X.xe) (hc : X.calm = true) (hi : PI X tg iter wi) (hg : PG X tg g) (hb : PSs X body tb)
  (hs : ∀ x,foldedSetIterable iter X.env x = pure x:=by intro _; rfl) : PS X (.For tg iter body [] pos) (tFor wi g tb):=by
 intro pins s σ H D I h
 refine wpAny_For (thn (hi pins s σ H _ I h) fun v s1 h1 => thn h1 fun itv s2 h2 => ?_) hs
 obtain ⟨it,fp,tn,J,H2,e,I2,T,st2,f2,W,⟨m0,w0⟩,turn⟩:=h2
 subst e
 -- what stays true of the iterator's objects through the loop
 have stat : ∀ {H' : Hp},(∀ b ∈ fp,H' b = none) -> ∀ b ∈ fp,FpOk X pins H' b:=fun hn b hb => ⟨hn b hb,(f2 b hb).2⟩
 refine codeAny_forLoop_any (fun n s' => ∃ i σ' H',Inv X pins σ' H' s' /\ tn i s'.heap /\ (∀ b ∈ fp,H' b = none) /\ W i n σ' H') ?_ m0 ⟨0,σ,H2,I2,st2,fun b hb => (f2 b hb).1,w0⟩
 rintro n s3 ⟨i,σ3,H3,I3,st3,fr3,w3⟩
 rcases turn i n σ3 H3 w3 with ⟨stop,qn⟩ | ⟨go,N,hN,step⟩
 ·
  refine wpAny_passesOwn hp (thn (T.done X rfl rfl rfl hc i pins s3 σ3 H3 X.xe I3 (stat fr3) st3 stop) fun r s4 ⟨hr,I4⟩ => ?_)
  subst hr
  exact wpAny_execs_nil ⟨σ3,H3,I4,qn⟩
 ·
  refine wpAny_passesOwn hp (thn (T.item X rfl rfl rfl hc i pins s3 σ3 H3 X.xe I3 (stat fr3) st3 go) fun r s4 ⟨u,hr,h4⟩ => ?_)
  subst hr
  refine wpAny_passesOwn hp (thn h4 fun _ s5 ⟨x,H5,I5,r5,y5,st5,fr5⟩ => ?_)
  have I5':=I5.pinned (stat fr5) (T.obj _ _ st5)
  refine wpAny_passesOwn hp (thn (hg _ s5 σ3 H5 x u _ I5' r5 (step x H5 y5)) fun _ s6 ⟨σ6,H6,I6,q6⟩ => ?_)
  refine wpAny_passesOwn hp (thn (hb _ s6 σ6 H6 _ I6 q6) fun f s7 q7 => ?_)
  have again : ∀ {σ7 : St} {H7 : Hp},Inv X (pins ++ pinsAt fp s5.heap) σ7 H7 s7 -> N σ7 H7 -> ∃ m,m < n /\ ∃ i σ' H',Inv X pins σ' H' s7 /\ tn i s7.heap /\ (∀ b ∈ fp,H' b = none) /\ W i m σ' H':=fun {σ7 H7} I7 n7 => by
   obtain ⟨m',hm,w7⟩:=hN σ7 H7 n7
   refine ⟨m',hm,i + 1,σ7,H7,I7.unpinned,T.keep _ _ _ st5 fun b hb o e => (I7.pin (b,o) (List.mem_append_right _ (List.mem_append_right _ (mem_pinsAt hb e)))).1,fun b hb => ?_,w7⟩
   obtain ⟨o,e,d⟩:=T.obj _ _ st5 b hb
   exact (I7.pin (b,o) (List.mem_append_right _ (List.mem_append_right _ (mem_pinsAt hb e)))).2.1
  cases f with
  | next => obtain ⟨σ7,H7,I7,n7⟩:=q7; exact again I7 n7
  | cont => obtain ⟨σ7,H7,I7,n7⟩:=q7; exact again I7 n7
  | brk => obtain ⟨σ7,H7,I7,q7⟩:=q7; exact ⟨σ7,H7,I7.unpinned,q7⟩
  | ret v => obtain ⟨x7,σ7,H7,I7,r7,q7⟩:=q7; exact ⟨x7,σ7,H7,I7.unpinned,r7,q7⟩
end
end L2
namespace L2
open PySem PySem.Spec PyProof.Rows
abbrev R2:=V -> V -> Hp -> VK -> Prop
def OpR (X : Cx) (f : Value -> Value -> Sem Value) (r : R2) : Prop :=
 ∀ (pins : List (Addr × Obj)) (s : Shared) (σ : St) (H : Hp) (x y : V) (v u : Value) (Q : VK),Inv X pins σ H s -> RelV x v -> RelV y u -> r x y H Q ->
  wpAny (model X.prog X.w) X.A (f v u) (EP X pins σ Q) X.xe s
def CallR (X : Cx) (f : Value) (r : List V -> Hp -> VK -> Prop) : Prop :=
 ∀ (pins : List (Addr × Obj)) (s : Shared) (σ : St) (H : Hp) (xs : List V) (us : List Value) (Q : VK),Inv X pins σ H s -> Vals xs us -> r xs H Q ->
  wpAny (model X.prog X.w) X.A (call f us) (EP X pins σ Q) X.xe s
def tOp (r : R2) (ta tb : TE) : TE:=fun σ H Q => ta σ H fun x H1 => tb σ H1 fun y H2 => r x y H2 Q
def rI (C : Int -> Int -> Prop) (g : Int -> Int -> V) : R2:=fun x y H Q => ∃ i j,x = .int i /\ y = .int j /\ C i j /\ Q (g i j) H
def rI0 (g : Int -> Int -> V) : R2:=fun x y H Q => ∃ i j,x = .int i /\ y = .int j /\ Q (g i j) H
section
variable {X : Cx} {a b c : Expr} {ta tb tc : TE} {pos : Pos}
theorem binT (ha : PE X a ta) (hb : PE X b tb) {pins : List (Addr × Obj)} {s : Shared} {σ : St} {H : Hp} {R : V -> V -> Hp -> Prop} (I : Inv X pins σ H s)
  (h : ta σ H fun x H1 => tb σ H1 fun y H2 => R x y H2) {Q : Value -> Shared -> Prop} {f : Value -> Value -> Sem Value}
  (hf : ∀ v u s2 x y H2,Inv X pins σ H2 s2 -> RelV x v -> RelV y u -> R x y H2 -> wpAny (model X.prog X.w) X.A (f v u) Q X.xe s2) :
  wpAny (model X.prog X.w) X.A (eval a X.env) (fun v s₁ => wpAny (model X.prog X.w) X.A (eval b X.env) (fun u s₂ => wpAny (model X.prog X.w) X.A (f v u) Q X.xe s₂) X.xe s₁) X.xe s:=by
 refine thn (ha pins s σ H _ I h) fun v s1 ⟨x,H1,I1,r1,q1⟩ => ?_
 refine thn (hb pins s1 σ H1 _ I1 q1) fun u s2 ⟨y,H2,I2,r2,q2⟩ => ?_
 exact hf v u s2 x y H2 I2 r1 r2 q2
theorem pe_op {op : Operator} {r : R2} (ho : OpR X (binaryOp op) r) (ha : PE X a ta) (hb : PE X b tb) : PE X (.BinOp a op b pos) (tOp r ta tb):=by
 intro pins s σ H Q I h
 exact wpAny_BinOp (binT ha hb I h fun v u s2 x y H2 I2 rx ry q => ho pins s2 σ H2 x y v u Q I2 rx ry q)
theorem opI {f : Value -> Value -> Sem Value} {C : Int -> Int -> Prop} {g : Int -> Int -> Int}
  (rule : ∀ (i j : Int) (t u : Tok) (s : Shared) (Q : Value -> Shared -> Prop) (E : Value -> Shared -> Prop),C i j -> Q (.int (g i j) s.toks) { s with toks:=s.toks + 1 } -> wpAny (model X.prog X.w) X.A (f (.int i t) (.int j u)) Q E s) :
  OpR X f (rI C fun i j => .int (g i j)):=by
 intro pins s σ H x y v u Q I rx ry h
 obtain ⟨i,j,rfl,rfl,hc,q⟩:=h
 obtain ⟨t,rfl⟩:=rx
 obtain ⟨t',rfl⟩:=ry
 exact rule i j t t' s _ _ hc ⟨.int (g i j),H,I.tok _,⟨_,rfl⟩,q⟩
theorem opI0 {f : Value -> Value -> Sem Value} {g : Int -> Int -> Int}
  (rule : ∀ (i j : Int) (t u : Tok) (s : Shared) (Q : Value -> Shared -> Prop) (E : Value -> Shared -> Prop),Q (.int (g i j) s.toks) { s with toks:=s.toks + 1 } -> wpAny (model X.prog X.w) X.A (f (.int i t) (.int j u)) Q E s) :
  OpR X f (rI0 fun i j => .int (g i j)):=by
 intro pins s σ H x y v u Q I rx ry h
 obtain ⟨i,j,rfl,rfl,q⟩:=h
 obtain ⟨t,rfl⟩:=rx
 obtain ⟨t',rfl⟩:=ry
 exact rule i j t t' s _ _ ⟨.int (g i j),H,I.tok _,⟨_,rfl⟩,q⟩
theorem opB0 {f : Value -> Value -> Sem Value} {g : Int -> Int -> Bool}
  (rule : ∀ (i j : Int) (t u : Tok) (s : Shared) (Q : Value -> Shared -> Prop) (E : Value -> Shared -> Prop),Q (.bool (g i j)) s -> wpAny (model X.prog X.w) X.A (f (.int i t) (.int j u)) Q E s) :
  OpR X f (rI0 fun i j => .bl (g i j)):=by
 intro pins s σ H x y v u Q I rx ry h
 obtain ⟨i,j,rfl,rfl,q⟩:=h
 obtain ⟨t,rfl⟩:=rx
 obtain ⟨t',rfl⟩:=ry
 exact rule i j t t' s _ _ ⟨.bl (g i j),H,I,rfl,q⟩
def CPow (i j : Int) : Prop:=0 <= j /\ j <= 1000000 /\ i.natAbs < 2 ^ 64
def CMul (i j : Int) : Prop:=(-(2 ^ 64) < i /\ i < 2 ^ 64) \/ (-(2 ^ 64) < j /\ j < 2 ^ 64)
theorem CMul.ok {i j : Int} (h : CMul i j) : IntMulOk i j:=by
 rcases h with ⟨h1,h2⟩ | ⟨h1,h2⟩
 ·
  exact .of_left (intBits_le_64 h1 h2)
 ·
  exact .of_right (intBits_le_64 h1 h2)
theorem op_add : OpR X (binaryOp .Add) (rI0 fun i j => .int (i + j)):=opI0 fun _ _ _ _ _ _ _ q => add_int q
theorem op_sub : OpR X (binaryOp .Sub) (rI0 fun i j => .int (i - j)):=opI0 fun _ _ _ _ _ _ _ q => sub_int q
theorem op_mul : OpR X (binaryOp .Mult) (rI CMul fun i j => .int (i * j)):=opI fun _ _ _ _ _ _ _ hc q => mul_int q hc.ok
theorem op_mod : OpR X (binaryOp .Mod) (rI (fun _ j => 0 < j) fun i j => .int (i % j)):=opI fun i j _ _ _ _ _ hc q => by
 have h1 : (0 : Int) < j:=hc
 exact mod_int' (by omega) (by rw [Int.fmod_eq_emod_of_nonneg i (by omega)]; exact q)
theorem op_pow : OpR X (binaryOp .Pow) (rI CPow fun i j => .int (i ^ j.toNat)):=opI fun _ _ _ _ _ _ _ hc q => pow_int_small hc.1 hc.2.1 hc.2.2 q
theorem op_shl : OpR X (binaryOp .LShift) (rI CPow fun i j => .int (i * 2 ^ j.toNat)):=opI fun _ _ _ _ _ _ _ hc q => lshift_int_small hc.1 hc.2.1 hc.2.2 q
end
noncomputable def scal : V -> V -> Bool
 | .non,.non => true | .non,.int _ => true | .int _,.non => true | .non,.bl _ => true | .bl _,.non => true | .non,.str _ => true | .str _,.non => true
 | .int _,.int _ => true | .bl _,.bl _ => true | .str _,.str _ => true | .byt _,.byt _ => true
 | .int _,.str _ => true | .str _,.int _ => true | .bl _,.str _ => true | .str _,.bl _ => true
 | _,_ => false
def rEq : R2:=fun x y H Q => scal x y = true /\ Q (.bl (decide (x = y))) H
def rNe : R2:=fun x y H Q => scal x y = true /\ Q (.bl (!decide (x = y))) H
theorem dec_int {i j : Int} : decide (V.int i = V.int j) = (i == j):=by
 rw [Bool.eq_iff_iff]
 simp
theorem dec_bl {i j : Bool} : decide (V.bl i = V.bl j) = (i == j):=by
 rw [Bool.eq_iff_iff]
 simp
theorem dec_str {i j : Str} : decide (V.str i = V.str j) = (i == j):=by
 rw [Bool.eq_iff_iff]
 simp
theorem dec_byt {i j : Array UInt8} : decide (V.byt i = V.byt j) = (i.toList == j.toList):=by
 rw [Bool.eq_iff_iff]
 cases i
 cases j
 simp
section
variable {X : Cx} {a b c : Expr} {ta tb tc : TE} {pos : Pos}
theorem fin_bl {pins : List (Addr × Obj)} {σ : St} {H : Hp} {s : Shared} {Q : VK} {k k' : Bool} (I : Inv X pins σ H s) (q : Q (.bl k) H) (e : k = k') : EP X pins σ Q (.bool k') s:=by
 subst e
 exact ⟨.bl k,H,I,rfl,q⟩
theorem op_eq : OpR X (compareOp .Eq) rEq:=by
 intro pins s σ H x y v u Q I rx ry h
 obtain ⟨hs,q⟩:=h
 cases x with
 | non =>
  cases rx
  cases y with
  | non => cases ry; exact PySem.EqNone.eq_none_none (fin_bl I q (by simp))
  | bl j => cases ry; exact PySem.EqNone.eq_none_bool (fin_bl I q (by simp))
  | int j => obtain ⟨t',rfl⟩:=ry; exact PySem.EqNone.eq_none_int (fin_bl I q (by simp))
  | str j => obtain ⟨t',rfl⟩:=ry; exact PySem.EqNone.eq_none_str (fin_bl I q (by simp))
  | _ => exact absurd (show false = true from hs) Bool.false_ne_true
 | bl i =>
  cases rx
  cases y with
  | non => cases ry; exact PySem.EqNone.eq_bool_none (fin_bl I q (by simp))
  | bl j => cases ry; exact eq_bool (fin_bl I q dec_bl)
  | str j => obtain ⟨t',rfl⟩:=ry; exact PySem.EqMixed.eq_bool_str (fin_bl I q (by simp))
  | _ => exact absurd (show false = true from hs) Bool.false_ne_true
 | int i =>
  obtain ⟨t,rfl⟩:=rx
  cases y with
  | non => cases ry; exact PySem.EqNone.eq_int_none (fin_bl I q (by simp))
  | int j => obtain ⟨t',rfl⟩:=ry; exact eq_int (fin_bl I q dec_int)
  | str j => obtain ⟨t',rfl⟩:=ry; exact PySem.EqMixed.eq_int_str (fin_bl I q (by simp))
  | _ => exact absurd (show false = true from hs) Bool.false_ne_true
 | str i =>
  obtain ⟨t,rfl⟩:=rx
  cases y with
  | non => cases ry; exact PySem.EqNone.eq_str_none (fin_bl I q (by simp))
  | bl j => cases ry; exact PySem.EqMixed.eq_str_bool (fin_bl I q (by simp))
  | int j => obtain ⟨t',rfl⟩:=ry; exact PySem.EqMixed.eq_str_int (fin_bl I q (by simp))
  | str j => obtain ⟨t',rfl⟩:=ry; exact eq_str (fin_bl I q dec_str)
  | _ => exact absurd (show false = true from hs) Bool.false_ne_true
 | byt i =>
  obtain ⟨t,rfl⟩:=rx
  cases y with
  | byt j => obtain ⟨t',rfl⟩:=ry; exact PySem.W.eq_bytes (fin_bl I q dec_byt)
  | _ => exact absurd (show false = true from hs) Bool.false_ne_true
 | _ => cases y <;> exact absurd (show false = true from hs) Bool.false_ne_true
theorem op_ne : OpR X (compareOp .NotEq) rNe:=by
 intro pins s σ H x y v u Q I rx ry h
 obtain ⟨hs,q⟩:=h
 cases x with
 | non =>
  cases rx
  cases y with
  | non => cases ry; exact PySem.EqNone.ne_none_none (fin_bl I q (by simp))
  | bl j => cases ry; exact PySem.EqNone.ne_none_bool (fin_bl I q (by simp))
  | int j => obtain ⟨t',rfl⟩:=ry; exact PySem.EqNone.ne_none_int (fin_bl I q (by simp))
  | str j => obtain ⟨t',rfl⟩:=ry; exact PySem.EqNone.ne_none_str (fin_bl I q (by simp))
  | _ => exact absurd (show false = true from hs) Bool.false_ne_true
 | bl i =>
  cases rx
  cases y with
  | non => cases ry; exact PySem.EqNone.ne_bool_none (fin_bl I q (by simp))
  | bl j => cases ry; exact ne_bool (fin_bl I q (congrArg not dec_bl))
  | str j => obtain ⟨t',rfl⟩:=ry; exact PySem.EqMixed.ne_bool_str (fin_bl I q (by simp))
  | _ => exact absurd (show false = true from hs) Bool.false_ne_true
 | int i =>
  obtain ⟨t,rfl⟩:=rx
  cases y with
  | non => cases ry; exact PySem.EqNone.ne_int_none (fin_bl I q (by simp))
  | int j => obtain ⟨t',rfl⟩:=ry; exact ne_int (fin_bl I q (congrArg not dec_int))
  | str j => obtain ⟨t',rfl⟩:=ry; exact PySem.EqMixed.ne_int_str (fin_bl I q (by simp))
  | _ => exact absurd (show false = true from hs) Bool.false_ne_true
 | str i =>
  obtain ⟨t,rfl⟩:=rx
  cases y with
  | non => cases ry; exact PySem.EqNone.ne_str_none (fin_bl I q (by simp))
  | bl j => cases ry; exact PySem.EqMixed.ne_str_bool (fin_bl I q (by simp))
  | int j => obtain ⟨t',rfl⟩:=ry; exact PySem.EqMixed.ne_str_int (fin_bl I q (by simp))
  | str j => obtain ⟨t',rfl⟩:=ry; exact ne_str (fin_bl I q (congrArg not dec_str))
  | _ => exact absurd (show false = true from hs) Bool.false_ne_true
 | byt i =>
  obtain ⟨t,rfl⟩:=rx
  cases y with
  | byt j => obtain ⟨t',rfl⟩:=ry; exact PySem.W.ne_bytes (fin_bl I q (congrArg not dec_byt))
  | _ => exact absurd (show false = true from hs) Bool.false_ne_true
 | _ => cases y <;> exact absurd (show false = true from hs) Bool.false_ne_true
theorem op_lt : OpR X (compareOp .Lt) (rI0 fun i j => .bl (decide (i < j))):=opB0 fun _ _ _ _ _ _ _ q => lt_int q
theorem op_in_str : OpR X (compareOp .In) (fun x y H Q => ∃ i j,x = .str i /\ y = .str j /\ Q (.bl (!(Builtin.Str.occurrences j i 0 j.length 1).isEmpty)) H):=by
 intro pins s σ H x y v u Q I rx ry h
 obtain ⟨i,j,rfl,rfl,q⟩:=h
 obtain ⟨t,rfl⟩:=rx
 obtain ⟨t',rfl⟩:=ry
 exact in_str (fin_bl I q rfl)
theorem op_notin_str : OpR X (compareOp .NotIn) (fun x y H Q => ∃ i j,x = .str i /\ y = .str j /\ Q (.bl (!(!(Builtin.Str.occurrences j i 0 j.length 1).isEmpty))) H):=by
 intro pins s σ H x y v u Q I rx ry h
 obtain ⟨i,j,rfl,rfl,q⟩:=h
 obtain ⟨t,rfl⟩:=rx
 obtain ⟨t',rfl⟩:=ry
 exact notIn_str (fin_bl I q rfl)
theorem OpR.or {f : Value -> Value -> Sem Value} {r r' : R2} (h : OpR X f r) (h' : OpR X f r') : OpR X f (fun x y H Q => r x y H Q \/ r' x y H Q):=by
 intro pins s σ H x y v u Q I rx ry q
 rcases q with q | q
 ·
  exact h pins s σ H x y v u Q I rx ry q
 ·
  exact h' pins s σ H x y v u Q I rx ry q
theorem nomark (b : Expr) {op : CmpOp} (h : op ≠ .In:=by decide) (h2 : op ≠ .NotIn:=by decide) : behindInMarks op b = false:=by
 have e1 : (op == CmpOp.In) = false:=by cases op <;> first | rfl | exact absurd rfl h
 have e2 : (op == CmpOp.NotIn) = false:=by cases op <;> first | rfl | exact absurd rfl h2
 cases b <;> simp [behindInMarks,e1,e2]
theorem pe_cmpR {op : CmpOp} {r : R2} (ho : OpR X (compareOp op) r) (ha : PE X a ta) (hb : PE X b tb) (hm : behindInMarks op b = false) : PE X (.Compare a [op] [b] pos) (tOp r ta tb):=by
 intro pins s σ H Q I h
 exact wpAny_Compare1 (binT ha hb I h fun v u s2 x y H2 I2 rx ry q => ho pins s2 σ H2 x y v u Q I2 rx ry q) hm
def tTest (t : TE) : TT:=fun σ H Q => t σ H fun x H' => ∃ k,x = .bl k /\ Q k H'
theorem pt_cmpR {op : CmpOp} {r : R2} (ho : OpR X (compareOp op) r) (ha : PE X a ta) (hb : PE X b tb) (hm : behindInMarks op b = false) : PT X (.Compare a [op] [b] pos) (tTest (tOp r ta tb)):=by
 intro pins s σ H Q I h
 refine wpAny_isTrue_Compare1 (thn (ha pins s σ H _ I h) fun v s1 ⟨x,H1,I1,r1,q1⟩ => thn (hb pins s1 σ H1 _ I1 q1) fun u s2 ⟨y,H2,I2,r2,q2⟩ =>
  thn (ho pins s2 σ H2 x y v u _ I2 r1 r2 q2) fun c s3 ⟨z,H3,I3,r3,k,e,q3⟩ => ?_) hm
 subst e
 cases r3
 exact wpAny_truthy_bool ⟨H3,I3,q3⟩
theorem line63 : (sizeLine : Nat) < 2 ^ 63:=by rw [sizeLine_eq]; decide
theorem op_add_str : OpR X (binaryOp .Add) (fun x y H Q => ∃ i j,x = .str i /\ y = .str j /\ i.length + j.length <= sizeLine /\ Q (.str (i ++ j)) H):=by
 intro pins s σ H x y v u Q I rx ry h
 obtain ⟨i,j,rfl,rfl,hz,q⟩:=h
 obtain ⟨t,rfl⟩:=rx
 obtain ⟨t',rfl⟩:=ry
 exact add_str (fun t' tk => ⟨.str (i ++ j),H,I.tok _,⟨_,rfl⟩,q⟩) hz
theorem vals1 {x : V} {us : List Value} (r : Vals [x] us) : ∃ u,us = [u] /\ RelV x u:=by
 cases r with
 | cons r1 r2 => cases r2; exact ⟨_,rfl,r1⟩
theorem vals2 {x y : V} {us : List Value} (r : Vals [x,y] us) : ∃ u w',us = [u,w'] /\ RelV x u /\ RelV y w':=by
 cases r with
 | cons r1 r2 =>
  cases r2 with
  | cons r3 r4 => cases r4; exact ⟨_,_,rfl,r1,r3⟩
theorem call_int1 : CallR X (.type "int") (fun xs H Q => (∃ i,xs = [.int i] /\ Q (.int i) H) \/ ∃ k,xs = [.bl k] /\ Q (.int (if k then 1 else 0)) H):=by
 intro pins s σ H xs us Q I r h
 rcases h with ⟨i,rfl,q⟩ | ⟨k,rfl,q⟩
 ·
  obtain ⟨u,rfl,t,rfl⟩:=vals1 r
  exact call_int_int ⟨.int i,H,I,⟨_,rfl⟩,q⟩
 ·
  obtain ⟨u,rfl,r1⟩:=vals1 r
  cases r1
  exact call_int_bool ⟨.int (if k then 1 else 0),H,I.tok _,⟨_,rfl⟩,q⟩
end
end L2
namespace L2
open PySem PySem.Spec PyProof.Rows
section
variable {prog : Program} {w : World} {A : Around} {E : Value -> Shared -> Prop} {s : Shared} {K : PySem.W.Frag} {x dx C f : Addr} {mA : Str -> Option Value} {name : Str} {v : Value}
end
theorem RelO.some_of {v : V} {o : Option Value} (r : RelO (some v) o) : ∃ u,o = some u /\ RelV v u:=by
 cases o with
 | none => exact (show False from r).elim
 | some u => exact ⟨u,rfl,r⟩
theorem RelO.none_of {o : Option Value} (r : RelO none o) : o = none:=by
 cases o with
 | none => rfl
 | some u => exact (show False from r).elim
section
variable {P : Program} {w : World} {H H' : Hp} {h h' : Heap} {a C dx : Addr} {fs fs' : List (Str × V)}
end
section
variable {X : Cx} {pins : List (Addr × Obj)} {σ : St} {H : Hp} {s : Shared} {a C dx : Addr} {fs : List (Str × V)} {f : Str} {v : V} {A : Around} {E : Value -> Shared -> Prop}
theorem Inv.made (I : Inv X pins σ H s) : Inv X pins σ (upd (upd H s.heap.objs.size (.own (s.heap.objs.size + 1))) (s.heap.objs.size + 1) (.ins C s.heap.objs.size []))
  { s with heap:=(s.heap.push PySem.W.emptyDict).push (PySem.W.instObj C s.heap.objs.size) }:=by
 have e1 : (s.heap.push PySem.W.emptyDict).get? s.heap.objs.size = some PySem.W.emptyDict:=Heap.get?_push_size s.heap rfl
 have e2 : ((s.heap.push PySem.W.emptyDict).push (PySem.W.instObj C s.heap.objs.size)).get? (s.heap.objs.size + 1) = some (PySem.W.instObj C s.heap.objs.size):=by
  have:=Heap.get?_push_size (s.heap.push PySem.W.emptyDict) (o:=PySem.W.instObj C s.heap.objs.size) rfl
  rwa [Heap.size_push] at this
 have e3 : (s.heap.push PySem.W.emptyDict).Ns s.heap.objs.size (fun _ => none):=⟨PySem.W.emptyDict,#[],_,e1,rfl,(fun e he => absurd he (by simp)),fun _ => rfl⟩
 have I1:=I.laid (a:=s.heap.objs.size) (o:=.own (s.heap.objs.size + 1)) (h':=s.heap.push PySem.W.emptyDict) (t':=s.toks) (fun b u q => Heap.get?_push_of_some _ q) (Nat.le_refl _) ⟨_,e1⟩
 refine I1.laid (a:=s.heap.objs.size + 1) (o:=.ins C s.heap.objs.size []) (t':=s.toks) (fun b u q => Heap.get?_push_of_some _ q) (Nat.le_of_eq (Heap.size_push _ _)) ?_
 have ne : s.heap.objs.size ≠ s.heap.objs.size + 1:=Nat.ne_of_lt (Nat.lt_succ_self _)
 refine ⟨by rw [upd_ne ne,upd_same],Nat.zero_le _,ne,e2,fun _ => none,(Heap.Ns1.of_empty e3).at fun o q => Heap.get?_push_of_some _ q,fun _ => True.intro,fun y hy => absurd rfl hy⟩
end
section
variable {X : Cx} {o e value : Expr} {f : Str} {pos pos' tpos : Pos} {ta tv : TE}
end
section
variable {X : Cx} {pins : List (Addr × Obj)} {σ : St} {H : Hp} {s : Shared} {A : Around} {E : Value -> Shared -> Prop} {Q : Value -> Shared -> Prop} {c : Value} {b : Bool}
end
end L2
namespace L2
open PySem PySem.Spec PyProof.Rows
structure Room (k : Nat) (A : Around) : Prop where
 hd : A.handled = none
 dp : A.depth + 3 * k + 5 < recursionLimit
 un : A.units + 16 * k + 200 < cLine
 gd : A.guards = some []
theorem Room.mono {j k : Nat} {A : Around} (r : Room k A) (h : j <= k) : Room j A:=⟨r.hd,by have:=r.dp; omega,by have:=r.un; omega,r.gd⟩
theorem Room.deeper {k : Nat} {A : Around} (r : Room (k + 1) A) (env : Env) : Room k (A.deeper env) :=
 ⟨r.hd,by have:=r.dp; show A.depth + 1 + 3 * k + 5 < _; omega,by have:=r.un; show A.units + 3 + 16 * k + 200 < _; omega,r.gd⟩
theorem Room.in1 {k : Nat} {A : Around} (r : Room (k + 1) A) : Room k A.in1 :=
 ⟨r.hd,by have:=r.dp; show A.depth + 3 * k + 5 < _; omega,by have:=r.un; show A.units + 1 + 16 * k + 200 < _; omega,r.gd⟩
theorem Room.depth {k : Nat} {A : Around} (r : Room k A) : A.depth < recursionLimit:=by have:=r.dp; omega
theorem Room.units {k : Nat} {A : Around} (r : Room k A) : A.units + 64 < cLine:=by have:=r.un; omega
def tNil : TA:=fun _ H Q => Q [] H
def tCons (ta : TE) (tr : TA) : TA:=fun σ H Q => ta σ H fun x H1 => tr σ H1 fun xs H2 => Q (x :: xs) H2
section
variable {X : Cx} {e : Expr} {es : List Expr} {te : TE} {t : TA} {pos : Pos}
theorem pa_nil : PA X [] tNil:=fun _ _ _ _ H Q I h => Calls.spliced_nil ⟨[],H,I,.nil,h⟩
theorem pa_cons (ha : PE X e te) (hr : PA X es t) (hs : starEach (e :: es) X.env = (false,eval e X.env) :: starEach es X.env:=by rfl) : PA X (e :: es) (tCons te t):=by
 intro pos pins s σ H Q I h
 rw [hs]
 show wpAny _ _ (spliced ((false,eval e X.env) :: backTo pos (starEach es X.env))) _ _ s
 refine Calls.spliced_cons (thn (ha pins s σ H _ I h) fun u s1 ⟨x,H1,I1,r1,q1⟩ => ?_)
 exact thn (hr pos pins s1 σ H1 _ I1 q1) fun us s2 ⟨xs,H2,I2,r2,q2⟩ => ⟨x :: xs,H2,I2,.cons r1 r2,q2⟩
def tTup (t : TA) : TE:=fun σ H Q => t σ H fun xs H1 => xs.length <= sizeLine /\ ∀ p,H1 p = none -> Q (.ref p) (upd H1 p (.tup xs))
def tLst (t : TA) : TE:=fun σ H Q => t σ H fun xs H1 => xs.length <= sizeLine /\ ∀ p,H1 p = none -> Q (.ref p) (upd H1 p (.lst xs))
theorem pe_tup {x1} (h : PA X es t) : PE X (.Tuple es x1 pos) (tTup t):=by
 intro pins s σ H Q I hq
 refine wpAny_Tuple_spliced (thn (h pos pins s σ H _ I hq) fun us s1 ⟨xs,H1,I1,r,z,q⟩ => ⟨by rw [<- r.length]; exact z,?_⟩)
 have hf : H1 s1.heap.objs.size = none:=I1.hok.fresh (Nat.le_refl _)
 refine ⟨.ref s1.heap.objs.size,upd H1 s1.heap.objs.size (.tup xs),I1.laid (t':=s1.toks) (fun b u e => Heap.get?_push_of_some _ e) (Nat.le_refl _) ?_,rfl,q _ hf⟩
 exact ⟨z,us,r,⟨_,Heap.get?_push_size _ rfl,rfl,_,rfl,rfl⟩⟩
theorem pe_lst (h : PA X es t) : PE X (.List es pos) (tLst t):=by
 intro pins s σ H Q I hq
 refine wpAny_List_spliced (thn (h pos pins s σ H _ I hq) fun us s1 ⟨xs,H1,I1,r,z,q⟩ => ⟨by rw [<- r.length]; exact z,?_⟩)
 have hf : H1 s1.heap.objs.size = none:=I1.hok.fresh (Nat.le_refl _)
 refine ⟨.ref s1.heap.objs.size,upd H1 s1.heap.objs.size (.lst xs),I1.laid (t':=s1.toks) (fun b u e => Heap.get?_push_of_some _ e) (Nat.le_refl _) ?_,rfl,q _ hf⟩
 exact ⟨z,us,0,r,Heap.get?_push_size _ rfl⟩
end
abbrev Sp:=List V -> Hp -> VK -> XK -> Prop
abbrev CXT:=List Env -> Hp -> Shared -> XK -> Value -> Shared -> Prop
structure Env0 (P : Program) (w : World) (K : PySem.W.Frag) (mg : Str -> Option Value) (base : Heap) (A : Around) (outer : List Env) (s : Shared) (H : Hp) : Prop where
 frames : A.frames = some outer
 mod : Mod K mg base
 bs : ∀ b o,base.get? b = some o -> s.heap.get? b = some o /\ H b = none
 bsz : base.objs.size <= s.heap.objs.size
 funs : s.heap.FunFrames base outer
 frf : ∀ b ∈ frs outer,H b = none
 hok : HOk P w H s.heap
 bare : AllBare s.gens
def CE (outer : List Env) (P : Program) (w : World) (H : Hp) (s : Shared) (Q : VK) (u : Value) (s' : Shared) : Prop :=
 ∃ v H',s'.os = s.os /\ AllBare s'.gens /\ Un (frs outer) [] H H' s.heap s'.heap /\ HOk P w H' s'.heap /\ RelV v u /\ Q v H'
def CR (CX : CXT) (outer : List Env) (P : Program) (w : World) (H : Hp) (s : Shared) (Q : VK) (E : XK) (r : Result) (s' : Shared) : Prop :=
 match r with
 | .ok (.ret u) => CE outer P w H s Q u s'
 | .ok _ => False
 | .error e => CX outer H s E e s'
structure FnOk (P : Program) (w : World) (K : PySem.W.Frag) (mg : Str -> Option Value) (base : Heap) (CX : CXT) (k : Nat) (f : Addr) (fd : FuncData) (ps : List Str) (sp : Sp) : Prop where
 len : ∀ vs H Q E,sp vs H Q E -> vs.length = ps.length
 run : ∀ (A : Around) (outer : List Env) (s : Shared) (H : Hp) (args : Args) (us : List Value) (vs : List V) (Q : VK) (E : XK),Room k A -> Env0 P w K mg base A outer s H -> BindsTo s fd args (ps.zip us) -> Vals vs us -> sp vs H Q E ->
  codeAny (model P w) A (.call (.ref f) args) (CR CX outer P w H s Q E) s
theorem FnOk.mono {P : Program} {w : World} {K : PySem.W.Frag} {mg : Str -> Option Value} {base : Heap} {CX : CXT} {j k : Nat} {f : Addr} {fd : FuncData} {ps : List Str} {sp : Sp} (F : FnOk P w K mg base CX j f fd ps sp) (h : j <= k) :
  FnOk P w K mg base CX k f fd ps sp:=⟨F.len,fun A outer s H args us vs Q E hr => F.run A outer s H args us vs Q E (hr.mono h)⟩
theorem FnOk.imp {P : Program} {w : World} {K : PySem.W.Frag} {mg : Str -> Option Value} {base : Heap} {CX : CXT} {k : Nat} {f : Addr} {fd : FuncData} {ps : List Str} {sp sp' : Sp} (F : FnOk P w K mg base CX k f fd ps sp)
  (h : ∀ vs H Q E,sp' vs H Q E -> sp vs H Q E) : FnOk P w K mg base CX k f fd ps sp' :=
 ⟨fun vs H Q E q => F.len vs H Q E (h _ _ _ _ q),fun A outer s H args us vs Q E hr he hb hv hs => F.run A outer s H args us vs Q E hr he hb hv (h _ _ _ _ hs)⟩
theorem Env0.in1 {P : Program} {w : World} {K : PySem.W.Frag} {mg : Str -> Option Value} {base : Heap} {A : Around} {outer : List Env} {s : Shared} {H : Hp} (e : Env0 P w K mg base A outer s H) :
  Env0 P w K mg base A.in1 outer s H:=⟨e.frames,e.mod,e.bs,e.bsz,e.funs,e.frf,e.hok,e.bare⟩
section
variable {X : Cx} {pins : List (Addr × Obj)} {σ : St} {H : Hp} {s s' : Shared}
theorem Inv.env0 (I : Inv X pins σ H s) : Env0 X.prog X.w X.K X.mg X.base X.A X.stack s H :=
 ⟨I.ok.frames,I.ok.mod,I.bs,Nat.le_trans I.ok.bsz I.sz,I.stack,I.stkFree,I.hok,I.bare⟩
theorem Inv.after {Q : VK} {u : Value} (I : Inv X pins σ H s) (h : CE X.stack X.prog X.w H s Q u s') : EP X pins σ Q u s':=by
 obtain ⟨v,H',os,bare,un,hok,r,q⟩:=h
 obtain ⟨hh,g,d,t,os'⟩:=s'
 obtain rfl : os' = s.os:=os
 exact ⟨v,H',I.call (h':=hh) (g':=g) (d':=d) (t':=t) (ch:=[]) un hok bare (fun b z => absurd z (by simp)),r,q⟩
end
def tCall (sp : Sp) (dvs : List V) (E : XK) (t : TA) : TE:=fun σ H Q => t σ H fun vs H1 => sp (vs ++ dvs) H1 Q E
def Binds (K : PySem.W.Frag) (fd : FuncData) (ps : List Str) (ds : List Value) : Prop :=
 ∀ (s : Shared) (us : List Value),K.In s.heap -> (us ++ ds).length = ps.length -> BindsTo s fd ⟨us,[]⟩ (ps.zip (us ++ ds))
theorem Binds.all {K : PySem.W.Frag} {fd : FuncData} {ps : List Str} (h : ∀ us : List Value,us.length = ps.length -> bindArgs fd ⟨us,[]⟩ = pure (ps.zip us)) : Binds K fd ps []:=fun s us _ hl => by
 rw [List.append_nil] at hl ⊢
 exact .of_eq (h us hl)
def Passes (CX : CXT) (X : Cx) (E : XK) : Prop:=∀ (pins : List (Addr × Obj)) (σ : St) (H : Hp) (s : Shared) (e : Value) (s' : Shared),Inv X pins σ H s -> CX X.stack H s E e s' -> X.xe e s'
section
variable {X : Cx} {CX : CXT} {k : Nat} {f C : Addr} {fd : FuncData} {ps : List Str} {sp : Sp} {dvs : List V} {ds : List Value} {E : XK} {x m : Str} {p pos apos : Pos} {e o : Expr} {es : List Expr} {ta : TE} {t : TA}
theorem run_fn {pins : List (Addr × Obj)} {σ : St} {H : Hp} {s : Shared} {Q : VK} {us : List Value} {vs : List V} (F : FnOk X.prog X.w X.K X.mg X.base CX k f fd ps sp) (hr : Room k X.A) (hb : Binds X.K fd ps ds) (hd : Vals dvs ds) (hx : Passes CX X E)
  (I : Inv X pins σ H s) (r : Vals vs us) (h : sp (vs ++ dvs) H Q E) : wpAny (model X.prog X.w) X.A (call (.ref f) us) (EP X pins σ Q) X.xe s:=by
 have r2 : Vals (vs ++ dvs) (us ++ ds):=r.append hd
 have hl : (us ++ ds).length = ps.length:=by rw [<- r2.length]; exact F.len _ _ _ _ h
 refine wpAny_call (codeAny_mono (F.run X.A X.stack s H ⟨us,[]⟩ (us ++ ds) (vs ++ dvs) Q E hr I.env0 (hb s us I.kIn hl) r2 h) fun r s' hq => ?_)
 cases r with
 | error e => exact hx pins σ H s e s' I hq
 | ok fl =>
  cases fl with
  | ret u => exact I.after hq
  | next => exact False.elim hq
  | brk => exact False.elim hq
  | cont => exact False.elim hq
theorem pe_call (F : FnOk X.prog X.w X.K X.mg X.base CX k f fd ps sp) (hr : Room k X.A) (hg : Gl X x) (hm : X.mg x = some (.ref f)) (hk : PySem.W.keepIn X.K (.ref f) = true) (hb : Binds X.K fd ps ds) (hd : Vals dvs ds) (hx : Passes CX X E)
  (ha : PA X (e :: es) t) (hdb : (x == ("__debug__" : Str)) = false:=by decide) (he : starEach (e :: es) X.env = (false,eval e X.env) :: starEach es X.env:=by rfl) (hpl : (backTo pos (starEach es X.env)).any (·.1) = false:=by rfl) :
  PE X (.Call (.Name x p) (e :: es) [] pos) (tCall sp dvs E t):=by
 intro pins s σ H Q I h
 refine wpAny_Call_Name_kw (ld_glob I hg hm ?_ hdb)
 refine PySem.W.callWith_K (h₀:=X.base) I.ok.mod.kin hk (thn (ha pos pins s σ H _ I h) fun us s1 ⟨vs,H1,I1,r,q⟩ => ⟨I1.kIn,?_⟩) he hpl
 exact run_fn F hr hb hd hx I1 r q
end
section
variable {X : Cx} {CX : CXT} {k : Nat} {f C : Addr} {fd : FuncData} {ps ks : List Str} {sp : Sp} {E : XK} {x m : Str} {p pos apos kpos : Pos} {e o : Expr} {es : List Expr} {kws : List Keyword} {te ta : TE} {t tk : TA} {nm : Option Str}
variable {g : List Value -> List Value -> List Value} {gV : List V -> List V -> List V}
end
structure FnScope (N P : List Str) (sc : Scope) : Prop where
 kind : sc.kind = .function
 co : sc.isCoroutine = false
 gen : sc.isGenerator = false
 nd : N.Nodup
 pre : N.take P.length = P
 par : ∀ x ∈ P,sc.names.lookup x = some .local \/ sc.names.lookup x = some .cell
 nofree : ∀ y ∈ sc.names,y.2 ≠ .free
theorem bindL_out {kindOf : Str -> Option NameKind} {x : Str} : ∀ {binds : List (Str × Value)} {m : Str -> Option Value},(∀ v,(x,v) ∉ binds) -> bindL kindOf binds m x = m x
 | [],_,_ => rfl
 | (n,v) :: r,m,h => by
  unfold bindL
  rw [bindL_out fun w hw => h w (List.mem_cons_of_mem _ hw)]
  split
  ·
   have : x ≠ n:=by rintro rfl; exact h v List.mem_cons_self
   simp [this]
  ·
   rfl
theorem bindC_out {kindOf : Str -> Option NameKind} {x : Str} : ∀ {binds : List (Str × Value)} {m : Str -> Option Value},(∀ v,(x,v) ∉ binds) -> bindC kindOf binds m x = m x
 | [],_,_ => rfl
 | (n,v) :: r,m,h => by
  unfold bindC
  rw [bindC_out fun w hw => h w (List.mem_cons_of_mem _ hw)]
  split
  ·
   rfl
  ·
   have : x ≠ n:=by rintro rfl; exact h v List.mem_cons_self
   simp [this]
theorem bindL_get {kindOf : Str -> Option NameKind} {x : Str} {v : Value} : ∀ {P : List Str} {vs : List Value} {i : Nat} {m : Str -> Option Value},P.Nodup -> P[i]? = some x -> vs[i]? = some v -> kindOf x = some .local ->
  bindL kindOf (P.zip vs) m x = some v
 | [],_,_,_,_,h,_,_ => by simp at h
 | _ :: _,[],_,_,_,_,h,_ => by simp at h
 | p :: P,w :: vs,0,m,nd,h1,h2,hk => by
  simp at h1 h2; subst h1; subst h2
  show bindL kindOf ((p,w) :: P.zip vs) m p = _
  unfold bindL
  rw [bindL_out fun v hv => (List.nodup_cons.mp nd).1 (List.of_mem_zip hv).1,if_pos hk]
  simp
 | p :: P,w :: vs,i + 1,m,nd,h1,h2,hk => by
  show bindL kindOf ((p,w) :: P.zip vs) m x = _
  unfold bindL
  exact bindL_get (i:=i) (List.nodup_cons.mp nd).2 (by simpa using h1) (by simpa using h2) hk
theorem bindC_get {kindOf : Str -> Option NameKind} {x : Str} {v : Value} : ∀ {P : List Str} {vs : List Value} {i : Nat} {m : Str -> Option Value},P.Nodup -> P[i]? = some x -> vs[i]? = some v -> kindOf x ≠ some .local ->
  bindC kindOf (P.zip vs) m x = some v
 | [],_,_,_,_,h,_,_ => by simp at h
 | _ :: _,[],_,_,_,_,h,_ => by simp at h
 | p :: P,w :: vs,0,m,nd,h1,h2,hk => by
  simp at h1 h2; subst h1; subst h2
  show bindC kindOf ((p,w) :: P.zip vs) m p = _
  unfold bindC
  rw [bindC_out fun v hv => (List.nodup_cons.mp nd).1 (List.of_mem_zip hv).1,if_neg hk]
  simp
 | p :: P,w :: vs,i + 1,m,nd,h1,h2,hk => by
  show bindC kindOf ((p,w) :: P.zip vs) m x = _
  unfold bindC
  exact bindC_get (i:=i) (List.nodup_cons.mp nd).2 (by simpa using h1) (by simpa using h2) hk
noncomputable def start (N : List Str) (vs : List V) : St:=vs.map some ++ List.replicate (N.length - vs.length) none
noncomputable def cxOf (CX : CXT) (P : Program) (w : World) (K : PySem.W.Frag) (mg : Str -> Option Value) (base : Heap) (N : List Str) (qual : Str) (scope : Scope) (f : Addr) (cd : Value) (A : Around) (outer : List Env) (s : Shared) (H : Hp) (E : XK) : Cx where
 prog:=P
 w:=w
 K:=K
 mg:=mg
 base:=base
 A:=A.deeper (envOfC qual scope s.heap.objs.size f cd)
 N:=N
 s₀:=s
 H₀:=H
 env:=envOfC qual scope s.heap.objs.size f cd
 outer:=outer
 stack:=envOfC qual scope s.heap.objs.size f cd :: outer
 ex:=[]
 calm:=true
 fn:=fun _ => true
 pn:=[]
 xe:=fun e s' => wpAny (model P w) (A.deeper (envOfC qual scope s.heap.objs.size f cd)) (leaving (envOfC qual scope s.heap.objs.size f cd) e) (fun _ s'' => CX outer H s E e s'') (fun e' s'' => CX outer H s E e' s'') s'
theorem cell_has {sc : Scope} {n : Nat} {x : Str} (h : sc.names.lookup x = some .cell) : ∃ c,(cellsFrom n sc.names []).lookup x = some c:=by
 have q:=PySem.W.cellsFrom_some sc.names n [] (.inl h)
 exact Option.isSome_iff_exists.mp q
theorem inv_start {CX : CXT} {P : Program} {w : World} {K : PySem.W.Frag} {mg : Str -> Option Value} {base : Heap} {N ps : List Str} {qual : Str} {scope : Scope} {f : Addr} {cd : Value} {A : Around} {outer : List Env} {s s1 : Shared} {H : Hp} {E : XK} {us : List Value} {vs : List V}
  (S : FnScope N ps scope) (hd : A.handled = none) (e0 : Env0 P w K mg base A outer s H) (hl : vs.length = ps.length) (r : Vals vs us)
  (x : InCallC s s.heap.objs.size (bindL (envOfC qual scope s.heap.objs.size f cd).kindOf (ps.zip us) fun _ => none) (cellsFrom (s.heap.objs.size + 1) scope.names []) (bindC (envOfC qual scope s.heap.objs.size f cd).kindOf (ps.zip us) fun _ => none) s1) :
  Inv (cxOf CX P w K mg base N qual scope f cd A outer s H E) [] (start N vs) H s1:=by
 have hpl : ps.length <= N.length:=by have:=congrArg List.length S.pre; rw [List.length_take] at this; omega
 obtain ⟨h1,tk,rfl,hk⟩:=x.done
 have noA : ∀ b : Addr,b ∉ (cxOf CX P w K mg base N qual scope f cd A outer s H E).ex:=fun b z => absurd (show b ∈ ([] : List Addr) from z) (by simp)
 refine ⟨⟨e0.mod,S.kind,rfl,rfl,Nat.le_refl _,fun y z c h1 h2 => ?_,fun y hy => ?_,fun y c _ h => ?_,fun _ => hd,Around.frames_deeper e0.frames,.inr ⟨rfl,rfl⟩,fun b z => absurd z (noA b),e0.bs,e0.bsz,fun b _ _ => noA b,fun b z => absurd z (noA b),e0.funs,e0.frf⟩,
  rfl,e0.bare,Un.kept hk,⟨_,x.toInCall.ns,fun i y v h1 h2 h3 => ?_⟩,fun y c h => ⟨_,x.cell y c h⟩,e0.hok.fresh (Nat.le_refl _),fun y c h => ?_,fun p hp => absurd (show p ∈ ([] : List (Addr × Obj)) from hp) (by simp),e0.hok.kept hk,?_⟩
 ·
  exact name_of_addr x.apart (PySem.mem_of_lookup h1) (PySem.mem_of_lookup h2)
 ·
  have hy : scope.names.lookup y = some .cell \/ scope.names.lookup y = some .free:=hy
  rcases hy with hy | hy
  ·
   exact cell_has hy
  ·
   exact absurd rfl (S.nofree _ (PySem.mem_of_lookup hy))
 ·
  exact Nat.le_of_lt (x.above y c (PySem.mem_of_lookup h))
 ·
  have hi : i < vs.length:=by
   unfold start at h2
   by_cases hi : i < vs.length
   ·
    exact hi
   ·
    rw [List.getElem?_append_right (by simpa using hi)] at h2
    rw [List.getElem?_replicate] at h2
    split at h2 <;> cases h2
  have ha : vs[i]? = some v:=by
   unfold start at h2
   rw [List.getElem?_append_left (by simpa using hi),List.getElem?_map] at h2
   cases e : vs[i]? with
   | none => rw [e] at h2; cases h2
   | some a => rw [e] at h2; cases h2; rfl
  obtain ⟨u,hu,rv⟩:=r.get ha
  have hp : ps[i]? = some y:=by
   rw [<- S.pre,List.getElem?_take_of_lt (by omega)]; exact h1
  have ndP : ps.Nodup:=by rw [<- S.pre]; exact S.nd.sublist (List.take_sublist _ _)
  refine ⟨u,rv,?_⟩
  rcases S.par y (List.mem_of_getElem? hp) with k | k
  ·
   exact .inl ⟨k,bindL_get ndP hp hu k⟩
  ·
   obtain ⟨c,e⟩:=cell_has (n:=s.heap.objs.size + 1) k
   refine .inr ⟨.inl k,c,e,?_⟩
   have q:=x.cell y c e
   rw [bindC_get ndP hp hu (by show scope.names.lookup y ≠ _; rw [k]; decide)] at q
   exact q
 ·
  exact e0.hok.fresh (Nat.le_of_lt (x.above y c (PySem.mem_of_lookup h)))
 ·
  unfold start
  show _ = N.length
  rw [List.length_append,List.length_map,List.length_replicate]
  omega
theorem fn_of {CX : CXT} {P : Program} {w : World} {K : PySem.W.Frag} {mg : Str -> Option Value} {base : Heap} {k : Nat} {f : Addr} {name qual : Str} {params : Arguments} {body : List Stmt} {scope : Scope} {dV kV doc pm cdv ct oc : Value} {an od : Option Addr}
  {osl : Array (Option Value)} {N ps : List Str} {sp : Sp} (lk : K.lookup f = some ⟨oc,od,.func (PySem.W.fnOf name qual params body scope dV kV doc pm an cdv ct),osl⟩) (hcd : PySem.W.codeIn K cdv qual = true) (S : FnScope N ps scope)
  (len : ∀ vs H Q E,sp vs H Q E -> vs.length = ps.length)
  (hbody : ∀ (A : Around) (outer : List Env) (s : Shared) (H : Hp) (vs : List V) (Q : VK) (E : XK),Room k (A.deeper (envOfC qual scope s.heap.objs.size f cdv)) -> sp vs H Q E ->
   ∃ t,PSs (cxOf CX P w K mg base N qual scope f cdv A outer s H E) body t /\ t { nx:=fun _ H' => Q .non H',rt:=Q } (start N vs) H) :
  FnOk P w K mg base CX (k + 1) f (PySem.W.fnOf name qual params body scope dV kV doc pm an cdv ct) ps sp:=by
 refine ⟨len,fun A outer s H args us vs Q E hr e0 hb r hsp => ?_⟩
 have hl:=len _ _ _ _ hsp
 have KX : K.In s.heap:=e0.mod.kin.keeps fun b o e => (e0.bs b o e).1
 have lim : s.heap.NoLimit:=e0.mod.nolimit.keeps fun b o e => (e0.bs b o e).1
 have hkind : ∀ y ∈ ps.zip us,scope.names.lookup y.1 = some .local \/ (scope.names.lookup y.1 = some .cell /\ ((cellsFrom (s.heap.objs.size + 1) scope.names []).lookup y.1).isSome = true):=fun ⟨n,v⟩ hy => by
  rcases S.par n (List.of_mem_zip hy).1 with q | q
  ·
   exact .inl q
  ·
   exact .inr ⟨q,PySem.W.cellsFrom_some _ _ _ (.inl q)⟩
 refine codeAny_call_function hr.depth (KX _ _ lk) rfl S.co S.gen rfl (PySem.W.codeRec_of KX hcd) (hb _ _ _ _ ?_)
 refine wpAny_newFunctionEnv_cells S.kind hkind fun env he s1 x => ?_
 subst he
 refine ⟨lim.keeps x.toInCall.keep,codeAny_func ?_⟩
 obtain ⟨t,ht,hq⟩:=hbody A outer s H vs Q E (hr.deeper _) hsp
 have I : Inv (cxOf CX P w K mg base N qual scope f cdv A outer s H E) [] (start N vs) H s1:=inv_start S hr.hd e0 hl r x
 refine wpAny_mono (ht [] s1 (start N vs) H _ I hq) (fun fl s' hs => ?_) fun e s' hs => hs
 have fin : ∀ {σ' : St} {H' : Hp} {v : V} {u : Value},Inv (cxOf CX P w K mg base N qual scope f cdv A outer s H E) [] σ' H' s' -> RelV v u -> Q v H' -> CE outer P w H s Q u s' :=
  fun {σ' H' v u} J rv q => ⟨v,H',J.os,J.bare,J.base,J.hok,rv,q⟩
 cases fl with
 | ret u =>
  obtain ⟨v,σ',H',J,rv,q⟩:=hs
  exact fin J rv q
 | next =>
  obtain ⟨σ',H',J,q⟩:=hs
  exact fin (v:=V.non) (u:=Value.none) J rfl q
 | brk =>
  obtain ⟨_,_,_,q⟩:=hs
  exact False.elim q
 | cont =>
  obtain ⟨_,_,_,q⟩:=hs
  exact False.elim q
end L2
namespace L2
open PySem PySem.Spec PyProof.Rows
section
variable {X : Cx} {x : Str} {p pos : Pos} {e : Expr} {es : List Expr} {t : TA} {id T : String} {r : List V -> Hp -> VK -> Prop}
def tCB (r : List V -> Hp -> VK -> Prop) (t : TA) : TE:=fun σ H Q => t σ H fun vs H1 => r vs H1 Q
theorem pe_callB (hc : CallR X (.builtin id) r) (hg : Gl X x) (hm : X.mg x = none) (hv : bootBuiltins x = some (.builtin id)) (ha : PA X (e :: es) t) (hn : x ≠ "__name__":=by decide) (hdb : (x == ("__debug__" : Str)) = false:=by decide)
  (he : starEach (e :: es) X.env = (false,eval e X.env) :: starEach es X.env:=by rfl) (hpl : (backTo pos (starEach es X.env)).any (·.1) = false:=by rfl) : PE X (.Call (.Name x p) (e :: es) [] pos) (tCB r t):=by
 intro pins s σ H Q I h
 refine wpAny_Call_Name_kw (ld_blt I hg hm hv ?_ hn hdb)
 exact PyProof.Rows.callWith_builtin1 (thn (ha pos pins s σ H _ I h) fun us s1 ⟨vs,H1,I1,r1,q1⟩ => hc pins s1 σ H1 vs us Q I1 r1 q1) he hpl
theorem pe_callTy (hc : CallR X (.type T) r) (hg : Gl X x) (hm : X.mg x = none) (hv : bootBuiltins x = some (.type T)) (ha : PA X (e :: es) t) (hn : x ≠ "__name__":=by decide) (hdb : (x == ("__debug__" : Str)) = false:=by decide)
  (he : starEach (e :: es) X.env = (false,eval e X.env) :: starEach es X.env:=by rfl) (hpl : (backTo pos (starEach es X.env)).any (·.1) = false:=by rfl) : PE X (.Call (.Name x p) (e :: es) [] pos) (tCB r t):=by
 intro pins s σ H Q I h
 refine wpAny_Call_Name_kw (ld_blt I hg hm hv ?_ hn hdb)
 exact PyProof.Rows.callWith_type1 (thn (ha pos pins s σ H _ I h) fun us s1 ⟨vs,H1,I1,r1,q1⟩ => hc pins s1 σ H1 vs us Q I1 r1 q1) he hpl
end
end L2
namespace HT
open PySem PyProof.Rows
section
open PySem.SeqAt
open PySem.AutoSeq1 (wpAny_loadPart')
open PySem.MeetsSeq PySem.MeetsSeq2 PySem.MeetsSeq3
end
section
variable {prog : Program} {w : World} {A : Around} {E : Value -> Shared -> Prop} {s : Shared}
theorem cat_tup {t b : Addr} {vs ws : List Value} {Q : Value -> Shared -> Prop} (ht : IsTup s.heap t vs.toArray) (hb : IsTup s.heap b ws.toArray) (hv : vs ≠ [])
  (h1 : ws = [] -> Q (.ref t) s) (h2 : ws ≠ [] -> Q (.ref s.heap.objs.size) { s with heap:=s.heap.push { cls:=.type "tuple",data:=.seq (vs ++ ws).toArray } })
  (hsz : vs.length + ws.length <= sizeLine) : wpAny (model prog w) A (binaryOp .Add (.ref t) (.ref b)) Q E s:=by
 obtain ⟨⟨cls,dd,data,sl⟩,ho,hc,n,hd⟩:=id ht
 obtain ⟨⟨cls2,dd2,data2,sl2⟩,ho2,hc2,n2,hd2⟩:=id hb
 simp only at hc hd hc2 hd2
 subst hc hd hc2 hd2
 have e : vs.toArray ++ ws.toArray = (vs ++ ws).toArray:=by simp
 by_cases hw : ws = []
 ·
  exact concat_meets ⟨_,ho,rfl⟩ ⟨_,ho2,rfl⟩ noFill_tuple_add seq_tuple_add PySem.F.slot_tuple_add PySem.F.entry_tuple_add (PySem.F.args_tuple_add_2 _ _)
   (tuple_addW1 t b vs.toArray ws.toArray n n2 dd dd2 sl sl2 (by simpa using hv) (by simp [hw])) ⟨ho,ho2,h1 hw⟩
 ·
  refine concat_meets ⟨_,ho,rfl⟩ ⟨_,ho2,rfl⟩ noFill_tuple_add seq_tuple_add PySem.F.slot_tuple_add PySem.F.entry_tuple_add (PySem.F.args_tuple_add_2 _ _)
   (tuple_addW2 t b vs.toArray ws.toArray n n2 dd dd2 sl sl2 (by simpa using hv) (by simpa using hw) (by rw [List.size_toArray,List.size_toArray]; exact hsz)) ⟨ho,ho2,?_⟩
  rw [e]
  exact h2 hw
noncomputable def sIx (n d : Nat) : Option Int -> Nat
 | none => d
 | some v => if v < 0 then (v + (n : Int)).toNat else min v.toNat n
theorem sIx_none (n d : Nat) : sIx n d none = d:=rfl
theorem sIx_nat (n d k : Nat) : sIx n d (some (k : Int)) = min k n:=by
 show (if (k : Int) < 0 then ((k : Int) + (n : Int)).toNat else min (k : Int).toNat n) = min k n
 rw [if_neg (by omega),Int.toNat_natCast]
theorem sIx_le (n d : Nat) (hd : d <= n) (o : Option Int) : sIx n d o <= n:=by
 cases o with
 | none => exact hd
 | some v =>
  show (if v < 0 then (v + (n : Int)).toNat else min v.toNat n) <= n
  by_cases hv : v < 0
  ·
   rw [if_pos hv]; omega
  ·
   rw [if_neg hv]; exact Nat.min_le_right _ _
theorem clip_eq (v : Int) (n d : Nat) : (if v < 0 then max (v + (n : Int)) 0 else min v (n : Int)) = ((sIx n d (some v) : Nat) : Int):=by
 show (if v < 0 then max (v + (n : Int)) 0 else min v (n : Int)) = (((if v < 0 then (v + (n : Int)).toNat else min v.toNat n) : Nat) : Int)
 by_cases hv : v < 0
 ·
  simp only [if_pos hv]; omega
 ·
  simp only [if_neg hv]; omega
theorem adjust_gen (lo hi : Option Int) (n : Nat) : Builtin.Slice.sliceAdjust lo hi 1 (n : Int) = (((sIx n 0 lo : Nat) : Int),((sIx n n hi : Nat) : Int)):=by
 have h1 : ¬ ((1 : Int) < 0):=by omega
 unfold Builtin.Slice.sliceAdjust
 simp only [h1,if_false]
 refine Prod.ext ?_ ?_
 ·
  cases lo with
  | none => rfl
  | some v => exact clip_eq v n 0
 ·
  cases hi with
  | none => rfl
  | some v => exact clip_eq v n n
theorem places_gen (i j : Nat) : Builtin.Slice.slicePlaces (i : Int) (j : Int) 1 = j - i:=by
 unfold Builtin.Slice.slicePlaces
 have h1 : (1 : Int) > 0:=by omega
 simp only [h1,if_true,Int.ediv_one]
 split <;> omega
theorem slicePart_ {v : Value} {o : Option Int} {Q : Option Int -> Shared -> Prop} (p : IsPart v o) (h : Q o s) : wpAny (model prog w) A (Builtin.Slice.slicePartIndex v) Q E s:=by
 cases p with
 | none => exact slicePart_none h
 | int i t => exact slicePart_int h
theorem sliceApplied_gen {sl : Addr} {vl vu : Value} {lo hi : Option Int} {n : Nat} {Q : Int × Int × Nat -> Shared -> Prop} (hs : s.heap.IsSliceOf sl vl vu .none) (pl : IsPart vl lo) (pu : IsPart vu hi)
  (h : Q (((sIx n 0 lo : Nat) : Int),1,sIx n n hi - sIx n 0 lo) s) : wpAny (model prog w) A (Builtin.Slice.sliceApplied (.ref sl) (pure (n : Int))) Q E s:=by
 obtain ⟨os,hos,hcs,hds⟩:=id hs
 unfold Builtin.Slice.sliceApplied Builtin.Slice.sliceFields
 refine wpAny_bind (wpAny_bind (wpAny_field hos hds (x:=vl) rfl (wpAny_bind (wpAny_field hos hds (x:=vu) rfl (wpAny_bind (wpAny_field hos hds (x:=.none) rfl (wpAny_pure ?_)))))))
 refine wpAny_bind (slicePart_none ?_)
 show wpAny _ _ (if ((1 : Int) == 0) = true then _ else _) _ _ s
 rw [if_neg (by decide)]
 refine wpAny_bind (slicePart_ pl (wpAny_bind (slicePart_ pu (wpAny_bind (wpAny_pure ?_)))))
 show wpAny _ _ (match Builtin.Slice.sliceAdjust lo hi 1 (n : Int) with | (lo,hi) => pure (lo,(1 : Int),Builtin.Slice.slicePlaces lo hi 1)) _ _ s
 rw [adjust_gen lo hi n]
 show wpAny _ _ (pure (((sIx n 0 lo : Nat) : Int),(1 : Int),Builtin.Slice.slicePlaces ((sIx n 0 lo : Nat) : Int) ((sIx n n hi : Nat) : Int) 1)) _ _ s
 rw [places_gen]
 exact wpAny_pure h
theorem pick_gen (xs : Array Value) (i k : Nat) : ((List.range k).filterMap fun (m : Nat) => xs[((i : Int) + (m : Int) * 1).toNat]?).toArray = ((xs.toList.drop i).take k).toArray:=by
 have e : (fun (m : Nat) => xs[((i : Int) + (m : Int) * 1).toNat]?) = fun m => xs[i + m]?:=by
  funext m
  have : ((i : Int) + (m : Int) * 1).toNat = i + m:=by omega
  rw [this]
 rw [e]
 have:=pick_run xs i k
 rw [List.filterMap_map] at this
 have e2 : ((fun x => xs[x]?) ∘ fun x => i + x) = fun m => xs[i + m]?:=rfl
 rw [e2] at this
 rw [this]
theorem getItem_tuple_cut {t sl : Addr} {items : Array Value} {vl vu : Value} {lo hi : Option Int} {Q : Value -> Shared -> Prop} (ht : IsTup s.heap t items) (hs : s.heap.IsSliceOf sl vl vu .none) (pl : IsPart vl lo) (pu : IsPart vu hi)
  (hw : ¬ (sIx items.size 0 lo = 0 /\ sIx items.size items.size hi = items.size))
  (h : Q (.ref s.heap.objs.size) { s with heap:=s.heap.push { cls:=.type "tuple",data:=.seq ((items.toList.drop (sIx items.size 0 lo)).take (sIx items.size items.size hi - sIx items.size 0 lo)).toArray } })
  (hsz : items.size <= sizeLine) : wpAny (model prog w) A (getItem (.ref t) (.ref sl)) Q E s:=by
 have htake : sizeOk (.seq ((items.toList.drop (sIx items.size 0 lo)).take (sIx items.size items.size hi - sIx items.size 0 lo)).toArray):=by
  show ((items.toList.drop (sIx items.size 0 lo)).take (sIx items.size items.size hi - sIx items.size 0 lo)).toArray.size <= sizeLine
  rw [List.size_toArray,List.length_take,List.length_drop,Array.length_toList]
  omega
 have hj : sIx items.size items.size hi <= items.size:=sIx_le _ _ (Nat.le_refl _) hi
 obtain ⟨os,hos,hcs,hds⟩:=id hs
 have hTs : s.TypeIs (.ref sl) "slice":=⟨os,hos,hcs⟩
 unfold getItem
 try with_reducible refine wpAny_holding ?_
 first | refine wpAny_bind (wpAny_pure ?_) | skip
 refine wpAny_bind (wpAny_sequenceKey ht.typeIs (by decide) ?_)
 refine wpAny_bind (wpAny_callSpecial?_slot (name:=Str.ofString "__getitem__") ht.typeIs PyProof.Rows.slot_tuple_getitem
  (wpAny_call_entry PyProof.Rows.slot_tuple_getitem ht.typeIs entry_tuple_getitem ?_ (args_tuple_getitem _ _)))
 show wpAny _ _ (Builtin.Tuple.tupleItemsOf (.ref t) >>= _) _ _ s
 refine wpAny_bind (tupleItemsOf_ ht ?_)
 refine wpAny_bind (wpAny_typeOf hTs ?_)
 rw [if_pos (by decide)]
 refine wpAny_bind (sliceApplied_gen hs pl pu ?_)
 have hno : ¬ ((((sIx items.size 0 lo : Nat) : Int) == 0 && (1 : Int) == 1 && (sIx items.size items.size hi - sIx items.size 0 lo) == items.size) = true):=by
  intro q
  rw [Bool.and_eq_true,Bool.and_eq_true] at q
  have q1 : ((sIx items.size 0 lo : Nat) : Int) = 0:=eq_of_beq q.1.1
  have q2 : sIx items.size items.size hi - sIx items.size 0 lo = items.size:=eq_of_beq q.2
  exact hw ⟨by omega,by omega⟩
 show wpAny _ _ (if (((sIx items.size 0 lo : Nat) : Int) == 0 && (1 : Int) == 1 && (sIx items.size items.size hi - sIx items.size 0 lo) == items.size) = true then _ else _) _ _ s
 rw [if_neg hno,pick_gen]
 first
  | exact wpAny_bind (m:=Builtin.Tuple.tupleExact _) (wpAny_newObj_type (wpAny_pure ⟨_,rfl,wpAny_pure h⟩) htake)
  | exact wpAny_bind (m:=Builtin.Tuple.tupleExact _) (wpAny_newObj_type (wpAny_bind (wpAny_pure (wpAny_pure ⟨_,rfl,wpAny_pure h⟩))) htake)
  | exact wpAny_bind (wpAny_bind (m:=Builtin.Tuple.tupleExact _) (wpAny_newObj_type (wpAny_pure (wpAny_pure ⟨_,rfl,wpAny_pure h⟩)) htake))
  | exact wpAny_bind (wpAny_bind (m:=Builtin.Tuple.tupleExact _) (wpAny_newObj_type (wpAny_pure ⟨_,rfl,wpAny_pure h⟩) htake))
end
end HT
namespace L2
open PySem PySem.Spec PyProof.Rows
abbrev TO:=St -> Hp -> (Option Int -> Hp -> Prop) -> Prop
def PO (X : Cx) (e : Option Expr) (t : TO) : Prop :=
 ∀ (pins : List (Addr × Obj)) (s : Shared) (σ : St) (H : Hp) (Q : Option Int -> Hp -> Prop),Inv X pins σ H s -> t σ H Q ->
  wpAny (model X.prog X.w) X.A (evalPart e X.env) (fun u s' => ∃ o H',Inv X pins σ H' s' /\ IsPart u o /\ Q o H') X.xe s
def tNoPart : TO:=fun _ H Q => Q none H
def tPart (t : TE) : TO:=fun σ H Q => t σ H fun x H1 => ∃ i,x = .int i /\ Q (some i) H1
section
variable {X : Cx} {e : Expr} {te : TE} {lo hi : Option Expr} {tl th : TO} {pos p2 : Pos}
theorem po_none : PO X none tNoPart:=by
 intro pins s σ H Q I h
 rw [evalPart_none]
 exact wpAny_pure ⟨none,H,I,.none,h⟩
theorem po_some (h : PE X e te) : PO X (some e) (tPart te):=by
 intro pins s σ H Q I hw
 rw [evalPart_some]
 refine thn (h pins s σ H _ I hw) fun u s1 ⟨x,H1,I1,r1,q1⟩ => ?_
 obtain ⟨i,rfl,q⟩:=q1
 obtain ⟨t,rfl⟩:=r1
 exact ⟨some i,H1,I1,.int i t,q⟩
def SlR (X : Cx) (r : V -> Option Int -> Option Int -> Hp -> VK -> Prop) : Prop :=
 ∀ (pins : List (Addr × Obj)) (s : Shared) (σ : St) (H : Hp) (x : V) (v vl vu : Value) (lo hi : Option Int) (sl : Addr) (Q : VK),Inv X pins σ H s -> RelV x v -> s.heap.IsSliceOf sl vl vu .none -> IsPart vl lo -> IsPart vu hi -> r x lo hi H Q ->
  ∃ T id,typeLookup (.type T) "__getitem__" = pure (some (.builtin id)) /\ s.TypeIs v T /\ wpAny (model X.prog X.w) X.A (getItem v (.ref sl)) (EP X pins σ Q) X.xe s
theorem SlR.or {r r' : V -> Option Int -> Option Int -> Hp -> VK -> Prop} (h : SlR X r) (h' : SlR X r') : SlR X (fun x lo hi H Q => r x lo hi H Q \/ r' x lo hi H Q):=by
 intro pins s σ H x v vl vu lo hi sl Q I rx hs pl pu q
 rcases q with q | q
 ·
  exact h pins s σ H x v vl vu lo hi sl Q I rx hs pl pu q
 ·
  exact h' pins s σ H x v vl vu lo hi sl Q I rx hs pl pu q
def tSl (r : V -> Option Int -> Option Int -> Hp -> VK -> Prop) (te : TE) (tl th : TO) : TE:=fun σ H Q => te σ H fun x H1 => tl σ H1 fun l H2 => th σ H2 fun u H3 => r x l u H3 Q
theorem pe_slice {r : V -> Option Int -> Option Int -> Hp -> VK -> Prop} (hr : SlR X r) (he : PE X e te) (hl : PO X lo tl) (hu : PO X hi th) : PE X (.Subscript e (.Slice lo hi none p2) pos) (tSl r te tl th):=by
 intro pins s σ H Q I h
 refine Subscript_ (thn (he pins s σ H _ I h) fun v s1 ⟨x,H1,I1,r1,q1⟩ => ?_)
 refine wpAny_Slice (thn (hl pins s1 σ H1 _ I1 q1) fun vl s2 ⟨l,H2,I2,pl,q2⟩ => thn (hu pins s2 σ H2 _ I2 q2) fun vu s3 ⟨u,H3,I3,pu,q3⟩ => ?_)
 rw [evalPart_none]
 refine wpAny_pure ?_
 have I4 : Inv X pins σ H3 { s3 with heap:=s3.heap.push { cls:=.type "slice",data:=.fields #[vl,vu,.none] } }:=I3.kept (t':=s3.toks) fun b ob q => Heap.get?_push_of_some _ q
 obtain ⟨T,id,hT,ht,hg⟩:=hr pins { s3 with heap:=s3.heap.push { cls:=.type "slice",data:=.fields #[vl,vu,.none] } } σ H3 x v vl vu l u s3.heap.objs.size Q I4 r1 (Heap.IsSliceOf.new ..) pl pu q3
 show wpAny (model X.prog X.w) X.A (subscriptTail e (.Slice lo hi none p2) v (.ref s3.heap.objs.size)) (EP X pins σ Q) X.xe { s3 with heap:=s3.heap.push { cls:=.type "slice",data:=.fields #[vl,vu,.none] } }
 exact tail_any (ops:=[.ref s3.heap.objs.size,v]) ht hT hg (by with_unfolding_all rfl)
noncomputable def cutV (xs : List V) (lo hi : Option Int) : List V:=(xs.drop (HT.sIx xs.length 0 lo)).take (HT.sIx xs.length xs.length hi - HT.sIx xs.length 0 lo)
theorem cutV_length (xs : List V) (lo hi : Option Int) : (cutV xs lo hi).length <= xs.length:=by
 unfold cutV
 rw [List.length_take,List.length_drop]
 omega
def rSlT (K : PySem.W.Frag) : V -> Option Int -> Option Int -> Hp -> VK -> Prop:=fun x lo hi H Q => ∃ a xs,x = .ref a /\ SqT K H a xs /\
 ¬ (HT.sIx xs.length 0 lo = 0 /\ HT.sIx xs.length xs.length hi = xs.length) /\ ∀ p,H p = none -> Q (.ref p) (upd H p (.tup (cutV xs lo hi)))
theorem sl_tup : SlR X (rSlT X.K):=by
 intro pins s σ H x v vl vu lo hi sl Q I rx hs pl pu h
 obtain ⟨a,xs,rfl,hx,hw,q⟩:=h
 cases rx
 obtain ⟨its,r,ht,hz⟩:=I.tuple hx
 have hlen : its.toArray.size = xs.length:=by rw [List.size_toArray]; exact r.length.symm
 refine ⟨"tuple",_,PyProof.Rows.slot_tuple_getitem.lookup,ht.typeIs,?_⟩
 refine HT.getItem_tuple_cut ht hs pl pu (by rw [hlen]; exact hw) ?_ (by rw [hlen]; exact hz)
 rw [hlen]
 refine ⟨.ref s.heap.objs.size,_,I.laid (t':=s.toks) (o:=.tup (cutV xs lo hi)) (fun b ob q => Heap.get?_push_of_some _ q) (Nat.le_refl _) ?_,rfl,q _ (I.hok.fresh (Nat.le_refl _))⟩
 exact ⟨Nat.le_trans (cutV_length xs lo hi) hz,_,(r.drop (HT.sIx xs.length 0 lo)).take (HT.sIx xs.length xs.length hi - HT.sIx xs.length 0 lo),Tup0.new _ _⟩
def rCatT (K : PySem.W.Frag) : R2:=fun x y H Q => ∃ a b xs ys,x = .ref a /\ y = .ref b /\ SqT K H a xs /\ SqT K H b ys /\ xs ≠ [] /\ xs.length + ys.length <= sizeLine /\
 (ys = [] -> Q (.ref a) H) /\ (ys ≠ [] -> ∀ p,H p = none -> Q (.ref p) (upd H p (.tup (xs ++ ys))))
theorem Vals.nil_iff {xs : List V} {us : List Value} (r : Vals xs us) : us = [] ↔ xs = []:=by
 cases r with
 | nil => simp
 | cons _ _ => simp
theorem op_catT : OpR X (binaryOp .Add) (rCatT X.K):=by
 intro pins s σ H x y v u Q I rx ry h
 obtain ⟨a,b,xs,ys,rfl,rfl,ha,hb,hx,hz,q1,q2⟩:=h
 cases rx
 cases ry
 obtain ⟨its,r1,p1,_⟩:=I.tuple ha
 obtain ⟨its2,r2,p2,_⟩:=I.tuple hb
 refine HT.cat_tup p1 p2 (fun z => hx (r1.nil_iff.mp z)) (fun z => ⟨.ref a,H,I,rfl,q1 (r2.nil_iff.mp z)⟩) (fun z => ?_) (by rw [<- r1.length,<- r2.length]; exact hz)
 refine ⟨.ref s.heap.objs.size,_,I.laid (t':=s.toks) (o:=.tup (xs ++ ys)) (fun b ob q => Heap.get?_push_of_some _ q) (Nat.le_refl _) ?_,rfl,q2 (fun w => z (r2.nil_iff.mpr w)) _ (I.hok.fresh (Nat.le_refl _))⟩
 exact ⟨by rw [List.length_append]; exact hz,_,r1.append r2,Tup0.new _ _⟩
end
end L2
namespace L2
open PySem PySem.Spec PyProof.Rows
noncomputable def ixN (n : Nat) (i : Int) : Option Nat:=if 0 <= i then (if i < n then some i.toNat else none) else if -(n : Int) <= i then some (i + n).toNat else none
noncomputable def atI {α : Type} (xs : List α) (i : Int) : Option α:=(ixN xs.length i).bind fun j => xs[j]?
theorem ixN_seq {n : Nat} {i : Int} {j : Nat} (h : ixN n i = some j) : seqIndex? i n = some j /\ j < n /\ -(n : Int) <= i /\ i < n:=by
 unfold ixN at h
 by_cases h0 : 0 <= i
 ·
  rw [if_pos h0] at h
  by_cases h1 : i < n
  ·
   rw [if_pos h1] at h
   have e : i.toNat = j:=Option.some.inj h
   exact ⟨by rw [seqIndex_of h0 h1,e],by omega,by omega,h1⟩
  ·
   rw [if_neg h1] at h; cases h
 ·
  rw [if_neg h0] at h
  by_cases h1 : -(n : Int) <= i
  ·
   rw [if_pos h1] at h
   have e : (i + n).toNat = j:=Option.some.inj h
   exact ⟨by rw [seqIndex_neg (by omega) h1,e],by omega,h1,by omega⟩
  ·
   rw [if_neg h1] at h; cases h
theorem atI_get {α : Type} {xs : List α} {i : Int} {v : α} (h : atI xs i = some v) : ∃ j,seqIndex? i xs.length = some j /\ xs[j]? = some v /\ j < xs.length /\ -(xs.length : Int) <= i /\ i < xs.length:=by
 unfold atI at h
 cases e : ixN xs.length i with
 | none => rw [e] at h; cases h
 | some j =>
  rw [e] at h
  obtain ⟨h1,h2,h3,h4⟩:=ixN_seq e
  exact ⟨j,h1,h,h2,h3,h4⟩
theorem atI_nat {α : Type} {xs : List α} {j : Nat} {v : α} (h : xs[j]? = some v) : atI xs (j : Int) = some v:=by
 have hj : j < xs.length:=(List.getElem?_eq_some_iff.mp h).1
 have e : ixN xs.length (j : Int) = some j:=by
  unfold ixN
  rw [if_pos (by omega),if_pos (by omega)]; simp
 unfold atI; rw [e]; exact h
def PlainIx (b : Expr) : Prop:=∀ o i,subscripted b false o i = operate [o,i] (getItem o i)
def IxR (X : Cx) (r : R2) : Prop :=
 ∀ (value slice : Expr) (pins : List (Addr × Obj)) (s : Shared) (σ : St) (H : Hp) (x y : V) (v u : Value) (Q : VK),Inv X pins σ H s -> RelV x v -> RelV y u -> r x y H Q ->
  subscripted slice false v u = operate [v,u] (getItem v u) -> wpAny (model X.prog X.w) X.A (subscriptTail value slice v u) (EP X pins σ Q) X.xe s
def MtR (X : Cx) (id : String) (r : V -> List V -> Hp -> VK -> Prop) : Prop :=
 ∀ (pins : List (Addr × Obj)) (s : Shared) (σ : St) (H : Hp) (x : V) (xs : List V) (v : Value) (us : List Value) (Q : VK),Inv X pins σ H s -> RelV x v -> Vals xs us -> r x xs H Q ->
  wpAny (model X.prog X.w) X.A (call (.builtin id) (v :: us)) (EP X pins σ Q) X.xe s
section
variable {X : Cx} {a b : Expr} {ta tb : TE} {pos : Pos}
theorem IxR.or {r r' : R2} (h : IxR X r) (h' : IxR X r') : IxR X (fun x y H Q => r x y H Q \/ r' x y H Q):=by
 intro value slice pins s σ H x y v u Q I rx ry q hs
 rcases q with q | q
 ·
  exact h value slice pins s σ H x y v u Q I rx ry q hs
 ·
  exact h' value slice pins s σ H x y v u Q I rx ry q hs
theorem MtR.or {id : String} {r r' : V -> List V -> Hp -> VK -> Prop} (h : MtR X id r) (h' : MtR X id r') : MtR X id (fun x xs H Q => r x xs H Q \/ r' x xs H Q):=by
 intro pins s σ H x xs v us Q I rx rs q
 rcases q with q | q
 ·
  exact h pins s σ H x xs v us Q I rx rs q
 ·
  exact h' pins s σ H x xs v us Q I rx rs q
theorem pe_ix {r : R2} (hr : IxR X r) (ha : PE X a ta) (hb : PE X b tb) (hs : PlainIx b) : PE X (.Subscript a b pos) (tOp r ta tb):=by
 intro pins s σ H Q I h
 exact Subscript_ (binT ha hb I h fun v u s2 x y H2 I2 rx ry q => hr a b pins s2 σ H2 x y v u Q I2 rx ry q (hs _ _))
def rIxL (K : PySem.W.Frag) : R2:=fun x y H Q => ∃ p xs i v,x = .ref p /\ y = .int i /\ SqL K H p xs /\ atI xs i = some v /\ Q v H
def rIxT (K : PySem.W.Frag) : R2:=fun x y H Q => ∃ p xs i v,x = .ref p /\ y = .int i /\ SqT K H p xs /\ atI xs i = some v /\ Q v H
def rIxS : R2:=fun x y H Q => ∃ z i c,x = .str z /\ y = .int i /\ z.length <= sizeLine /\ atI z.cps.toList i = some c /\ Q (.str ⟨#[c]⟩) H
theorem ix_list : IxR X (rIxL X.K):=by
 intro value slice pins s σ H x y v u Q I rx ry h hs
 obtain ⟨p,xs,i,z,rfl,rfl,hq,he,q⟩:=h
 cases rx
 obtain ⟨t,rfl⟩:=ry
 obtain ⟨its,r,pl,hz⟩:=I.list hq
 obtain ⟨j,h1,h2,h3,h4,h5⟩:=atI_get he
 obtain ⟨w,ew,rw'⟩:=r.get h2
 have hl:=r.length
 have hn:=line63
 have fin : EP X pins σ Q w s:=⟨z,H,I,rw',q⟩
 by_cases h0 : 0 <= i
 ·
  have hj : i.toNat = j:=by
   rw [seqIndex_of h0 h5] at h1
   exact Option.some.inj h1
  exact item_listR pl.isList h0 (by omega) (by rw [hj]; simpa using ew) fin hs
 ·
  have hj : (i + (its.toArray.size : Int)).toNat = j:=by
   rw [seqIndex_neg (by omega) h4] at h1
   rw [List.size_toArray,<- hl]
   exact Option.some.inj h1
  exact subscriptTail_builtinR (x:=w) pl.isList.typeIs slot_list_getitem.lookup
   (wpAny_getItem_list_neg (Q:=fun r s' => r = w /\ EP X pins σ Q r s') pl.isList (by omega) (by rw [List.size_toArray] <;> omega) (by omega) (by rw [hj]; simpa using ew) ⟨rfl,fin⟩) hs
theorem ix_tup : IxR X (rIxT X.K):=by
 intro value slice pins s σ H x y v u Q I rx ry h hs
 obtain ⟨p,xs,i,z,rfl,rfl,hq,he,q⟩:=h
 cases rx
 obtain ⟨t,rfl⟩:=ry
 obtain ⟨its,r,pl,hz⟩:=I.tuple hq
 obtain ⟨j,h1,h2,h3,h4,h5⟩:=atI_get he
 obtain ⟨w,ew,rw'⟩:=r.get h2
 have hl:=r.length
 have hn:=line63
 have fin : EP X pins σ Q w s:=⟨z,H,I,rw',q⟩
 exact subscriptTail_builtinR (x:=w) pl.typeIs slot_tuple_getitem.lookup
  (getItem_tuple (j:=j) (Q:=fun r s' => r = w /\ EP X pins σ Q r s') pl (by omega) (by omega) (by rw [List.size_toArray,<- hl]; exact h1) (by simpa using ew) ⟨rfl,fin⟩) hs
theorem ix_str : IxR X rIxS:=by
 intro value slice pins s σ H x y v u Q I rx ry h hs
 obtain ⟨z,i,c,rfl,rfl,hz,he,q⟩:=h
 obtain ⟨t,rfl⟩:=rx
 obtain ⟨t',rfl⟩:=ry
 obtain ⟨j,h1,h2,h3,h4,h5⟩:=atI_get he
 have hl : z.cps.toList.length = z.length:=by simp [Str.length]
 rw [hl] at h1 h4 h5
 have hn:=line63
 exact tail_any (typeIs_str s z t) slot_str_getitem.lookup (getItem_str (c:=c) (by
  have e1 : decide (i < -(2 ^ 63 : Int)) = false:=decide_eq_false (by omega)
  have e2 : decide (i ≥ 2 ^ 63) = false:=decide_eq_false (by omega)
  rw [e1,e2,Bool.or_false]) (by rw [h1]; simpa using h2) ⟨.str ⟨#[c]⟩,H,I.tok _,⟨_,rfl⟩,q⟩) hs
def rIx (K : PySem.W.Frag) : R2:=fun x y H Q => rIxL K x y H Q \/ rIxT K x y H Q \/ rIxS x y H Q
theorem ix_seq : IxR X (rIx X.K):=ix_list.or (ix_tup.or ix_str)
theorem mapSeq_set (its : List Value) (n j : Nat) (u : Value) : Obj.mapSeq (·.setIfInBounds j u) { cls:=.type "list",data:=.seq its.toArray n } = { cls:=.type "list",data:=.seq (its.set j u).toArray n }:=by
 simp [Obj.mapSeq]
theorem Inv.lst {pins : List (Addr × Obj)} {σ : St} {H : Hp} {s : Shared} {p : Addr} {xs : List V} (I : Inv X pins σ H s) (h : H p = some (.lst xs)) :
  ∃ (its : List Value) (n : Nat),Vals xs its /\ s.heap.get? p = some { cls:=.type "list",data:=.seq its.toArray n } /\ xs.length <= sizeLine:=by
 obtain ⟨z,its,n,r,e⟩:=I.hok p _ h
 exact ⟨its,n,r,e,z⟩
theorem Inv.lstUpd {pins : List (Addr × Obj)} {σ : St} {H : Hp} {s : Shared} {p : Addr} {xs ys : List V} {its its' : List Value} {n n' : Nat} {f : Obj -> Obj} (I : Inv X pins σ H s) (h : H p = some (.lst xs))
  (ho : s.heap.get? p = some { cls:=.type "list",data:=.seq its.toArray n }) (hf : f { cls:=.type "list",data:=.seq its.toArray n } = { cls:=.type "list",data:=.seq its'.toArray n' }) (r : Vals ys its') (hz : ys.length <= sizeLine) (t : Nat) :
  Inv X pins σ (upd H p (.lst ys)) { s with heap:=s.heap.update p f,toks:=t }:=by
 have e : (s.heap.update p f).get? p = some { cls:=.type "list",data:=.seq its'.toArray n' }:=by
  rw [Heap.get?_update_self f ho (by rw [hf] <;> rfl),hf]
 refine I.write (x:=p) (e:=p) (by rw [h]; trivial) (.inl rfl) (fun b u hb q => (Heap.get?_update_other _ _ (Ne.symm hb)).trans q) ⟨_,e⟩ ?_
 exact ⟨hz,its',n',r,e⟩
def rSetL : V -> V -> V -> Hp -> (Hp -> Prop) -> Prop:=fun o i v H Q => ∃ p xs k j,o = .ref p /\ i = .int k /\ H p = some (.lst xs) /\ ixN xs.length k = some j /\ Q (upd H p (.lst (xs.set j v)))
theorem set_list : PSet X rSetL:=by
 intro pins s σ H o i v ov iv u Q I ro ri rv h
 obtain ⟨p,xs,k,j,rfl,rfl,hp,hj,q⟩:=h
 cases ro
 obtain ⟨t,rfl⟩:=ri
 obtain ⟨its,n,r,ho,hz⟩:=I.lst hp
 obtain ⟨h1,h2,h3,h4⟩:=ixN_seq hj
 have hl:=r.length
 have hn:=line63
 have I' : Inv X pins σ (upd H p (.lst (xs.set j v))) { s with heap:=s.heap.update p (Obj.mapSeq (·.setIfInBounds j u)) } :=
  I.lstUpd hp ho (mapSeq_set its n j u) (r.set rv j) (by rw [List.length_set]; exact hz) s.toks
 by_cases h0 : 0 <= k
 ·
  have hk : k.toNat = j:=by
   rw [seqIndex_of h0 h4] at h1
   exact Option.some.inj h1
  exact PySem.W.ki_setAt ho h0 (by omega) (by rw [List.size_toArray,<- hl]; exact h4) (by rw [hk]; exact ⟨_,I',q⟩)
 ·
  have hk : (k + (its.toArray.size : Int)).toNat = j:=by
   rw [seqIndex_neg (by omega) h3] at h1
   rw [List.size_toArray,<- hl]
   exact Option.some.inj h1
  exact PySem.W.ki_setBack ho (by omega) (by rw [List.size_toArray,<- hl]; exact h3) (by omega) (by rw [hk]; exact ⟨_,I',q⟩)
theorem slice_bounds (lo hi : Option Int) (n : Nat) : (sliceBounds lo hi none n).1 = ((HT.sIx n 0 lo : Nat) : Int) /\ (sliceBounds lo hi none n).2.1 = ((HT.sIx n n hi : Nat) : Int) /\ (sliceBounds lo hi none n).2.2 = 1:=by
 refine ⟨?_,?_,rfl⟩
 ·
  cases lo with
  | none => simp [sliceBounds,HT.sIx]
  | some i =>
   simp only [sliceBounds,HT.sIx,Option.getD_none,show (1 : Int) > 0 by decide,if_true]
   by_cases h : i < 0
   ·
    simp only [h,if_true] <;> omega
   ·
    simp only [h,if_false] <;> omega
 ·
  cases hi with
  | none => simp [sliceBounds,HT.sIx]
  | some i =>
   simp only [sliceBounds,HT.sIx,Option.getD_none,show (1 : Int) > 0 by decide,if_true]
   by_cases h : i < 0
   ·
    simp only [h,if_true] <;> omega
   ·
    simp only [h,if_false] <;> omega
theorem slicePick_cut (its : List Value) (lo hi : Option Int) : slicePick its.toArray lo hi none = ((its.drop (HT.sIx its.length 0 lo)).take (HT.sIx its.length its.length hi - HT.sIx its.length 0 lo)).toArray:=by
 obtain ⟨h1,h2,h3⟩:=slice_bounds lo hi its.toArray.size
 unfold slicePick
 rw [h1,h2,h3]
 simp only [sliceRange_one,pick_run,List.size_toArray] <;> rfl
def rSlL (K : PySem.W.Frag) : V -> Option Int -> Option Int -> Hp -> VK -> Prop:=fun x lo hi H Q => ∃ a xs,x = .ref a /\ SqL K H a xs /\ ∀ p,H p = none -> Q (.ref p) (upd H p (.lst (cutV xs lo hi)))
theorem sl_list : SlR X (rSlL X.K):=by
 intro pins s σ H x v vl vu lo hi sl Q I rx hs pl pu h
 obtain ⟨a,xs,rfl,hx,q⟩:=h
 cases rx
 obtain ⟨its,r,ht,hz⟩:=I.list hx
 have hlen:=r.length
 refine ⟨"list",_,slot_list_getitem.lookup,ht.isList.typeIs,?_⟩
 refine wpAny_getItem_list_slice ht.isList hs pl pu .none (by simp) ?_ (by rw [List.size_toArray] <;> omega)
 rw [slicePick_cut,<- hlen]
 refine ⟨.ref s.heap.objs.size,_,I.laid (t':=s.toks) (o:=.lst (cutV xs lo hi)) (fun b ob q => Heap.get?_push_of_some _ q) (Nat.le_refl _) ?_,rfl,q _ (I.hok.fresh (Nat.le_refl _))⟩
 exact ⟨Nat.le_trans (cutV_length xs lo hi) hz,_,0,(r.drop (HT.sIx xs.length 0 lo)).take (HT.sIx xs.length xs.length hi - HT.sIx xs.length 0 lo),Heap.get?_push_size _ rfl⟩
theorem call_len_seq : CallR X (.builtin "len") (fun xs H Q => ∃ p ys,xs = [.ref p] /\ (SqL X.K H p ys \/ SqT X.K H p ys) /\ Q (.int ys.length) H):=by
 intro pins s σ H xs us Q I r h
 obtain ⟨p,ys,rfl,hq,q⟩:=h
 obtain ⟨u,rfl,rx⟩:=vals1 r
 cases rx
 have hn:=line63
 rcases hq with hq | hq
 ·
  obtain ⟨its,r',pl,hz⟩:=I.list hq
  have hlen:=r'.length
  exact Calls.call_len_list pl.isList (by simp only [List.size_toArray] <;> omega) ⟨.int ys.length,H,I.tok _,⟨s.toks + 1,by rw [List.size_toArray,hlen]⟩,q⟩
 ·
  obtain ⟨its,r',pl,hz⟩:=I.tuple hq
  have hlen:=r'.length
  exact len_tuple pl (by simp only [List.size_toArray] <;> omega) ⟨.int ys.length,H,I.tok _,⟨s.toks + 1,by rw [List.size_toArray,hlen]⟩,q⟩
theorem call_len_str : CallR X (.builtin "len") (fun xs H Q => ∃ z,xs = [.str z] /\ z.length <= sizeLine /\ Q (.int z.length) H):=by
 intro pins s σ H xs us Q I r h
 obtain ⟨z,rfl,hz,q⟩:=h
 obtain ⟨u,rfl,t,rfl⟩:=vals1 r
 have hn:=line63
 exact len_str (by omega) ⟨.int z.length,H,I.tok _,⟨_,rfl⟩,q⟩
theorem CallR.or {f : Value} {r r' : List V -> Hp -> VK -> Prop} (h : CallR X f r) (h' : CallR X f r') : CallR X f (fun xs H Q => r xs H Q \/ r' xs H Q):=by
 intro pins s σ H xs us Q I rs q
 rcases q with q | q
 ·
  exact h pins s σ H xs us Q I rs q
 ·
  exact h' pins s σ H xs us Q I rs q
theorem call_list_of : CallR X (.type "list") (fun xs H Q => ∃ p ys,xs = [.ref p] /\ (SqL X.K H p ys \/ SqT X.K H p ys) /\ ∀ l,H l = none -> Q (.ref l) (upd H l (.lst ys))):=by
 intro pins s σ H xs us Q I r h
 obtain ⟨p,ys,rfl,hq,q⟩:=h
 obtain ⟨u,rfl,rx⟩:=vals1 r
 cases rx
 have fin : ∀ (its : List Value),Vals ys its -> ys.length <= sizeLine -> ∀ (h' : Heap) (c' : Nat),(∀ b o',s.heap.get? b = some o' -> h'.get? b = some o') ->
   h'.get? s.heap.objs.size = some { cls:=.type "list",dict:=none,data:=.seq its.toArray c',slots:=#[] } -> EP X pins σ Q (.ref s.heap.objs.size) { s with heap:=h' }:=fun its r' hz h' c' kp e =>
  ⟨.ref s.heap.objs.size,_,I.laid (t':=s.toks) kp (Nat.le_refl _) (show ObjOk X.prog X.w _ h' _ (.lst ys) from ⟨hz,its,c',r',e⟩),rfl,q _ (I.hok.fresh (Nat.le_refl _))⟩
 rcases hq with hq | hq
 ·
  obtain ⟨its,r',pl,hz⟩:=I.list hq
  have hlen:=r'.length
  obtain ⟨o,ho,hc,n,hd⟩:=pl.isList
  exact call_list_seq p (.inl rfl) ho hc hd (fun h' c' kp e => fin its r' hz h' c' kp e) (by simp only [List.size_toArray] <;> omega)
 ·
  obtain ⟨its,r',pl,hz⟩:=I.tuple hq
  have hlen:=r'.length
  obtain ⟨o,ho,hc,n,hd⟩:=pl
  exact call_list_seq p (.inr rfl) ho hc hd (fun h' c' kp e => fin its r' hz h' c' kp e) (by simp only [List.size_toArray] <;> omega)
theorem call_tuple_of : CallR X (.type "tuple") (fun xs H Q => ∃ p ys,xs = [.ref p] /\ ((SqL X.K H p ys /\ ∀ l,H l = none -> Q (.ref l) (upd H l (.tup ys))) \/ (SqT X.K H p ys /\ Q (.ref p) H))):=by
 intro pins s σ H xs us Q I r h
 obtain ⟨p,ys,rfl,h⟩:=h
 obtain ⟨u,rfl,rx⟩:=vals1 r
 cases rx
 rcases h with ⟨hq,q⟩ | ⟨hq,q⟩
 ·
  obtain ⟨its,r',pl,hz⟩:=I.list hq
  have hlen:=r'.length
  refine call_tuple_list pl.isList (fun h' kp => ?_) (by simp only [List.size_toArray] <;> omega)
  have I1 : Inv X pins σ H { s with heap:=h' }:=I.kept (t':=s.toks) kp
  have I2 : Inv X pins σ (upd H h'.objs.size (.tup ys)) { s with heap:=h'.push { cls:=.type "tuple",data:=.seq its.toArray } } :=
   I1.laid (t':=s.toks) (fun b o e => Heap.get?_push_of_some _ e) (Nat.le_refl _) (show ObjOk X.prog X.w _ _ _ (.tup ys) from ⟨hz,its,r',Tup0.new _ _⟩)
  exact ⟨.ref h'.objs.size,_,I2,rfl,q _ (I1.hok.fresh (Nat.le_refl _))⟩
 ·
  obtain ⟨its,r',pl,hz⟩:=I.tuple hq
  exact call_tuple_same pl ⟨.ref p,H,I,rfl,q⟩
def tyV (K : PySem.W.Frag) (T : String) (x : V) (H : Hp) : Prop:=match x with
 | .str _ => T = "str"
 | .int _ => T = "int"
 | .ref p => (T = "list" /\ ∃ xs,SqL K H p xs) \/ (T = "tuple" /\ ∃ xs,SqT K H p xs) \/
   (T = "dict" /\ ((∃ kvs,H p = some (.dK kvs)) \/ ∃ kvs,H p = some (.dT kvs))) \/ (T = "set" /\ ∃ S n,H p = some (.set S n))
 | _ => False
theorem tyV_is {pins : List (Addr × Obj)} {σ : St} {H : Hp} {s : Shared} {T : String} {x : V} {v : Value} (I : Inv X pins σ H s) (r : RelV x v) (ty : tyV X.K T x H) :
  s.TypeIs v T /\ ∀ a,v = .ref a -> ∃ ob,s.heap.get? a = some ob /\ ob.dict = none:=by
 cases x with
 | str z =>
  obtain ⟨t,rfl⟩:=r
  cases (show T = "str" from ty)
  exact ⟨typeIs_str s z t,fun _ e => nomatch e⟩
 | int i =>
  obtain ⟨t,rfl⟩:=r
  cases (show T = "int" from ty)
  exact ⟨typeIs_int s i t,fun _ e => nomatch e⟩
 | ref p =>
  cases r
  rcases ty with ⟨rfl,xs,hq⟩ | ⟨rfl,xs,hk⟩ | ⟨rfl,hk⟩ | ⟨rfl,S,n,hk⟩
  ·
   obtain ⟨its,_,pl,_⟩:=I.list hq
   refine ⟨pl.isList.typeIs,fun a e => ?_⟩
   cases e
   obtain ⟨o,n,e,c,hd,_⟩:=pl
   exact ⟨o,e,hd⟩
  ·
   rcases hk with hk | ⟨o,its,n,hk,hc,hd,_⟩
   ·
    obtain ⟨_,its,r,o,ho,hc,n,hd,hn⟩:=hk.ok I.hok
    refine ⟨⟨o,ho,hc⟩,fun a e => ?_⟩
    cases e
    exact ⟨o,ho,hn⟩
   ·
    refine ⟨⟨o,I.kIn p o hk,hc⟩,fun a e => ?_⟩
    cases e
    exact ⟨o,I.kIn _ o hk,hd⟩
  ·
   have z : ∃ o,s.heap.get? p = some o /\ o.ExactDict:=by
    rcases hk with ⟨kvs,hk⟩ | ⟨kvs,hk⟩
    ·
     obtain ⟨_,_,_,_,o,_,_,e,ex,_⟩:=I.hok p _ hk
     exact ⟨o,e,ex⟩
    ·
     obtain ⟨_,_,_,_,o,_,_,e,ex,_⟩:=I.hok p _ hk
     exact ⟨o,e,ex⟩
   obtain ⟨o,e,ex⟩:=z
   refine ⟨⟨o,e,ex.1⟩,fun a e2 => ?_⟩
   cases e2
   exact ⟨o,e,ex.2.1⟩
  ·
   obtain ⟨o,_,_,_,e,ex,_⟩:=I.hok p _ hk
   refine ⟨⟨o,e,ex.1⟩,fun a e2 => ?_⟩
   cases e2
   exact ⟨o,e,ex.2.1⟩
 | _ => exact False.elim ty
def tBM (K : PySem.W.Frag) (T : String) (r : V -> List V -> Hp -> VK -> Prop) (to : TE) (t : TA) : TE:=fun σ H Q => to σ H fun x H1 => tyV K T x H1 /\ t σ H1 fun xs H2 => r x xs H2 Q
variable {o e : Expr} {es : List Expr} {to : TE} {t : TA} {name : Str} {apos cpos : Pos} {T id : String} {r : V -> List V -> Hp -> VK -> Prop}
theorem pe_bm (pa : PlainAttrs T) (slot : Slot T name id) (hty : typeOf (.builtin id) = pure (.type "method_descriptor")) (hm : MtR X id r) (ho : PE X o to) (ha : PA X (e :: es) t)
  (hbase : attributeBase o name X.env (eval o X.env) = eval o X.env:=by rfl)
  (hfew : ((backTo cpos (starEach (e :: es) X.env)).all (fun x => !x.1) && (backToKw cpos (keywordEach [] X.env)).all (fun x => x.1.isSome)
   && decide ((e :: es).length + ([] : List Keyword).length + (if ([] : List Keyword).isEmpty then 0 else 1) < 30)) = true:=by rfl)
  (hline : (apos.endLine == cpos.line) = true:=by rfl) (hs : starEach (e :: es) X.env = (false,eval e X.env) :: starEach es X.env:=by rfl) (hplain : (backTo cpos (starEach es X.env)).any (·.1) = false:=by rfl) :
  PE X (.Call (.Attribute o name apos) (e :: es) [] cpos) (tBM X.K T r to t):=by
 intro pins s σ H Q I h
 refine wpAny_Call_method_late hbase hfew hline rfl (thn (ho pins s σ H _ I h) fun v s1 ⟨x,H1,I1,r1,ty,q1⟩ => ?_)
 obtain ⟨h1,h2⟩:=tyV_is I1 r1 ty
 refine ⟨T,id,pa,slot,hty,h1,h2,?_⟩
 have hA:=ha cpos pins s1 σ H1 _ I1 q1
 rw [hs] at hA ⊢
 refine Calls.callWith_builtin (by show (false || (backTo cpos (starEach es X.env)).any (·.1)) = false; rw [hplain] <;> rfl) (Calls.evalArgs_plain ?_)
 exact thn hA fun us s2 ⟨vs,H2,I2,r2,q2⟩ => hm pins s2 σ H2 x vs v us Q I2 r1 r2 q2
/- xs.append(e),list.index on a module's tuple .. are MtR facts of 06m -/
end
end L2
namespace L2
open PySem PySem.Spec PyProof.Rows
def MtM (X : Cx) (id : String) (r : V -> List V -> Hp -> VK -> Prop) : Prop :=
 ∀ (pins : List (Addr × Obj)) (s : Shared) (σ : St) (H : Hp) (x : V) (xs : List V) (v : Value) (us : List Value) (Q : VK),Inv X pins σ H s -> RelV x v -> Vals xs us -> r x xs H Q ->
  wpAny (model X.prog X.w) X.A (call (.builtin id) (v :: us)) (EP X pins σ Q) X.xe s
theorem Vals.one {x : V} {us : List Value} (r : Vals [x] us) : ∃ u,us = [u] /\ RelV x u:=vals1 r
theorem Vals.two {x y : V} {us : List Value} (r : Vals [x,y] us) : ∃ u v,us = [u,v] /\ RelV x u /\ RelV y v:=vals2 r
theorem Vals.zero : ∀ {us : List Value},Vals [] us -> us = []
 | _,.nil => rfl
theorem Vals.eraseIdx : ∀ {xs : List V} {us : List Value} (i : Nat),Vals xs us -> Vals (xs.eraseIdx i) (us.eraseIdx i)
 | _,_,_,.nil => .nil
 | _,_,0,.cons _ t => t
 | _,_,i + 1,.cons r t => .cons r (Vals.eraseIdx i t)
theorem Vals.reverse {xs : List V} {us : List Value} (h : Vals xs us) : Vals xs.reverse us.reverse:=by
 induction h with
 | nil => exact .nil
 | cons r t ih => rw [List.reverse_cons,List.reverse_cons]; exact Vals.append ih (.cons r .nil)
theorem len_erase {α : Type} : ∀ (l : List α) (i : Nat),(l.eraseIdx i).length <= l.length
 | [],_ => Nat.le_refl _
 | _ :: _,0 => Nat.le_succ _
 | _ :: r,i + 1 => Nat.succ_le_succ (len_erase r i)
section
variable {X : Cx} {pins : List (Addr × Obj)} {σ : St} {H : Hp} {s : Shared} {l b : Addr} {xs ys zs : List V}
theorem Inv.lset {its its' : List Value} {n : Nat} {f : Array Value -> Array Value} {t' : Nat} (I : Inv X pins σ H s) (hH : H l = some (.lst xs))
  (e : s.heap.get? l = some { cls:=.type "list",data:=.seq its.toArray n }) (hf : f its.toArray = its'.toArray) (hv : Vals ys its') (hz : ys.length <= sizeLine) :
  Inv X pins σ (upd H l (.lst ys)) { s with heap:=s.heap.update l (Obj.mapSeq f),toks:=t' }:=by
 have q:=PySem.IsL.update e f
 rw [hf] at q
 refine I.write (x:=l) (e:=l) (by rw [hH]; exact trivial) (.inl rfl) (fun b' u hb hu => (Heap.get?_update_other s.heap (Obj.mapSeq f) (Ne.symm hb)).trans hu) ⟨_,q⟩ ?_
 exact ⟨hz,its',_,hv,q⟩
theorem Inv.lnew {its : List Value} {t' : Nat} (I : Inv X pins σ H s) (hv : Vals ys its) (hz : ys.length <= sizeLine) :
  Inv X pins σ (upd H s.heap.objs.size (.lst ys)) { s with heap:=s.heap.push { cls:=.type "list",data:=.seq its.toArray },toks:=t' } :=
 I.laid (fun _ _ q => Heap.get?_push_of_some _ q) (Nat.le_refl _) ⟨hz,its,0,hv,Heap.get?_push_size _ rfl⟩
theorem Inv.fresh (I : Inv X pins σ H s) : H s.heap.objs.size = none:=I.hok.fresh (Nat.le_refl _)
theorem Inv.lstM (I : Inv X pins σ H s) (hH : H l = some (.lst xs)) : xs.length <= sizeLine /\ ∃ (its : List Value) (n : Nat),Vals xs its /\ xs.length = its.length /\ s.heap.get? l = some { cls:=.type "list",data:=.seq its.toArray n }:=by
 obtain ⟨z,its,n,r,e⟩:=I.hok l _ hH
 exact ⟨z,its,n,r,r.length,e⟩
end
section
variable {X : Cx}
def rAppend : V -> List V -> Hp -> VK -> Prop:=fun x vs H Q => ∃ l xs y,x = .ref l /\ vs = [y] /\ H l = some (.lst xs) /\ xs.length < sizeLine /\ Q .non (upd H l (.lst (xs ++ [y])))
theorem mt_append : MtM X "list.append" rAppend:=by
 intro pins s σ H x vs v us Q I rx rv h
 obtain ⟨l,xs,y,rfl,rfl,hH,hz,q⟩:=h
 cases rx
 obtain ⟨u,rfl,ru⟩:=rv.one
 obtain ⟨z,its,n,r,hl,e⟩:=I.lstM hH
 refine call_meets F.slot_list_append ⟨_,e,rfl⟩ F.entry_list_append (F.args_list_append_2 _ _) (PySem.list_append l its.toArray n u (by rw [List.size_toArray]; omega)) ⟨e,?_⟩
 refine ⟨.non,_,I.lset (its':=its ++ [u]) hH e (by simp) (r.append (.cons ru .nil)) ?_,rfl,q⟩
 rw [List.length_append,List.length_singleton]
 omega
def rPopAt : V -> List V -> Hp -> VK -> Prop:=fun x vs H Q => ∃ l xs i k y,x = .ref l /\ vs = [.int i] /\ H l = some (.lst xs) /\ -(2 ^ 63) <= i /\ i < 2 ^ 63 /\ seqIndex? i xs.length = some k /\ xs[k]? = some y /\ Q y (upd H l (.lst (xs.eraseIdx k)))
theorem mt_popAt : MtM X "list.pop" rPopAt:=by
 intro pins s σ H x vs v us Q I rx rv h
 obtain ⟨l,xs,i,k,y,rfl,rfl,hH,h1,h2,hk,hy,q⟩:=h
 cases rx
 obtain ⟨u,rfl,ru⟩:=rv.one
 obtain ⟨t,rfl⟩:=ru
 obtain ⟨z,its,n,r,hl,e⟩:=I.lstM hH
 obtain ⟨w,hw,rw'⟩:=r.get hy
 refine call_meets F.slot_list_pop ⟨_,e,rfl⟩ F.entry_list_pop (F.args_list_pop_2 _ _)
  (MeetsSeq.list_pop_at l its.toArray n i t k w (fitsIndex_both h1 h2) (by rw [List.size_toArray,<- hl]; exact hk) (by rw [<- Array.getElem?_toList]; exact hw) (by rw [List.size_toArray]; omega)) ⟨e,?_⟩
 refine ⟨y,_,I.lset (its':=its.eraseIdx k) hH e ?_ (r.eraseIdx k) ?_,rw',q⟩
 ·
  show its.toArray.eraseIdxIfInBounds k = (its.eraseIdx k).toArray
  rw [List.eraseIdxIfInBounds_toArray]
 ·
  have:=len_erase xs k
  omega
def rCat : R2:=fun x y H Q => ∃ l b xs zs,x = .ref l /\ y = .ref b /\ H l = some (.lst xs) /\ H b = some (.lst zs) /\ xs.length + zs.length <= sizeLine /\ ∀ p,H p = none -> Q (.ref p) (upd H p (.lst (xs ++ zs)))
theorem op_cat : OpR X (binaryOp .Add) rCat:=by
 intro pins s σ H x y v u Q I rx ry h
 obtain ⟨l,b,xs,zs,rfl,rfl,hH,hB,hz,q⟩:=h
 cases rx
 cases ry
 obtain ⟨z,its,n,r,hl,e⟩:=I.lstM hH
 obtain ⟨z2,its2,n2,r2,hl2,e2⟩:=I.lstM hB
 refine PySem.P.add_list e e2 ?_ (by rw [List.size_toArray,List.size_toArray]; omega)
 have ea : its.toArray ++ its2.toArray = (its ++ its2).toArray:=by simp
 rw [ea]
 exact ⟨.ref _,_,I.lnew (t':=s.toks) (r.append r2) (by rw [List.length_append]; omega),rfl,q _ I.fresh⟩
end
section
variable {prog : Program} {w : World} {A : Around} {E : Value -> Shared -> Prop} {s : Shared}
set_option maxRecDepth 100000 in
end
section
variable {X : Cx}
end
end L2
namespace L2
open PySem PySem.Spec PyProof.Rows
section
variable {κ : Type} [DecidableEq κ]
noncomputable def valV (kvs : List (κ × V)) (k : κ) : Option V:=(kvs.find? fun kv => decide (kv.1 = k)).map (·.2)
noncomputable def putK (kvs : List (κ × V)) (k : κ) (v : V) : List (κ × V) :=
 if (kvs.any fun kv => decide (kv.1 = k)) = true then kvs.map (fun kv => if kv.1 = k then (kv.1,v) else kv) else kvs ++ [(k,v)]
noncomputable def dropK (kvs : List (κ × V)) (k : κ) : List (κ × V):=kvs.filter fun kv => decide (kv.1 ≠ k)
theorem valV_pos {p : κ × V} {r : List (κ × V)} {k : κ} (e : p.1 = k) : valV (p :: r) k = some p.2:=by simp [valV,List.find?_cons,e]
theorem valV_neg {p : κ × V} {r : List (κ × V)} {k : κ} (e : ¬ p.1 = k) : valV (p :: r) k = valV r k:=by simp [valV,List.find?_cons,e]
theorem valV_any (k : κ) : ∀ kvs : List (κ × V),(kvs.any fun kv => decide (kv.1 = k)) = (valV kvs k).isSome
 | [] => rfl
 | p :: r => by
  rw [List.any_cons]
  by_cases e : p.1 = k
  ·
   simp only [valV_pos e,decide_eq_true e,Bool.true_or,Option.isSome_some]
  ·
   rw [valV_neg e,decide_eq_false e,Bool.false_or]; exact valV_any k r
theorem length_putK (kvs : List (κ × V)) (k : κ) (v : V) : (putK kvs k v).length <= kvs.length + 1:=by
 unfold putK
 split
 ·
  rw [List.length_map]; omega
 ·
  rw [List.length_append,List.length_cons,List.length_nil]; omega
theorem RelO.isSome_eq {o : Option V} {u : Option Value} (r : RelO o u) : o.isSome = u.isSome:=by
 cases o with
 | none => cases u with
  | none => rfl
  | some _ => exact (show False from r).elim
 | some _ => cases u with
  | none => exact (show False from r).elim
  | some _ => rfl
theorem RelO.getD {o : Option V} {u : Option Value} {d : V} {d' : Value} (r : RelO o u) (rd : RelV d d') : RelV (o.getD d) (u.getD d'):=by
 cases o with
 | none => cases u with
  | none => exact rd
  | some _ => exact (show False from r).elim
 | some _ => cases u with
  | none => exact (show False from r).elim
  | some _ => exact r
theorem KV.val {kvs : List (κ × V)} {vs : List (κ × Value)} (r : KV kvs vs) (k : κ) : RelO (valV kvs k) (valueAt vs k):=by
 unfold KV at r
 induction r with
 | nil => exact True.intro
 | @cons p q ps qs h t ih =>
  obtain ⟨h1,h2⟩:=h
  by_cases e : p.1 = k
  ·
   have e' : q.1 = k:=h1.symm.trans e
   have b : valueAt (q :: qs) k = some q.2:=by simp [valueAt,List.find?_cons,e']
   rw [valV_pos e,b]; exact h2
  ·
   have e' : ¬ q.1 = k:=fun z => e (h1.trans z)
   have b : valueAt (q :: qs) k = valueAt qs k:=by simp [valueAt,List.find?_cons,e']
   rw [valV_neg e,b]; exact ih
theorem KV.any {kvs : List (κ × V)} {vs : List (κ × Value)} (r : KV kvs vs) (k : κ) : (kvs.any fun kv => decide (kv.1 = k)) = vs.any fun kv => decide (kv.1 = k):=by
 unfold KV at r
 induction r with
 | nil => rfl
 | cons h t ih => rw [List.any_cons,List.any_cons,ih,h.1]
theorem KV.repl {kvs : List (κ × V)} {vs : List (κ × Value)} (r : KV kvs vs) (k : κ) {y : V} {u : Value} (ry : RelV y u) :
  KV (kvs.map fun kv => if kv.1 = k then (kv.1,y) else kv) (vs.map fun kv => if kv.1 = k then (kv.1,u) else kv):=by
 unfold KV at r ⊢
 induction r with
 | nil => exact .nil
 | @cons p q ps qs h t ih =>
  rw [List.map_cons,List.map_cons]
  refine .cons ?_ ih
  obtain ⟨h1,h2⟩:=h
  by_cases e : p.1 = k
  ·
   rw [if_pos e,if_pos (h1.symm.trans e)]; exact ⟨h1,ry⟩
  ·
   rw [if_neg e,if_neg (fun z => e (h1.trans z))]; exact ⟨h1,h2⟩
theorem KV.put {kvs : List (κ × V)} {vs : List (κ × Value)} (r : KV kvs vs) (k : κ) {y : V} {u : Value} (ry : RelV y u) : KV (putK kvs k y) (stored vs k u):=by
 unfold putK stored
 rw [r.any k]
 by_cases e : (vs.any fun kv => decide (kv.1 = k)) = true
 ·
  rw [if_pos e,if_pos e]; exact r.repl k ry
 ·
  rw [if_neg e,if_neg e]; exact Paired.snoc r ⟨rfl,ry⟩
theorem KV.drop {kvs : List (κ × V)} {vs : List (κ × Value)} (r : KV kvs vs) (k : κ) : KV (dropK kvs k) (without vs k):=by
 unfold KV at r ⊢
 unfold dropK without
 induction r with
 | nil => exact .nil
 | @cons p q ps qs h t ih =>
  obtain ⟨h1,h2⟩:=h
  rw [List.filter_cons,List.filter_cons]
  by_cases e : p.1 = k
  ·
   have a : ¬ decide (p.1 ≠ k) = true:=by simp [e]
   have b : ¬ decide (q.1 ≠ k) = true:=by simp [h1.symm.trans e]
   rw [if_neg a,if_neg b]; exact ih
  ·
   have e' : ¬ q.1 = k:=fun z => e (h1.trans z)
   have a : decide (p.1 ≠ k) = true:=by simp [e]
   have b : decide (q.1 ≠ k) = true:=by simp [e']
   rw [if_pos a,if_pos b]; exact .cons ⟨h1,h2⟩ ih
theorem KV.keys {kvs : List (κ × V)} {vs : List (κ × Value)} (r : KV kvs vs) : kvs.map (·.1) = vs.map (·.1):=by
 unfold KV at r
 induction r with
 | nil => rfl
 | cons h t ih => rw [List.map_cons,List.map_cons,ih,h.1]
theorem KV.length {kvs : List (κ × V)} {vs : List (κ × Value)} (r : KV kvs vs) : kvs.length = vs.length:=Paired.length r
end
theorem kV_is {P : Program} {w : World} {k : Key} {u : Value} (r : RelV (kV k) u) : (mixKind P w).is k u = true:=by
 cases k with
 | inl i => obtain ⟨t,e⟩:=(show ∃ t,u = Value.int i t from r); subst e; exact mixKind_int P w i t
 | inr x => obtain ⟨t,e⟩:=(show ∃ t,u = Value.str x t from r); subst e; exact mixKind_str P w x t
theorem items_are {P : Program} {w : World} : ∀ {ks : List Key} {us : List Value},Vals (ks.map kV) us -> ItemsAre (mixKind P w) ks us
 | [],_,r => by rw [List.map_nil] at r; cases r; exact .nil
 | k :: ks,_,r => by
  rw [List.map_cons] at r
  cases r with
  | cons h t => exact .cons (kV_is h) (items_are t)
abbrev KT (H : Hp) : List (List Key × V) -> List (List Key × Addr × Value) -> Prop:=Paired fun p q => p.1 = q.1 /\ H q.2.1 = some (.tup (p.1.map kV)) /\ RelV p.2 q.2.2
theorem KT.val {H : Hp} {kvs : List (List Key × V)} {xs : List (List Key × Addr × Value)} (r : KT H kvs xs) (k : List Key) : RelO (valV kvs k) ((atKey xs k).map (·.2)):=by
 induction r with
 | nil => exact True.intro
 | @cons p q ps qs h t ih =>
  obtain ⟨h1,_,h2⟩:=h
  by_cases e : p.1 = k
  ·
   have e' : q.1 = k:=h1.symm.trans e
   have b : atKey (q :: qs) k = some q.2:=by simp [atKey,List.find?_cons,e']
   rw [valV_pos e,b]; exact h2
  ·
   have e' : ¬ q.1 = k:=fun z => e (h1.trans z)
   have b : atKey (q :: qs) k = atKey qs k:=by simp [atKey,List.find?_cons,e']
   rw [valV_neg e,b]; exact ih
theorem KT.repl {H : Hp} {kvs : List (List Key × V)} {xs : List (List Key × Addr × Value)} (r : KT H kvs xs) (k : List Key) {y : V} {u : Value} (ry : RelV y u) :
  KT H (kvs.map fun kv => if kv.1 = k then (kv.1,y) else kv) (xs.map (putAt k u)):=by
 induction r with
 | nil => exact .nil
 | @cons p q ps qs h t ih =>
  rw [List.map_cons,List.map_cons]
  refine .cons ?_ ih
  obtain ⟨h1,h2,h3⟩:=h
  unfold putAt
  by_cases e : p.1 = k
  ·
   rw [if_pos e,if_pos (h1.symm.trans e)]; exact ⟨h1,h2,ry⟩
  ·
   rw [if_neg e,if_neg (fun z => e (h1.trans z))]; exact ⟨h1,h2,h3⟩
theorem KT.put {H : Hp} {kvs : List (List Key × V)} {xs : List (List Key × Addr × Value)} (r : KT H kvs xs) (k : List Key) {b : Addr} {y : V} {u : Value} (hb : H b = some (.tup (k.map kV))) (ry : RelV y u) :
  KT H (putK kvs k y) (storedH xs k b u):=by
 have e : (kvs.any fun kv => decide (kv.1 = k)) = (atKey xs k).isSome:=by
  rw [valV_any,(r.val k).isSome_eq,Option.isSome_map]
 unfold putK storedH
 rw [e]
 by_cases q : (atKey xs k).isSome = true
 ·
  rw [if_pos q,if_pos q]; exact r.repl k ry
 ·
  rw [if_neg q,if_neg q]; exact Paired.snoc r ⟨rfl,hb,ry⟩
theorem KT.keeps {H H' : Hp} {kvs : List (List Key × V)} {xs : List (List Key × Addr × Value)} (r : KT H kvs xs) (ht : ∀ b ys,H b = some (.tup ys) -> H' b = some (.tup ys)) : KT H' kvs xs :=
 Paired.mapP r fun _ _ z => ⟨z.1,ht _ _ z.2.1,z.2.2⟩
section
variable {P : Program} {w : World} {H : Hp} {h : Heap} {a : Addr}
theorem rd_of {u : HO} (ok : HOk P w H h) (e : Rd H a u) : ObjOk P w H h a u:=e.ok ok
theorem dk_rd {kvs : List (Key × V)} (ok : HOk P w H h) (e : Rd H a (.dK kvs)) : kvs.length <= sizeLine /\ (a == sysModules) = false /\ ∃ vs,KV kvs vs /\ h.DictOf (mixKind P w) a vs :=
 show ObjOk P w H h a (.dK kvs) from rd_of ok e
theorem dk_of {kvs : List (Key × V)} (ok : HOk P w H h) (e : H a = some (.dK kvs)) : kvs.length <= sizeLine /\ (a == sysModules) = false /\ ∃ vs,KV kvs vs /\ h.DictOf (mixKind P w) a vs:=dk_rd ok (.inl e)
theorem key_of {ks : List Key} (ok : HOk P w H h) (e : H a = some (.tup (ks.map kV))) : (tupleKind (mixKind P w)).is h ks a:=by
 obtain ⟨_,its,r,o,h1,h2,n,h3,_⟩:=(show ObjOk P w H h a (.tup (ks.map kV)) from ok a _ e)
 exact ⟨o,its.toArray,n,h1,h2,h3,by simpa using items_are r⟩
theorem dt_rd {kvs : List (List Key × V)} (ok : HOk P w H h) (e : Rd H a (.dT kvs)) : kvs.length <= sizeLine /\ (a == sysModules) = false /\
  ∃ xs,KT H kvs xs /\ h.DictOfH (tupleKind (mixKind P w)) a xs:=by
 obtain ⟨z,y,xs,r,o,es,ep,h1,h2,h3,h4,h5⟩:=(show ObjOk P w H h a (.dT kvs) from rd_of ok e)
 refine ⟨z,y,xs,r,o,es,ep,h1,h2,h3,h4,fun x hx => ?_,h5⟩
 have all : ∀ {l : List (List Key × V)} {m : List (List Key × Addr × Value)},KT H l m -> ∀ x ∈ m,(tupleKind (mixKind P w)).is h x.1 x.2.1:=by
  intro l m q
  induction q with
  | nil => intro x hx; exact nomatch hx
  | @cons p q ps qs hq t ih =>
   intro x hx
   rcases List.mem_cons.mp hx with e | hx
   ·
    subst e
    exact key_of ok (by rw [<- hq.1]; exact hq.2.1)
   ·
    exact ih x hx
 exact all r x hx
theorem dt_of {kvs : List (List Key × V)} (ok : HOk P w H h) (e : H a = some (.dT kvs)) : kvs.length <= sizeLine /\ (a == sysModules) = false /\
  ∃ xs,KT H kvs xs /\ h.DictOfH (tupleKind (mixKind P w)) a xs:=dt_rd ok (.inl e)
end
def DGet (H : Hp) (a : Addr) (y : V) (r : Option V) : Prop :=
 (∃ kvs k,Rd H a (.dK kvs) /\ y = kV k /\ r = valV kvs k) \/ ∃ kvs k b,Rd H a (.dT kvs) /\ y = .ref b /\ H b = some (.tup (k.map kV)) /\ r = valV kvs k
def DPut (H : Hp) (a : Addr) (y v : V) (H' : Hp) : Prop :=
 (∃ kvs k,H a = some (.dK kvs) /\ y = kV k /\ kvs.length < sizeLine /\ H' = upd H a (.dK (putK kvs k v))) \/
 ∃ kvs k b,H a = some (.dT kvs) /\ y = .ref b /\ H b = some (.tup (k.map kV)) /\ kvs.length < sizeLine /\ H' = upd H a (.dT (putK kvs k v))
theorem DGet.k {H : Hp} {a : Addr} {kvs : List (Key × V)} {k : Key} (e : H a = some (.dK kvs)) : DGet H a (kV k) (valV kvs k):=.inl ⟨kvs,k,.inl e,rfl,rfl⟩
theorem DGet.t {H : Hp} {a b : Addr} {kvs : List (List Key × V)} {k : List Key} (e : H a = some (.dT kvs)) (eb : H b = some (.tup (k.map kV))) : DGet H a (.ref b) (valV kvs k):=.inr ⟨kvs,k,b,.inl e,rfl,eb,rfl⟩
theorem DPut.k {H : Hp} {a : Addr} {kvs : List (Key × V)} {k : Key} {v : V} (e : H a = some (.dK kvs)) (hl : kvs.length < sizeLine) : DPut H a (kV k) v (upd H a (.dK (putK kvs k v))):=.inl ⟨kvs,k,e,rfl,hl,rfl⟩
theorem DPut.t {H : Hp} {a b : Addr} {kvs : List (List Key × V)} {k : List Key} {v : V} (e : H a = some (.dT kvs)) (eb : H b = some (.tup (k.map kV))) (hl : kvs.length < sizeLine) :
  DPut H a (.ref b) v (upd H a (.dT (putK kvs k v))):=.inr ⟨kvs,k,b,e,rfl,eb,hl,rfl⟩
section
variable {X : Cx} {pins : List (Addr × Obj)} {σ : St} {H : Hp} {s : Shared} {a : Addr} {y v : V} {u r : Value} {o : Option V} {A : Around} {E : Value -> Shared -> Prop}
theorem Inv.big (I : Inv X pins σ H s) : sysModules < s.heap.objs.size:=by
 have h : mainGlobals < s.heap.objs.size:=(I.mod.glob.keeps I.bk).lt
 exact Nat.lt_trans (by decide) h
theorem d_getItem {Q : Value -> Shared -> Prop} (hu : A.units + 1 < cLine) (I : Inv X pins σ H s) (g : DGet H a y (some v)) (ry : RelV y u) (h : ∀ w' s',Inv X pins σ H s' -> RelV v w' -> Q w' s') :
  wpAny (model X.prog X.w) A (getItem (.ref a) u) Q E s:=by
 rcases g with ⟨kvs,k,e,ey,l⟩ | ⟨kvs,k,b,e,ey,eb,l⟩
 ·
  subst ey
  obtain ⟨z,hd,vs,rel,dd⟩:=dk_rd I.hok e
  obtain ⟨w',hw,rw'⟩:=RelO.some_of (v:=v) (o:=valueAt vs k) (by rw [l]; exact rel.val k)
  exact wpAny_getItem_of (kV_is ry) dd.mapOf hw (h w' _ (I.tok _) rw')
 ·
  subst ey
  cases (show u = Value.ref b from ry)
  obtain ⟨z,hd,xs,rel,dd⟩:=dt_rd I.hok e
  obtain ⟨w',hw,rw'⟩:=RelO.some_of (v:=v) (o:=(atKey xs k).map (·.2)) (by rw [l]; exact rel.val k)
  obtain ⟨p,hp,hp2⟩:=Option.map_eq_some_iff.mp hw
  refine wpAny_getItem_heap (tupleKind_room_in1 hu) (key_of I.hok eb) dd hp ?_
  rw [hp2]
  exact h w' _ (I.tok _) rw'
theorem d_in {Q : Value -> Shared -> Prop} (hu : A.units + 1 < cLine) (I : Inv X pins σ H s) (g : DGet H a y o) (ry : RelV y u) (h : ∀ s',Inv X pins σ H s' -> Q (.bool o.isSome) s') :
  wpAny (model X.prog X.w) A (compareOp .In u (.ref a)) Q E s:=by
 rcases g with ⟨kvs,k,e,ey,l⟩ | ⟨kvs,k,b,e,ey,eb,l⟩
 ·
  subst ey
  obtain ⟨z,hd,vs,rel,dd⟩:=dk_rd I.hok e
  refine wpAny_in_of (kV_is ry) hd dd.mapOf ?_
  rw [<- (rel.val k).isSome_eq,<- l]
  exact h _ (I.tok _)
 ·
  subst ey
  cases (show u = Value.ref b from ry)
  obtain ⟨z,hd,xs,rel,dd⟩:=dt_rd I.hok e
  refine wpAny_in_heap (tupleKind_room_in1 hu) (key_of I.hok eb) hd dd ?_
  have q:=(rel.val k).isSome_eq
  rw [Option.isSome_map] at q
  rw [<- q,<- l]
  exact h _ (I.tok _)
theorem d_notIn {Q : Value -> Shared -> Prop} (hu : A.units + 1 < cLine) (I : Inv X pins σ H s) (g : DGet H a y o) (ry : RelV y u) (h : ∀ s',Inv X pins σ H s' -> Q (.bool (!o.isSome)) s') :
  wpAny (model X.prog X.w) A (compareOp .NotIn u (.ref a)) Q E s:=by
 rcases g with ⟨kvs,k,e,ey,l⟩ | ⟨kvs,k,b,e,ey,eb,l⟩
 ·
  subst ey
  obtain ⟨z,hd,vs,rel,dd⟩:=dk_rd I.hok e
  refine wpAny_notIn_of (kV_is ry) hd dd.mapOf ?_
  rw [<- (rel.val k).isSome_eq,<- l]
  exact h _ (I.tok _)
 ·
  subst ey
  cases (show u = Value.ref b from ry)
  obtain ⟨z,hd,xs,rel,dd⟩:=dt_rd I.hok e
  refine wpAny_notIn_heap (tupleKind_room_in1 hu) (key_of I.hok eb) hd dd ?_
  have q:=(rel.val k).isSome_eq
  rw [Option.isSome_map] at q
  rw [<- q,<- l]
  exact h _ (I.tok _)
theorem d_write {h' : Heap} {t' : Nat} {ob : HO} (I : Inv X pins σ H s) (mu : Mut (H a)) (hs : Heap.SameBut a s.heap h') (he : ∃ q,h'.get? a = some q) (new : ObjOk X.prog X.w (upd H a ob) h' a ob) :
  Inv X pins σ (upd H a ob) { s with heap:=h',toks:=t' } :=
 I.write (x:=a) (e:=a) mu (.inl rfl) (fun b q hb z => (hs.2 b hb).trans z) he new
theorem dk_new {P : Program} {w : World} {H' : Hp} {h' : Heap} {kvs : List (Key × V)} {vs : List (Key × Value)} (z : kvs.length <= sizeLine) (hd : (a == sysModules) = false) (rel : KV kvs vs) (dd : h'.DictOf (mixKind P w) a vs) :
  ObjOk P w H' h' a (.dK kvs):=⟨z,hd,vs,rel,dd⟩
theorem d_setItem {H' : Hp} {Q : Unit -> Shared -> Prop} (hu : A.units + 1 < cLine) (I : Inv X pins σ H s) (g : DPut H a y v H') (ry : RelV y u) (rv : RelV v r) (h : ∀ s',Inv X pins σ H' s' -> Q () s') :
  wpAny (model X.prog X.w) A (setItem (.ref a) u r) Q E s:=by
 rcases g with ⟨kvs,k,e,ey,l,eH⟩ | ⟨kvs,k,b,e,ey,eb,l,eH⟩
 ·
  subst ey eH
  obtain ⟨z,hd,vs,rel,dd⟩:=dk_of I.hok e
  have hz : vs.length <= sizeLine:=by rw [<- rel.length]; exact z
  have hl : (putK kvs k v).length <= sizeLine:=by have:=length_putK kvs k v; omega
  refine wpAny_setItem_pairs (hsz:=hz) (kV_is ry) dd fun h' dd' hs => h _ ?_
  have he : ∃ q,h'.get? a = some q:=let ⟨q,_,_,hq,_⟩:=dd'; ⟨q,hq⟩
  exact d_write I (by rw [e]; exact True.intro) hs he (dk_new hl hd (rel.put k rv) dd')
 ·
  subst ey eH
  cases (show u = Value.ref b from ry)
  obtain ⟨z,hd,xs,rel,dd⟩:=dt_of I.hok e
  have hz : xs.length <= sizeLine:=by rw [<- Paired.length rel]; exact z
  have hl : (putK kvs k v).length <= sizeLine:=by have:=length_putK kvs k v; omega
  refine wpAny_setItem_heap (hsz:=hz) (tupleKind_room_in1 hu) (key_of I.hok eb) dd fun h' dd' hs => h _ ?_
  obtain ⟨q,es,ep,hq,h2,h3,h4,_,h5⟩:=dd'
  refine d_write I (by rw [e]; exact True.intro) hs ⟨q,hq⟩ ⟨hl,hd,_,(rel.put k eb rv).keeps fun c ys ec => ?_,q,es,ep,hq,h2,h3,h4,h5⟩
  rw [upd_ne (ne_of ec e (fun z => nomatch z))]
  exact ec
end
section
variable {X : Cx} {pins : List (Addr × Obj)} {σ : St} {H : Hp} {s : Shared} {a : Addr} {kvs : List (Key × V)} {k : Key} {u : Value} {A : Around} {E : Value -> Shared -> Prop}
end
def NoSl (i : Expr) : Prop:=∀ ov iv,subscripted i false ov iv = operate [ov,iv] (getItem ov iv)
theorem subD_of {prog : Program} {w : World} {A : Around} {E : Value -> Shared -> Prop} {s : Shared} {env : Env} {value slice : Expr} {pos : Pos} {T id : String} {Q : Value -> Shared -> Prop}
  (hl : typeLookup (.type T) "__getitem__" = pure (some (.builtin id))) (hs : NoSl slice)
  (h : wpAny (model prog w) A (eval value env) (fun o s₁ => wpAny (model prog w) A (eval slice env) (fun i s₂ => s₂.TypeIs o T /\ wpAny (model prog w) A (getItem o i) Q E s₂) E s₁) E s) :
  wpAny (model prog w) A (eval (.Subscript value slice pos) env) Q E s:=by
 refine Subscript_ (wpAny_mono h (fun o s₁ h₁ => wpAny_mono h₁ (fun i s₂ h₂ => ?_) fun _ _ x => x) fun _ _ x => x)
 obtain ⟨hT,h₂⟩:=h₂
 unfold subscriptTail
 refine wpAny_bind ?_
 rw [getitemInPython_of_ne hT.not_modules]
 refine wpAny_bind (wpAny_specialOf hT hl ?_)
 have fin : wpAny (model prog w) A (subscripted slice false o i) (fun r s₃ => wpAny (model prog w) A (letTemporaryGo value o r >>= fun _ => pure r) Q E s₃) E s₂:=by
  rw [hs o i]
  exact wpAny_operating (wpAny_mono h₂ (fun r s₃ h₃ => wpAny_bind (wpAny_letTemporaryGo (wpAny_pure h₃))) fun _ _ x => x)
 first
  | exact wpAny_pure (wpAny_bind fin)
  | exact wpAny_bind (wpAny_pure (wpAny_bind fin))
  | exact wpAny_bind fin
theorem dict_typeIs {X : Cx} {pins : List (Addr × Obj)} {σ : St} {H : Hp} {s : Shared} {a : Addr} {y : V} {o : Option V} (I : Inv X pins σ H s) (g : DGet H a y o) : s.TypeIs (.ref a) "dict":=by
 rcases g with ⟨kvs,k,e,_,_⟩ | ⟨kvs,k,b,e,_,_,_⟩
 ·
  obtain ⟨_,_,vs,_,dd⟩:=dk_rd I.hok e
  exact dd.typeIs
 ·
  obtain ⟨_,_,xs,_,dd⟩:=dt_rd I.hok e
  exact dd.typeIs
def tDGet (td ty : TE) : TE:=fun σ H Q => td σ H fun x H1 => ty σ H1 fun y H2 => ∃ a v,x = .ref a /\ DGet H2 a y (some v) /\ Q v H2
def tDIn (ty td : TE) : TE:=fun σ H Q => ty σ H fun y H1 => td σ H1 fun x H2 => ∃ a o,x = .ref a /\ DGet H2 a y o /\ Q (.bl o.isSome) H2
def tDNotIn (ty td : TE) : TE:=fun σ H Q => ty σ H fun y H1 => td σ H1 fun x H2 => ∃ a o,x = .ref a /\ DGet H2 a y o /\ Q (.bl (!o.isSome)) H2
def sDPut (td ty tv : TE) : TS:=fun D σ H => tv σ H fun v H1 => td σ H1 fun x H2 => ty σ H2 fun y H3 => ∃ a H4,x = .ref a /\ DPut H3 a y v H4 /\ D.nx σ H4
section
variable {X : Cx} {o i e value : Expr} {pos pos' tpos : Pos} {td ty tv : TE}
theorem pe_dget (hu : X.A.units + 1 < cLine) (ho : PE X o td) (hi : PE X i ty) (hs : NoSl i) : PE X (.Subscript o i pos) (tDGet td ty):=by
 intro pins s σ H Q I h
 refine subD_of PySem.F.slot_dict_getitem.lookup hs (thn (ho pins s σ H _ I h) fun u s1 ⟨x,H1,I1,rx,q1⟩ => thn (hi pins s1 σ H1 _ I1 q1) fun iv s2 ⟨y,H2,I2,ry,a,v,ex,g,q2⟩ => ?_)
 subst ex
 obtain rfl : u = Value.ref a:=rx
 exact ⟨dict_typeIs I2 g,d_getItem hu I2 g ry fun w' s3 I3 rw' => ⟨v,H2,I3,rw',q2⟩⟩
theorem pc_din (hu : X.A.units + 1 < cLine) (hi : PE X i ty) (ho : PE X o td) : PC X .In i o (tDIn ty td):=by
 intro pins s σ H Q I h
 refine thn (hi pins s σ H _ I h) fun iv s1 ⟨y,H1,I1,ry,q1⟩ => thn (ho pins s1 σ H1 _ I1 q1) fun u s2 ⟨x,H2,I2,rx,a,ov,ex,g,q2⟩ => ?_
 subst ex
 obtain rfl : u = Value.ref a:=rx
 exact d_in hu I2 g ry fun s3 I3 => ⟨.bl ov.isSome,H2,I3,rfl,q2⟩
theorem pc_dnotin (hu : X.A.units + 1 < cLine) (hi : PE X i ty) (ho : PE X o td) : PC X .NotIn i o (tDNotIn ty td):=by
 intro pins s σ H Q I h
 refine thn (hi pins s σ H _ I h) fun iv s1 ⟨y,H1,I1,ry,q1⟩ => thn (ho pins s1 σ H1 _ I1 q1) fun u s2 ⟨x,H2,I2,rx,a,ov,ex,g,q2⟩ => ?_
 subst ex
 obtain rfl : u = Value.ref a:=rx
 exact d_notIn hu I2 g ry fun s3 I3 => ⟨.bl (!ov.isSome),H2,I3,rfl,q2⟩
theorem ps_dput (hu : X.A.units + 1 < cLine) (ho : PE X o td) (hi : PE X i ty) (hv : PE X value tv) (hs : swapsWith value (some (.Subscript o i pos')) pos.line X.env = pure false) :
  PS X (.Assign [.Subscript o i pos'] value pos) (sDPut td ty tv):=by
 intro pins s σ H D I h
 refine wpAny_Assign_Subscript (thn (hv pins s σ H _ I h) fun r s1 ⟨v,H1,I1,rv,q1⟩ => thn (ho pins s1 σ H1 _ I1 q1) fun u s2 ⟨x,H2,I2,rx,q2⟩ => thn (hi pins s2 σ H2 _ I2 q2) fun iv s3 ⟨y,H3,I3,ry,a,H4,ex,g,q3⟩ => ?_) hs
 subst ex
 obtain rfl : u = Value.ref a:=rx
 exact d_setItem hu I3 g ry rv fun s4 I4 => ⟨σ,H4,I4,q3⟩
end
theorem dk_empty {P : Program} {w : World} {H : Hp} (h : Heap) (hb : sysModules < h.objs.size) : ObjOk P w H (h.push { cls:=.type "dict",data:=.dict #[] }) h.objs.size (.dK []) :=
 ⟨Nat.zero_le _,beq_eq_false_iff_ne.mpr (Ne.symm (Nat.ne_of_lt hb)),[],.nil,Heap.DictOf.new h⟩
section
variable {X : Cx} {pos : Pos}
end
def tPairs : List (TE × TE) -> St -> Hp -> (List (V × V) -> Hp -> Prop) -> Prop
 | [],_,H,Q => Q [] H
 | (tk,tv) :: r,σ,H,Q => tk σ H fun x H1 => tv σ H1 fun y H2 => tPairs r σ H2 fun ps H3 => Q ((x,y) :: ps) H3
abbrev VV : List (V × V) -> List (Value × Value) -> Prop:=Paired fun p q => RelV p.1 q.1 /\ RelV p.2 q.2
def PPs (X : Cx) (pos : Pos) (keys : List (Option Expr)) (values : List Expr) (trs : List (TE × TE)) : Prop :=
 ∀ (pins : List (Addr × Obj)) (s : Shared) (σ : St) (H : Hp) (Q : List (V × V) -> Hp -> Prop),Inv X pins σ H s -> tPairs trs σ H Q ->
  wpAny (model X.prog X.w) X.A (evalPairs (pairTrees keys values X.env pos)) (fun vs s' => ∃ ps H',Inv X pins σ H' s' /\ VV ps vs /\ Q ps H') X.xe s
theorem pps_nil {X : Cx} {pos : Pos} : PPs X pos [] [] []:=fun pins s σ H Q I h => pairTrees_nil_walk ⟨[],H,I,.nil,h⟩
theorem pps_cons {X : Cx} {pos : Pos} {k v : Expr} {ks : List (Option Expr)} {vs : List Expr} {tk tv : TE} {trs : List (TE × TE)} (hk : PE X k tk) (hv : PE X v tv) (hr : PPs X pos ks vs trs) :
  PPs X pos (some k :: ks) (v :: vs) ((tk,tv) :: trs):=fun pins s σ H Q I h =>
 pairTrees_cons_walk (thn (hk pins s σ H _ I h) fun u s1 ⟨x,H1,I1,rx,q1⟩ => thn (hv pins s1 σ H1 _ I1 q1) fun w2 s2 ⟨y,H2,I2,ry,q2⟩ =>
  thn (hr pins s2 σ H2 _ I2 q2) fun ws s3 ⟨ps,H3,I3,rel,q3⟩ => ⟨(x,y) :: ps,H3,I3,.cons ⟨rx,ry⟩ rel,q3⟩)
noncomputable def mergeK (kvs more : List (Key × V)) : List (Key × V):=more.foldl (fun acc kv => putK acc kv.1 kv.2) kvs
theorem KV.merge : ∀ {more : List (Key × V)} {rs : List (Key × Value)} {kvs : List (Key × V)} {vs : List (Key × Value)},KV more rs -> KV kvs vs -> KV (mergeK kvs more) (merged vs rs):=by
 intro more rs kvs vs r
 unfold KV at r
 induction r generalizing kvs vs with
 | nil => intro q; exact q
 | @cons p q ps qs h t ih =>
  intro r0
  have e : KV (putK kvs p.1 p.2) (stored vs q.1 q.2):=by
   have:=r0.put p.1 h.2
   rw [<- h.1]; exact this
  exact ih e
theorem length_mergeK : ∀ (more kvs : List (Key × V)),(mergeK kvs more).length <= kvs.length + more.length
 | [],kvs => by show kvs.length <= kvs.length + 0; omega
 | p :: r,kvs => by
  have h1:=length_mergeK r (putK kvs p.1 p.2)
  have h2:=length_putK kvs p.1 p.2
  show (mergeK (putK kvs p.1 p.2) r).length <= _
  rw [List.length_cons]; omega
theorem carries_of {P : Program} {w : World} : ∀ {kvs : List (Key × V)} {ws : List (Value × Value)},VV (kvs.map fun kv => (kV kv.1,kv.2)) ws -> ∃ rs,Carries (mixKind P w) ws rs /\ KV kvs rs
 | [],_,r => by rw [List.map_nil] at r; cases r; exact ⟨[],True.intro,.nil⟩
 | p :: kvs,_,r => by
  rw [List.map_cons] at r
  cases r with
  | @cons a b as bs h t =>
   obtain ⟨rs,c,q⟩:=carries_of (P:=P) (w:=w) t
   obtain ⟨b1,b2⟩:=b
   exact ⟨(p.1,b2) :: rs,⟨kV_is h.1,rfl,c⟩,.cons ⟨rfl,h.2⟩ q⟩
def tDisp (trs : List (TE × TE)) : TE:=fun σ H Q => ∀ p,H p = none -> tPairs trs σ (upd H p (.dK [])) fun ps H2 => H2 p = some (.dK []) /\ ∃ kvs : List (Key × V),ps = kvs.map (fun kv => (kV kv.1,kv.2)) /\ kvs.length <= 15 /\ Q (.ref p) (upd H2 p (.dK (mergeK [] kvs)))
theorem pe_disp {X : Cx} {pos : Pos} {keys : List (Option Expr)} {values : List Expr} {trs : List (TE × TE)} (h : PPs X pos keys values trs) (hall : keys.all (·.isSome) = true) (hl : keys.length = values.length) (h0 : keys ≠ [])
  (h15 : keys.length <= 15) : PE X (.Dict keys values pos) (tDisp trs):=by
 intro pins s σ H Q I q
 have hn:=I.hok.fresh (Nat.le_refl s.heap.objs.size)
 have I1:=I.laid (a:=s.heap.objs.size) (o:=.dK []) (h':=s.heap.push { cls:=.type "dict",data:=.dict #[] }) (t':=s.toks) (fun _ _ q => Heap.get?_push_of_some _ q) (Nat.le_refl _) (dk_empty s.heap I.big)
 refine wpAny_Dict_walk (knd:=mixKind X.prog X.w) hall hl h0 h15 (thn (h pins _ σ _ _ I1 (q _ hn)) fun ws s2 ⟨ps,H2,I2,rel,e,kvs,ep,lk,q2⟩ => ?_)
 subst ep
 obtain ⟨rs,c,rk⟩:=carries_of (P:=X.prog) (w:=X.w) rel
 obtain ⟨z,hd,vs0,r0,dd⟩:=dk_of I2.hok e
 cases r0
 refine ⟨rs,c,dd,fun h' dd' hs => ⟨.ref s.heap.objs.size,_,?_,rfl,q2⟩⟩
 have hz : (mergeK [] kvs).length <= sizeLine:=by
  have h1:=length_mergeK kvs []
  rw [List.length_nil] at h1
  rw [sizeLine_eq]; omega
 have he : ∃ q,h'.get? s.heap.objs.size = some q:=let ⟨q,_,_,hq,_⟩:=dd'; ⟨q,hq⟩
 exact d_write I2 (by rw [e]; exact True.intro) hs he (dk_new hz hd (rk.merge .nil) dd')
section
variable {X : Cx} {pins : List (Addr × Obj)} {σ : St} {H : Hp} {s : Shared} {a : Addr} {y d : V} {u r : Value} {o : Option V} {A : Around} {E : Value -> Shared -> Prop}
end
section
variable {X : Cx} {o e f : Expr} {apos cpos : Pos} {td ty tx : TE}
end
section
variable {X : Cx} {pins : List (Addr × Obj)} {σ : St} {H : Hp} {s : Shared} {a : Addr} {kvs : List (Key × V)} {A : Around} {E : Value -> Shared -> Prop}
end
section
variable {X : Cx} {pins : List (Addr × Obj)} {σ : St} {H : Hp} {s : Shared} {a : Addr} {y : V} {u : Value} {A : Around} {E : Value -> Shared -> Prop}
end
end L2
namespace Att
open PySem PySem.W PySem.Calls PyProof.Rows
theorem ints_of_wellAll {P : Params} {h : Heap} : ∀ (ns : List Int) (vs : List Value),WellAll P h vs (ns.map WData.int) -> IntsAre vs ns:=by
 intro ns
 induction ns with
 | nil =>
  intro vs w
  rw [List.map_nil] at w
  cases w
  exact .nil
 | cons n ns ih =>
  intro vs w
  rw [List.map_cons] at w
  cases w with
  | cons a b =>
   cases a
   exact .cons _ _ (ih _ b)
theorem script_of {l : OpenLaw} {n : Nat} (hn : l.most = some n) {P : Params} {h : Heap} {args : List WData} {vals : List Value}
  (hpre : l.row.toRowW.claim.pre args = true) (hwl : WellAll P h vals args) :
  ∃ a vs ns,vals = [Value.ref a] /\ args = [WData.list (ns.map WData.int)] /\ h.get? a = some { cls:=.type "list",data:=.seq vs.toArray } /\ IntsAre vs ns /\ ns.length <= n:=by
 have hsh : WShape.hasAll [] args [.list .int] = true:=(pre_splitW hpre).1
 have hc : l.pre.holds [] { args:=args } = true:=(pre_splitW hpre).2
 obtain ⟨d,r,rfl,h1,h2⟩:=hasAllW_cons hsh
 obtain rfl:=hasAllW_nil h2
 obtain ⟨xs,rfl,h3⟩:=hasW_list h1
 obtain ⟨ns,rfl⟩:=items_int h3
 have hlen : ns.length <= n:=by
  unfold OpenLaw.pre at hc
  have h4 : (WTm.not (.lt (.lit (.int (n : Int))) (.len (.arg 0)))).holds [] { args:=[.list (ns.map .int)] } = true:=by
   have h4:=(holds_andW hc).1
   rw [hn] at h4
   exact h4
  have h5:=condW_of h4 (w_not (w_lt w_lit (w_len_list (w_arg rfl))))
  rw [List.length_map] at h5
  refine Nat.le_of_not_lt fun q => ?_
  have q' : (n : Int) < ((ns.length : Nat) : Int):=by omega
  first
   | (rw [decide_eq_true q'] at h5; exact absurd h5 (by decide))
   | (simp at h5; omega)
 cases hwl with
 | cons w1 w2 =>
  cases w2
  cases w1 with
  | list ho hall => exact ⟨_,_,ns,rfl,rfl,ho,ints_of_wellAll ns _ hall,hlen⟩
theorem post_true (l : OpenLaw) (args : List WData) : l.row.toRowW.claim.post args (.bool true) args = true :=
 postW_of (r:=l.row.toRowW) (X:=(true == true))
  (show WShape.has [] (.bool true) .bool = true by first | rfl | decide | simp [WShape.has,WShape.arms,WShape.armsAll])
  (show (WTm.eq .res (.lit (.bool true))).value [] { args:=args,res:=some (.bool true),after:=args } = some (.bool (true == true)) from w_eq_bool (w_res rfl) w_lit) rfl
theorem attach_call {l : OpenLaw} {n : Nat} {q : Program} {loose : List Str} {XP : (Str -> Option Value) -> Heap -> Prop} {YP : World -> Heap -> Prop} {d : DefRec}
  (hn : l.most = some n) (hdf : d.params.defaults = [])
  (call : ∀ (w : World) (s₀ s₁ : Shared) (mg mb : Str -> Option Value) (fa : Addr) (o : Obj) (pm cd doc : Value) (a : Addr) (vs : List Value) (ns : List Int),
   Ground q loose [] XP w s₀ mg mb s₁.heap -> YP w s₁.heap ->
   s₁.heap.get? fa = some o -> o.data = .func (docDef d.name d.params d.body d.scope pm cd doc) -> s₁.heap.CodeRec cd d.name -> mg d.name = some (.ref fa) ->
   s₁.heap.get? a = some { cls:=.type "list",data:=.seq vs.toArray } -> IntsAre vs ns -> ns.length <= n -> s₁.gens = #[] ->
   codeAny (model l.prog w) callerA (.call (.ref fa) ⟨[.ref a],[]⟩) (fun r s' => r = .ok (.ret (.bool true)) /\ OldK s₁.heap s'.heap /\ s'.os = s₁.os /\ AllBare s'.gens) s₁) :
  WalkO q loose XP YP l.row.toRowW d [] (fun f vs => PySem.call f vs):=by
 intro w s₀ s₁ mg mb G Y fa o pm cd doc dV kV ho hd hcd hD hmg hg args vals as hpre hlay hrd hwl hlo
 obtain rfl : dV = .none:=Dflts.none hD hdf
 obtain rfl : kV = .none:=Dflts.noKw hD
 obtain ⟨a,vs,ns,rfl,rfl,hobj,hints,hlen⟩:=script_of hn hpre hwl
 refine enter_call (codeAny_mono (call w s₀ s₁ mg mb fa o pm cd doc a vs ns G Y ho (fd_plain hd) hcd hmg hobj hints hlen hg) fun r s' hq => ?_)
 obtain ⟨rfl,h2,h3,h4⟩:=hq
 exact ⟨.inl ⟨.bool true,.bool true,[],rfl,fun _ => rfl,.bool true,post_true l _,fun _ => ⟨List.Pairwise.nil,fun _ hm => (nomatch hm)⟩⟩,h2,h3,h4⟩
section
variable {prog : Program} {w : World} {A : Around} {E : Value -> Shared -> Prop} {s : Shared} {K : Frag}
noncomputable def ledger (h : Heap) (L d : Addr) : List (Addr × Obj):=(List.range h.objs.size).filterMap fun a => if a = L \/ a = d then none else (h.get? a).map fun o => (a,o)
end
end Att
namespace L2
open PySem PySem.Spec PyProof.Rows
theorem vals_ints : ∀ {vs : List Value} {ns : List Int},IntsAre vs ns -> Vals (ns.map V.int) vs
 | _,_,.nil => .nil
 | _,_,.cons n t h => .cons ⟨t,rfl⟩ (vals_ints h)
def Only (H : Hp) : Prop:=∀ b,H b = none \/ ∃ o xs,H b = some (.frz o (.lst xs))
theorem law_call {P : Program} {w : World} {K : PySem.W.Frag} {mg mb : Str -> Option Value} {CX : CXT} {k : Nat} {fa a : Addr} {fd : FuncData} {x : Str} {sp : Sp} {s₁ : Shared} {vs : List Value} {ns : List Int}
  (KX : K.In s₁.heap) (hns : s₁.heap.Ns mainGlobals mg) (hb : s₁.heap.Ns builtinsNs mb) (hbb : ∀ x : Str,x ≠ "__name__" -> mb x = bootBuiltins x) (hlim : s₁.heap.NoLimit) (hg : s₁.gens = #[])
  (ha : s₁.heap.get? a = some { cls:=.type "list",data:=.seq vs.toArray }) (hi : IntsAre vs ns) (hl : ns.length <= sizeLine) (hr : Room k callerA)
  (F : ∀ base : Heap,K.In base -> base.Ns mainGlobals mg -> FnOk P w K mg base CX k fa fd [x] sp) (hbind : ∀ (s : Shared) (u : Value),BindsTo s fd ⟨[u],[]⟩ [(x,u)])
  (hsp : ∀ H : Hp,Only H -> SqL K H a (ns.map V.int) -> sp [.ref a] H (fun v _ => v = .bl true) fun _ _ _ => False)
  (hCX : ∀ H e s',CX [] H s₁ (fun _ _ _ => False) e s' -> False) :
  codeAny (model P w) callerA (.call (.ref fa) ⟨[.ref a],[]⟩) (fun r s' => r = .ok (.ret (.bool true)) /\ OldK s₁.heap s'.heap /\ s'.os = s₁.os /\ AllBare s'.gens) s₁:=by
 have rv:=vals_ints hi
 have lenV:=hi.length
 -- from an abstract heap in which nothing but the script may be tracked
 have core : ∀ H : Hp,Only H -> SqL K H a (ns.map V.int) -> HOk P w H s₁.heap -> (∀ b,H b ≠ none -> b = a) -> (H a ≠ none -> K.lookup a = none) ->
   codeAny (model P w) callerA (.call (.ref fa) ⟨[.ref a],[]⟩) (fun r s' => r = .ok (.ret (.bool true)) /\ OldK s₁.heap s'.heap /\ s'.os = s₁.os /\ AllBare s'.gens) s₁:=by
  intro H hO hS hok hA hK
  have base_of : ∀ {b : Addr} {o : Obj},s₁.heap.get? b = some o -> H b = none -> (hidT s₁.heap H).get? b = some o:=fun e n => hidT_get e n
  have noA : ∀ {b : Addr} {o : Obj} {es : Array DictEntry} {ep : Nat},s₁.heap.get? b = some o -> o.data = .dict es ep -> H b = none:=fun {b o es ep} e d => by
   cases q : H b with
   | none => rfl
   | some u =>
    have e' : b = a:=hA b (by rw [q]; simp)
    subst e'
    rw [ha] at e; cases e
    have d' : Data.seq vs.toArray _ = Data.dict es ep:=d
    cases d'
  have nsK : ∀ {b : Addr} {m : Str -> Option Value},s₁.heap.Ns b m -> (hidT s₁.heap H).Ns b m:=fun {b m} ⟨o,es,ep,e,d,r⟩ => ⟨o,es,ep,base_of e (noA e d),d,r⟩
  have hKb : K.In (hidT s₁.heap H):=fun b o e => base_of (KX b o e) (by
   cases q : H b with
   | none => rfl
   | some u =>
    have e' : b = a:=hA b (by rw [q]; simp)
    subst e'
    rw [hK (by rw [q]; simp)] at e; cases e)
  have hM : Mod K mg (hidT s₁.heap H):=⟨hKb,nsK hns,⟨mb,nsK hb,hbb⟩,let ⟨mc,h1,h2⟩:=hlim; ⟨mc,nsK h1,h2⟩⟩
  have e0 : Env0 P w K mg (hidT s₁.heap H) callerA [] s₁ H:=⟨rfl,hM,fun b o e => of_hidT e,Nat.le_of_eq (hidT_size _ _),trivial,fun b hb => absurd (show b ∈ ([] : List Addr) from hb) (by simp),hok,.of_eq hg⟩
  refine codeAny_mono ((F _ hKb (nsK hns)).run callerA [] s₁ H ⟨[.ref a],[]⟩ [.ref a] [.ref a] _ _ hr e0 (hbind s₁ (.ref a)) (.cons rfl .nil) (hsp H hO hS)) fun r s' h => ?_
  cases r with
  | error e => exact (hCX H e s' h).elim
  | ok fl =>
   cases fl with
   | next => exact False.elim h
   | brk => exact False.elim h
   | cont => exact False.elim h
   | ret u =>
    obtain ⟨v,H',os,bare,un,hok',r',q⟩:=h
    have q' : v = .bl true:=q
    subst q'
    obtain rfl : u = Value.bool true:=r'
    refine ⟨rfl,OldK.of_keep fun b o e => ?_,os,bare⟩
    cases q : H b with
    | none => exact un.keep b o e q (by intro z; exact absurd (show b ∈ ([] : List Addr) from z) (by simp)) (by simp)
    | some u =>
     rcases hO b with z | ⟨ob,xs,z⟩
     ·
      rw [q] at z; cases z
     ·
      have z2:=un.frzs b ob _ z
      obtain ⟨e1,_⟩:=hok b _ z
      obtain ⟨e2,_⟩:=hok' b _ z2
      rw [e] at e1; cases e1
      exact e2
 cases hk : K.lookup a with
 | some o =>
  -- the script is one of the module's own objects
  have e:=KX a o hk
  rw [ha] at e
  cases e
  refine core (fun _ => none) (fun _ => .inl rfl) (.inr ⟨_,vs.toArray,_,hk,rfl,rfl,rfl,by rw [List.size_toArray,lenV]; exact hl,by simpa using rv⟩) (fun b u z => by have z' : (none : Option HO) = some u:=z; cases z') (fun b z => absurd rfl z) fun z => absurd rfl z
 | none =>
  refine core (fun b => if b = a then some (.frz { cls:=.type "list",data:=.seq vs.toArray } (.lst (ns.map V.int))) else none) (fun b => ?_) (.inl (.inr ⟨{ cls:=.type "list",data:=.seq vs.toArray },if_pos rfl⟩)) (fun b u z => ?_) (fun b z => ?_) fun _ => hk
  ·
   by_cases hb : b = a
   ·
    exact .inr ⟨_,_,if_pos hb⟩
   ·
    exact .inl (if_neg hb)
  ·
   by_cases hb : b = a
   ·
    have z':=(if_pos hb).symm.trans z
    cases z'
    subst hb
    exact ⟨ha,by rw [List.length_map]; exact hl,vs,_,rv,ha⟩
   ·
    have z':=(if_neg hb).symm.trans z
    cases z'
  ·
   by_cases hb : b = a
   ·
    exact hb
   ·
    exact absurd (if_neg hb) z
end L2
namespace L2
open PySem PySem.Spec PyProof.Rows
noncomputable abbrev KOf {K : PySem.W.Frag} {h : Heap} (_ : K.In h) : PySem.W.Frag:=K
theorem walk_of {l : PySem.W.OpenLaw} {n k : Nat} {q : Program} {loose : List Str} {XP : (Str -> Option Value) -> Heap -> Prop} {YP : World -> Heap -> Prop} {d : DefRec} {K : Params -> PySem.W.Frag} {CX : World -> CXT} {sp : World -> Sp} {x : Str}
  (hn : l.most = some n) (hn2 : n <= sizeLine) (hdf : d.params.defaults = []) (hr : Room k callerA)
  (hY : ∀ (w : World) (h : Heap),YP w h -> (K w.params).In h)
  (F : ∀ (w : World) (mg : Str -> Option Value) (fa : Addr) (h : Heap),(K w.params).In h -> h.Ns mainGlobals mg -> mg d.name = some (.ref fa) ->
   ∃ fd : FuncData,(∀ (s : Shared) (u : Value),BindsTo s fd ⟨[u],[]⟩ [(x,u)]) /\
    ∀ base : Heap,(K w.params).In base -> base.Ns mainGlobals mg -> FnOk l.prog w (K w.params) mg base (CX w) k fa fd [x] (sp w))
  (hsp : ∀ (w : World) (H : Hp) (a : Addr) (ns : List Int),ns.length <= n -> Only H -> SqL (K w.params) H a (ns.map V.int) -> sp w [.ref a] H (fun v _ => v = .bl true) fun _ _ _ => False)
  (hCX : ∀ (w : World) (H : Hp) (s : Shared) (e : Value) (s' : Shared),CX w [] H s (fun _ _ _ => False) e s' -> False) :
  PySem.W.WalkO q loose XP YP l.row.toRowW d [] (fun f vs => PySem.call f vs):=by
 refine Att.attach_call hn hdf fun w s₀ s₁ mg mb fa o pm cd doc a vs ns G Y ho hd hcd hmg hobj hints hlen hg => ?_
 have KX:=hY w _ Y
 obtain ⟨fd,hb,hF⟩:=F w mg fa _ KX G.T.g hmg
 exact law_call KX G.T.g G.T.b G.T.builtins G.T.nolimit hg hobj hints (Nat.le_trans hlen hn2) hr hF hb (fun H hO hS => hsp w H a ns hlen hO hS) fun H e s' => hCX w H s₁ e s'
end L2
/- THE LAST THEOREM (shape; LID,My.* are yours):
  My.Adr: a structure of the addresses that your layer names (classes,functions); My.Txt K t: a structure (Prop) of the equations over K;
  My.txt_mk : {K} {implicit addresses ..} (e1 : nsIn K mainGlobals "law" = some (some (.ref f))) (e2 : K.lookup f = some ⟨oc,od,.func (fnOf "law" "law" params body scope dV kV doc pm an cdv ct),sl⟩) (e3 : codeIn K cdv "law" = true) .. : ∃ t,My.Txt K t
set_option maxRecDepth 100000 in
set_option maxHeartbeats 0 in
theorem PySem.Challenge.cw_LID_holds : PySem.Challenge.rw_LID.Holds := by
 w_on; o_law; k_head; (case hw => w_witness2)
 k_fill
 refine L2.walk_of (l:=PySem.Challenge.rw_LID) (n:=63) (k:=40) (x:="script") (CX:=fun w => ..) (sp:=fun _ => My.sp_law) rfl (by decide) rfl ⟨rfl,by decide,by decide⟩ (fun w h Y => PySem.W.kIn_of Y) ?F ?S ?C
 case F =>
  intro w mg fa h KX G hmg
  have T : ∃ t,My.Txt (L2.KOf KX) t:=by
   dsimp only [L2.KOf]                          -- K must stand as «<heap const> w.params» for k_is
   refine' My.txt_mk ?e1 ?e2 ?e3 ..
   (case e1 => PySem.W.k_is)                    -- in the order: a name -> its address -> its object -> its parts
   (case e2 => PySem.W.k_is)
   ..
  obtain ⟨t,T⟩:=T
  have e0:=hmg.symm.trans (PySem.W.mg_of KX G T.law)
  cases e0                                       -- fa is the law's own address
  exact ⟨_,fun s u => .of_eq rfl,fun base kb nb => My.law_fn T kb nb⟩     -- if «.of_eq rfl» comes too early: refine' ⟨_,?b,fun base kb nb => My.law_fn T kb nb⟩; exact fun s u => .of_eq rfl
 case S => exact fun w H a ns hl hO hS => ..
 case C => exact ..
(the tactic k_is has no namespace: write k_is) -/
namespace L2
open PySem PySem.Spec PyProof.Rows
noncomputable def defArgs (s : Stmt) : Arguments:=match s with
 | .FunctionDef _ a _ _ _ _ _ _ _ _ => a
 | _ => { posonlyargs:=[],args:=[],vararg:=none,kwonlyargs:=[],kw_defaults:=[],kwarg:=none,defaults:=[] }
noncomputable def defBody (s : Stmt) : List Stmt:=match s with
 | .FunctionDef _ _ b _ _ _ _ _ _ _ => b
 | _ => []
noncomputable def defScope (s : Stmt) : Scope:=match s with
 | .FunctionDef _ _ _ _ _ _ sc _ _ _ => sc
 | _ => { kind:=.function,names:=[],isGenerator:=false,isCoroutine:=false }
abbrev CX0 : CXT:=fun _ _ _ _ _ _ => False
abbrev E0 : XK:=fun _ _ _ => False
theorem pass0 {X : Cx} : Passes CX0 X E0:=fun _ _ _ _ _ _ _ h => h.elim
structure Fun (K : PySem.W.Frag) (x qual : Str) (st : Stmt) (f : Addr) (fd : FuncData) : Prop where
 ex : ∃ (oc : Value) (od : Option Addr) (kV doc pm : Value) (an : Option Addr) (cdv ct : Value) (osl : Array (Option Value)),
  fd = PySem.W.fnOf x qual (defArgs st) (defBody st) (defScope st) .none kV doc pm an cdv ct /\ K.lookup f = some ⟨oc,od,.func fd,osl⟩ /\ PySem.W.codeIn K cdv qual = true
 kp : PySem.W.keepIn K (.ref f) = true
section
variable {P : Program} {w : World} {K : PySem.W.Frag} {mg : Str -> Option Value} {base : Heap}
theorem Fun.ok {x qual : Str} {st : Stmt} {f : Addr} {fd : FuncData} {N ps : List Str} {k : Nat} {sp : Sp} (F : Fun K x qual st f fd) (S : FnScope N ps (defScope st)) (len : ∀ vs H Q E,sp vs H Q E -> vs.length = ps.length)
  (hbody : ∀ (cdv : Value) (A : Around) (outer : List Env) (s : Shared) (H : Hp) (vs : List V) (Q : VK) (E : XK),Room k (A.deeper (envOfC qual (defScope st) s.heap.objs.size f cdv)) -> sp vs H Q E ->
   ∃ t,PSs (cxOf CX0 P w K mg base N qual (defScope st) f cdv A outer s H E).nox (defBody st) t /\ t { nx:=fun _ H' => Q .non H',rt:=Q } (start N vs) H) : FnOk P w K mg base CX0 (k + 1) f fd ps sp:=by
 obtain ⟨oc,od,kV,doc,pm,an,cdv,ct,osl,rfl,lk,hcd⟩:=F.ex
 refine fn_of lk hcd S len fun A outer s H vs Q E hr hsp => ?_
 obtain ⟨t,h,q⟩:=hbody cdv A outer s H vs Q E hr hsp
 exact ⟨t,h.nox,q⟩
theorem Fun.binds {x qual : Str} {st : Stmt} {f : Addr} {fd : FuncData} {ps : List Str} (F : Fun K x qual st f fd)
  (h : ∀ (kV doc pm : Value) (an : Option Addr) (cdv ct : Value) (us : List Value),us.length = ps.length -> bindArgs (PySem.W.fnOf x qual (defArgs st) (defBody st) (defScope st) .none kV doc pm an cdv ct) ⟨us,[]⟩ = pure (ps.zip us)) : Binds K fd ps []:=by
 obtain ⟨oc,od,kV,doc,pm,an,cdv,ct,osl,rfl,lk,hcd⟩:=F.ex
 exact .all (h kV doc pm an cdv ct)
theorem fun_mk {x qual : Str} {st : Stmt} {f : Addr} {oc : Value} {od an : Option Addr} {osl : Array (Option Value)} {kV doc pm cdv ct : Value} (l : K.lookup f = some ⟨oc,od,.func (PySem.W.fnOf x qual (defArgs st) (defBody st) (defScope st) .none kV doc pm an cdv ct),osl⟩)
  (c : PySem.W.codeIn K cdv qual = true) (k : PySem.W.keepIn K (.ref f) = true) : Fun K x qual st f (PySem.W.fnOf x qual (defArgs st) (defBody st) (defScope st) .none kV doc pm an cdv ct):=⟨⟨oc,od,kV,doc,pm,an,cdv,ct,osl,rfl,l,c⟩,k⟩
end
section
variable {X : Cx}
theorem pv (i : Nat) {x : Str} {pos : Pos} (hN : X.N[i]? = some x:=by rfl) (hv : Vis X.env.scope x:=by first | exact Or.inl rfl | exact Or.inr (Or.inl rfl) | exact Or.inr (Or.inr rfl)) (hd : (x == ("__debug__" : Str)) = false:=by decide)
  (hcd : (x == ("__classdict__" : Str)) = false:=by decide) : PE X (.Name x pos) (tVar i):=pe_var hN hv hd hcd
end
theorem iteF {A B : Prop} (h : B) : if false = true then A else B:=by
 rw [if_neg Bool.false_ne_true]
 exact h
theorem iteT {A B : Prop} (h : A) : if true = true then A else B:=by
 rw [if_pos rfl]
 exact h
section
variable {κ : Type} [DecidableEq κ]
theorem nd_snoc : ∀ {l : List κ} {k : κ},l.Nodup -> ¬ k ∈ l -> (l ++ [k]).Nodup
 | [],k,_,_ => by simp
 | a :: r,k,h,hk => by
  obtain ⟨h1,h2⟩:=List.nodup_cons.mp h
  show (a :: (r ++ [k])).Nodup
  refine List.nodup_cons.mpr ⟨fun m => ?_,nd_snoc h2 fun m => hk (List.mem_cons.mpr (Or.inr m))⟩
  rcases List.mem_append.mp m with q | q
  ·
   exact h1 q
  ·
   exact hk (List.mem_cons.mpr (Or.inl (List.mem_singleton.mp q).symm))
end
end L2
set_option maxHeartbeats 1000000
namespace L2
open PySem PySem.Spec PyProof.Rows
theorem lookup_told {F : Str × NameKind -> Str × NameKind} (hF : ∀ p,(F p).1 = p.1) {x : Str} {k : NameKind} : ∀ {names : List (Str × NameKind)},names.lookup x = some k -> (names.map F).lookup x = some (F (x,k)).2
 | [],h => by cases h
 | (m,q) :: r,h => by
  have hm:=hF (m,q)
  rw [List.map_cons,show F (m,q) = (m,(F (m,q)).2) from Prod.ext hm rfl]
  by_cases e : x = m
  ·
   subst e
   rw [List.lookup_cons_self] at h ⊢
   cases h
   rfl
  ·
   have eb : (x == m) = false:=beq_eq_false_iff_ne.mpr e
   simp only [List.lookup,eb] at h ⊢
   exact lookup_told hF h
theorem lookup_relabel_free {env : Env} {x : Str} {names : List (Str × NameKind)} (h : names.lookup x = some .free) :
  (names.map fun (n,k) => if (k == NameKind.free && env.scope.kind == .function && env.kindOf n == some .cell) then (n,NameKind.cell) else (n,k)).lookup x = some .cell \/
  (names.map fun (n,k) => if (k == NameKind.free && env.scope.kind == .function && env.kindOf n == some .cell) then (n,NameKind.cell) else (n,k)).lookup x = some .free:=by
 rw [lookup_told (F:=fun (n,k) => if (k == NameKind.free && env.scope.kind == .function && env.kindOf n == some .cell) then (n,NameKind.cell) else (n,k)) (fun p => by dsimp only; split <;> rfl) h]
 dsimp only
 split
 ·
  exact .inl rfl
 ·
  exact .inr rfl
theorem closure_ok {scope : Scope} {env : Env} (h : ∀ y ∈ scope.names,y.2 = .free -> ∃ c,env.cells.lookup y.1 = some c) :
  ∃ cl,closureFor scope env = pure cl /\ (∀ x c,cl.lookup x = some c -> env.cells.lookup x = some c) /\ ∀ y ∈ scope.names,y.2 = .free -> ∃ c,cl.lookup y.1 = some c:=by
 have key : ∀ (names : List (Str × NameKind)) (cs : List (Str × Addr)),(∀ y ∈ names,y.2 = .free -> ∃ c,env.cells.lookup y.1 = some c) -> (∀ x c,cs.lookup x = some c -> env.cells.lookup x = some c) ->
   ∃ cl : List (Str × Addr),(forIn names cs (fun (x : Str × NameKind) (r : List (Str × Addr)) => (do
    if x.2 == .free then do
     let a <- cellOf env x.1
     pure (ForInStep.yield ((x.1,a) :: r))
    else pure (ForInStep.yield r) : Sem (ForInStep (List (Str × Addr))))) : Sem (List (Str × Addr))) = pure cl /\ (∀ x c,cl.lookup x = some c -> env.cells.lookup x = some c) /\
    (∀ x c,cs.lookup x = some c -> ∃ c',cl.lookup x = some c') /\ ∀ y ∈ names,y.2 = .free -> ∃ c,cl.lookup y.1 = some c:=by
  intro names
  induction names with
  | nil => intro cs _ hc; exact ⟨cs,rfl,hc,fun x c e => ⟨c,e⟩,fun y hy => nomatch hy⟩
  | cons y r ih =>
   intro cs hn hc
   obtain ⟨n,k⟩:=y
   by_cases hk : k = .free
   ·
    subst hk
    obtain ⟨c,ec⟩:=hn (n,.free) List.mem_cons_self rfl
    have hcell : cellOf env n = pure c:=by unfold cellOf; rw [ec]
    obtain ⟨cl,e,h1,h2,h3⟩:=ih ((n,c) :: cs) (fun y hy => hn y (List.mem_cons_of_mem _ hy)) (fun x c' q => by
     simp only [List.lookup_cons] at q
     cases hx : x == n with
     | true => rw [hx] at q; cases q; rw [eq_of_beq hx]; exact ec
     | false => rw [hx] at q; exact hc x c' q)
    refine ⟨cl,?_,h1,fun x c' q => ?_,fun y hy hf => ?_⟩
    ·
     rw [List.forIn_cons]
     show ((if (NameKind.free == NameKind.free) = true then (cellOf env n >>= fun a => pure (ForInStep.yield ((n,a) :: cs))) else pure (ForInStep.yield cs)) >>= _) = _
     rw [hcell]
     exact e
    ·
     cases hx : x == n with
     | true => exact h2 x c (by simp only [List.lookup_cons,hx])
     | false => exact h2 x c' (by simp only [List.lookup_cons,hx]; exact q)
    ·
     rcases List.mem_cons.mp hy with rfl | hy
     ·
      exact h2 n c (by simp [List.lookup_cons])
     ·
      exact h3 y hy hf
   ·
    obtain ⟨cl,e,h1,h2,h3⟩:=ih cs (fun y hy => hn y (List.mem_cons_of_mem _ hy)) hc
    have hb : (k == NameKind.free) = false:=by simpa using hk
    refine ⟨cl,?_,h1,h2,fun y hy hf => ?_⟩
    ·
     rw [List.forIn_cons]
     show ((if (k == NameKind.free) = true then (cellOf env n >>= fun a => pure (ForInStep.yield ((n,a) :: cs))) else pure (ForInStep.yield cs)) >>= _) = _
     rw [hb]
     exact e
    ·
     rcases List.mem_cons.mp hy with rfl | hy
     ·
      exact absurd hf hk
     ·
      exact h3 y hy hf
 obtain ⟨cl,e,h1,_,h3⟩:=key scope.names [] h (fun x c q => by simp at q)
 refine ⟨cl,?_,h1,h3⟩
 unfold closureFor
 exact congrArg (fun m => m >>= fun r => pure r) e
noncomputable def cxComp (X : Cx) (N' : List Str) (scope : Scope) (cl : List (Str × Addr)) (pins : List (Addr × Obj)) (s : Shared) (H : Hp) (C : Addr) (fp : List Addr) : Cx where
 prog:=X.prog
 w:=X.w
 K:=X.K
 mg:=X.mg
 base:=X.base
 A:=X.A
 N:=N'
 s₀:=s
 H₀:=H
 env:=compEnvC scope cl C X.env
 outer:=X.stack
 stack:=X.stack
 ex:=fp
 fn:=fun x => scope.names.lookup x == some .cell
 calm:=X.calm
 pn:=X.pn ++ pins
 xe:=fun _ _ => False
def PIf (X : Cx) (ifs : List Expr) (t : TT) : Prop :=
 ∀ (pins : List (Addr × Obj)) (s : Shared) (σ : St) (H : Hp) (Q : Bool -> Hp -> Prop),Inv X pins σ H s -> t σ H Q ->
  wpAny (model X.prog X.w) X.A (forIn ifs true fun c r => if r = true then do let ok <- isTrue c X.env (eval c X.env); pure (ForInStep.yield ok) else pure (ForInStep.yield r)) (TP X pins σ Q) X.xe s
def tYes : TT:=fun _ H Q => Q true H
theorem pif_nil {X : Cx} : PIf X [] tYes:=fun _ _ _ H _ I h => wpAny_tests_nil ⟨H,I,h⟩
theorem pif_one {X : Cx} {c : Expr} {t : TT} (h : PT X c t) : PIf X [c] t:=fun pins s σ H Q I hq => wpAny_tests_one (h pins s σ H Q I hq)
section
variable {prog : Program} {w : World} {A : Around} {R : Result -> Shared -> Prop} {s : Shared}
theorem compLoop_gen {elt target iter : Expr} {ifs : List Expr} {scope : Scope} {pos : Pos} {it acc : Value} {env : Env} (I : Nat -> Shared -> Prop)
  (turn : ∀ n s,I n s -> wpAny (model prog w) A (pyNext it) (fun r s₁ => match r with | .none => R (.ok .next) s₁ | .some v => wpAny (model prog w) A (letOwnedTupleGo target it v) (fun _ s₁' => wpAny (model prog w) A (assign target env v) (fun _ s₂ => wpAny (model prog w) A (forIn ifs true fun c r => if r = true then do let ok <- isTrue c env (eval c env); pure (ForInStep.yield ok) else pure (ForInStep.yield r)) (fun ok s₃ => if ok = true then wpAny (model prog w) A (eval elt env) (fun x s₄ => wpAny (model prog w) A (call (.builtin "list.append") [acc,x]) (fun _ s₅ => ∃ m,m < n /\ I m s₅) (fun _ _ => False) s₄) (fun _ _ => False) s₃ else ∃ m,m < n /\ I m s₃) (fun _ _ => False) s₂) (fun _ _ => False) s₁') (fun _ _ => False) s₁) (fun _ _ => False) s)
  (n : Nat) (h : I n s) : codeAny (model prog w) A (.compLoop (.ListComp elt [⟨target,iter,ifs,0⟩] scope pos) 0 it acc env) R s:=by
 refine codeAny_loop rfl I (fun j s₀ hI => ?_) n h; show wpAny _ A ((compTurn (.ListComp elt [⟨target,iter,ifs,0⟩] scope pos) 0 it acc env).onRaise (fun x => do noteFrame x env; theTreesLotGoes x)) _ _ s₀
 refine wpAny_noted ?_
 rw [compTurn_list]
 refine wpAny_bind (wpAny_standAt (wpAny_bind (wpAny_mono (turn j s₀ hI) (fun r s₁ h₁ => ?_) fun _ _ h' => h'.elim)))
 cases r with
 | none => exact wpAny_pure h₁
 | some v =>
  refine wpAny_bind (wpAny_mono h₁ (fun _ s₁' h₁' => ?_) fun _ _ h' => h'.elim)
  refine wpAny_bind (wpAny_mono h₁' (fun _ s₂ h₂ => wpAny_bind (wpAny_mono h₂ (fun ok s₃ h₃ => ?_) fun _ _ h' => h'.elim)) fun _ _ h' => h'.elim)
  cases ok with
  | false => exact (wpAny_pure (And.intro rfl h₃))
  | true =>
   exact wpAny_bind (wpAny_bind (wpAny_mono h₃ (fun x s₄ h₄ => wpAny_bind (wpAny_mono h₄ (fun _ s₅ h₅ => wpAny_pure (wpAny_pure ⟨rfl,h₅⟩)) fun _ _ h' => h'.elim)) fun _ _ h' => h'.elim))
end
def CompW (J : It) (g : TG) (tt : TT) (te : TE) (fin : List V -> Hp -> Prop) (σ₀ : St) (H₁ : Hp) : Prop :=
 ∃ W : Nat -> Nat -> List V -> St -> Hp -> Prop,(∃ m,W 0 m [] σ₀ H₁) /\ ∀ i m ys σ H,W i m ys σ H ->
  (J.stop i H /\ ys.length <= sizeLine /\ fin ys H) \/
  (J.go i H /\ ∀ x H',J.yld i H x H' -> g x σ H' fun σ2 H2 => tt σ2 H2 fun b H3 => if b = true then te σ2 H3 fun y H4 => ys.length < sizeLine /\ ∃ m',m' < m /\ W (i + 1) m' (ys ++ [y]) σ2 H4 else ∃ m',m' < m /\ W (i + 1) m' ys σ2 H3)
noncomputable def capS (nt : Nat) (cap : List Nat) (σ : St) : St:=List.replicate nt none ++ cap.map fun j => (σ[j]?).getD none
structure CompSc (X : Cx) (N' : List Str) (nt : Nat) (cap : List Nat) (scope : Scope) : Prop where
 kind : scope.kind = .function
 cells : ∀ y ∈ scope.names,y.2 = .cell -> scope.names.lookup y.1 = some .cell
 names : ∀ x ∈ scope.names,x.2 = .local -> scope.names.lookup x.1 = some .local
 free : ∀ y ∈ scope.names,y.2 = .free -> X.env.kindOf y.1 = some .cell \/ X.env.kindOf y.1 = some .free
 len : N'.length = nt + cap.length
 caps : ∀ (j : Nat) (x : Str),N'[nt + j]? = some x -> ∃ i,cap[j]? = some i /\ X.N[i]? = some x /\ scope.names.lookup x = some .free
theorem list_obj_append {l : Addr} {its : List Value} {n : Nat} {u : Value} {P : Program} {w : World} {A : Around} {E : Value -> Shared -> Prop} {s : Shared} {Q : Value -> Shared -> Prop}
  (e : s.heap.get? l = some { cls:=.type "list",data:=.seq its.toArray n }) (hz : its.length < sizeLine)
  (h : ∀ h' n',h'.get? l = some { cls:=.type "list",data:=.seq (its ++ [u]).toArray n' } -> (∀ b o,b ≠ l -> s.heap.get? b = some o -> h'.get? b = some o) -> Q .none { s with heap:=h' }) :
  wpAny (model P w) A (call (.builtin "list.append") [.ref l,u]) Q E s:=by
 refine call_meets F.slot_list_append ⟨_,e,rfl⟩ F.entry_list_append (F.args_list_append_2 _ _) (PySem.list_append l its.toArray n u (by rw [List.size_toArray]; omega)) ⟨e,?_⟩
 have q:=PySem.IsL.update e (·.push u)
 rw [List.push_toArray] at q
 exact h _ _ q (fun b o hb hu => (Heap.get?_update_other s.heap _ (Ne.symm hb)).trans hu)
theorem cellsFrom_app : ∀ (names : List (Str × NameKind)) (n : Nat) (acc : List (Str × Addr)),cellsFrom n names acc = cellsFrom n names [] ++ acc
 | [],_,_ => rfl
 | (x,k) :: r,n,acc => by
  unfold cellsFrom
  split
  ·
   rw [cellsFrom_app r (n + 1) ((x,n) :: acc),cellsFrom_app r (n + 1) [(x,n)],List.append_assoc]
   rfl
  ·
   exact cellsFrom_app r n acc
theorem lookup_app {α : Type} (x : Str) : ∀ (l m : List (Str × α)),(l ++ m).lookup x = (l.lookup x).or (m.lookup x)
 | [],_ => rfl
 | (y,v) :: r,m => by
  rw [List.cons_append,List.lookup_cons,List.lookup_cons,lookup_app x r m]
  cases x == y <;> rfl
theorem cells_either {names : List (Str × NameKind)} {n : Nat} {cl : List (Str × Addr)} {x : Str} {c : Addr} (h : (cellsFrom n names cl).lookup x = some c) : (cellsFrom n names []).lookup x = some c \/ ((cellsFrom n names []).lookup x = none /\ cl.lookup x = some c):=by
 rw [cellsFrom_app,lookup_app] at h
 cases e : (cellsFrom n names []).lookup x with
 | some d => rw [e] at h; exact .inl h
 | none => rw [e] at h; exact .inr ⟨rfl,h⟩
theorem cells_name {x : Str} {c : Addr} : ∀ {names : List (Str × NameKind)} {n : Nat} {acc : List (Str × Addr)},(x,c) ∈ cellsFrom n names acc -> (x,NameKind.cell) ∈ names \/ (x,c) ∈ acc
 | [],_,_,h => .inr h
 | (y,k) :: r,n,acc,h => by
  unfold cellsFrom at h
  split at h
  ·
   rename_i hk
   rcases cells_name h with q | q
   ·
    exact .inl (List.mem_cons_of_mem _ q)
   ·
    rcases List.mem_cons.mp q with q | q
    ·
     cases q
     have : k = .cell:=by simpa using hk
     subst this
     exact .inl List.mem_cons_self
    ·
     exact .inr q
  ·
   rcases cells_name h with q | q
   ·
    exact .inl (List.mem_cons_of_mem _ q)
   ·
    exact .inr q
theorem newEnvC {M : Model} {A : Around} {E : Value -> Shared -> Prop} {s : Shared} {scope : Scope} {globals : Addr} {closure : List (Str × Addr)} {qual : Str} {env : Env} {Q : Env -> Shared -> Prop}
  (hQ : Q (newEnv scope s.heap.objs.size globals (cellsFrom (s.heap.objs.size + 1) scope.names closure) qual none .none (some env) builtinsNs) { s with heap:=pushCells (s.heap.push { cls:=.type "dict",data:=.dict #[] }) scope.names }) :
  wpAny M A (newFunctionEnv scope globals closure [] qual none .none (some env)) Q E s:=by
 simp only [newFunctionEnv,Option.isSome_some,if_true]
 refine wpAny_bind (wpAny_alloc ?_)
 refine wpAny_bind (wpAny_layCells _ (fun name kind cells => by cases hkc : kind == NameKind.cell <;> simp [hkc]) _ _ _ _ ?_)
 rw [show ({ s with heap:=s.heap.push { cls:=.type "dict",data:=.dict #[] } } : Shared).heap.objs.size = s.heap.objs.size + 1 from Heap.size_push ..]
 refine wpAny_bind ?_
 rw [List.forIn_nil]
 exact wpAny_pure (wpAny_pure hQ)
theorem inv_comp {X : Cx} {pins : List (Addr × Obj)} {σ : St} {H : Hp} {s : Shared} {N' : List Str} {nt : Nat} {cap : List Nat} {scope : Scope} {cl : List (Str × Addr)} {fp : List Addr} {h' : Heap} {C : Addr} {tk : Nat} {pl : List (Addr × Obj)}
  (S : CompSc X N' nt cap scope) (I : Inv X pins σ H s) (hcl : ∀ x c,cl.lookup x = some c -> X.env.cells.lookup x = some c) (hclh : ∀ y ∈ scope.names,y.2 = .free -> ∃ c,cl.lookup y.1 = some c)
  (hf : ∀ b ∈ fp,FpOk X pins H b) (hfl : ∀ b ∈ fp,b < s.heap.objs.size) (hC : s.heap.objs.size < C) (hn : h'.Ns C fun _ => none) (hk : ∀ b o,s.heap.get? b = some o -> h'.get? b = some o)
  (hp : ∀ p ∈ pl,h'.get? p.1 = some p.2 /\ s.heap.objs.size = p.1 /\ ∀ v,p.2.data ≠ .cell v) (hcc : CellsOk h' (C + 1) (cellsFrom (C + 1) scope.names [])) :
  Inv (cxComp X N' scope (cellsFrom (C + 1) scope.names cl) pins s H C fp) pl (capS nt cap σ) H { s with heap:=h',toks:=tk }:=by
 have two : ∀ x c,(cellsFrom (C + 1) scope.names cl).lookup x = some c -> (C + 1 <= c /\ (cellsFrom (C + 1) scope.names []).lookup x = some c) \/ X.env.cells.lookup x = some c:=fun x c e => by
  rcases cells_either e with q | q
  ·
   exact .inl ⟨(hcc.empty x c (PySem.mem_of_lookup q)).2,q⟩
  ·
   exact .inr (hcl x c q.2)
 have low : ∀ x c,X.env.cells.lookup x = some c -> c < s.heap.objs.size:=fun x c e => by
  obtain ⟨v,q⟩:=I.cell x c e
  exact q.lt
 have hok : (cxComp X N' scope (cellsFrom (C + 1) scope.names cl) pins s H C fp).Ok:=by
  refine ⟨I.ok.mod,S.kind,I.ok.glob,I.ok.blt,Nat.le_of_lt hC,fun x y c e1 e2 => ?_,fun x hx => ?_,fun x c z e => ?_,I.ok.hd,I.ok.frames,.inl rfl,fun b hb => ?_,I.bs,Nat.le_trans I.ok.bsz I.sz,fun b o e hb => ?_,fun b hb z => ?_,I.stack,I.stkFree⟩
  ·
   rcases two x c e1 with ⟨q1,p1⟩ | q1
   ·
    rcases two y c e2 with ⟨q2,p2⟩ | q2
    ·
     exact name_of_addr hcc.apart (PySem.mem_of_lookup p1) (PySem.mem_of_lookup p2)
    ·
     exact absurd (Nat.lt_of_lt_of_le (Nat.lt_succ_of_lt (Nat.lt_trans (low y c q2) hC)) q1) (Nat.lt_irrefl _)
   ·
    rcases two y c e2 with ⟨q2,p2⟩ | q2
    ·
     exact absurd (Nat.lt_of_lt_of_le (Nat.lt_succ_of_lt (Nat.lt_trans (low x c q1) hC)) q2) (Nat.lt_irrefl _)
    ·
     exact I.ok.inj x y c q1 q2
  ·
   have hx' : (relabel scope X.env).names.lookup x = some .cell \/ (relabel scope X.env).names.lookup x = some .free:=hx
   have hm : ∃ k,(x,k) ∈ (relabel scope X.env).names /\ (k = .cell \/ k = .free):=by
    rcases hx' with z | z
    ·
     exact ⟨_,PySem.mem_of_lookup z,.inl rfl⟩
    ·
     exact ⟨_,PySem.mem_of_lookup z,.inr rfl⟩
   obtain ⟨k,hm,hk⟩:=hm
   obtain ⟨⟨n,k0⟩,hm0,e⟩:=List.mem_map.mp hm
   have e' : (if (k0 == NameKind.free && X.env.scope.kind == .function && X.env.kindOf n == some .cell) = true then (n,NameKind.cell) else (n,k0)) = (x,k):=e
   by_cases hk0 : k0 = .free
   ·
    subst hk0
    have en : n = x:=by split at e' <;> exact congrArg Prod.fst e'
    subst en
    obtain ⟨c,ec⟩:=hclh (n,.free) hm0 rfl
    show ∃ c,(cellsFrom (C + 1) scope.names cl).lookup n = some c
    rw [cellsFrom_app,lookup_app,ec]
    cases (cellsFrom (C + 1) scope.names []).lookup n with
    | none => exact ⟨c,rfl⟩
    | some d => exact ⟨d,rfl⟩
   ·
    have hb : (k0 == NameKind.free) = false:=by simpa using hk0
    rw [hb] at e'
    simp only [Bool.false_and,Bool.false_eq_true,if_false] at e'
    cases e'
    rcases hk with rfl | rfl
    ·
     obtain ⟨c,ec⟩:=cell_has (n:=C + 1) (S.cells _ hm0 rfl)
     refine ⟨c,?_⟩
     show (cellsFrom (C + 1) scope.names cl).lookup _ = some c
     rw [cellsFrom_app,lookup_app,ec]
     rfl
    ·
     exact absurd rfl hk0
  ·
   have z' : scope.names.lookup x = some .cell:=by simpa [cxComp] using z
   obtain ⟨d,ed⟩:=cell_has (n:=C + 1) z'
   have e' : (cellsFrom (C + 1) scope.names cl).lookup x = some c:=e
   rw [cellsFrom_app,lookup_app,ed] at e'
   cases e'
   have:=(hcc.empty x _ (PySem.mem_of_lookup ed)).2
   show s.heap.objs.size <= _
   omega
  ·
   obtain ⟨f0,f1,f2,f3,f4,f5⟩:=hf b hb
   refine ⟨fun z => absurd (hfl b hb) (Nat.not_lt.mpr (by rw [show b = C from z]; exact Nat.le_of_lt hC)),fun x c e => ?_⟩
   rcases two x c e with ⟨q,_⟩ | q
   ·
    intro z
    rw [z] at q
    exact absurd (Nat.lt_of_lt_of_le (Nat.lt_succ_of_lt (Nat.lt_trans (hfl b hb) hC)) q) (Nat.lt_irrefl _)
   ·
    exact f4 x c q
  ·
   obtain ⟨f0,f1,f2,f3,f4,f5⟩:=hf b hb
   rcases f3 with q | q
   ·
    exact I.ok.noex b o e q
   ·
    exact absurd (Heap.lt_size (I.ok.bs b o e).1) (Nat.not_lt.mpr q)
  ·
   obtain ⟨f0,f1,f2,f3,f4,f5⟩:=hf b hb
   rcases List.mem_cons.mp (I.stkSub b z) with q | q
   ·
    exact f1 q
   ·
    exact f2 q
 obtain ⟨m,hnm,hl⟩:=id I.loc
 refine ⟨hok,rfl,I.bare,Un.kept hk,⟨_,hn,fun i x v e1 e2 e3 => ?_⟩,fun x c e => ?_,I.hok.fresh (Nat.le_of_lt hC),fun x c e => ?_,fun p hp' => ?_,I.hok.kept hk,?_⟩
 ·
  -- a name of the block: one that it takes from around
  unfold capS at e2
  by_cases hi : i < nt
  ·
   rw [List.getElem?_append_left (by simpa using hi),List.getElem?_replicate] at e2
   split at e2 <;> cases e2
  ·
   obtain ⟨j,rfl⟩ : ∃ j,i = nt + j:=⟨i - nt,by omega⟩
   obtain ⟨k,ck,hN,hfree⟩:=S.caps j x e1
   rw [List.getElem?_append_right (by simp),List.length_replicate,Nat.add_sub_cancel_left,List.getElem?_map,ck] at e2
   have e2' : (σ[k]?).getD none = some v:=Option.some.inj e2
   have e2'' : σ[k]? = some (some v):=by
    cases q : σ[k]? with
    | none => rw [q] at e2'; cases e2'
    | some z => rw [q] at e2'; exact congrArg some e2'
   have hkd:=S.free (x,.free) (PySem.mem_of_lookup hfree) rfl
   obtain ⟨u,ru,lk⟩:=hl k x v hN e2'' (.inr hkd)
   refine ⟨u,ru,.inr ⟨lookup_relabel_free hfree,?_⟩⟩
   rcases lk with ⟨kl,_⟩ | ⟨_,c,hc,hcell⟩
   ·
    rcases hkd with z | z <;> (rw [kl] at z; cases z)
   ·
    obtain ⟨c',hc'⟩:=hclh (x,.free) (PySem.mem_of_lookup hfree) rfl
    have e:=hcl x c' hc'
    rw [hc] at e; cases e
    obtain ⟨o,ho,hd⟩:=hcell
    refine ⟨c,?_,o,hk _ _ ho,hd⟩
    show (cellsFrom (C + 1) scope.names cl).lookup x = some c
    rw [cellsFrom_app,lookup_app]
    cases q : (cellsFrom (C + 1) scope.names []).lookup x with
    | none => exact hc'
    | some d =>
     rcases cells_name (PySem.mem_of_lookup q) with z | z
     ·
      have:=S.cells _ z rfl
      rw [hfree] at this
      cases this
     ·
      cases z
 ·
  rcases two x c e with ⟨_,q⟩ | q
  ·
   exact ⟨none,(hcc.empty x c (PySem.mem_of_lookup q)).1⟩
  ·
   obtain ⟨v,o,ho,hd⟩:=I.cell x c q
   exact ⟨v,o,hk _ _ ho,hd⟩
 ·
  rcases two x c e with ⟨q,_⟩ | q
  ·
   exact I.hok.fresh (Nat.le_of_lt (Nat.lt_of_lt_of_le (Nat.lt_succ_of_lt hC) q))
  ·
   exact I.freeC x c q
 ·
  rcases List.mem_append.mp hp' with z | z
  ·
   obtain ⟨e,n,n1,n2,d⟩:=I.pin p z
   refine ⟨hk _ _ e,n,fun q => ?_,fun q => ?_,d⟩
   ·
    exact absurd (Heap.lt_size e) (Nat.not_lt.mpr (by rw [show p.1 = C from q]; exact Nat.le_of_lt hC))
   ·
    rcases List.mem_cons.mp (I.stkSub p.1 q) with q | q
    ·
     exact n1 q
    ·
     exact n2 q
  ·
   obtain ⟨e,n,d⟩:=hp p z
   refine ⟨e,I.hok.fresh (by omega),fun q => ?_,fun q => ?_,d⟩
   ·
    exact absurd (n.trans (show p.1 = C from q)) (Nat.ne_of_lt hC)
   ·
    have:=I.stkSub p.1 q
    rcases List.mem_cons.mp this with q | q
    ·
     exact absurd I.lt (Nat.not_lt.mpr (by rw [<- q,n]; exact Nat.le_refl _))
    ·
     exact I.nofs (by omega) q
 ·
  unfold capS
  show _ = N'.length
  rw [List.length_append,List.length_replicate,List.length_map,S.len]
theorem HOk.track {P : Program} {w : World} {H : Hp} {h h' : Heap} {a C : Addr} {o : HO} (x : HOk P w H h) (hn : H a = none) (hC : H C = none) (k : ∀ b u,b ≠ C -> h.get? b = some u -> h'.get? b = some u) (new : ObjOk P w (upd H a o) h' a o) : HOk P w (upd H a o) h':=fun b u e => by
 by_cases hb : b = a
 ·
  subst hb; rw [upd_same] at e; cases e; exact new
 ·
  rw [upd_ne hb] at e
  have nC : ∀ c z,H c = some z -> c ≠ C:=fun c z q r => by rw [r,hC] at q; cases q
  refine (x b u e).stay (fun c v hc q => k c v ?_ q) (fun c q => by rw [upd_ne (ne_of_none q hn)]; exact q) fun c xs q => by rw [upd_ne (ne_of_none q hn)]; exact q
  rcases hc with rfl | hc
  ·
   exact nC c u e
  ·
   exact nC c _ hc
theorem comp_run {X : Cx} {pins : List (Addr × Obj)} {σ : St} {H₂ : Hp} {s₂ : Shared} {N' : List Str} {nt : Nat} {cap : List Nat} {scope : Scope} {cl : List (Str × Addr)} {elt tg iter : Expr} {ifs : List Expr} {pos : Pos} {g : TG} {tt : TT} {te : TE}
  {it : Addr} {fp : List Addr} {tn : Nat -> Heap -> Prop} {J : It} {fin : List V -> Hp -> Prop} {E : Value -> Shared -> Prop} {RR : Value -> Addr -> Result -> Shared -> Prop}
  (hc : X.calm = true) (S : CompSc X N' nt cap scope) (hcl : ∀ x c,cl.lookup x = some c -> X.env.cells.lookup x = some c) (hclh : ∀ y ∈ scope.names,y.2 = .free -> ∃ c,cl.lookup y.1 = some c)
  (hX : ∀ cl pins s H C fp,PG (cxComp X N' scope cl pins s H C fp) tg g /\ PIf (cxComp X N' scope cl pins s H C fp) ifs tt /\ PE (cxComp X N' scope cl pins s H C fp) elt te)
  (I : Inv X pins σ H₂ s₂) (T : Turn X.prog X.w X.K tg J fp it tn) (st : tn 0 s₂.heap) (hf : ∀ b ∈ fp,FpOk X pins H₂ b) (hw : CompW J g tt te fin (capS nt cap σ) H₂)
  (hRR : ∀ (D C : Addr) (s₄ : Shared) (m : Str -> Option Value) (ys : List V) (H' : Hp),s₄.heap.Ns C m -> s₂.heap.objs.size <= D -> s₂.heap.objs.size <= C -> C ≠ D -> H' D = none -> H' C = none -> ys.length <= sizeLine -> fin ys H' ->
   (∀ h',(∀ b o,b ≠ C -> s₄.heap.get? b = some o -> h'.get? b = some o) -> Inv X pins σ (upd H' D (.lst ys)) { s₄ with heap:=h' }) -> RR (.ref D) C (.ok .next) s₄) :
  wpAny (model X.prog X.w) X.A (newList []) (fun acc s₃ => wpAny (model X.prog X.w) X.A (newFunctionEnv scope X.env.globals cl [] X.env.qual none .none (some X.env)) (fun cenv s₄ =>
   codeAny (model X.prog X.w) X.A (.compStart (.ListComp elt [⟨tg,iter,ifs,0⟩] scope pos) 0 (.ref it) acc { cenv with scope:=relabel scope X.env }) (RR acc cenv.locals) s₄) E s₃) E s₂:=by
 refine wpAny_newObj_type (newEnvC ?_)
 dsimp only
 generalize hH2 : s₂.heap.push { cls:=.type "list",dict:=none,data:=.seq ([] : List Value).toArray } = B
 generalize hD : s₂.heap.objs.size = D
 have hB : B.objs.size = D + 1:=by rw [<- hH2,Heap.size_push,hD]
 have hcc0 : CellsOk (pushCells (B.push { cls:=.type "dict",data:=.dict #[] }) scope.names) (B.objs.size + 1) (cellsFrom (B.objs.size + 1) scope.names []):=by
  have:=cellsFrom_ok scope.names (B.push { cls:=.type "dict",data:=.dict #[] }) (B.objs.size + 1) [] ⟨fun _ _ hm => (nomatch hm),List.Pairwise.nil⟩ (by rw [Heap.size_push]; exact Nat.le_refl _)
  rw [Heap.size_push] at this
  exact this
 have hns₁ : (pushCells (B.push { cls:=.type "dict",data:=.dict #[] }) scope.names).Ns B.objs.size fun _ => none:=(Heap.Ns.new B (.type "dict")).keeps (pushCells_keeps _ _)
 have kp₁ : ∀ b o,B.get? b = some o -> (pushCells (B.push { cls:=.type "dict",data:=.dict #[] }) scope.names).get? b = some o:=fun b o e => pushCells_keeps _ _ b o (Heap.get?_push_of_some _ e)
 generalize hCe : B.objs.size = C at hns₁ hcc0 ⊢
 generalize pushCells (B.push { cls:=.type "dict",data:=.dict #[] }) scope.names = h₁ at hns₁ hcc0 kp₁ ⊢
 have hCD : C = D + 1:=hCe.symm.trans hB
 have hDC : D ≠ C:=by rw [hCD]; exact Nat.ne_of_lt (Nat.lt_succ_self _)
 have hDlt : s₂.heap.objs.size < C:=by rw [hD,hCD]; exact Nat.lt_succ_self _
 have below : ∀ b o,s₂.heap.get? b = some o -> b ≠ C /\ b ≠ D:=fun b o e => by
  have:=Heap.lt_size e
  rw [hD] at this
  exact ⟨by rw [hCD]; exact Nat.ne_of_lt (Nat.lt_succ_of_lt this),Nat.ne_of_lt this⟩
 have old : ∀ b o,s₂.heap.get? b = some o -> h₁.get? b = some o:=fun b o e => kp₁ b o (hH2 ▸ Heap.get?_push_of_some _ e)
 have hacc : h₁.get? D = some { cls:=.type "list",data:=.seq ([] : List Value).toArray 0 }:=kp₁ _ _ (hH2 ▸ hD ▸ Heap.get?_push_size _ rfl)
 have hst₁ : tn 0 h₁:=T.keep _ _ _ st fun b hb o e => old b o e
 have hfl : ∀ b ∈ fp,b < s₂.heap.objs.size:=fun b hb => by obtain ⟨o,e,_⟩:=T.obj _ _ st b hb; exact Heap.lt_size e
 obtain ⟨W,⟨m0,w0⟩,turn⟩:=hw
 obtain ⟨hg,hi,he⟩:=hX (cellsFrom (C + 1) scope.names cl) pins s₂ H₂ C fp
 have stat : ∀ {H' : Hp} {k : Nat} {its : List Value},(∀ b ∈ fp,H' b = none) -> ∀ b ∈ fp,FpOk (cxComp X N' scope (cellsFrom (C + 1) scope.names cl) pins s₂ H₂ C fp) [(D,{ cls:=.type "list",data:=.seq its.toArray k })] H' b:=fun {H' k its} hn b hb => by
  obtain ⟨f0,f1,f2,f3,f4,f5⟩:=hf b hb
  have hlt:=hfl b hb
  refine ⟨hn b hb,fun z => ?_,fun z => ?_,.inl hb,fun x c e => ?_,fun p hp => ?_⟩
  ·
   rw [show b = C from z] at hlt; exact absurd hlt (Nat.not_lt.mpr (Nat.le_of_lt hDlt))
  ·
   rcases List.mem_cons.mp (I.stkSub b z) with q | q
   ·
    exact f1 q
   ·
    exact f2 q
  ·
   rcases cells_either e with q | q
   ·
    have:=(hcc0.empty x c (PySem.mem_of_lookup q)).2
    intro z
    rw [z] at this
    exact absurd (Nat.lt_of_lt_of_le (Nat.lt_succ_of_lt (Nat.lt_trans hlt hDlt)) this) (Nat.lt_irrefl _)
   ·
    exact f4 x c (hcl x c q.2)
  ·
   rcases List.mem_append.mp hp with z | z
   ·
    exact f5 p z
   ·
    rw [List.mem_singleton.mp z]
    intro e
    rw [<- (show D = b from e),hD] at hlt
    exact Nat.lt_irrefl _ hlt
 have loop : ∀ s₃ : Shared,s₃ = { s₂ with heap:=h₁ } -> codeAny (model X.prog X.w) X.A (.compLoop (.ListComp elt [⟨tg,iter,ifs,0⟩] scope pos) 0 (.ref it) (.ref D) (compEnvC scope (cellsFrom (C + 1) scope.names cl) C X.env)) (RR (.ref D) C) s₃:=by
  rintro s₃ rfl
  refine compLoop_gen (fun n s' => ∃ i ys its k σ' H',Inv (cxComp X N' scope (cellsFrom (C + 1) scope.names cl) pins s₂ H₂ C fp) [(D,{ cls:=.type "list",data:=.seq its.toArray k })] σ' H' s' /\ Vals ys its /\ tn i s'.heap /\ (∀ b ∈ fp,H' b = none) /\ W i n ys σ' H' /\ ys.length <= sizeLine) ?_ m0
   ⟨0,[],[],0,capS nt cap σ,H₂,inv_comp (tk:=s₂.toks) S I hcl hclh hf hfl hDlt hns₁ old (fun p hp => ?_) hcc0,.nil,hst₁,fun b hb => (hf b hb).1,w0,Nat.zero_le _⟩
  ·
   rintro n s3 ⟨i,ys,its,k,σ3,H3,I3,rv,st3,fr3,w3,hz⟩
   have pD:=I3.pin (D,{ cls:=.type "list",data:=.seq its.toArray k }) (List.mem_append_right _ (List.mem_singleton.mpr rfl))
   rcases turn i n ys σ3 H3 w3 with ⟨stop,hz',hfin⟩ | ⟨go,step⟩
   ·
    refine thn (T.done (cxComp X N' scope (cellsFrom (C + 1) scope.names cl) pins s₂ H₂ C fp) rfl rfl rfl hc i _ s3 σ3 H3 (fun _ _ => False) I3 (stat fr3) st3 stop) fun r s4 ⟨hr,I4⟩ => ?_
    subst hr
    obtain ⟨m4,hn4,_⟩:=I4.loc
    have pD4:=I4.pin (D,{ cls:=.type "list",data:=.seq its.toArray k }) (List.mem_append_right _ (List.mem_singleton.mpr rfl))
    refine hRR D C s4 m4 ys H3 hn4 (by rw [hD]; exact Nat.le_refl _) (Nat.le_of_lt hDlt) (Ne.symm hDC) pD4.2.1 I4.free hz' hfin fun h' k' => ?_
    have nD : ∀ b u,H3 b = some u -> b ≠ D:=fun b u e z => by rw [z,pD4.2.1] at e; cases e
    have nDs : ∀ b o,s₂.heap.get? b = some o -> b ≠ D /\ b ≠ C:=fun b o e => ⟨(below b o e).2,(below b o e).1⟩
    have B4:=I4.base
    refine I.call' (s':={ s4 with heap:=h' }) (ch:=fp) I4.os ⟨fun b o e n hb hx => k' b o (nDs b o e).2 (B4.keep b o e n hb hx),fun b o e n hb hx => ?_,fun b o e n hx => ?_,fun b o e hx => ?_,fun b xs e => ?_,fun b o u e => ?_,fun b ps e => ?_⟩ ?_ I4.bare fun b hb => ?_
    ·
     obtain ⟨sl,q⟩:=B4.slot b o e n hb hx
     exact ⟨sl,k' b _ (nDs b o e).2 q⟩
    ·
     rw [upd_ne (nDs b o e).1]; exact B4.free b o e n hx
    ·
     obtain ⟨o',q⟩:=B4.there b o e hx
     exact ⟨o',k' b _ (nDs b o e).2 q⟩
    ·
     have q:=B4.tups b xs e
     rw [upd_ne (nD _ _ q)]; exact q
    ·
     have q:=B4.frzs b o u e
     rw [upd_ne (nD _ _ q)]; exact q
    ·
     obtain ⟨more,q⟩:=B4.tbls b ps e
     exact ⟨more,by rw [upd_ne (nD _ _ q)]; exact q⟩
    ·
     exact I4.hok.track pD4.2.1 I4.free k' ⟨hz',its,k,rv,k' D _ hDC pD4.1⟩
    ·
     obtain ⟨f0,f1,f2,f3,f4,f5⟩:=hf b hb
     exact ⟨f3,f1,f4,f5⟩
   ·
    refine thn (T.item (cxComp X N' scope (cellsFrom (C + 1) scope.names cl) pins s₂ H₂ C fp) rfl rfl rfl hc i _ s3 σ3 H3 (fun _ _ => False) I3 (stat fr3) st3 go) fun r s4 ⟨u,hr,h4⟩ => ?_
    subst hr
    refine thn h4 fun _ s5 ⟨x,H5,I5,r5,y5,st5,fr5⟩ => ?_
    have I5':=I5.pinned (stat fr5) (T.obj _ _ st5)
    refine thn (hg _ s5 σ3 H5 x u _ I5' r5 (step x H5 y5)) fun _ s6 ⟨σ6,H6,I6,q6⟩ => ?_
    refine thn (hi _ s6 σ6 H6 _ I6 q6) fun ok s7 ⟨H7,I7,q7⟩ => ?_
    have back : ∀ {σ8 : St} {H8 : Hp} {s8 : Shared},Inv (cxComp X N' scope (cellsFrom (C + 1) scope.names cl) pins s₂ H₂ C fp) ([(D,{ cls:=.type "list",data:=.seq its.toArray k })] ++ pinsAt fp s5.heap) σ8 H8 s8 -> tn (i + 1) s8.heap /\ ∀ b ∈ fp,H8 b = none:=fun {σ8 H8 s8} I8 =>
     ⟨T.keep _ _ _ st5 fun b hb o e => (I8.pin (b,o) (List.mem_append_right _ (List.mem_append_right _ (mem_pinsAt hb e)))).1,fun b hb => by
      obtain ⟨o,e,d⟩:=T.obj _ _ st5 b hb
      exact (I8.pin (b,o) (List.mem_append_right _ (List.mem_append_right _ (mem_pinsAt hb e)))).2.1⟩
    cases ok with
    | false =>
     rw [if_neg Bool.false_ne_true] at q7 ⊢
     obtain ⟨m',hm,w7⟩:=q7
     exact ⟨m',hm,i + 1,ys,its,k,σ6,H7,I7.unpinned,rv,(back I7).1,(back I7).2,w7,hz⟩
    | true =>
     rw [if_pos rfl] at q7 ⊢
     refine thn (he _ s7 σ6 H7 _ I7 q7) fun uy s8 ⟨y,H8,I8,ry,hz8,m',hm,w8⟩ => ?_
     have pD8:=I8.pin (D,{ cls:=.type "list",data:=.seq its.toArray k }) (List.mem_append_right _ (List.mem_append_left _ (List.mem_singleton.mpr rfl)))
     have hl:=rv.length
     refine list_obj_append pD8.1 (by omega) fun h' k' e' kk => ?_
     have I9 : Inv (cxComp X N' scope (cellsFrom (C + 1) scope.names cl) pins s₂ H₂ C fp) [] σ6 H8 { s8 with heap:=h' }:=by
      refine Inv.turned (t':=s8.toks) (it:=D) (I8.pins_of (pins':=[]) (fun p hp => nomatch hp)) (fun b o hb e => kk b o hb e) pD8.2.1 pD8.2.2.1 (.inr (by show s₂.heap.objs.size <= D; rw [hD]; exact Nat.le_refl _)) (fun x c e z => ?_) (fun p hp z => ?_)
      ·
       rcases cells_either e with q | q
       ·
        have:=(hcc0.empty x c (PySem.mem_of_lookup q)).2
        rw [z,hCD] at this
        omega
       ·
        obtain ⟨v,q⟩:=I.cell x c (hcl x c q.2)
        have:=q.lt
        rw [z,hD] at this
        exact Nat.lt_irrefl _ this
      ·
       rw [List.append_nil] at hp
       have:=Heap.lt_size (I.pin p hp).1
       rw [z,hD] at this
       exact Nat.lt_irrefl _ this
     refine ⟨m',hm,i + 1,ys ++ [y],its ++ [uy],k',σ6,H8,I9.pins_of fun p hp => ?_,rv.append (.cons ry .nil),?_,(back I8).2,w8,?_⟩
     ·
      rw [List.mem_singleton.mp hp]
      exact ⟨e',pD8.2.1,pD8.2.2.1,pD8.2.2.2.1,fun v z => by cases z⟩
     ·
      refine T.keep _ _ _ (back I8).1 fun b hb o e => kk b o (fun z => ?_) e
      have:=hfl b hb
      rw [z,hD] at this
      exact Nat.lt_irrefl _ this
     ·
      rw [List.length_append,List.length_singleton]; omega
  ·
   rw [List.mem_singleton.mp hp]
   exact ⟨hacc,hD,fun v z => by cases z⟩
 exact codeAny_compStart_list (loop _ rfl) (T.self _ 0 _ _ _ hst₁ (loop _ rfl))
def tComp (wi : TI) (g : TG) (tt : TT) (te : TE) (nt : Nat) (cap : List Nat) : TE:=fun σ H Q => wi σ H fun J H1 => CompW J g tt te (fun ys H' => ∀ p,H' p = none -> Q (.ref p) (upd H' p (.lst ys))) (capS nt cap σ) H1
theorem pe_comp {X : Cx} {N' : List Str} {nt : Nat} {cap : List Nat} {scope : Scope} {elt tg iter : Expr} {ifs : List Expr} {pos : Pos} {wi : TI} {g : TG} {tt : TT} {te : TE} (hc : X.calm = true) (S : CompSc X N' nt cap scope) (hi : PI X tg iter wi)
  (hX : ∀ cl pins s H C fp,PG (cxComp X N' scope cl pins s H C fp) tg g /\ PIf (cxComp X N' scope cl pins s H C fp) ifs tt /\ PE (cxComp X N' scope cl pins s H C fp) elt te)
  (hs : ∀ x,foldedSetIterable iter X.env x = pure x:=by intro _; rfl) : PE X (.ListComp elt [⟨tg,iter,ifs,0⟩] scope pos) (tComp wi g tt te nt cap):=by
 intro pins s σ H Q I h
 rw [eval_ListComp]
 obtain ⟨cl,hclos,hcl,hclh⟩:=closure_ok (scope:=scope) (env:=X.env) fun y hy hf => I.ok.has y.1 (S.free y hy hf)
 refine wpAny_comprehension_free (use:=none) rfl hs hclos S.kind S.names (thn (hi pins s σ H _ I h) fun v s1 h1 => thn h1 fun itv s2 h2 => ?_)
 obtain ⟨it,fp,tn,J,H2,rfl,I2,T,st2,f2,hw⟩:=h2
 refine comp_run (RR:=fun acc C => compPost (model X.prog X.w) X.A X.xe none (EP X pins σ Q) acc C) hc S hcl hclh hX I2 T st2 f2 hw fun D C s4 m ys H' hn hD hC hDC nD nC hz hfin k => ?_
 refine ⟨m,hn,fun h' hs' => ?_⟩
 exact ⟨.ref D,_,k h' fun b o hb e => hs'.extBut b o hb e,rfl,hfin D nD⟩
def tSetComp (wi : TI) (g : TG) (tt : TT) (te : TE) (nt : Nat) (cap : List Nat) (i : Nat) : TS:=fun D σ H => wi σ H fun J H1 => CompW J g tt te (fun ys H' => ∀ p,H' p = none -> D.nx (σ.set i (some (.ref p))) (upd H' p (.lst ys))) (capS nt cap σ) H1
theorem ps_setC {X : Cx} {N' : List Str} {nt : Nat} {cap : List Nat} {scope : Scope} {elt tg iter : Expr} {ifs : List Expr} {pos pos' spos : Pos} {wi : TI} {g : TG} {tt : TT} {te : TE} {i : Nat} {x : Str} (hc : X.calm = true) (hN : X.N.Nodup) (hi' : X.N[i]? = some x) (hx : Loc X.env.scope x) (S : CompSc X N' nt cap scope) (hi : PI X tg iter wi)
  (hX : ∀ cl pins s H C fp,PG (cxComp X N' scope cl pins s H C fp) tg g /\ PIf (cxComp X N' scope cl pins s H C fp) ifs tt /\ PE (cxComp X N' scope cl pins s H C fp) elt te)
  (hsw : swapsWith (.ListComp elt [⟨tg,iter,ifs,0⟩] scope pos) (some (.Name x pos')) spos.line X.env = pure true:=by rfl)
  (hs : ∀ x,foldedSetIterable iter X.env x = pure x:=by intro _; rfl) (hf : X.fn x = true \/ X.env.scope.names.lookup x = some .local:=by first | exact .inl rfl | exact .inr rfl | assumption) :
  PS X (.Assign [.Name x pos'] (.ListComp elt [⟨tg,iter,ifs,0⟩] scope pos) spos) (tSetComp wi g tt te nt cap i):=by
 intro pins s σ H Dn I h
 rw [exec_Assign_Name_used _ _ _ _ hsw]
 obtain ⟨cl,hclos,hcl,hclh⟩:=closure_ok (scope:=scope) (env:=X.env) fun y hy hf => I.ok.has y.1 (S.free y hy hf)
 refine wpAny_bind (wpAny_standAt (wpAny_bind ?_))
 show wpAny _ X.A (do let _ <- comprehension (.ListComp elt [⟨tg,iter,ifs,0⟩] scope pos) scope X.env _ (newList []) false (eval iter X.env) (some (assign (.Name x pos') X.env))) _ _ s
 refine wpAny_bind (wpAny_mono (wpAny_comprehension_free (use:=some (assign (.Name x pos') X.env)) (Q:=fun _ s' => SP X pins Dn .next s') rfl hs hclos S.kind S.names
  (thn (hi pins s σ H _ I h) fun v s1 h1 => thn h1 fun itv s2 h2 => ?_)) (fun _ s' hq => wpAny_pure (wpAny_pure hq)) fun _ _ e => e)
 obtain ⟨it,fp,tn,J,H2,rfl,I2,T,st2,f2,hw⟩:=h2
 refine comp_run (RR:=fun acc C => compPost (model X.prog X.w) X.A X.xe (some (assign (.Name x pos') X.env)) (fun _ s' => SP X pins Dn .next s') acc C) hc S hcl hclh hX I2 T st2 f2 hw fun D C s4 m ys H' hn hD hC hDC nD nC hz hfin k => ?_
 show wpAny _ X.A (assign (.Name x pos') X.env (.ref D)) _ _ s4
 have I4:=k s4.heap fun b o _ e => e
 have nCL : C ≠ X.env.locals:=fun z => by have:=I2.lt; rw [<- z] at this; exact absurd this (Nat.not_lt.mpr hC)
 have nCc : ∀ y c,X.env.cells.lookup y = some c -> c ≠ C:=fun y c e z => by
  obtain ⟨v,q⟩:=I2.cell y c e
  have:=q.lt
  rw [z] at this
  exact absurd this (Nat.not_lt.mpr hC)
 refine wpAny_assign_Name (store_ok2 I4 hN hi' hx (show RelV (.ref D) (.ref D) from rfl) (fun s5 I5 ⟨a,sb,ha⟩ => ?_) hf)
 have nCa : C ≠ a:=by
  rcases ha with rfl | ha
  ·
   exact nCL
  ·
   exact fun z => nCc x a ha z.symm
 refine ⟨m,hn.sameBut sb nCa,fun h' hs' => ⟨_,_,Inv.turned (t':=s5.toks) (it:=C) I5 (fun b o hb e => hs'.extBut b o hb e) (by rw [upd_ne hDC]; exact nC) nCL (.inr (Nat.le_trans I2.sz hC)) nCc (fun p hp z => ?_),hfin D nD⟩⟩
 have:=Heap.lt_size (I2.pin p hp).1
 rw [z] at this
 exact absurd this (Nat.not_lt.mpr hC)
end L2
namespace L3
open PySem PySem.Spec PyProof.Rows L2
inductive T where
 | non | bl (b : Bool) | int (i : Int) | str (x : Str) | tup (ts : List T) | ref (a : Addr) | ty (n : String)
mutual
def Rep (K : PySem.W.Frag) (H : Hp) : T -> V -> Prop
 | .non,v => v = .non
 | .bl b,v => v = .bl b
 | .int i,v => v = .int i
 | .str x,v => v = .str x
 | .tup ts,v => ∃ a xs,v = .ref a /\ SqT K H a xs /\ Reps K H ts xs
 | .ref a,v => v = .ref a
 | .ty n,v => v = .ty n
def Reps (K : PySem.W.Frag) (H : Hp) : List T -> List V -> Prop
 | [],xs => xs = []
 | t :: ts,xs => ∃ x r,xs = x :: r /\ Rep K H t x /\ Reps K H ts r
end
def TupLe (K : PySem.W.Frag) (H H' : Hp) : Prop:=∀ a xs,SqT K H a xs -> SqT K H' a xs
theorem TupLe.refl {K : PySem.W.Frag} {H : Hp} : TupLe K H H:=fun _ _ h => h
theorem TupLe.trans {K : PySem.W.Frag} {H H1 H2 : Hp} (a : TupLe K H H1) (b : TupLe K H1 H2) : TupLe K H H2:=fun c xs h => b c xs (a c xs h)
mutual
theorem Rep.mono {K : PySem.W.Frag} {H H' : Hp} (le : TupLe K H H') : ∀ {t : T} {v : V},Rep K H t v -> Rep K H' t v
 | .non,_,h => by simp only [Rep] at h ⊢; exact h
 | .bl _,_,h => by simp only [Rep] at h ⊢; exact h
 | .int _,_,h => by simp only [Rep] at h ⊢; exact h
 | .str _,_,h => by simp only [Rep] at h ⊢; exact h
 | .ref _,_,h => by simp only [Rep] at h ⊢; exact h
 | .ty _,_,h => by simp only [Rep] at h ⊢; exact h
 | .tup ts,_,h => by
  simp only [Rep] at h ⊢
  obtain ⟨a,xs,e,s,r⟩:=h
  exact ⟨a,xs,e,le a xs s,Reps.mono le r⟩
theorem Reps.mono {K : PySem.W.Frag} {H H' : Hp} (le : TupLe K H H') : ∀ {ts : List T} {xs : List V},Reps K H ts xs -> Reps K H' ts xs
 | [],_,h => by simp only [Reps] at h ⊢; exact h
 | t :: ts,_,h => by
  simp only [Reps] at h ⊢
  obtain ⟨x,r,e,a,b⟩:=h
  exact ⟨x,r,e,Rep.mono le a,Reps.mono le b⟩
end
section
variable {K : PySem.W.Frag} {H : Hp}
theorem Reps.nil : Reps K H [] []:=by simp only [Reps]
theorem Reps.cons {t : T} {v : V} {ts : List T} {vs : List V} (a : Rep K H t v) (b : Reps K H ts vs) : Reps K H (t :: ts) (v :: vs):=by simp only [Reps]; exact ⟨v,vs,rfl,a,b⟩
theorem Reps.inv {t : T} {ts : List T} {vs : List V} (h : Reps K H (t :: ts) vs) : ∃ v r,vs = v :: r /\ Rep K H t v /\ Reps K H ts r:=by simp only [Reps] at h; exact h
theorem Reps.inv0 {vs : List V} (h : Reps K H [] vs) : vs = []:=by simp only [Reps] at h; exact h
theorem Reps.length : ∀ {ts : List T} {vs : List V},Reps K H ts vs -> ts.length = vs.length
 | [],_,h => by rw [h.inv0]; rfl
 | t :: ts,_,h => by obtain ⟨v,r,rfl,_,b⟩:=h.inv; simp [Reps.length b]
theorem Reps.get : ∀ {ts : List T} {vs : List V} {i : Nat} {t : T},Reps K H ts vs -> ts[i]? = some t -> ∃ v,vs[i]? = some v /\ Rep K H t v
 | [],_,_,_,_,e => by simp at e
 | a :: ts,_,0,t,h,e => by obtain ⟨v,r,rfl,q,_⟩:=h.inv; simp at e; subst e; exact ⟨v,rfl,q⟩
 | a :: ts,_,i + 1,t,h,e => by obtain ⟨v,r,rfl,_,b⟩:=h.inv; simpa using Reps.get b (by simpa using e)
theorem Reps.get' : ∀ {ts : List T} {vs : List V} {i : Nat} {v : V},Reps K H ts vs -> vs[i]? = some v -> ∃ t,ts[i]? = some t /\ Rep K H t v
 | [],_,_,_,h,e => by rw [h.inv0] at e; simp at e
 | a :: ts,_,0,v,h,e => by obtain ⟨x,r,rfl,q,_⟩:=h.inv; simp at e; subst e; exact ⟨a,rfl,q⟩
 | a :: ts,_,i + 1,v,h,e => by obtain ⟨x,r,rfl,_,b⟩:=h.inv; simpa using Reps.get' b (by simpa using e)
theorem Reps.append : ∀ {ts us : List T} {xs ys : List V},Reps K H ts xs -> Reps K H us ys -> Reps K H (ts ++ us) (xs ++ ys)
 | [],_,_,_,h,h' => by rw [h.inv0]; exact h'
 | t :: ts,_,_,_,h,h' => by obtain ⟨v,r,rfl,a,b⟩:=h.inv; exact .cons a (Reps.append b h')
theorem Reps.take : ∀ {ts : List T} {xs : List V} (n : Nat),Reps K H ts xs -> Reps K H (ts.take n) (xs.take n)
 | [],_,n,h => by rw [h.inv0]; simp only [List.take_nil]; exact .nil
 | t :: ts,_,0,h => .nil
 | t :: ts,_,n + 1,h => by obtain ⟨v,r,rfl,a,b⟩:=h.inv; exact .cons a (Reps.take n b)
theorem Reps.drop : ∀ {ts : List T} {xs : List V} (n : Nat),Reps K H ts xs -> Reps K H (ts.drop n) (xs.drop n)
 | [],_,n,h => by rw [h.inv0]; simp only [List.drop_nil]; exact .nil
 | t :: ts,_,0,h => h
 | t :: ts,_,n + 1,h => by obtain ⟨v,r,rfl,a,b⟩:=h.inv; exact Reps.drop n b
theorem Reps.set : ∀ {ts : List T} {xs : List V} {t : T} {v : V} (n : Nat),Reps K H ts xs -> Rep K H t v -> Reps K H (ts.set n t) (xs.set n v)
 | [],_,_,_,n,h,r => by rw [h.inv0]; exact .nil
 | t :: ts,_,_,_,0,h,q => by obtain ⟨v,r,rfl,a,b⟩:=h.inv; exact .cons q b
 | t :: ts,_,_,_,n + 1,h,q => by obtain ⟨v,r,rfl,a,b⟩:=h.inv; exact .cons a (Reps.set n b q)
theorem Reps.reverse {ts : List T} {xs : List V} (h : Reps K H ts xs) : Reps K H ts.reverse xs.reverse:=by
 induction ts generalizing xs with
 | nil => rw [h.inv0]; exact .nil
 | cons t ts ih => obtain ⟨v,r,rfl,a,b⟩:=h.inv; simp only [List.reverse_cons]; exact (ih b).append (.cons a .nil)
theorem Reps.eraseIdx : ∀ {ts : List T} {xs : List V} (n : Nat),Reps K H ts xs -> Reps K H (ts.eraseIdx n) (xs.eraseIdx n)
 | [],_,n,h => by rw [h.inv0]; exact .nil
 | t :: ts,_,0,h => by obtain ⟨v,r,rfl,a,b⟩:=h.inv; exact b
 | t :: ts,_,n + 1,h => by obtain ⟨v,r,rfl,a,b⟩:=h.inv; exact .cons a (Reps.eraseIdx n b)
theorem Rep.non {v : V} (h : Rep K H .non v) : v = .non:=by simp only [Rep] at h; exact h
theorem Rep.bl {b : Bool} {v : V} (h : Rep K H (.bl b) v) : v = .bl b:=by simp only [Rep] at h; exact h
theorem Rep.int {i : Int} {v : V} (h : Rep K H (.int i) v) : v = .int i:=by simp only [Rep] at h; exact h
theorem Rep.str {x : Str} {v : V} (h : Rep K H (.str x) v) : v = .str x:=by simp only [Rep] at h; exact h
theorem Rep.ref {a : Addr} {v : V} (h : Rep K H (.ref a) v) : v = .ref a:=by simp only [Rep] at h; exact h
theorem Rep.ty {n : String} {v : V} (h : Rep K H (.ty n) v) : v = .ty n:=by simp only [Rep] at h; exact h
theorem Rep.tup {ts : List T} {v : V} (h : Rep K H (.tup ts) v) : ∃ a xs,v = .ref a /\ SqT K H a xs /\ Reps K H ts xs:=by simp only [Rep] at h; exact h
theorem Rep.ofNon : Rep K H .non .non:=by simp only [Rep]
theorem Rep.ofBl {b : Bool} : Rep K H (.bl b) (.bl b):=by simp only [Rep]
theorem Rep.ofInt {i : Int} : Rep K H (.int i) (.int i):=by simp only [Rep]
theorem Rep.ofStr {x : Str} : Rep K H (.str x) (.str x):=by simp only [Rep]
theorem Rep.ofRef {a : Addr} : Rep K H (.ref a) (.ref a):=by simp only [Rep]
theorem Rep.ofTup {ts : List T} {a : Addr} {xs : List V} (h : SqT K H a xs) (r : Reps K H ts xs) : Rep K H (.tup ts) (.ref a):=by simp only [Rep]; exact ⟨a,xs,rfl,h,r⟩
end
inductive O3 where
 | lst (ts : List T) | rol (ts : List T) | dct (kvs : List (Str × T)) | dcp (kvs : List (List Key × T))
abbrev Hp3:=Addr -> Option O3
noncomputable def up3 (H : Hp3) (a : Addr) (o : O3) : Hp3:=fun b => if b = a then some o else H b
theorem up3_same {H : Hp3} {a : Addr} {o : O3} : up3 H a o a = some o:=by unfold up3; rw [if_pos rfl]
theorem up3_ne {H : Hp3} {a b : Addr} {o : O3} (h : b ≠ a) : up3 H a o b = H b:=by unfold up3; rw [if_neg h]
theorem up3_up3 {H : Hp3} {a : Addr} {o u : O3} : up3 (up3 H a o) a u = up3 H a u:=by funext b; unfold up3; split <;> rfl
def RepD (K : PySem.W.Frag) (H : Hp) : List (Str × T) -> List (Key × V) -> Prop:=Paired fun (p : Str × T) (q : Key × V) => q.1 = Sum.inr p.1 /\ Rep K H p.2 q.2
def RepP (K : PySem.W.Frag) (H : Hp) : List (List Key × T) -> List (List Key × V) -> Prop:=Paired fun (p : List Key × T) (q : List Key × V) => q.1 = p.1 /\ Rep K H p.2 q.2
def RepO (K : PySem.W.Frag) (H : Hp) (a : Addr) : O3 -> Prop
 | .lst ts => ∃ xs,H a = some (.lst xs) /\ Reps K H ts xs
 | .rol ts => ∃ xs,Rd H a (.lst xs) /\ Reps K H ts xs
 | .dct kvs => ∃ vs,H a = some (.dK vs) /\ RepD K H kvs vs
 | .dcp kvs => ∃ vs,H a = some (.dT vs) /\ RepP K H kvs vs
def SimH (K : PySem.W.Frag) (H3 : Hp3) (H : Hp) : Prop:=∀ a o,H3 a = some o -> RepO K H a o
abbrev St3:=List (Option T)
structure SimS (K : PySem.W.Frag) (H : Hp) (σ3 : St3) (σ : L2.St) : Prop where
 len : σ3.length = σ.length
 at' : ∀ (i : Nat) (t : T),σ3[i]? = some (some t) -> ∃ v,σ[i]? = some (some v) /\ Rep K H t v
section
variable {K : PySem.W.Frag} {H H' : Hp} {H3 : Hp3} {σ3 : St3} {σ : L2.St}
theorem SimS.mono (s : SimS K H σ3 σ) (le : TupLe K H H') : SimS K H' σ3 σ:=⟨s.len,fun i t e => let ⟨v,e',r⟩:=s.at' i t e; ⟨v,e',r.mono le⟩⟩
theorem SimS.set (s : SimS K H σ3 σ) {i : Nat} {t : T} {v : V} (r : Rep K H t v) : SimS K H (σ3.set i (some t)) (σ.set i (some v)):=by
 refine ⟨by simp [s.len],fun j u e => ?_⟩
 by_cases hj : i = j
 ·
  subst hj
  by_cases hl : i < σ3.length
  ·
   rw [List.getElem?_set_self hl] at e
   have e' : t = u:=Option.some.inj (Option.some.inj e)
   subst e'
   exact ⟨v,by rw [List.getElem?_set_self (by rw [<- s.len]; exact hl)],r⟩
  ·
   rw [List.getElem?_eq_none (by simpa using hl)] at e; cases e
 ·
  rw [List.getElem?_set_ne hj] at e
  rw [List.getElem?_set_ne hj]
  exact s.at' j u e
theorem RepD.mono {kvs : List (Str × T)} {vs : List (Key × V)} (h : RepD K H kvs vs) (le : TupLe K H H') : RepD K H' kvs vs:=Paired.mapP h fun _ _ ⟨a,b⟩ => ⟨a,b.mono le⟩
theorem RepP.mono {kvs : List (List Key × T)} {vs : List (List Key × V)} (h : RepP K H kvs vs) (le : TupLe K H H') : RepP K H' kvs vs:=Paired.mapP h fun _ _ ⟨a,b⟩ => ⟨a,b.mono le⟩
theorem ne3n {a b : Addr} {o : O3} (h : H3 a = some o) (h' : H3 b = none) : a ≠ b:=by
 intro e; subst e; rw [h] at h'; cases h'
theorem upd_tupLe {p : Addr} {o : HO} (hp : H p = none) : TupLe K H (upd H p o):=fun a xs h => by
 rcases h with (h | ⟨ob,h⟩) | h
 ·
  exact .inl (.inl (by rw [upd_ne (ne_of_none h hp)]; exact h))
 ·
  exact .inl (.inr ⟨ob,by rw [upd_ne (ne_of_none h hp)]; exact h⟩)
 ·
  exact .inr h
theorem wr_tupLe {p : Addr} {o : HO} (hp : Mut (H p)) : TupLe K H (upd H p o):=fun a xs h => by
 have key : ∀ u,H a = some u -> ¬ Mut (some u) -> a ≠ p:=fun u e nm z => by subst z; rw [e] at hp; exact nm hp
 rcases h with (h | ⟨ob,h⟩) | h
 ·
  exact .inl (.inl (by rw [upd_ne (key _ h fun z => z)]; exact h))
 ·
  exact .inl (.inr ⟨ob,by rw [upd_ne (key _ h fun z => z)]; exact h⟩)
 ·
  exact .inr h
theorem RepO.stay {a : Addr} {o : O3} (h : RepO K H a o) (le : TupLe K H H') (keep : ∀ u,H a = some u -> H' a = some u) : RepO K H' a o:=by
 cases o with
 | lst ts => obtain ⟨xs,e,r⟩:=h; exact ⟨xs,keep _ e,r.mono le⟩
 | rol ts =>
  obtain ⟨xs,e,r⟩:=h
  refine ⟨xs,?_,r.mono le⟩
  rcases e with e | ⟨ob,e⟩
  ·
   exact .inl (keep _ e)
  ·
   exact .inr ⟨ob,keep _ e⟩
 | dct kvs => obtain ⟨vs,e,r⟩:=h; exact ⟨vs,keep _ e,r.mono le⟩
 | dcp kvs => obtain ⟨vs,e,r⟩:=h; exact ⟨vs,keep _ e,r.mono le⟩
theorem SimH.new {p : Addr} {o : HO} (s : SimH K H3 H) (hp : H p = none) : SimH K H3 (upd H p o):=fun a u e =>
 (s a u e).stay (upd_tupLe hp) fun w q => by rw [upd_ne (ne_of_none q hp)]; exact q
theorem SimH.fresh {p : Addr} (s : SimH K H3 H) (hp : H p = none) : H3 p = none:=by
 cases e : H3 p with
 | none => rfl
 | some o =>
  have q:=s p o e
  cases o with
  | lst ts => obtain ⟨xs,z,_⟩:=q; rw [hp] at z; cases z
  | dct ts => obtain ⟨xs,z,_⟩:=q; rw [hp] at z; cases z
  | dcp ts => obtain ⟨xs,z,_⟩:=q; rw [hp] at z; cases z
  | rol ts =>
   obtain ⟨xs,z,_⟩:=q
   rcases z with z | ⟨ob,z⟩
   ·
    rw [hp] at z; cases z
   ·
    rw [hp] at z; cases z
end
abbrev VK3:=T -> Hp3 -> Prop
abbrev TE3:=St3 -> Hp3 -> VK3 -> Prop
abbrev TT3:=St3 -> Hp3 -> (Bool -> Hp3 -> Prop) -> Prop
abbrev TA3:=St3 -> Hp3 -> (List T -> Hp3 -> Prop) -> Prop
structure Ends3 where
 nx : St3 -> Hp3 -> Prop
 rt : VK3
 bk : St3 -> Hp3 -> Prop:=fun _ _ => False
 ct : St3 -> Hp3 -> Prop:=fun _ _ => False
abbrev TS3:=Ends3 -> St3 -> Hp3 -> Prop
abbrev TG3:=T -> St3 -> Hp3 -> (St3 -> Hp3 -> Prop) -> Prop
abbrev TGs3:=List T -> St3 -> Hp3 -> (St3 -> Hp3 -> Prop) -> Prop
abbrev R3:=T -> T -> Hp3 -> VK3 -> Prop
section
variable (K : PySem.W.Frag)
def KV3 (H : Hp) (Q3 : VK3) (Q : VK) : Prop:=∀ v H' t H3',TupLe K H H' -> SimH K H3' H' -> Rep K H' t v -> Q3 t H3' -> Q v H'
def KS3 (H : Hp) (N3 : St3 -> Hp3 -> Prop) (N : L2.St -> Hp -> Prop) : Prop:=∀ σ' H' σ3' H3',TupLe K H H' -> SimS K H' σ3' σ' -> SimH K H3' H' -> N3 σ3' H3' -> N σ' H'
def lft (t3 : TE3) : TE:=fun σ H Q => ∃ σ3 H3 Q3,SimS K H σ3 σ /\ SimH K H3 H /\ t3 σ3 H3 Q3 /\ KV3 K H Q3 Q
def lftT (t3 : TT3) : TT:=fun σ H Q => ∃ σ3 H3 Q3,SimS K H σ3 σ /\ SimH K H3 H /\ t3 σ3 H3 Q3 /\ ∀ b H' H3',TupLe K H H' -> SimH K H3' H' -> Q3 b H3' -> Q b H'
def lftA (t3 : TA3) : TA:=fun σ H Q => ∃ σ3 H3 Q3,SimS K H σ3 σ /\ SimH K H3 H /\ t3 σ3 H3 Q3 /\ ∀ vs H' ts H3',TupLe K H H' -> SimH K H3' H' -> Reps K H' ts vs -> Q3 ts H3' -> Q vs H'
def lftS (t3 : TS3) : TS:=fun D σ H => ∃ σ3 H3 D3,SimS K H σ3 σ /\ SimH K H3 H /\ t3 D3 σ3 H3 /\ KS3 K H D3.nx D.nx /\ KV3 K H D3.rt D.rt /\ KS3 K H D3.bk D.bk /\ KS3 K H D3.ct D.ct
def lftG (t3 : TG3) : TG:=fun v σ H Q => ∃ t σ3 H3 Q3,Rep K H t v /\ SimS K H σ3 σ /\ SimH K H3 H /\ t3 t σ3 H3 Q3 /\ KS3 K H Q3 Q
def lftGs (t3 : TGs3) : TGs:=fun vs σ H Q => ∃ ts σ3 H3 Q3,Reps K H ts vs /\ SimS K H σ3 σ /\ SimH K H3 H /\ t3 ts σ3 H3 Q3 /\ KS3 K H Q3 Q
def lftR (r3 : R3) : R2:=fun x y H Q => ∃ tx ty H3 Q3,Rep K H tx x /\ Rep K H ty y /\ SimH K H3 H /\ r3 tx ty H3 Q3 /\ KV3 K H Q3 Q
def lftC (r3 : List T -> Hp3 -> VK3 -> Prop) : List V -> Hp -> VK -> Prop:=fun xs H Q => ∃ ts H3 Q3,Reps K H ts xs /\ SimH K H3 H /\ r3 ts H3 Q3 /\ KV3 K H Q3 Q
def lftM (r3 : T -> List T -> Hp3 -> VK3 -> Prop) : V -> List V -> Hp -> VK -> Prop:=fun x xs H Q => ∃ tx ts H3 Q3,Rep K H tx x /\ Reps K H ts xs /\ SimH K H3 H /\ r3 tx ts H3 Q3 /\ KV3 K H Q3 Q
end
section
variable {K : PySem.W.Frag} {H H1 : Hp}
theorem KV3.at {Q3 : VK3} {Q : VK} (k : KV3 K H Q3 Q) (le : TupLe K H H1) : KV3 K H1 Q3 Q:=fun v H' t H3' l => k v H' t H3' (le.trans l)
theorem KS3.at {N3 : St3 -> Hp3 -> Prop} {N : L2.St -> Hp -> Prop} (k : KS3 K H N3 N) (le : TupLe K H H1) : KS3 K H1 N3 N:=fun a b c d l => k a b c d (le.trans l)
end
def PE3 (X : Cx) (e : Expr) (t : TE3) : Prop:=PE X e (lft X.K t)
def PT3 (X : Cx) (e : Expr) (t : TT3) : Prop:=PT X e (lftT X.K t)
def PW3 (X : Cx) (e : Expr) (t : TT3) : Prop:=PW X e (lftT X.K t)
def PA3 (X : Cx) (es : List Expr) (t : TA3) : Prop:=PA X es (lftA X.K t)
def PS3 (X : Cx) (st : Stmt) (t : TS3) : Prop:=PS X st (lftS X.K t)
def PSs3 (X : Cx) (st : List Stmt) (t : TS3) : Prop:=PSs X st (lftS X.K t)
def PG3 (X : Cx) (e : Expr) (t : TG3) : Prop:=PG X e (lftG X.K t)
def PGs3 (X : Cx) (es : List Expr) (t : TGs3) : Prop:=PGs X es (lftGs X.K t)
def OpR3 (X : Cx) (f : Value -> Value -> Sem Value) (r : R3) : Prop:=OpR X f (lftR X.K r)
def CallR3 (X : Cx) (f : Value) (r : List T -> Hp3 -> VK3 -> Prop) : Prop:=CallR X f (lftC X.K r)
def IxR3 (X : Cx) (r : R3) : Prop:=IxR X (lftR X.K r)
def MtR3 (X : Cx) (id : String) (r : T -> List T -> Hp3 -> VK3 -> Prop) : Prop:=MtR X id (lftM X.K r)
theorem PE.imp {X : Cx} {e : Expr} {t t' : TE} (h : PE X e t) (w : ∀ σ H Q,t' σ H Q -> t σ H Q) : PE X e t':=fun pins s σ H Q I q => h pins s σ H Q I (w σ H Q q)
theorem PT.imp {X : Cx} {e : Expr} {t t' : TT} (h : PT X e t) (w : ∀ σ H Q,t' σ H Q -> t σ H Q) : PT X e t':=fun pins s σ H Q I q => h pins s σ H Q I (w σ H Q q)
theorem PW.imp {X : Cx} {e : Expr} {t t' : TT} (h : PW X e t) (w : ∀ σ H Q,t' σ H Q -> t σ H Q) : PW X e t':=fun wh pins s σ H Q I q => h wh pins s σ H Q I (w σ H Q q)
theorem PA.imp {X : Cx} {es : List Expr} {t t' : TA} (h : PA X es t) (w : ∀ σ H Q,t' σ H Q -> t σ H Q) : PA X es t':=fun pos pins s σ H Q I q => h pos pins s σ H Q I (w σ H Q q)
theorem PS.imp {X : Cx} {e : Stmt} {t t' : TS} (h : PS X e t) (w : ∀ D σ H,t' D σ H -> t D σ H) : PS X e t':=fun pins s σ H D I q => h pins s σ H D I (w D σ H q)
theorem PSs.imp {X : Cx} {e : List Stmt} {t t' : TS} (h : PSs X e t) (w : ∀ D σ H,t' D σ H -> t D σ H) : PSs X e t':=fun pins s σ H D I q => h pins s σ H D I (w D σ H q)
theorem PG.imp {X : Cx} {e : Expr} {t t' : TG} (h : PG X e t) (w : ∀ v σ H Q,t' v σ H Q -> t v σ H Q) : PG X e t':=fun pins s σ H v u Q I r q => h pins s σ H v u Q I r (w v σ H Q q)
theorem PGs.imp {X : Cx} {e : List Expr} {t t' : TGs} (h : PGs X e t) (w : ∀ v σ H Q,t' v σ H Q -> t v σ H Q) : PGs X e t':=fun pins s σ H v u Q I r q => h pins s σ H v u Q I r (w v σ H Q q)
theorem OpR.imp {X : Cx} {f : Value -> Value -> Sem Value} {t t' : R2} (h : OpR X f t) (w : ∀ x y H Q,t' x y H Q -> t x y H Q) : OpR X f t':=fun pins s σ H x y v u Q I r1 r2 q => h pins s σ H x y v u Q I r1 r2 (w x y H Q q)
theorem CallR.imp {X : Cx} {f : Value} {t t' : List V -> Hp -> VK -> Prop} (h : CallR X f t) (w : ∀ x H Q,t' x H Q -> t x H Q) : CallR X f t':=fun pins s σ H x v Q I r1 q => h pins s σ H x v Q I r1 (w x H Q q)
theorem IxR.imp {X : Cx} {t t' : R2} (h : IxR X t) (w : ∀ x y H Q,t' x y H Q -> t x y H Q) : IxR X t':=fun a b pins s σ H x y v u Q I r1 r2 q => h a b pins s σ H x y v u Q I r1 r2 (w x y H Q q)
theorem MtR.imp {X : Cx} {id : String} {t t' : V -> List V -> Hp -> VK -> Prop} (h : MtR X id t) (w : ∀ x xs H Q,t' x xs H Q -> t x xs H Q) : MtR X id t':=fun pins s σ H x xs v us Q I r1 r2 q => h pins s σ H x xs v us Q I r1 r2 (w x xs H Q q)
section
variable {X : Cx} {pos : Pos}
def tVar3 (i : Nat) : TE3:=fun σ H Q => match σ[i]? with
 | some (some t) => Q t H
 | _ => False
def tC3 (t : T) : TE3:=fun _ H Q => Q t H
theorem v3 (i : Nat) {x : Str} {pos : Pos} (hN : X.N[i]? = some x:=by rfl) (hv : Vis X.env.scope x:=by first | exact Or.inl rfl | exact Or.inr (Or.inl rfl) | exact Or.inr (Or.inr rfl)) (hd : (x == ("__debug__" : Str)) = false:=by decide)
  (hcd : (x == ("__classdict__" : Str)) = false:=by decide) : PE3 X (.Name x pos) (tVar3 i):=by
 refine PE.imp (pv i hN hv hd hcd) ?_
 rintro σ H Q ⟨σ3,H3,Q3,ss,sh,h,k⟩
 unfold tVar3 at h
 split at h
 ·
  rename_i t e
  obtain ⟨v,e',r⟩:=ss.at' i t e
  exact ⟨v,e',k v H t H3 .refl sh r h⟩
 ·
  exact h.elim
theorem c3_int {i : Int} {j : Nat} : PE3 X (.Constant (.int i) j pos) (tC3 (.int i)):=by
 refine PE.imp pe_int ?_
 rintro σ H Q ⟨σ3,H3,Q3,ss,sh,h,k⟩
 exact k _ _ _ H3 .refl sh .ofInt h
theorem c3_bl {b : Bool} {j : Nat} : PE3 X (.Constant (.bool b) j pos) (tC3 (.bl b)):=by
 refine PE.imp pe_bl ?_
 rintro σ H Q ⟨σ3,H3,Q3,ss,sh,h,k⟩
 exact k _ _ _ H3 .refl sh .ofBl h
theorem c3_str {x : Str} {j : Nat} : PE3 X (.Constant (.str x) j pos) (tC3 (.str x)):=by
 refine PE.imp pe_str ?_
 rintro σ H Q ⟨σ3,H3,Q3,ss,sh,h,k⟩
 exact k _ _ _ H3 .refl sh .ofStr h
theorem g3 {x : Str} {t : T} {v : V} {u : Value} (hg : Gl X x) (hm : X.mg x = some u) (r : RelV v u) (rt : ∀ H,Rep X.K H t v) (hd : (x == ("__debug__" : Str)) = false:=by decide) : PE3 X (.Name x pos) (tC3 t):=by
 refine PE.imp (pe_glob hg hm r hd) ?_
 rintro σ H Q ⟨σ3,H3,Q3,ss,sh,h,k⟩
 exact k _ _ _ H3 .refl sh (rt H) h
end
section
variable {X : Cx} {a b c : Expr} {ta tb tc : TE3} {pos : Pos}
def tOp3 (r : R3) (ta tb : TE3) : TE3:=fun σ H Q => ta σ H fun x H1 => tb σ H1 fun y H2 => r x y H2 Q
theorem o3_refine {r : R3} {σ : L2.St} {H : Hp} {Q : VK} (h : lft X.K (tOp3 r ta tb) σ H Q) : tOp (lftR X.K r) (lft X.K ta) (lft X.K tb) σ H Q:=by
 obtain ⟨σ3,H3,Q3,ss,sh,h,k⟩:=h
 exact ⟨σ3,H3,_,ss,sh,h,fun x H1 tx H31 le1 sh1 rx q1 => ⟨σ3,H31,_,ss.mono le1,sh1,q1,fun y H2 ty H32 le2 sh2 ry q2 => ⟨tx,ty,H32,Q3,rx.mono le2,ry,sh2,q2,k.at (le1.trans le2)⟩⟩⟩
theorem e3_op {op : Operator} {r : R3} (ho : OpR3 X (binaryOp op) r) (ha : PE3 X a ta) (hb : PE3 X b tb) : PE3 X (.BinOp a op b pos) (tOp3 r ta tb):=PE.imp (pe_op ho ha hb) fun _ _ _ h => o3_refine h
theorem e3_cmp {op : CmpOp} {r : R3} (ho : OpR3 X (compareOp op) r) (ha : PE3 X a ta) (hb : PE3 X b tb) (hm : behindInMarks op b = false:=by first | exact nomark _ | rfl) : PE3 X (.Compare a [op] [b] pos) (tOp3 r ta tb):=PE.imp (pe_cmpR ho ha hb hm) fun _ _ _ h => o3_refine h
theorem e3_ix {r : R3} (hr : IxR3 X r) (ha : PE3 X a ta) (hb : PE3 X b tb) (hs : PlainIx b:=by exact fun _ _ => rfl) : PE3 X (.Subscript a b pos) (tOp3 r ta tb):=PE.imp (pe_ix hr ha hb hs) fun _ _ _ h => o3_refine h
def tTest3 (t : TE3) : TT3:=fun σ H Q => t σ H fun x H' => match x with
 | .bl k => Q k H'
 | _ => False
theorem t3_cmp {op : CmpOp} {r : R3} (ho : OpR3 X (compareOp op) r) (ha : PE3 X a ta) (hb : PE3 X b tb) (hm : behindInMarks op b = false:=by first | exact nomark _ | rfl) : PT3 X (.Compare a [op] [b] pos) (tTest3 (tOp3 r ta tb)):=by
 refine PT.imp (pt_cmpR ho ha hb hm) ?_
 rintro σ H Q ⟨σ3,H3,Q3,ss,sh,h,k⟩
 refine o3_refine (X:=X) ⟨σ3,H3,_,ss,sh,h,fun v H' t H3' le sh' r q => ?_⟩
 cases t with
 | bl b => exact ⟨b,r.bl,k b H' H3' le sh' q⟩
 | _ => exact q.elim
def tChain3 (r r' : R3) (ta tb tc : TE3) : TE3:=fun σ H Q => ta σ H fun x H1 => tb σ H1 fun y H2 => r x y H2 fun z H3 => match z with
 | .bl k => if k = true then tc σ H3 fun w H4 => r' y w H4 Q else Q (.bl false) H3
 | _ => False
end
end L3
namespace L3
open PySem PySem.Spec PyProof.Rows L2
section
variable {X : Cx} {a b c : Expr} {ta tb tc : TE3} {tA tB' : TT3} {pos : Pos} {rest : List Expr}
theorem t3_val (h : PE3 X a ta) (he : ∀ whole,isTrue a X.env whole = (do let v <- whole; standAt a.pos; holding [v] (truthy v)):=by intro _; rfl) : PT3 X a (tTest3 ta):=by
 refine PT.imp (pt_val h he) ?_
 rintro σ H Q ⟨σ3,H3,Q3,ss,sh,h,k⟩
 refine ⟨σ3,H3,_,ss,sh,h,fun v H' t H3' le sh' r q => ?_⟩
 cases t with
 | bl b => exact ⟨b,r.bl,k b H' H3' le sh' q⟩
 | _ => exact q.elim
def tAnd3 (t u : TT3) : TT3:=fun σ H Q => t σ H fun c H1 => if c = true then u σ H1 Q else Q false H1
def tOr3 (t u : TT3) : TT3:=fun σ H Q => t σ H fun c H1 => if c = true then Q true H1 else u σ H1 Q
def tNot3 (t : TT3) : TT3:=fun σ H Q => t σ H fun c H1 => Q (!c) H1
theorem PW3.pt (h : PW3 X a tA) : PT3 X a tA:=PW.pt h
theorem w3_and1 (ha : PT3 X a tA) : PW3 X (.BoolOp .And [a] pos) tA:=pw_and1 ha
theorem w3_or1 (ha : PT3 X a tA) : PW3 X (.BoolOp .Or [a] pos) tA:=pw_or1 ha
theorem w3_and (ha : PT3 X a tA) (hb : PW3 X (.BoolOp .And (b :: rest) pos) tB') : PW3 X (.BoolOp .And (a :: b :: rest) pos) (tAnd3 tA tB'):=by
 refine PW.imp (pw_and ha hb) ?_
 rintro σ H Q ⟨σ3,H3,Q3,ss,sh,h,k⟩
 refine ⟨σ3,H3,_,ss,sh,h,fun b H' H3' le sh' q => ?_⟩
 cases b with
 | true => exact ⟨σ3,H3',_,ss.mono le,sh',q,fun b H'' H3'' le' sh'' q' => k b H'' H3'' (le.trans le') sh'' q'⟩
 | false => exact k false H' H3' le sh' q
theorem w3_or (ha : PT3 X a tA) (hb : PW3 X (.BoolOp .Or (b :: rest) pos) tB') : PW3 X (.BoolOp .Or (a :: b :: rest) pos) (tOr3 tA tB'):=by
 refine PW.imp (pw_or ha hb) ?_
 rintro σ H Q ⟨σ3,H3,Q3,ss,sh,h,k⟩
 refine ⟨σ3,H3,_,ss,sh,h,fun b H' H3' le sh' q => ?_⟩
 cases b with
 | true => exact k true H' H3' le sh' q
 | false => exact ⟨σ3,H3',_,ss.mono le,sh',q,fun b H'' H3'' le' sh'' q' => k b H'' H3'' (le.trans le') sh'' q'⟩
theorem t3_not (ha : PT3 X a tA) : PT3 X (.UnaryOp .Not a pos) (tNot3 tA):=by
 refine PT.imp (pt_not ha) ?_
 rintro σ H Q ⟨σ3,H3,Q3,ss,sh,h,k⟩
 exact ⟨σ3,H3,_,ss,sh,h,fun b H' H3' le sh' q => k _ H' H3' le sh' q⟩
def tAndV3 (ta tb : TE3) : TE3:=fun σ H Q => ta σ H fun x H1 => match x with
 | .bl c => if c = true then tb σ H1 Q else Q (.bl false) H1
 | _ => False
def tOrV3 (ta tb : TE3) : TE3:=fun σ H Q => ta σ H fun x H1 => match x with
 | .bl c => if c = true then Q (.bl true) H1 else tb σ H1 Q
 | _ => False
def tNotV3 (ta : TE3) : TE3:=fun σ H Q => ta σ H fun x H1 => match x with
 | .bl c => Q (.bl (!c)) H1
 | _ => False
def tIf3 (t : TT3) (ta tb : TE3) : TE3:=fun σ H Q => t σ H fun c H1 => if c = true then ta σ H1 Q else tb σ H1 Q
end
section
variable {X : Cx} {e : Expr} {es : List Expr} {te : TE3} {t : TA3} {pos : Pos}
def tNil3 : TA3:=fun _ H Q => Q [] H
def tCons3 (ta : TE3) (tr : TA3) : TA3:=fun σ H Q => ta σ H fun x H1 => tr σ H1 fun xs H2 => Q (x :: xs) H2
theorem a3_nil : PA3 X [] tNil3:=by
 refine PA.imp pa_nil ?_
 rintro σ H Q ⟨σ3,H3,Q3,ss,sh,h,k⟩
 exact k _ _ _ _ .refl sh .nil h
theorem a3_cons (ha : PE3 X e te) (hr : PA3 X es t) (hs : starEach (e :: es) X.env = (false,eval e X.env) :: starEach es X.env:=by rfl) : PA3 X (e :: es) (tCons3 te t):=by
 refine PA.imp (pa_cons ha hr hs) ?_
 rintro σ H Q ⟨σ3,H3,Q3,ss,sh,h,k⟩
 exact ⟨σ3,H3,_,ss,sh,h,fun v H' t H3' le sh' r q => ⟨σ3,H3',_,ss.mono le,sh',q,fun vs H'' ts H3'' le' sh'' rs q' => k _ _ _ _ (le.trans le') sh'' (.cons (r.mono le') rs) q'⟩⟩
def tTup3 (t : TA3) : TE3:=fun σ H Q => t σ H fun xs H1 => xs.length <= sizeLine /\ Q (.tup xs) H1
def tLst3 (t : TA3) : TE3:=fun σ H Q => t σ H fun xs H1 => xs.length <= sizeLine /\ ∀ p,H1 p = none -> Q (.ref p) (up3 H1 p (.lst xs))
theorem SimH.newTup {K : PySem.W.Frag} {H : Hp} {H3 : Hp3} {ts : List T} {xs : List V} {p : Addr} (hp : H p = none) (r : Reps K H ts xs) : Rep K (upd H p (.tup xs)) (.tup ts) (.ref p) :=
 .ofTup (.of upd_same) (r.mono (upd_tupLe hp))
theorem SimH.newLst {K : PySem.W.Frag} {H : Hp} {H3 : Hp3} {ts : List T} {xs : List V} {p : Addr} (s : SimH K H3 H) (hp : H p = none) (r : Reps K H ts xs) : SimH K (up3 H3 p (.lst ts)) (upd H p (.lst xs)):=fun a o e => by
 by_cases ha : a = p
 ·
  subst ha
  rw [up3_same] at e; cases e
  exact ⟨xs,upd_same,r.mono (upd_tupLe hp)⟩
 ·
  rw [up3_ne ha] at e
  exact s.new hp a o e
theorem e3_tup {x1} (h : PA3 X es t) : PE3 X (.Tuple es x1 pos) (tTup3 t):=by
 refine PE.imp (pe_tup h) ?_
 rintro σ H Q ⟨σ3,H3,Q3,ss,sh,h,k⟩
 refine ⟨σ3,H3,_,ss,sh,h,fun vs H' ts H3' le sh' r q => ⟨by rw [<- r.length]; exact q.1,fun p hp => ?_⟩⟩
 exact k _ _ _ H3' (le.trans (upd_tupLe hp)) (sh'.new hp) (SimH.newTup (H3:=H3') hp r) q.2
theorem e3_lst (h : PA3 X es t) : PE3 X (.List es pos) (tLst3 t):=by
 refine PE.imp (pe_lst h) ?_
 rintro σ H Q ⟨σ3,H3,Q3,ss,sh,h,k⟩
 refine ⟨σ3,H3,_,ss,sh,h,fun vs H' ts H3' le sh' r q => ⟨by rw [<- r.length]; exact q.1,fun p hp => ?_⟩⟩
 exact k _ _ _ _ (le.trans (upd_tupLe hp)) (sh'.newLst hp r) .ofRef (q.2 p (sh'.fresh hp))
end
section
variable {X : Cx} {st : Stmt} {rest : List Stmt} {e c : Expr} {te : TE3} {tc : TT3} {t u : TS3} {pos : Pos}
def tNext3 : TS3:=fun D σ H => D.nx σ H
def tSeq3 (t u : TS3) : TS3:=fun D σ H => t { D with nx:=u D } σ H
theorem ss3_nil : PSs3 X [] tNext3:=by
 refine PSs.imp pss_nil ?_
 rintro D σ H ⟨σ3,H3,D3,ss,sh,h,k1,_⟩
 exact k1 _ _ _ _ .refl ss sh h
theorem ss3_cons (h1 : PS3 X st t) (h2 : PSs3 X rest u) : PSs3 X (st :: rest) (tSeq3 t u):=by
 refine PSs.imp (pss_cons h1 h2) ?_
 rintro D σ H ⟨σ3,H3,D3,ss,sh,h,k1,k2,k3,k4⟩
 exact ⟨σ3,H3,_,ss,sh,h,fun σ' H' σ3' H3' le ss' sh' q => ⟨σ3',H3',D3,ss',sh',q,k1.at le,k2.at le,k3.at le,k4.at le⟩,k2,k3,k4⟩
theorem ss3_one (h1 : PS3 X st t) : PSs3 X [st] t:=pss_one h1
def tDrop3 (te : TE3) : TS3:=fun D σ H => te σ H fun _ H1 => D.nx σ H1
theorem s3_expr (he : PE3 X e te) (hs : swapsWith e none pos.line X.env = pure false:=by rfl) : PS3 X (.Expr e pos) (tDrop3 te):=by
 refine PS.imp (ps_expr he hs) ?_
 rintro D σ H ⟨σ3,H3,D3,ss,sh,h,k1,_⟩
 exact ⟨σ3,H3,_,ss,sh,h,fun v H' t H3' le sh' r q => k1 _ _ _ _ le (ss.mono le) sh' q⟩
def tRet3 (te : TE3) : TS3:=fun D σ H => te σ H D.rt
theorem s3_ret (he : PE3 X e te) : PS3 X (.Return (some e) pos) (tRet3 te):=by
 refine PS.imp (ps_ret he) ?_
 rintro D σ H ⟨σ3,H3,D3,ss,sh,h,k1,k2,_⟩
 exact ⟨σ3,H3,_,ss,sh,h,k2⟩
def tRetN3 : TS3:=fun D _ H => D.rt .non H
def tIfS3 (c : TT3) (t u : TS3) : TS3:=fun D σ H => c σ H fun b H1 => if b = true then t D σ H1 else u D σ H1
theorem s3_if {a b : List Stmt} (hc : PT3 X c tc) (ha : PSs3 X a t) (hb : PSs3 X b u) : PS3 X (.If c a b pos) (tIfS3 tc t u):=by
 refine PS.imp (ps_if hc ha hb) ?_
 rintro D σ H ⟨σ3,H3,D3,ss,sh,h,k1,k2,k3,k4⟩
 refine ⟨σ3,H3,_,ss,sh,h,fun b H' H3' le sh' q => ?_⟩
 cases b with
 | true => exact ⟨σ3,H3',D3,ss.mono le,sh',q,k1.at le,k2.at le,k3.at le,k4.at le⟩
 | false => exact ⟨σ3,H3',D3,ss.mono le,sh',q,k1.at le,k2.at le,k3.at le,k4.at le⟩
def gName3 (i : Nat) : TG3:=fun v σ H Q => Q (σ.set i (some v)) H
theorem g3_name {i : Nat} {x : Str} (hN : X.N.Nodup) (hi : X.N[i]? = some x:=by rfl) (hx : Loc X.env.scope x:=by first | exact Or.inl rfl | exact Or.inr rfl) (hf : X.fn x = true \/ X.env.scope.names.lookup x = some .local:=by first | exact .inl rfl | exact .inr rfl | assumption) : PG3 X (.Name x pos) (gName3 i):=by
 refine PG.imp (pg_name hN hi hx hf) ?_
 rintro v σ H Q ⟨t,σ3,H3,Q3,r,ss,sh,h,k⟩
 exact k _ _ _ _ .refl (ss.set r) sh h
def gNil3 : TGs3:=fun ts σ H Q => match ts with
 | [] => Q σ H
 | _ => False
def gCons3 (t : TG3) (u : TGs3) : TGs3:=fun ts σ H Q => match ts with
 | x :: r => t x σ H fun σ' H' => u r σ' H' Q
 | [] => False
theorem gs3_nil : PGs3 X [] gNil3:=by
 refine PGs.imp pgs_nil ?_
 rintro vs σ H Q ⟨ts,σ3,H3,Q3,r,ss,sh,h,k⟩
 cases ts with
 | nil => exact ⟨r.inv0,k _ _ _ _ .refl ss sh h⟩
 | cons _ _ => exact h.elim
theorem gs3_cons {e : Expr} {es : List Expr} {t : TG3} {u : TGs3} (h1 : PG3 X e t) (h2 : PGs3 X es u)
  (hs : (assignEach (e :: es) X.env).map (·.2) = assign e X.env :: (assignEach es X.env).map (·.2):=by rfl) : PGs3 X (e :: es) (gCons3 t u):=by
 refine PGs.imp (pgs_cons h1 h2 hs) ?_
 rintro vs σ H Q ⟨ts,σ3,H3,Q3,r,ss,sh,h,k⟩
 cases ts with
 | nil => exact h.elim
 | cons x ts =>
  obtain ⟨v,vr,rfl,rv,rr⟩:=r.inv
  exact ⟨v,vr,rfl,x,σ3,H3,_,rv,ss,sh,h,fun σ' H' σ3' H3' le ss' sh' q => ⟨ts,σ3',H3',Q3,rr.mono le,ss',sh',q,k.at le⟩⟩
def gTup3 (n : Nat) (g : TGs3) : TG3:=fun t σ H Q => match t with
 | .tup ts => ts.length = n /\ g ts σ H Q
 | _ => False
theorem g3_tup {es : List Expr} {k : Nat} {t : TGs3} {n : Nat} (hc : X.calm = true) (h : PGs3 X es t)
  (hn : (assignEach es X.env).length = n:=by rfl) (hst : (assignEach es X.env).findIdx? (·.1) = none:=by rfl) : PG3 X (.Tuple es k pos) (gTup3 n t):=by
 refine PG.imp (pg_tup hc h hn hst) ?_
 rintro v σ H Q ⟨t,σ3,H3,Q3,r,ss,sh,h,k⟩
 cases t with
 | tup ts =>
  obtain ⟨a,xs,rfl,s,rs⟩:=r.tup
  exact ⟨a,xs,rfl,s,by rw [<- rs.length]; exact h.1,ts,σ3,H3,Q3,rs,ss,sh,h.2,k⟩
 | _ => exact h.elim
def tAsg3 (te : TE3) (g : TG3) : TS3:=fun D σ H => te σ H fun x H1 => g x σ H1 D.nx
theorem s3_asg {tg e : Expr} {te : TE3} {g : TG3} (he : PE3 X e te) (hg : PG3 X tg g) (hs : swapsWithSole [tg] e pos.line X.env = pure false:=by rfl) (hw : swappedStores [tg] e X.env = pure none:=by rfl)
  (h1 : (assignEach [tg] X.env).map (·.2) = [assign tg X.env]:=by rfl) : PS3 X (.Assign [tg] e pos) (tAsg3 te g):=by
 refine PS.imp (ps_asg he hg hs hw h1) ?_
 rintro D σ H ⟨σ3,H3,D3,ss,sh,h,k1,_⟩
 exact ⟨σ3,H3,_,ss,sh,h,fun v H' t H3' le sh' r q => ⟨t,σ3,H3',_,r,ss.mono le,sh',q,k1.at le⟩⟩
theorem s3_set {i : Nat} {x : Str} {e : Expr} {te : TE3} {pos' : Pos} (hN : X.N.Nodup) (he : PE3 X e te) (hi : X.N[i]? = some x:=by rfl) (hx : Loc X.env.scope x:=by first | exact Or.inl rfl | exact Or.inr rfl)
  (hs : swapsWith e (some (.Name x pos')) pos.line X.env = pure false:=by rfl) (hf : X.fn x = true \/ X.env.scope.names.lookup x = some .local:=by first | exact .inl rfl | exact .inr rfl | assumption) :
  PS3 X (.Assign [.Name x pos'] e pos) (tAsg3 te (gName3 i)):=by
 refine PS.imp (ps_set hN hi hx he hs hf) ?_
 rintro D σ H ⟨σ3,H3,D3,ss,sh,h,k1,_⟩
 exact ⟨σ3,H3,_,ss,sh,h,fun v H' t H3' le sh' r q => k1 _ _ _ _ le ((ss.mono le).set r) sh' q⟩
end
abbrev TSet3:=T -> T -> T -> Hp3 -> (Hp3 -> Prop) -> Prop
def lftSet (K : PySem.W.Frag) (t3 : TSet3) : TSet:=fun o i v H Q => ∃ to ti tv H3 Q3,Rep K H to o /\ Rep K H ti i /\ Rep K H tv v /\ SimH K H3 H /\ t3 to ti tv H3 Q3 /\ ∀ H' H3',TupLe K H H' -> SimH K H3' H' -> Q3 H3' -> Q H'
def PSet3 (X : Cx) (t : TSet3) : Prop:=PSet X (lftSet X.K t)
theorem PSet.imp {X : Cx} {t t' : TSet} (h : PSet X t) (w : ∀ o i v H Q,t' o i v H Q -> t o i v H Q) : PSet X t':=fun pins s σ H o i v ov iv u Q I r1 r2 r3 q => h pins s σ H o i v ov iv u Q I r1 r2 r3 (w o i v H Q q)
section
variable {X : Cx} {pos : Pos}
def gSub3 (to ti : TE3) (t : TSet3) : TG3:=fun v σ H Q => to σ H fun o H1 => ti σ H1 fun i H2 => t o i v H2 fun H3 => Q σ H3
theorem g3_sub {o i : Expr} {to ti : TE3} {t : TSet3} (ho : PE3 X o to) (hi : PE3 X i ti) (hs : PSet3 X t)
  (ha : ∀ v,assign (.Subscript o i pos) X.env v = (do
   let ov <- holding [v] (eval o X.env)
   let iv <- holding [v,ov] (eval i X.env)
   standAt pos
   holding [v,ov,iv] (setItem ov iv v)
   release [v,ov,iv] []):=by intro _; rfl) : PG3 X (.Subscript o i pos) (gSub3 to ti t):=by
 refine PG.imp (pg_sub ho hi hs ha) ?_
 rintro v σ H Q ⟨t,σ3,H3,Q3,r,ss,sh,h,k⟩
 exact ⟨σ3,H3,_,ss,sh,h,fun o H1 to H31 le1 sh1 ro q1 => ⟨σ3,H31,_,ss.mono le1,sh1,q1,fun i H2 ti H32 le2 sh2 ri q2 => ⟨to,ti,t,H32,_,ro.mono le2,ri,r.mono (le1.trans le2),sh2,q2,fun H' H3' le sh' q => k _ _ _ _ (le1.trans (le2.trans le)) (ss.mono (le1.trans (le2.trans le))) sh' q⟩⟩⟩
end
end L3
namespace L3
open PySem PySem.Spec PyProof.Rows L2
abbrev TI3:=St3 -> Hp3 -> (List T -> (Hp3 -> Prop) -> Hp3 -> Prop) -> Prop
def Walk3 (K : PySem.W.Frag) (J : It) (ts : List T) (still : Hp3 -> Prop) (H : Hp) : Prop:=∀ H' H3',TupLe K H H' -> SimH K H3' H' -> still H3' ->
 (∀ i,ts.length <= i -> J.stop i H') /\ ∀ i t,ts[i]? = some t -> J.go i H' /\ ∀ x H'',J.yld i H' x H'' -> TupLe K H' H'' /\ SimH K H3' H'' /\ Rep K H'' t x
def lftI (K : PySem.W.Frag) (t3 : TI3) : TI:=fun σ H R => ∃ σ3 H3 R3,SimS K H σ3 σ /\ SimH K H3 H /\ t3 σ3 H3 R3 /\ ∀ J ts still H' H3',TupLe K H H' -> SimH K H3' H' -> Walk3 K J ts still H' -> R3 ts still H3' -> R J H'
def PI3 (X : Cx) (tg iter : Expr) (t : TI3) : Prop:=PI X tg iter (lftI X.K t)
theorem PI.imp {X : Cx} {tg e : Expr} {t t' : TI} (h : PI X tg e t) (w : ∀ σ H R,t' σ H R -> t σ H R) : PI X tg e t':=fun pins s σ H R I q => h pins s σ H R I (w σ H R q)
def still0 : Hp3 -> Prop:=fun _ => True
def stillL (a : Addr) (ts : List T) : Hp3 -> Prop:=fun H => H a = some (.lst ts) \/ H a = some (.rol ts)
theorem SimH.sqL {K : PySem.W.Frag} {H : Hp} {H3 : Hp3} {a : Addr} {ts : List T} (s : SimH K H3 H) (h : stillL a ts H3) : ∃ xs,SqL K H a xs /\ Reps K H ts xs:=by
 rcases h with h | h
 ·
  obtain ⟨xs,e,r⟩:=s a _ h
  exact ⟨xs,.of e,r⟩
 ·
  obtain ⟨xs,e,r⟩:=s a _ h
  exact ⟨xs,.inl e,r⟩
section
variable {X : Cx} {tg l : Expr} {tl : TE3} {pos p : Pos}
def iList3 (tl : TE3) : TI3:=fun σ H R => tl σ H fun x H1 => match x with
 | .ref a => match H1 a with
  | some (.lst ts) => R ts (stillL a ts) H1
  | some (.rol ts) => R ts (stillL a ts) H1
  | _ => False
 | _ => False
theorem walk_list {K : PySem.W.Frag} {H : Hp} {a : Addr} {ts : List T} : Walk3 K (Itl K a) ts (stillL a ts) H:=fun H' H3' le sh st => by
 obtain ⟨xs,sq,rs⟩:=sh.sqL st
 have hl:=rs.length
 refine ⟨fun i hi => ⟨xs,sq,by omega⟩,fun i t e => ?_⟩
 obtain ⟨v,ev,rv⟩:=rs.get e
 refine ⟨⟨xs,v,sq,ev⟩,fun x H'' y => ?_⟩
 obtain ⟨e1,y⟩:=y
 subst e1
 have:=y xs sq
 rw [ev] at this; cases this
 exact ⟨.refl,sh,rv⟩
theorem i3_list (hl : PE3 X l tl) : PI3 X tg l (iList3 tl):=by
 refine PI.imp (pi_list hl) ?_
 rintro σ H R ⟨σ3,H3,R3,ss,sh,h,k⟩
 refine ⟨σ3,H3,_,ss,sh,h,fun v H' t H3' le sh' r q => ?_⟩
 cases t with
 | ref a =>
  have q' : (match H3' a with
   | some (.lst ts) => R3 ts (stillL a ts) H3'
   | some (.rol ts) => R3 ts (stillL a ts) H3'
   | _ => False):=q
  split at q'
  ·
   rename_i ts e
   obtain ⟨xs,sq,rs⟩:=sh'.sqL (.inl e)
   exact ⟨a,r.ref,⟨xs,sq⟩,k _ ts (stillL a ts) H' H3' le sh' walk_list q'⟩
  ·
   rename_i ts e
   obtain ⟨xs,sq,rs⟩:=sh'.sqL (.inr e)
   exact ⟨a,r.ref,⟨xs,sq⟩,k _ ts (stillL a ts) H' H3' le sh' walk_list q'⟩
  ·
   exact q'.elim
 | _ => exact q.elim
def iTup3 (tl : TE3) : TI3:=fun σ H R => tl σ H fun x H1 => match x with
 | .tup ts => R ts still0 H1
 | _ => False
theorem walk_tup {K : PySem.W.Frag} {H : Hp} {a : Addr} {ts : List T} {xs : List V} (sq : SqT K H a xs) (rs : Reps K H ts xs) : Walk3 K (Itt K a) ts still0 H:=fun H' H3' le sh st => by
 have hl:=rs.length
 refine ⟨fun i hi => ⟨xs,le _ _ sq,by omega⟩,fun i t e => ?_⟩
 obtain ⟨v,ev,rv⟩:=rs.get e
 refine ⟨⟨xs,v,le _ _ sq,ev⟩,fun x H'' y => ?_⟩
 obtain ⟨e1,y⟩:=y
 subst e1
 have:=y xs (le _ _ sq)
 rw [ev] at this; cases this
 exact ⟨.refl,sh,rv.mono le⟩
theorem i3_tup (hl : PE3 X l tl) : PI3 X tg l (iTup3 tl):=by
 refine PI.imp (pi_tup hl) ?_
 rintro σ H R ⟨σ3,H3,R3,ss,sh,h,k⟩
 refine ⟨σ3,H3,_,ss,sh,h,fun v H' t H3' le sh' r q => ?_⟩
 cases t with
 | tup ts =>
  obtain ⟨a,xs,e,sq,rs⟩:=r.tup
  exact ⟨a,e,⟨xs,sq⟩,k _ ts still0 H' H3' le sh' (walk_tup sq rs) q⟩
 | _ => exact q.elim
noncomputable def rng3 (lo : Int) (n : Nat) : List T:=(List.range n).map fun (i : Nat) => T.int (lo + i)
theorem walk_rng {K : PySem.W.Frag} {H : Hp} {lo : Int} {n : Nat} : Walk3 K (Itr lo n) (rng3 lo n) still0 H:=fun H' H3' le sh st => by
 refine ⟨fun i hi => by unfold rng3 at hi; simp at hi; exact hi,fun i t e => ?_⟩
 unfold rng3 at e
 rw [List.getElem?_map] at e
 by_cases hi : i < n
 ·
  rw [List.getElem?_range hi] at e
  cases e
  refine ⟨hi,fun x H'' y => ?_⟩
  obtain ⟨e1,e2⟩:=y
  subst e1; subst e2
  exact ⟨.refl,sh,.ofInt⟩
 ·
  rw [List.getElem?_eq_none (by simpa using hi)] at e; cases e
def iRng3 (ta : TA3) : TI3:=fun σ H R => ta σ H fun vs H1 => match vs with
 | [.int j] => -(2 ^ 62) <= j /\ j < 2 ^ 62 /\ R (rng3 0 j.toNat) still0 H1
 | [.int i,.int j] => (-(2 ^ 62) <= i /\ i < 2 ^ 62 /\ -(2 ^ 62) <= j /\ j < 2 ^ 62) /\ R (rng3 i (j - i).toNat) still0 H1
 | _ => False
theorem i3_range1 {a : Expr} {ta : TA3} (hg : Gl X "range") (hm : X.mg "range" = none) (ha : PA3 X [a] ta) (hs : starEach [a] X.env = [(false,eval a X.env)]:=by rfl) : PI3 X tg (.Call (.Name "range" p) [a] [] pos) (iRng3 (fun σ H Q => ta σ H fun vs H1 => vs.length = 1 /\ Q vs H1)):=by
 refine PI.imp (pi_range1 hg hm ha hs) ?_
 rintro σ H R ⟨σ3,H3,R3,ss,sh,h,k⟩
 refine ⟨σ3,H3,_,ss,sh,h,fun vs H' ts H3' le sh' r q => ?_⟩
 obtain ⟨hl,q⟩:=q
 cases ts with
 | nil => cases hl
 | cons t ts =>
  cases ts with
  | cons _ _ => simp at hl
  | nil =>
   cases t with
   | int j =>
    obtain ⟨v,_,rfl,rv,r0⟩:=r.inv
    rw [r0.inv0,rv.int]
    exact ⟨j,rfl,q.1,q.2.1,k _ _ _ H' H3' le sh' walk_rng q.2.2⟩
   | _ => exact q.elim
end
def iter3 (g : TG3) (tb : TS3) (D : Ends3) (still : Hp3 -> Prop) : List T -> St3 -> Hp3 -> Prop
 | [],σ,H => still H /\ D.nx σ H
 | t :: r,σ,H => still H /\ g t σ H fun σ2 H2 => tb { D with nx:=iter3 g tb D still r,ct:=iter3 g tb D still r,bk:=D.nx } σ2 H2
theorem iter3.st {g : TG3} {tb : TS3} {D : Ends3} {still : Hp3 -> Prop} {ts : List T} {σ : St3} {H : Hp3} (h : iter3 g tb D still ts σ H) : still H:=by
 cases ts with
 | nil => exact h.1
 | cons t r => exact h.1
def tFor3 (wi : TI3) (g : TG3) (tb : TS3) : TS3:=fun D σ H => wi σ H fun ts still H1 => iter3 g tb D still ts σ H1
section
variable {X : Cx} {tg iter : Expr} {pos : Pos}
theorem s3_for {body : List Stmt} {wi : TI3} {g : TG3} {tb : TS3} (hp : PassesOwn (model X.prog X.w) X.A X.env X.xe) (hc : X.calm = true) (hi : PI3 X tg iter wi) (hg : PG3 X tg g) (hb : PSs3 X body tb)
  (hs : ∀ x,foldedSetIterable iter X.env x = pure x:=by intro _; rfl) : PS3 X (.For tg iter body [] pos) (tFor3 wi g tb):=by
 refine PS.imp (ps_for hp hc hi hg hb hs) ?_
 rintro D σ H ⟨σ3,H3,D3,ss,sh,h,k1,k2,k3,k4⟩
 refine ⟨σ3,H3,_,ss,sh,h,fun J ts still H1 H31 le sh1 wk q => ?_⟩
 refine ⟨fun i m σ H => ∃ σ3 H3,TupLe X.K H1 H /\ SimS X.K H σ3 σ /\ SimH X.K H3 H /\ m = ts.length - i /\ i <= ts.length /\ iter3 g tb D3 still (ts.drop i) σ3 H3,⟨ts.length,σ3,H31,.refl,ss.mono le,sh1,rfl,Nat.zero_le _,by simpa using q⟩,?_⟩
 rintro i m σ H ⟨σ4,H4,le4,ss4,sh4,rfl,hi,it⟩
 have w:=wk H H4 le4 sh4 it.st
 by_cases hlt : i < ts.length
 ·
  have e:=List.getElem?_eq_getElem hlt
  have ed : ts.drop i = ts[i] :: ts.drop (i + 1):=List.drop_eq_getElem_cons hlt
  rw [ed] at it
  obtain ⟨st,it⟩:=it
  obtain ⟨go,yl⟩:=w.2 i _ e
  refine .inr ⟨go,fun σ' H' => ∃ σ3 H3,TupLe X.K H1 H' /\ SimS X.K H' σ3 σ' /\ SimH X.K H3 H' /\ iter3 g tb D3 still (ts.drop (i + 1)) σ3 H3,fun σ' H' ⟨s5,h5,a,b,c,d⟩ => ⟨ts.length - (i + 1),by omega,s5,h5,a,b,c,rfl,hlt,d⟩,fun x H' y => ?_⟩
  obtain ⟨le',sh',rx⟩:=yl x H' y
  refine ⟨ts[i],σ4,H4,_,rx,ss4.mono le',sh',it,fun σ2 H2 σ32 H32 le2 ss2 sh2 q2 => ?_⟩
  have all : TupLe X.K H1 H2:=le4.trans (le'.trans le2)
  have nx : ∀ (B : TupLe X.K H1 H2),KS3 X.K H2 (iter3 g tb D3 still (ts.drop (i + 1))) (fun σ' H' => ∃ σ3 H3,TupLe X.K H1 H' /\ SimS X.K H' σ3 σ' /\ SimH X.K H3 H' /\ iter3 g tb D3 still (ts.drop (i + 1)) σ3 H3) :=
   fun B σ' H' σ3' H3' l s h q => ⟨σ3',H3',B.trans l,s,h,q⟩
  exact ⟨σ32,H32,_,ss2,sh2,q2,nx all,k2.at (le.trans all),k1.at (le.trans all),nx all⟩
 ·
  have e : i = ts.length:=by omega
  subst e
  rw [List.drop_length] at it
  exact .inl ⟨w.1 _ (Nat.le_refl _),k1 _ _ _ _ (le.trans le4) ss4 sh4 it.2⟩
def tWhile3 (c : TT3) (tb : TS3) : TS3:=fun D σ H => ∃ W : Nat -> St3 -> Hp3 -> Prop,(∃ m,W m σ H) /\ ∀ m σ H,W m σ H ->
 c σ H fun b H1 => if b = true then tb { D with nx:=fun σ' H' => ∃ m',m' < m /\ W m' σ' H',ct:=fun σ' H' => ∃ m',m' < m /\ W m' σ' H',bk:=D.nx } σ H1 else D.nx σ H1
theorem s3_while {c : Expr} {body : List Stmt} {tc : TT3} {tb : TS3} (hp : PassesOwn (model X.prog X.w) X.A X.env X.xe) (hc : PT3 X c tc) (hb : PSs3 X body tb) : PS3 X (.While c body [] pos) (tWhile3 tc tb):=by
 refine PS.imp (ps_while hp hc hb) ?_
 rintro D σ H ⟨σ3,H3,D3,ss,sh,⟨W,⟨m0,w0⟩,turn⟩,k1,k2,k3,k4⟩
 refine ⟨fun m σ' H' => ∃ σ3 H3,TupLe X.K H H' /\ SimS X.K H' σ3 σ' /\ SimH X.K H3 H' /\ W m σ3 H3,⟨m0,σ3,H3,.refl,ss,sh,w0⟩,?_⟩
 rintro m σ1 H1 ⟨σ4,H4,le4,ss4,sh4,w4⟩
 refine ⟨σ4,H4,_,ss4,sh4,turn m σ4 H4 w4,fun b H2 H5 le5 sh5 q => ?_⟩
 cases b with
 | true =>
  rw [if_pos rfl] at q ⊢
  have nx : KS3 X.K H2 (fun σ' H' => ∃ m',m' < m /\ W m' σ' H') (fun σ' H' => ∃ m',m' < m /\ ∃ σ3 H3,TupLe X.K H H' /\ SimS X.K H' σ3 σ' /\ SimH X.K H3 H' /\ W m' σ3 H3) :=
   fun σ' H' σ3' H3' l s h ⟨m',hm,w⟩ => ⟨m',hm,σ3',H3',le4.trans (le5.trans l),s,h,w⟩
  exact ⟨_,fun σ' H' h => h,σ4,H5,_,ss4.mono le5,sh5,q,nx,k2.at (le4.trans le5),k1.at (le4.trans le5),nx⟩
 | false =>
  rw [if_neg Bool.false_ne_true] at q ⊢
  exact k1 _ _ _ _ (le4.trans le5) (ss4.mono le5) sh5 q
end
def PIf3 (X : Cx) (ifs : List Expr) (t : TT3) : Prop:=PIf X ifs (lftT X.K t)
def tYes3 : TT3:=fun _ H Q => Q true H
theorem if3_nil {X : Cx} : PIf3 X [] tYes3:=fun pins s σ H Q I ⟨σ3,H3,Q3,ss,sh,h,k⟩ => pif_nil pins s σ H Q I (k _ _ _ .refl sh h)
theorem if3_one {X : Cx} {c : Expr} {t : TT3} (h : PT3 X c t) : PIf3 X [c] t:=pif_one h
noncomputable def cap3 (nt : Nat) (cap : List Nat) (σ : St3) : St3:=List.replicate nt none ++ cap.map fun j => (σ[j]?).getD none
theorem cap_sim {K : PySem.W.Frag} {H : Hp} {σ3 : St3} {σ : L2.St} {nt : Nat} {cap : List Nat} (s : SimS K H σ3 σ) : SimS K H (cap3 nt cap σ3) (capS nt cap σ):=by
 refine ⟨by simp [cap3,capS],fun i t e => ?_⟩
 unfold cap3 at e
 unfold capS
 by_cases hi : i < nt
 ·
  rw [List.getElem?_append_left (by simpa using hi),List.getElem?_replicate] at e
  split at e <;> cases e
 ·
  rw [List.getElem?_append_right (by simpa using hi),List.getElem?_map] at e
  rw [List.getElem?_append_right (by simpa using hi),List.getElem?_map]
  simp only [List.length_replicate] at e ⊢
  cases q : cap[i - nt]? with
  | none => rw [q] at e; cases e
  | some j =>
   rw [q] at e
   have e' : (σ3[j]?).getD none = some t:=Option.some.inj e
   have e2 : σ3[j]? = some (some t):=by
    cases z : σ3[j]? with
    | none => rw [z] at e'; cases e'
    | some y => rw [z] at e'; exact congrArg some e'
   obtain ⟨v,ev,r⟩:=s.at' j t e2
   exact ⟨v,by simp [ev],r⟩
def cIter3 (g : TG3) (tt : TT3) (te : TE3) (still : Hp3 -> Prop) (fin : List T -> Hp3 -> Prop) : List T -> List T -> St3 -> Hp3 -> Prop
 | [],ys,σ,H => still H /\ ys.length <= sizeLine /\ fin ys H
 | t :: r,ys,σ,H => still H /\ g t σ H fun σ2 H2 => tt σ2 H2 fun b H3 => if b = true then te σ2 H3 fun y H4 => ys.length < sizeLine /\ cIter3 g tt te still fin r (ys ++ [y]) σ2 H4 else cIter3 g tt te still fin r ys σ2 H3
theorem cIter3.st {g : TG3} {tt : TT3} {te : TE3} {still : Hp3 -> Prop} {fin : List T -> Hp3 -> Prop} {ts ys : List T} {σ : St3} {H : Hp3} (h : cIter3 g tt te still fin ts ys σ H) : still H:=by
 cases ts with
 | nil => exact h.1
 | cons t r => exact h.1
theorem compW3 {K : PySem.W.Frag} {J : It} {g : TG3} {tt : TT3} {te : TE3} {still : Hp3 -> Prop} {fin3 : List T -> Hp3 -> Prop} {fin : List V -> Hp -> Prop} {ts : List T} {σ3 : St3} {σ : L2.St} {H1 : Hp} {H31 : Hp3}
  (wk : Walk3 K J ts still H1) (ss : SimS K H1 σ3 σ) (sh : SimH K H31 H1) (h : cIter3 g tt te still fin3 ts [] σ3 H31)
  (hf : ∀ ys us H' H3',TupLe K H1 H' -> SimH K H3' H' -> Reps K H' ys us -> fin3 ys H3' -> fin us H') : CompW J (lftG K g) (lftT K tt) (lft K te) fin σ H1:=by
 refine ⟨fun i m us σ H => ∃ σ3 H3 ys,TupLe K H1 H /\ SimS K H σ3 σ /\ SimH K H3 H /\ Reps K H ys us /\ m = ts.length - i /\ i <= ts.length /\ cIter3 g tt te still fin3 (ts.drop i) ys σ3 H3,⟨ts.length,σ3,H31,[],.refl,ss,sh,.nil,rfl,Nat.zero_le _,by simpa using h⟩,?_⟩
 rintro i m us σ H ⟨σ4,H4,ys,le4,ss4,sh4,ry,rfl,hi,it⟩
 have w:=wk H H4 le4 sh4 it.st
 by_cases hlt : i < ts.length
 ·
  have e:=List.getElem?_eq_getElem hlt
  have ed : ts.drop i = ts[i] :: ts.drop (i + 1):=List.drop_eq_getElem_cons hlt
  rw [ed] at it
  obtain ⟨st,it⟩:=it
  obtain ⟨go,yl⟩:=w.2 i _ e
  refine .inr ⟨go,fun x H' y => ?_⟩
  obtain ⟨le',sh',rx⟩:=yl x H' y
  refine ⟨ts[i],σ4,H4,_,rx,ss4.mono le',sh',it,fun σ2 H2 σ32 H32 le2 ss2 sh2 q2 => ?_⟩
  refine ⟨σ32,H32,_,ss2,sh2,q2,fun b H3 H33 le3 sh3 q3 => ?_⟩
  have all : TupLe K H H3:=le'.trans (le2.trans le3)
  cases b with
  | true =>
   rw [if_pos rfl] at q3
   refine iteT ?_
   refine ⟨σ32,H33,_,ss2.mono le3,sh3,q3,fun v H5 t H35 le5 sh5 rt q5 => ⟨by rw [<- ry.length]; exact q5.1,ts.length - (i + 1),by omega,σ32,H35,ys ++ [t],le4.trans (all.trans le5),ss2.mono (le3.trans le5),sh5,(ry.mono (all.trans le5)).append (.cons rt .nil),rfl,hlt,q5.2⟩⟩
  | false =>
   rw [if_neg Bool.false_ne_true] at q3
   refine iteF ?_
   exact ⟨ts.length - (i + 1),by omega,σ32,H33,ys,le4.trans all,ss2.mono le3,sh3,ry.mono all,rfl,hlt,q3⟩
 ·
  have e : i = ts.length:=by omega
  subst e
  rw [List.drop_length] at it
  exact .inl ⟨w.1 _ (Nat.le_refl _),by rw [<- ry.length]; exact it.2.1,hf _ _ _ _ le4 sh4 ry it.2.2⟩
def tComp3 (wi : TI3) (g : TG3) (tt : TT3) (te : TE3) (nt : Nat) (cap : List Nat) : TE3:=fun σ H Q => wi σ H fun ts still H1 => cIter3 g tt te still (fun ys H' => ∀ p,H' p = none -> Q (.ref p) (up3 H' p (.lst ys))) ts [] (cap3 nt cap σ) H1
def tSetComp3 (wi : TI3) (g : TG3) (tt : TT3) (te : TE3) (nt : Nat) (cap : List Nat) (i : Nat) : TS3:=fun D σ H => wi σ H fun ts still H1 => cIter3 g tt te still (fun ys H' => ∀ p,H' p = none -> D.nx (σ.set i (some (.ref p))) (up3 H' p (.lst ys))) ts [] (cap3 nt cap σ) H1
section
variable {X : Cx} {N' : List Str} {nt : Nat} {cap : List Nat} {scope : Scope} {elt tg iter : Expr} {ifs : List Expr} {pos pos' spos : Pos} {wi : TI3} {g : TG3} {tt : TT3} {te : TE3}
theorem e3_comp (hc : X.calm = true) (S : CompSc X N' nt cap scope) (hi : PI3 X tg iter wi)
  (hX : ∀ cl pins s H C fp,PG3 (cxComp X N' scope cl pins s H C fp) tg g /\ PIf3 (cxComp X N' scope cl pins s H C fp) ifs tt /\ PE3 (cxComp X N' scope cl pins s H C fp) elt te)
  (hs : ∀ x,foldedSetIterable iter X.env x = pure x:=by intro _; rfl) : PE3 X (.ListComp elt [⟨tg,iter,ifs,0⟩] scope pos) (tComp3 wi g tt te nt cap):=by
 refine PE.imp (pe_comp (g:=lftG X.K g) (tt:=lftT X.K tt) (te:=lft X.K te) hc S hi hX hs) ?_
 rintro σ H Q ⟨σ3,H3,Q3,ss,sh,h,k⟩
 refine ⟨σ3,H3,_,ss,sh,h,fun J ts still H1 H31 le sh1 wk q => ?_⟩
 exact compW3 wk (cap_sim (ss.mono le)) sh1 q fun ys us H' H3' le' sh' ry q' p hp => k _ _ _ _ (le.trans (le'.trans (upd_tupLe hp))) (sh'.newLst hp ry) .ofRef (q' p (sh'.fresh hp))
theorem s3_setC {i : Nat} {x : Str} (hc : X.calm = true) (hN : X.N.Nodup) (S : CompSc X N' nt cap scope) (hi : PI3 X tg iter wi)
  (hX : ∀ cl pins s H C fp,PG3 (cxComp X N' scope cl pins s H C fp) tg g /\ PIf3 (cxComp X N' scope cl pins s H C fp) ifs tt /\ PE3 (cxComp X N' scope cl pins s H C fp) elt te)
  (hi' : X.N[i]? = some x:=by rfl) (hx : Loc X.env.scope x:=by first | exact Or.inl rfl | exact Or.inr rfl)
  (hsw : swapsWith (.ListComp elt [⟨tg,iter,ifs,0⟩] scope pos) (some (.Name x pos')) spos.line X.env = pure true:=by rfl)
  (hs : ∀ x,foldedSetIterable iter X.env x = pure x:=by intro _; rfl) (hf : X.fn x = true \/ X.env.scope.names.lookup x = some .local:=by first | exact .inl rfl | exact .inr rfl | assumption) :
  PS3 X (.Assign [.Name x pos'] (.ListComp elt [⟨tg,iter,ifs,0⟩] scope pos) spos) (tSetComp3 wi g tt te nt cap i):=by
 refine PS.imp (ps_setC (g:=lftG X.K g) (tt:=lftT X.K tt) (te:=lft X.K te) hc hN hi' hx S hi hX hsw hs hf) ?_
 rintro D σ H ⟨σ3,H3,D3,ss,sh,h,k1,_⟩
 refine ⟨σ3,H3,_,ss,sh,h,fun J ts still H1 H31 le sh1 wk q => ?_⟩
 exact compW3 wk (cap_sim (ss.mono le)) sh1 q fun ys us H' H3' le' sh' ry q' p hp =>
  k1 _ _ _ _ (le.trans (le'.trans (upd_tupLe hp))) ((ss.mono (le.trans (le'.trans (upd_tupLe hp)))).set .ofRef) (sh'.newLst hp ry) (q' p (sh'.fresh hp))
end
abbrev Sp3:=List T -> Hp3 -> VK3 -> Prop
def lftSp (K : PySem.W.Frag) (sp : Sp3) : Sp:=fun vs H Q _ => ∃ ts H3 Q3,Reps K H ts vs /\ SimH K H3 H /\ sp ts H3 Q3 /\ KV3 K H Q3 Q
def Sub3 (H H' : Hp3) : Prop:=∀ a o,H a = some o -> H' a = some o
theorem Sub3.refl {H : Hp3} : Sub3 H H:=fun _ _ h => h
theorem Sub3.trans {H H1 H2 : Hp3} (a : Sub3 H H1) (b : Sub3 H1 H2) : Sub3 H H2:=fun c o h => b c o (a c o h)
theorem Sub3.new {H : Hp3} {p : Addr} {o : O3} (h : H p = none) : Sub3 H (up3 H p o):=fun a u e => by rw [up3_ne (ne3n e h)]; exact e
theorem SimH.sub {K : PySem.W.Frag} {H3 H3' : Hp3} {H : Hp} (s : SimH K H3' H) (h : Sub3 H3 H3') : SimH K H3 H:=fun a o e => s a o (h a o e)
def Fin3 (Q : VK3) : VK3:=fun v H => ∃ H',Sub3 H' H /\ Q v H'
theorem Fin3.of {Q : VK3} {v : T} {H H' : Hp3} (h : Sub3 H' H) (q : Q v H') : Fin3 Q v H:=⟨H',h,q⟩
noncomputable def start3 (N : List Str) (ts : List T) : St3:=ts.map some ++ List.replicate (N.length - ts.length) none
theorem start_sim {K : PySem.W.Frag} {H : Hp} {N : List Str} {ts : List T} {vs : List V} (r : Reps K H ts vs) : SimS K H (start3 N ts) (L2.start N vs):=by
 refine ⟨by simp [start3,L2.start,r.length],fun i t e => ?_⟩
 unfold start3 at e
 unfold L2.start
 have hl:=r.length
 by_cases hi : i < ts.length
 ·
  rw [List.getElem?_append_left (by simpa using hi),List.getElem?_map] at e
  rw [List.getElem?_append_left (by rw [List.length_map]; omega),List.getElem?_map]
  cases q : ts[i]? with
  | none => rw [q] at e; cases e
  | some u =>
   rw [q] at e; cases e
   obtain ⟨v,ev,rv⟩:=r.get q
   exact ⟨v,by rw [ev]; rfl,rv⟩
 ·
  rw [List.getElem?_append_right (by simpa using hi),List.getElem?_replicate] at e
  split at e <;> cases e
section
variable {X : Cx} {k : Nat} {f : Addr} {fd : FuncData} {ps : List Str} {sp : Sp3} {x : Str} {p pos : Pos} {e : Expr} {es : List Expr} {t : TA3}
def FnOk3 (P : Program) (w : World) (K : PySem.W.Frag) (mg : Str -> Option Value) (base : Heap) (k : Nat) (f : Addr) (fd : FuncData) (ps : List Str) (sp : Sp3) : Prop:=FnOk P w K mg base CX0 k f fd ps (lftSp K sp)
theorem FnOk3.mono {P : Program} {w : World} {K : PySem.W.Frag} {mg : Str -> Option Value} {base : Heap} {j k : Nat} (F : FnOk3 P w K mg base j f fd ps sp) (h : j <= k) : FnOk3 P w K mg base k f fd ps sp:=FnOk.mono F h
def tCall3 (sp : Sp3) (t : TA3) : TE3:=fun σ H Q => t σ H fun vs H1 => sp vs H1 Q
theorem e3_call (F : FnOk3 X.prog X.w X.K X.mg X.base k f fd ps sp) (hr : Room k X.A) (hg : Gl X x) (hm : X.mg x = some (.ref f)) (hk : PySem.W.keepIn X.K (.ref f) = true) (hb : Binds X.K fd ps [])
  (ha : PA3 X (e :: es) t) (hdb : (x == ("__debug__" : Str)) = false:=by decide) (he : starEach (e :: es) X.env = (false,eval e X.env) :: starEach es X.env:=by rfl) (hpl : (backTo pos (starEach es X.env)).any (·.1) = false:=by rfl) :
  PE3 X (.Call (.Name x p) (e :: es) [] pos) (tCall3 sp t):=by
 refine PE.imp (pe_call (dvs:=[]) (E:=E0) F hr hg hm hk hb .nil pass0 ha hdb he hpl) ?_
 rintro σ H Q ⟨σ3,H3,Q3,ss,sh,h,k⟩
 refine ⟨σ3,H3,_,ss,sh,h,fun vs H' ts H3' le sh' r q => ?_⟩
 show lftSp X.K sp (vs ++ []) H' Q E0
 rw [List.append_nil]
 exact ⟨ts,H3',Q3,r,sh',q,k.at le⟩
theorem fn3 {P : Program} {w : World} {K : PySem.W.Frag} {mg : Str -> Option Value} {base : Heap} {qual : Str} {st : Stmt} {N : List Str} (F : Fun K x qual st f fd) (S : FnScope N ps (defScope st)) (len : ∀ ts H Q,sp ts H Q -> ts.length = ps.length)
  (hbody : ∀ (cdv : Value) (A : Around) (outer : List Env) (s : Shared) (H : Hp) (E : XK) (ts : List T) (H3 : Hp3) (Q : VK3),Room k (A.deeper (envOfC qual (defScope st) s.heap.objs.size f cdv)) -> sp ts H3 Q ->
   ∃ t,PSs3 (cxOf CX0 P w K mg base N qual (defScope st) f cdv A outer s H E).nox (defBody st) t /\ t { nx:=fun _ H' => Fin3 Q .non H',rt:=Fin3 Q } (start3 N ts) H3) : FnOk3 P w K mg base (k + 1) f fd ps sp:=by
 refine F.ok S (fun vs H Q E ⟨ts,H3,Q3,r,sh,q,k⟩ => by rw [<- r.length]; exact len _ _ _ q) fun cdv A outer s H vs Q E hr ⟨ts,H3,Q3,r,sh,q,k⟩ => ?_
 obtain ⟨t,ht,hq⟩:=hbody cdv A outer s H E ts H3 Q3 hr q
 exact ⟨_,ht,start3 N ts,H3,_,start_sim r,sh,hq,fun σ' H' σ3' H3' le ss' sh' ⟨H4,sb,q⟩ => k _ _ _ _ le (sh'.sub sb) .ofNon q,fun v H' t H3' le sh' rv ⟨H4,sb,q⟩ => k _ _ _ _ le (sh'.sub sb) rv q,fun _ _ _ _ _ _ _ z => z,fun _ _ _ _ _ _ _ z => z⟩
end
end L3
namespace L3
open PySem PySem.Spec PyProof.Rows L2
noncomputable instance : DecidableEq T:=fun a b => Classical.propDecidable (a = b)
noncomputable def pl : Nat -> T -> Bool
 | _,.non => true
 | _,.int _ => true
 | _,.str _ => true
 | d + 1,.tup ts => ts.all (pl d)
 | _,_ => false
section
variable {X : Cx} {pins : List (Addr × Obj)} {σ : L2.St} {H : Hp} {s : Shared}
theorem rep_inj (I : Inv X pins σ H s) : ∀ (d : Nat) (x y : T) (v : V),pl d x = true -> pl d y = true -> Rep X.K H x v -> Rep X.K H y v -> x = y:=by
 intro d
 induction d with
 | zero =>
  intro x y v px py rx ry
  cases x <;> cases y <;> first
   | rfl
   | (simp only [Rep] at rx ry; subst rx; cases ry <;> rfl)
   | (simp [pl] at px; done)
   | (simp [pl] at py; done)
 | succ d ih =>
  intro x y v px py rx ry
  cases x with
  | tup ts =>
   cases y with
   | tup us =>
    obtain ⟨a,xs,rfl,sq,r⟩:=rx.tup
    obtain ⟨b,ys,e,sq',r'⟩:=ry.tup
    cases e
    have:=I.tuple_inj sq sq'
    subst this
    simp only [pl,List.all_eq_true] at px py
    congr 1
    have key : ∀ (ts us : List T) (xs : List V),(∀ t ∈ ts,pl d t = true) -> (∀ t ∈ us,pl d t = true) -> Reps X.K H ts xs -> Reps X.K H us xs -> ts = us:=by
     intro ts
     induction ts with
     | nil =>
      intro us xs _ _ h h'
      rw [h.inv0] at h'
      cases us with
      | nil => rfl
      | cons u us => obtain ⟨_,_,e,_⟩:=h'.inv; cases e
     | cons t ts ih2 =>
      intro us xs p1 p2 h h'
      obtain ⟨v,r,rfl,a,b⟩:=h.inv
      cases us with
      | nil => exact absurd h'.inv0 (by simp)
      | cons u us =>
       obtain ⟨v',r',e,a',b'⟩:=h'.inv
       cases e
       rw [ih t u v (p1 t List.mem_cons_self) (p2 u List.mem_cons_self) a a',ih2 us r (fun t ht => p1 t (List.mem_cons_of_mem _ ht)) (fun t ht => p2 t (List.mem_cons_of_mem _ ht)) b b']
    exact key ts us xs px py r r'
   | _ => first | (simp only [Rep] at rx ry; obtain ⟨a,xs,e,_⟩:=rx; subst e; cases ry; done) | (simp [pl] at py; done)
  | _ => cases y <;> first
   | rfl
   | (simp only [Rep] at rx ry; subst rx; cases ry <;> rfl)
   | (simp [pl] at px; done)
   | (simp [pl] at py; done)
   | (simp only [Rep] at rx ry; obtain ⟨a,xs,e,_⟩:=ry; subst e; cases rx; done)
theorem units_in1 (A : Around) : A.in1.units = A.units + 1:=by rfl
theorem all_eq_dec {α : Type} [DecidableEq (Option α)] (ts us : List α) : ((List.range (min ts.length us.length)).all (fun j => decide (ts[j]? = us[j]?)) && ts.length == us.length) = true ↔ ts = us:=by
 rw [Bool.and_eq_true,List.all_eq_true,beq_iff_eq]
 constructor
 ·
  rintro ⟨h,hl⟩
  refine List.ext_getElem? fun i => ?_
  by_cases hi : i < ts.length
  ·
   exact of_decide_eq_true (h i (List.mem_range.mpr (by omega)))
  ·
   rw [List.getElem?_eq_none (by omega),List.getElem?_eq_none (by omega)]
 ·
  rintro rfl
  exact ⟨fun i _ => by simp,rfl⟩
theorem vget {us : List Value} {i : Nat} (h : i < us.toArray.size) {v : Value} (e : us[i]? = some v) : us.toArray[i] = v:=by
 have : us.toArray[i]? = some v:=by simpa using e
 rw [Array.getElem?_eq_getElem h] at this
 exact Option.some.inj this
theorem eq_tree (I : Inv X pins σ H s) : ∀ (d : Nat) (A : Around) (x y : T) (vx vy : V) (u v : Value),pl d x = true -> pl d y = true -> Rep X.K H x vx -> Rep X.K H y vy -> RelV vx u -> RelV vy v -> A.units + d < cLine -> SeqAt.EqAt A s u v (decide (x = y)):=by
 have scal : ∀ (A : Around) (x y : T) (vx vy : V) (u v : Value),pl 0 x = true -> pl 0 y = true -> Rep X.K H x vx -> Rep X.K H y vy -> RelV vx u -> RelV vy v -> SeqAt.EqAt A s u v (decide (x = y)):=by
  intro A x y vx vy u v px py rx ry ru rv
  cases x with
  | non =>
   cases rx.non; cases ru
   cases y with
   | non => cases ry.non; cases rv; simp only [decide_true]; exact SeqAt.EqAt.same _
   | int j => cases ry.int; obtain ⟨t',rfl⟩:=rv; rw [decide_eq_false (by simp)]; exact SeqAt.EqAt.none_int _ _
   | str j => cases ry.str; obtain ⟨t',rfl⟩:=rv; rw [decide_eq_false (by simp)]; exact SeqAt.EqAt.none_str _ _
   | _ => simp [pl] at py
  | int i =>
   cases rx.int; obtain ⟨t,rfl⟩:=ru
   cases y with
   | non => cases ry.non; cases rv; rw [decide_eq_false (by simp)]; exact SeqAt.EqAt.int_none _ _
   | int j =>
    cases ry.int; obtain ⟨t',rfl⟩:=rv
    rw [show decide (T.int i = T.int j) = (i == j) by by_cases h : i = j <;> simp [h]]
    exact SeqAt.EqAt.int_int _ _ _ _
   | str j => cases ry.str; obtain ⟨t',rfl⟩:=rv; rw [decide_eq_false (by simp)]; exact SeqAt.EqAt.int_str _ _ _ _
   | _ => simp [pl] at py
  | str i =>
   cases rx.str; obtain ⟨t,rfl⟩:=ru
   cases y with
   | non => cases ry.non; cases rv; rw [decide_eq_false (by simp)]; exact SeqAt.EqAt.str_none _ _
   | int j => cases ry.int; obtain ⟨t',rfl⟩:=rv; rw [decide_eq_false (by simp)]; exact SeqAt.EqAt.str_int _ _ _ _
   | str j =>
    cases ry.str; obtain ⟨t',rfl⟩:=rv
    rw [show decide (T.str i = T.str j) = (i == j) by by_cases h : i = j <;> simp [h]]
    exact SeqAt.EqAt.str_str _ _ _ _
   | _ => simp [pl] at py
  | _ => simp [pl] at px
 intro d
 induction d with
 | zero => intro A x y vx vy u v px py rx ry ru rv _; exact scal A x y vx vy u v px py rx ry ru rv
 | succ d ih =>
  intro A x y vx vy u v px py rx ry ru rv hu
  have hu0 : A.units < cLine:=by omega
  cases x with
  | tup ts =>
   obtain ⟨a,xs,rfl,sq,r⟩:=rx.tup
   cases ru
   obtain ⟨its,rv1,ht,_⟩:=I.tuple sq
   cases y with
   | tup us =>
    obtain ⟨b,ys,rfl,sq',r'⟩:=ry.tup
    cases rv
    obtain ⟨its',rv2,ht',_⟩:=I.tuple sq'
    by_cases hab : a = b
    ·
     subst hab
     have e : T.tup ts = T.tup us:=rep_inj I (d + 1) _ _ (.ref a) px py (.ofTup sq r) (.ofTup sq' r')
     rw [e,decide_eq_true rfl]
     exact SeqAt.EqAt.same _
    ·
     have l1:=r.length
     have l2:=r'.length
     have l3:=rv1.length
     have l4:=rv2.length
     have key:=SeqAt.RcAt.tuples (A:=A) (s:=s) (e:=fun j => decide (ts[j]? = us[j]?)) (show s.heap.IsTuple a its.toArray from ht) (show s.heap.IsTuple b its'.toArray from ht') hu0 (fun j h1 h2 => by
      rw [List.size_toArray] at h1 h2
      have g1 : j < ts.length:=by omega
      have g2 : j < us.length:=by omega
      obtain ⟨p1,e1,q1⟩:=r.get (List.getElem?_eq_getElem g1)
      obtain ⟨p2,e2,q2⟩:=r'.get (List.getElem?_eq_getElem g2)
      obtain ⟨z1,f1,w1⟩:=rv1.get e1
      obtain ⟨z2,f2,w2⟩:=rv2.get e2
      rw [vget _ f1,vget _ f2,List.getElem?_eq_getElem g1,List.getElem?_eq_getElem g2]
      simp only [pl,List.all_eq_true] at px py
      have:=ih A.in1 ts[j] us[j] p1 p2 z1 z2 (px _ (List.getElem_mem g1)) (py _ (List.getElem_mem g2)) q1 q2 w1 w2 (by rw [units_in1]; omega)
      rw [show decide (some ts[j] = some us[j]) = decide (ts[j] = us[j]) by by_cases h : ts[j] = us[j] <;> simp [h]]
      exact this)
     have eb : ((List.range (min its.toArray.size its'.toArray.size)).all (fun j => decide (ts[j]? = us[j]?)) && its.toArray.size == its'.toArray.size) = decide (T.tup ts = T.tup us):=by
      rw [List.size_toArray,List.size_toArray,<- l3,<- l1,<- l4,<- l2,Bool.eq_iff_iff,all_eq_dec,decide_eq_true_iff]
      constructor
      ·
       rintro rfl; rfl
      ·
       intro h; injection h
     rw [eb] at key
     exact .of_refs hab key
   | non => cases ry.non; cases rv; rw [decide_eq_false (by simp)]; exact SeqAt.EqAt.tuple_none ht hu0
   | int j => cases ry.int; obtain ⟨t',rfl⟩:=rv; rw [decide_eq_false (by simp)]; exact SeqAt.EqAt.tuple_int _ _ ht hu0
   | str j => cases ry.str; obtain ⟨t',rfl⟩:=rv; rw [decide_eq_false (by simp)]; exact SeqAt.EqAt.tuple_str _ _ ht hu0
   | _ => simp [pl] at py
  | non =>
   cases y with
   | tup us =>
    obtain ⟨b,ys,rfl,sq',r'⟩:=ry.tup
    cases rv
    obtain ⟨its',rv2,ht',_⟩:=I.tuple sq'
    cases rx.non; cases ru; rw [decide_eq_false (by simp)]; exact SeqAt.EqAt.none_tuple ht' hu0
   | non => exact scal A _ _ vx vy u v rfl rfl rx ry ru rv
   | int j => exact scal A _ _ vx vy u v rfl rfl rx ry ru rv
   | str j => exact scal A _ _ vx vy u v rfl rfl rx ry ru rv
   | _ => simp [pl] at py
  | int i =>
   cases y with
   | tup us =>
    obtain ⟨b,ys,rfl,sq',r'⟩:=ry.tup
    cases rv
    obtain ⟨its',rv2,ht',_⟩:=I.tuple sq'
    cases rx.int; obtain ⟨t,rfl⟩:=ru; rw [decide_eq_false (by simp)]; exact SeqAt.EqAt.int_tuple _ _ ht' hu0
   | non => exact scal A _ _ vx vy u v rfl rfl rx ry ru rv
   | int j => exact scal A _ _ vx vy u v rfl rfl rx ry ru rv
   | str j => exact scal A _ _ vx vy u v rfl rfl rx ry ru rv
   | _ => simp [pl] at py
  | str i =>
   cases y with
   | tup us =>
    obtain ⟨b,ys,rfl,sq',r'⟩:=ry.tup
    cases rv
    obtain ⟨its',rv2,ht',_⟩:=I.tuple sq'
    cases rx.str; obtain ⟨t,rfl⟩:=ru; rw [decide_eq_false (by simp)]; exact SeqAt.EqAt.str_tuple _ _ ht' hu0
   | non => exact scal A _ _ vx vy u v rfl rfl rx ry ru rv
   | int j => exact scal A _ _ vx vy u v rfl rfl rx ry ru rv
   | str j => exact scal A _ _ vx vy u v rfl rfl rx ry ru rv
   | _ => simp [pl] at py
  | _ => simp [pl] at px
end
end L3
namespace L3
open PySem PySem.Spec PyProof.Rows L2
def rI3 (C : Int -> Int -> Prop) (g : Int -> Int -> T) : R3:=fun x y H Q => match x,y with
 | .int i,.int j => C i j /\ Q (g i j) H
 | _,_ => False
def rI03 (g : Int -> Int -> T) : R3:=fun x y H Q => match x,y with
 | .int i,.int j => Q (g i j) H
 | _,_ => False
section
variable {X : Cx}
theorem o3_I {f : Value -> Value -> Sem Value} {C : Int -> Int -> Prop} {g : Int -> Int -> T} {g' : Int -> Int -> V} (h : OpR X f (rI C g')) (hg : ∀ i j H,Rep X.K H (g i j) (g' i j)) : OpR3 X f (rI3 C g):=by
 refine OpR.imp h ?_
 rintro x y H Q ⟨tx,ty,H3,Q3,rx,ry,sh,h,k⟩
 cases tx with
 | int i =>
  cases ty with
  | int j => exact ⟨i,j,rx.int,ry.int,h.1,k _ _ _ _ .refl sh (hg i j H) h.2⟩
  | _ => exact h.elim
 | _ => exact h.elim
theorem o3_I0 {f : Value -> Value -> Sem Value} {g : Int -> Int -> T} {g' : Int -> Int -> V} (h : OpR X f (rI0 g')) (hg : ∀ i j H,Rep X.K H (g i j) (g' i j)) : OpR3 X f (rI03 g):=by
 refine OpR.imp h ?_
 rintro x y H Q ⟨tx,ty,H3,Q3,rx,ry,sh,h,k⟩
 cases tx with
 | int i =>
  cases ty with
  | int j => exact ⟨i,j,rx.int,ry.int,k _ _ _ _ .refl sh (hg i j H) h⟩
  | _ => exact h.elim
 | _ => exact h.elim
def CDiv3 (_ j : Int) : Prop:=0 < j /\ j.natAbs.log2 < 9000
theorem op_fdivL : OpR X (binaryOp .FloorDiv) (rI CDiv3 fun i j => .int (i / j)):=opI fun i j _ _ _ _ _ hc q => by
 have e : i / j = i.fdiv j:=(Int.fdiv_eq_ediv_of_nonneg i (Int.le_of_lt hc.1)).symm
 rw [e] at q
 exact floordiv_int (Int.ne_of_gt hc.1) q (.inl (PyProof.noPylong_of_log2 hc.2))
theorem o3_sub : OpR3 X (binaryOp .Sub) (rI03 fun i j => .int (i - j)):=o3_I0 op_sub fun _ _ _ => .ofInt
theorem o3_fdiv : OpR3 X (binaryOp .FloorDiv) (rI3 CDiv3 fun i j => .int (i / j)):=o3_I op_fdivL fun _ _ _ => .ofInt
theorem o3_mod : OpR3 X (binaryOp .Mod) (rI3 (fun _ j => 0 < j) fun i j => .int (i % j)):=o3_I op_mod fun _ _ _ => .ofInt
theorem o3_pow : OpR3 X (binaryOp .Pow) (rI3 CPow fun i j => .int (i ^ j.toNat)):=o3_I op_pow fun _ _ _ => .ofInt
theorem o3_lt : OpR3 X (compareOp .Lt) (rI03 fun i j => .bl (decide (i < j))):=o3_I0 op_lt fun _ _ _ => .ofBl
theorem o3_mul : OpR3 X (binaryOp .Mult) (rI3 CMul fun i j => .int (i * j)):=o3_I op_mul fun _ _ _ => .ofInt
def rAdd3 : R3:=fun x y H Q => match x,y with
 | .int i,.int j => Q (.int (i + j)) H
 | .str i,.str j => i.length + j.length <= sizeLine /\ Q (.str (i ++ j)) H
 | .ref a,.ref b => match H a,H b with
  | some (.lst xs),some (.lst ys) => xs.length + ys.length <= sizeLine /\ ∀ p,H p = none -> Q (.ref p) (up3 H p (.lst (xs ++ ys)))
  | _,_ => False
 | .tup xs,.tup ys => xs.length + ys.length <= sizeLine /\ Q (.tup (xs ++ ys)) H
 | _,_ => False
theorem op_catT0 : OpR X (binaryOp .Add) (fun x y H Q => ∃ a b ys,x = .ref a /\ y = .ref b /\ SqT X.K H a [] /\ SqT X.K H b ys /\ Q (.ref b) H):=by
 intro pins s σ H x y v u Q I rx ry h
 obtain ⟨a,b,ys,rfl,rfl,ha,hb,q⟩:=h
 cases rx
 cases ry
 obtain ⟨its,r1,p1,_⟩:=I.tuple ha
 obtain ⟨its2,r2,p2,_⟩:=I.tuple hb
 cases r1
 obtain ⟨⟨cls,dd,data,sl⟩,ho,hc,n,hd⟩:=id p1
 obtain ⟨⟨cls2,dd2,data2,sl2⟩,ho2,hc2,n2,hd2⟩:=id p2
 simp only at hc hd hc2 hd2
 subst hc hd hc2 hd2
 exact concat_meets ⟨_,ho,rfl⟩ ⟨_,ho2,rfl⟩ noFill_tuple_add seq_tuple_add PySem.F.slot_tuple_add PySem.F.entry_tuple_add (PySem.F.args_tuple_add_2 _ _)
   (tuple_addW0 a b _ its2.toArray n n2 dd dd2 sl sl2 (by simp)) ⟨ho,ho2,⟨.ref b,H,I,rfl,q⟩⟩
theorem o3_add : OpR3 X (binaryOp .Add) rAdd3:=by
 refine OpR.imp (op_add.or (op_add_str.or (op_cat.or (op_catT.or op_catT0)))) ?_
 rintro x y H Q ⟨tx,ty,H3,Q3,rx,ry,sh,h,k⟩
 cases tx with
 | int i =>
  cases ty with
  | int j => exact .inl ⟨i,j,rx.int,ry.int,k _ _ _ _ .refl sh .ofInt h⟩
  | _ => exact h.elim
 | str i =>
  cases ty with
  | str j => exact .inr (.inl ⟨i,j,rx.str,ry.str,h.1,k _ _ _ _ .refl sh .ofStr h.2⟩)
  | _ => exact h.elim
 | ref a =>
  cases ty with
  | ref b =>
   have h' : (match H3 a,H3 b with
    | some (.lst xs),some (.lst ys) => xs.length + ys.length <= sizeLine /\ ∀ p,H3 p = none -> Q3 (.ref p) (up3 H3 p (.lst (xs ++ ys)))
    | _,_ => False):=h
   split at h'
   ·
    rename_i xs ys e1 e2
    obtain ⟨vs,g1,r1⟩:=sh a _ e1
    obtain ⟨ws,g2,r2⟩:=sh b _ e2
    refine .inr (.inr (.inl ⟨a,b,vs,ws,rx.ref,ry.ref,g1,g2,by rw [<- r1.length,<- r2.length]; exact h'.1,fun p hp => ?_⟩))
    exact k _ _ _ _ (upd_tupLe hp) (sh.newLst hp (r1.append r2)) .ofRef (h'.2 p (sh.fresh hp))
   ·
    exact h'.elim
  | _ => exact h.elim
 | tup xs =>
  cases ty with
  | tup ys =>
   obtain ⟨a,vs,rfl,s1,r1⟩:=rx.tup
   obtain ⟨b,ws,rfl,s2,r2⟩:=ry.tup
   by_cases hv : vs = []
   ·
    subst hv
    have e0 : xs = []:=List.eq_nil_of_length_eq_zero r1.length
    subst e0
    exact .inr (.inr (.inr (.inr ⟨a,b,ws,rfl,rfl,s1,s2,k _ _ _ _ .refl sh (.ofTup s2 r2) h.2⟩)))
   refine .inr (.inr (.inr (.inl ⟨a,b,vs,ws,rfl,rfl,s1,s2,hv,by rw [<- r1.length,<- r2.length]; exact h.1,fun hw => ?_,fun hw p hp => ?_⟩)))
   ·
    have e : ys = []:=by have:=r2.length; rw [hw] at this; exact List.eq_nil_of_length_eq_zero this
    have q:=h.2
    rw [e,List.append_nil] at q
    exact k _ _ _ _ .refl sh (.ofTup s1 r1) q
   ·
    exact k _ _ _ _ (upd_tupLe hp) (sh.new hp) (SimH.newTup (H3:=H3) hp (r1.append r2)) h.2
  | _ => exact h.elim
 | _ => exact h.elim
end
section
variable {X : Cx} {pins : List (Addr × Obj)} {σ : L2.St} {H : Hp} {s : Shared}
def r3Eq (neg : Bool) : R3:=fun x y H Q => match x,y with
 | .int i,.int j => Q (.bl (if neg then !decide (i = j) else decide (i = j))) H
 | .str i,.str j => Q (.bl (if neg then !decide (i = j) else decide (i = j))) H
 | .bl i,.bl j => Q (.bl (if neg then !decide (i = j) else decide (i = j))) H
 | .non,.non => Q (.bl (if neg then false else true)) H
 | .tup xs,.tup ys => xs.all (pl 20) = true /\ ys.all (pl 20) = true /\ Q (.bl (if neg then !decide (xs = ys) else decide (xs = ys))) H
 | .ref a,.ref b => match H a,H b with
  | some (.lst xs),some (.lst ys) => a ≠ b /\ xs.all (pl 20) = true /\ ys.all (pl 20) = true /\ Q (.bl (if neg then !decide (xs = ys) else decide (xs = ys))) H
  | _,_ => False
 | _,_ => False
theorem items_eq (I : Inv X pins σ H s) {ts us : List T} {xs ys : List V} {its its' : List Value} {A : Around} (hu : A.units + 30 < cLine) (px : ts.all (pl 20) = true) (py : us.all (pl 20) = true) (r : Reps X.K H ts xs) (r' : Reps X.K H us ys) (rv1 : Vals xs its) (rv2 : Vals ys its') :
  ∀ j (h1 : j < its.toArray.size) (h2 : j < its'.toArray.size),SeqAt.EqAt A.in1 s its.toArray[j] its'.toArray[j] (decide (ts[j]? = us[j]?)):=fun j h1 h2 => by
 have l1:=r.length
 have l2:=r'.length
 have l3:=rv1.length
 have l4:=rv2.length
 rw [List.size_toArray] at h1 h2
 have g1 : j < ts.length:=by omega
 have g2 : j < us.length:=by omega
 obtain ⟨p1,e1,q1⟩:=r.get (List.getElem?_eq_getElem g1)
 obtain ⟨p2,e2,q2⟩:=r'.get (List.getElem?_eq_getElem g2)
 obtain ⟨z1,f1,w1⟩:=rv1.get e1
 obtain ⟨z2,f2,w2⟩:=rv2.get e2
 rw [vget _ f1,vget _ f2,List.getElem?_eq_getElem g1,List.getElem?_eq_getElem g2]
 rw [List.all_eq_true] at px py
 have:=eq_tree I 20 A.in1 ts[j] us[j] p1 p2 z1 z2 (px _ (List.getElem_mem g1)) (py _ (List.getElem_mem g2)) q1 q2 w1 w2 (by rw [units_in1]; omega)
 rw [show decide (some ts[j] = some us[j]) = decide (ts[j] = us[j]) by by_cases h : ts[j] = us[j] <;> simp [h]]
 exact this
theorem rows_dec {ts us : List T} : ((List.range (min ts.length us.length)).all (fun j => decide (ts[j]? = us[j]?)) && ts.length == us.length) = decide (ts = us):=by
 rw [Bool.eq_iff_iff,all_eq_dec,decide_eq_true_iff]
theorem o3_eq (hu : X.A.units + 30 < cLine) : OpR3 X (compareOp .Eq) (r3Eq false):=by
 intro pins s σ H x y v u Q I rv ru h
 obtain ⟨tx,ty,H3,Q3,rx,ry,sh,h,k⟩:=h
 have sc : ∀ {x y : V},scal x y = true -> RelV x v -> RelV y u -> (k : Q (.bl (decide (x = y))) H) -> wpAny (model X.prog X.w) X.A (compareOp .Eq v u) (EP X pins σ Q) X.xe s:=fun {x y} a r1 r2 q => op_eq pins s σ H x y v u Q I r1 r2 ⟨a,q⟩
 cases tx with
 | int i =>
  cases ty with
  | int j =>
   rw [rx.int] at rv; rw [ry.int] at ru
   exact sc rfl rv ru (k _ _ _ _ .refl sh (by rw [show decide (V.int i = V.int j) = decide (i = j) by by_cases e : i = j <;> simp [e]]; exact .ofBl) h)
  | _ => exact h.elim
 | str i =>
  cases ty with
  | str j =>
   rw [rx.str] at rv; rw [ry.str] at ru
   exact sc rfl rv ru (k _ _ _ _ .refl sh (by rw [show decide (V.str i = V.str j) = decide (i = j) by by_cases e : i = j <;> simp [e]]; exact .ofBl) h)
  | _ => exact h.elim
 | bl i =>
  cases ty with
  | bl j =>
   rw [rx.bl] at rv; rw [ry.bl] at ru
   exact sc rfl rv ru (k _ _ _ _ .refl sh (by rw [show decide (V.bl i = V.bl j) = decide (i = j) by by_cases e : i = j <;> simp [e]]; exact .ofBl) h)
  | _ => exact h.elim
 | non =>
  cases ty with
  | non =>
   rw [rx.non] at rv; rw [ry.non] at ru
   exact sc rfl rv ru (k _ _ _ _ .refl sh (by rw [show decide (V.non = V.non) = true by simp]; exact .ofBl) h)
  | _ => exact h.elim
 | tup ts =>
  cases ty with
  | tup us =>
   obtain ⟨a,xs,rfl,sq,r⟩:=rx.tup
   obtain ⟨b,ys,rfl,sq',r'⟩:=ry.tup
   cases rv; cases ru
   obtain ⟨its,rv1,ht,_⟩:=I.tuple sq
   obtain ⟨its',rv2,ht',_⟩:=I.tuple sq'
   refine SeqAt.eq_tupleAt (e:=fun j => decide (ts[j]? = us[j]?)) ht ht' (by omega) (items_eq I hu h.1 h.2.1 r r' rv1 rv2) ⟨.bl _,H,I,rfl,?_⟩
   rw [List.size_toArray,List.size_toArray,<- rv1.length,<- rv2.length,<- r.length,<- r'.length,rows_dec]
   exact k _ _ _ _ .refl sh .ofBl h.2.2
  | _ => exact h.elim
 | ref a =>
  cases ty with
  | ref b =>
   have h' : (match H3 a,H3 b with
    | some (.lst xs),some (.lst ys) => a ≠ b /\ xs.all (pl 20) = true /\ ys.all (pl 20) = true /\ Q3 (.bl (decide (xs = ys))) H3
    | _,_ => False):=h
   split at h'
   ·
    rename_i ts us e1 e2
    obtain ⟨xs,g1,r⟩:=sh a _ e1
    obtain ⟨ys,g2,r'⟩:=sh b _ e2
    cases rx.ref; cases ry.ref; cases rv; cases ru
    obtain ⟨its,rv1,ht,_⟩:=I.list (X:=X) (.of g1)
    obtain ⟨its',rv2,ht',_⟩:=I.list (X:=X) (.of g2)
    have hl : its.length = ts.length:=by rw [<- rv1.length,<- r.length]
    have hl' : its'.length = us.length:=by rw [<- rv2.length,<- r'.length]
    by_cases hsz : ts.length = us.length
    ·
     refine SeqAt.eq_listAt (e:=fun j => decide (ts[j]? = us[j]?)) ht.isList ht'.isList (by simp; omega) (by omega) (items_eq I hu h'.2.1 h'.2.2.1 r r' rv1 rv2) ⟨.bl _,H,I,rfl,?_⟩
     have e:=rows_dec (ts:=ts) (us:=us)
     rw [<- hsz,Nat.min_self,beq_self_eq_true,Bool.and_true] at e
     rw [List.size_toArray,hl,e]
     exact k _ _ _ _ .refl sh .ofBl h'.2.2.2
    ·
     refine SeqAt.eq_list_lengthsAt ht.isList ht'.isList (by simp; omega) (by omega) ⟨.bl false,H,I,rfl,?_⟩
     have e : decide (ts = us) = false:=decide_eq_false fun z => hsz (by rw [z])
     have q:=h'.2.2.2
     rw [e] at q
     exact k _ _ _ _ .refl sh .ofBl q
   ·
    exact h'.elim
  | _ => exact h.elim
 | _ => exact h.elim
theorem o3_ne (hu : X.A.units + 30 < cLine) : OpR3 X (compareOp .NotEq) (r3Eq true):=by
 intro pins s σ H x y v u Q I rv ru h
 obtain ⟨tx,ty,H3,Q3,rx,ry,sh,h,k⟩:=h
 have sc : ∀ {x y : V},scal x y = true -> RelV x v -> RelV y u -> (k : Q (.bl (!decide (x = y))) H) -> wpAny (model X.prog X.w) X.A (compareOp .NotEq v u) (EP X pins σ Q) X.xe s:=fun {x y} a r1 r2 q => op_ne pins s σ H x y v u Q I r1 r2 ⟨a,q⟩
 cases tx with
 | int i =>
  cases ty with
  | int j =>
   rw [rx.int] at rv; rw [ry.int] at ru
   exact sc rfl rv ru (k _ _ _ _ .refl sh (by rw [show decide (V.int i = V.int j) = decide (i = j) by by_cases e : i = j <;> simp [e]]; exact .ofBl) h)
  | _ => exact h.elim
 | str i =>
  cases ty with
  | str j =>
   rw [rx.str] at rv; rw [ry.str] at ru
   exact sc rfl rv ru (k _ _ _ _ .refl sh (by rw [show decide (V.str i = V.str j) = decide (i = j) by by_cases e : i = j <;> simp [e]]; exact .ofBl) h)
  | _ => exact h.elim
 | bl i =>
  cases ty with
  | bl j =>
   rw [rx.bl] at rv; rw [ry.bl] at ru
   exact sc rfl rv ru (k _ _ _ _ .refl sh (by rw [show decide (V.bl i = V.bl j) = decide (i = j) by by_cases e : i = j <;> simp [e]]; exact .ofBl) h)
  | _ => exact h.elim
 | non =>
  cases ty with
  | non =>
   rw [rx.non] at rv; rw [ry.non] at ru
   exact sc rfl rv ru (k _ _ _ _ .refl sh (by rw [show decide (V.non = V.non) = true by simp]; exact .ofBl) h)
  | _ => exact h.elim
 | tup ts =>
  cases ty with
  | tup us =>
   obtain ⟨a,xs,rfl,sq,r⟩:=rx.tup
   obtain ⟨b,ys,rfl,sq',r'⟩:=ry.tup
   cases rv; cases ru
   obtain ⟨its,rv1,ht,_⟩:=I.tuple sq
   obtain ⟨its',rv2,ht',_⟩:=I.tuple sq'
   refine SeqAt.RcNeAt.tuples (e:=fun j => decide (ts[j]? = us[j]?)) ht ht' (by omega) (items_eq I hu h.1 h.2.1 r r' rv1 rv2) _ _ _ _ ⟨.bl _,H,I,rfl,?_⟩
   rw [List.size_toArray,List.size_toArray,<- rv1.length,<- rv2.length,<- r.length,<- r'.length,rows_dec]
   exact k _ _ _ _ .refl sh .ofBl h.2.2
  | _ => exact h.elim
 | ref a =>
  cases ty with
  | ref b =>
   have h' : (match H3 a,H3 b with
    | some (.lst xs),some (.lst ys) => a ≠ b /\ xs.all (pl 20) = true /\ ys.all (pl 20) = true /\ Q3 (.bl (!decide (xs = ys))) H3
    | _,_ => False):=h
   split at h'
   ·
    rename_i ts us e1 e2
    obtain ⟨xs,g1,r⟩:=sh a _ e1
    obtain ⟨ys,g2,r'⟩:=sh b _ e2
    cases rx.ref; cases ry.ref; cases rv; cases ru
    obtain ⟨its,rv1,ht,_⟩:=I.list (X:=X) (.of g1)
    obtain ⟨its',rv2,ht',_⟩:=I.list (X:=X) (.of g2)
    have hl : its.length = ts.length:=by rw [<- rv1.length,<- r.length]
    have hl' : its'.length = us.length:=by rw [<- rv2.length,<- r'.length]
    by_cases hsz : ts.length = us.length
    ·
     refine SeqAt.RcNeAt.lists (e:=fun j => decide (ts[j]? = us[j]?)) ht.isList ht'.isList (by simp; omega) (by omega) (items_eq I hu h'.2.1 h'.2.2.1 r r' rv1 rv2) _ _ _ _ ⟨.bl _,H,I,rfl,?_⟩
     have e:=rows_dec (ts:=ts) (us:=us)
     rw [<- hsz,Nat.min_self,beq_self_eq_true,Bool.and_true] at e
     rw [List.size_toArray,hl,e]
     exact k _ _ _ _ .refl sh .ofBl h'.2.2.2
    ·
     refine SeqAt.RcNeAt.lists_lengths ht.isList ht'.isList (by simp; omega) (by omega) _ _ _ _ ⟨.bl true,H,I,rfl,?_⟩
     have e : decide (ts = us) = false:=decide_eq_false fun z => hsz (by rw [z])
     have q:=h'.2.2.2
     rw [e] at q
     exact k _ _ _ _ .refl sh .ofBl q
   ·
    exact h'.elim
  | _ => exact h.elim
 | _ => exact h.elim
noncomputable def memB (neg : Bool) (x : T) (ts : List T) : Bool:=if neg then !decide (x ∈ ts) else decide (x ∈ ts)
noncomputable def occ (neg : Bool) (i j : Str) : Bool:=if neg then !(!(Builtin.Str.occurrences j i 0 j.length 1).isEmpty) else !(Builtin.Str.occurrences j i 0 j.length 1).isEmpty
def r3In (neg : Bool) : R3:=fun x y H Q => match y with
 | .tup ts => pl 20 x = true /\ ts.all (pl 20) = true /\ Q (.bl (memB neg x ts)) H
 | .ref a => match H a with
  | some (.lst ts) => pl 20 x = true /\ ts.all (pl 20) = true /\ Q (.bl (memB neg x ts)) H
  | some (.rol ts) => pl 20 x = true /\ ts.all (pl 20) = true /\ Q (.bl (memB neg x ts)) H
  | _ => False
 | .str j => match x with
  | .str i => Q (.bl (occ neg i j)) H
  | _ => False
 | _ => False
theorem any_is (I : Inv X pins σ H s) {x : T} {ts : List T} {xs : List V} {its : List Value} (px : pl 20 x = true) (pts : ts.all (pl 20) = true) (r : Reps X.K H ts xs) (rv : Vals xs its) (A : Around) (hu : A.units + 30 < cLine) {vx : V} {u : Value} (rx : Rep X.K H x vx) (ru : RelV vx u) :
  ∃ e : Value -> Bool,(∀ y,y ∈ its -> SeqAt.EqAt A s y u (e y)) /\ its.any e = decide (x ∈ ts):=by
 rw [List.all_eq_true] at pts
 have own : ∀ y,y ∈ its -> ∃ t v,t ∈ ts /\ Rep X.K H t v /\ RelV v y:=fun y hy => by
  obtain ⟨i,hi,e⟩:=List.mem_iff_getElem.mp hy
  have hl:=rv.length
  have e' : its[i]? = some y:=by rw [List.getElem?_eq_getElem hi,e]
  have hx : xs[i]? = some xs[i]:=List.getElem?_eq_getElem (by omega)
  obtain ⟨z,ez,rz⟩:=rv.get hx
  rw [e'] at ez; cases ez
  obtain ⟨t,et,rt⟩:=r.get' hx
  exact ⟨t,_,List.mem_of_getElem? et,rt,rz⟩
 have dec : ∀ t v y,t ∈ ts -> Rep X.K H t v -> RelV v y -> (@decide (∃ v,RelV v y /\ Rep X.K H x v) (Classical.propDecidable _) = true ↔ t = x):=fun t v y ht rt ry => by
  rw [@decide_eq_true_iff _ (Classical.propDecidable _)]
  constructor
  ·
   rintro ⟨v',r1,r2⟩
   cases r1.inj ry
   exact rep_inj I 20 t x _ (pts t ht) px rt r2
  ·
   rintro rfl
   exact ⟨v,ry,rt⟩
 refine ⟨fun y => @decide (∃ v,RelV v y /\ Rep X.K H x v) (Classical.propDecidable _),fun y hy => ?_,?_⟩
 ·
  obtain ⟨t,v,ht,rt,ry⟩:=own y hy
  have q:=eq_tree I 20 A t x v vx y u (pts t ht) px rt rx ry ru (by omega)
  have e : @decide (∃ v,RelV v y /\ Rep X.K H x v) (Classical.propDecidable _) = decide (t = x):=by
   rw [Bool.eq_iff_iff,dec t v y ht rt ry,decide_eq_true_iff]
  show SeqAt.EqAt A s y u (@decide (∃ v,RelV v y /\ Rep X.K H x v) (Classical.propDecidable _))
  rw [e]
  exact q
 ·
  rw [Bool.eq_iff_iff,List.any_eq_true,decide_eq_true_iff]
  constructor
  ·
   rintro ⟨y,hy,e⟩
   obtain ⟨t,v,ht,rt,ry⟩:=own y hy
   rw [<- (dec t v y ht rt ry).mp e]
   exact ht
  ·
   intro hx
   obtain ⟨i,hi,e⟩:=List.mem_iff_getElem.mp hx
   obtain ⟨v,ev,rvv⟩:=r.get (show ts[i]? = some x by rw [List.getElem?_eq_getElem hi,e])
   obtain ⟨y,ey,ry⟩:=rv.get ev
   exact ⟨y,List.mem_of_getElem? ey,(dec x v y hx rvv ry).mpr rfl⟩
end
end L3
namespace L3
open PySem PySem.Spec PyProof.Rows L2
section
variable {X : Cx}
theorem o3_in (hu : X.A.units + 31 < cLine) : OpR3 X (compareOp .In) (r3In false):=by
 intro pins s σ H x y v u Q I rv ru h
 obtain ⟨tx,ty,H3,Q3,rx,ry,sh,h,k⟩:=h
 have hu' : X.A.in1.units + 30 < cLine:=by rw [units_in1]; omega
 have lst : ∀ {a : Addr} {ts : List T} {xs : List V},SqL X.K H a xs -> Reps X.K H ts xs -> u = .ref a -> pl 20 tx = true -> ts.all (pl 20) = true -> Q3 (.bl (memB false tx ts)) H3 -> wpAny (model X.prog X.w) X.A (compareOp .In v u) (EP X pins σ Q) X.xe s:=by
  intro a ts xs sq r e p1 p2 q
  subst e
  obtain ⟨its,rvs,ht,_⟩:=I.list sq
  obtain ⟨e,he,ea⟩:=any_is I p1 p2 r rvs X.A.in1 hu' rx rv
  refine SeqAt.in_listAt e ht.isList (fun y hy => he y (by simpa using hy)) ⟨.bl _,H,I,rfl,?_⟩
  rw [show its.toArray.any e = its.any e by simp,ea]
  exact k _ _ _ _ .refl sh .ofBl q
 cases ty with
 | tup ts =>
  obtain ⟨a,xs,rfl,sq,r⟩:=ry.tup
  cases ru
  obtain ⟨its,rvs,ht,_⟩:=I.tuple sq
  obtain ⟨e,he,ea⟩:=any_is I h.1 h.2.1 r rvs X.A.in1 hu' rx rv
  refine SeqAt.in_tupleAt e ht (fun y hy => he y (by simpa using hy)) ⟨.bl _,H,I,rfl,?_⟩
  rw [show its.toArray.any e = its.any e by simp,ea]
  exact k _ _ _ _ .refl sh .ofBl h.2.2
 | ref a =>
  have h' : (match H3 a with
   | some (.lst ts) => pl 20 tx = true /\ ts.all (pl 20) = true /\ Q3 (.bl (memB false tx ts)) H3
   | some (.rol ts) => pl 20 tx = true /\ ts.all (pl 20) = true /\ Q3 (.bl (memB false tx ts)) H3
   | _ => False):=h
  rw [ry.ref] at ru
  split at h'
  ·
   rename_i ts e
   obtain ⟨xs,sq,r⟩:=sh.sqL (.inl e)
   exact lst sq r ru h'.1 h'.2.1 h'.2.2
  ·
   rename_i ts e
   obtain ⟨xs,sq,r⟩:=sh.sqL (.inr e)
   exact lst sq r ru h'.1 h'.2.1 h'.2.2
  ·
   exact h'.elim
 | str j =>
  cases tx with
  | str i => exact op_in_str pins s σ H x y v u Q I rv ru ⟨i,j,rx.str,ry.str,k _ _ _ _ .refl sh .ofBl h⟩
  | _ => exact h.elim
 | _ => exact h.elim
theorem o3_notin (hu : X.A.units + 31 < cLine) : OpR3 X (compareOp .NotIn) (r3In true):=by
 intro pins s σ H x y v u Q I rv ru h
 obtain ⟨tx,ty,H3,Q3,rx,ry,sh,h,k⟩:=h
 have hu' : X.A.in1.units + 30 < cLine:=by rw [units_in1]; omega
 have lst : ∀ {a : Addr} {ts : List T} {xs : List V},SqL X.K H a xs -> Reps X.K H ts xs -> u = .ref a -> pl 20 tx = true -> ts.all (pl 20) = true -> Q3 (.bl (memB true tx ts)) H3 -> wpAny (model X.prog X.w) X.A (compareOp .NotIn v u) (EP X pins σ Q) X.xe s:=by
  intro a ts xs sq r e p1 p2 q
  subst e
  obtain ⟨its,rvs,ht,_⟩:=I.list sq
  obtain ⟨e,he,ea⟩:=any_is I p1 p2 r rvs X.A.in1 hu' rx rv
  refine SeqAt.notIn_listAt e ht.isList (fun y hy => he y (by simpa using hy)) ⟨.bl _,H,I,rfl,?_⟩
  rw [show its.toArray.any e = its.any e by simp,ea]
  exact k _ _ _ _ .refl sh .ofBl q
 cases ty with
 | tup ts =>
  obtain ⟨a,xs,rfl,sq,r⟩:=ry.tup
  cases ru
  obtain ⟨its,rvs,ht,_⟩:=I.tuple sq
  obtain ⟨e,he,ea⟩:=any_is I h.1 h.2.1 r rvs X.A.in1 hu' rx rv
  refine SeqAt.notIn_tupleAt e ht (fun y hy => he y (by simpa using hy)) ⟨.bl _,H,I,rfl,?_⟩
  rw [show its.toArray.any e = its.any e by simp,ea]
  exact k _ _ _ _ .refl sh .ofBl h.2.2
 | ref a =>
  have h' : (match H3 a with
   | some (.lst ts) => pl 20 tx = true /\ ts.all (pl 20) = true /\ Q3 (.bl (memB true tx ts)) H3
   | some (.rol ts) => pl 20 tx = true /\ ts.all (pl 20) = true /\ Q3 (.bl (memB true tx ts)) H3
   | _ => False):=h
  rw [ry.ref] at ru
  split at h'
  ·
   rename_i ts e
   obtain ⟨xs,sq,r⟩:=sh.sqL (.inl e)
   exact lst sq r ru h'.1 h'.2.1 h'.2.2
  ·
   rename_i ts e
   obtain ⟨xs,sq,r⟩:=sh.sqL (.inr e)
   exact lst sq r ru h'.1 h'.2.1 h'.2.2
  ·
   exact h'.elim
 | str j =>
  cases tx with
  | str i => exact op_notin_str pins s σ H x y v u Q I rv ru ⟨i,j,rx.str,ry.str,k _ _ _ _ .refl sh .ofBl h⟩
  | _ => exact h.elim
 | _ => exact h.elim
def oq {α : Type} (o : Option α) (Q : α -> Prop) : Prop:=match o with
 | some v => Q v
 | none => False
def r3Ix : R3:=fun x y H Q => match x,y with
 | .ref a,.int i => match H a with
  | some (.lst ts) => oq (atI ts i) fun t => Q t H
  | some (.rol ts) => oq (atI ts i) fun t => Q t H
  | _ => False
 | .tup ts,.int i => oq (atI ts i) fun t => Q t H
 | .str z,.int i => z.length <= sizeLine /\ oq (atI z.cps.toList i) fun c => Q (.str ⟨#[c]⟩) H
 | _,_ => False
theorem atI_rep {K : PySem.W.Frag} {H : Hp} {ts : List T} {xs : List V} {i : Int} {t : T} (r : Reps K H ts xs) (h : atI ts i = some t) : ∃ v,atI xs i = some v /\ Rep K H t v:=by
 unfold atI at h ⊢
 rw [<- r.length]
 cases e : ixN ts.length i with
 | none => rw [e] at h; cases h
 | some j =>
  rw [e] at h
  exact r.get h
theorem ix3 : IxR3 X r3Ix:=by
 refine IxR.imp ix_seq ?_
 rintro x y H Q ⟨tx,ty,H3,Q3,rx,ry,sh,h,k⟩
 have lst : ∀ {a : Addr} {ts : List T} {xs : List V} {i : Int},SqL X.K H a xs -> Reps X.K H ts xs -> x = .ref a -> y = .int i -> oq (atI ts i) (fun t => Q3 t H3) -> rIx X.K x y H Q:=by
  intro a ts xs i sq r e1 e2 q
  cases e : atI ts i with
  | none => rw [e] at q; exact q.elim
  | some t =>
   rw [e] at q
   obtain ⟨v,ev,rv⟩:=atI_rep r e
   exact .inl ⟨a,xs,i,v,e1,e2,sq,ev,k _ _ _ _ .refl sh rv q⟩
 cases tx with
 | ref a =>
  cases ty with
  | int i =>
   have h' : (match H3 a with
    | some (.lst ts) => oq (atI ts i) fun t => Q3 t H3
    | some (.rol ts) => oq (atI ts i) fun t => Q3 t H3
    | _ => False):=h
   split at h'
   ·
    rename_i ts e
    obtain ⟨xs,sq,r⟩:=sh.sqL (.inl e)
    exact lst sq r rx.ref ry.int h'
   ·
    rename_i ts e
    obtain ⟨xs,sq,r⟩:=sh.sqL (.inr e)
    exact lst sq r rx.ref ry.int h'
   ·
    exact h'.elim
  | _ => exact h.elim
 | tup ts =>
  cases ty with
  | int i =>
   have h' : oq (atI ts i) fun t => Q3 t H3:=h
   cases e : atI ts i with
   | none => rw [e] at h'; exact h'.elim
   | some t =>
    rw [e] at h'
    obtain ⟨a,xs,e1,sq,r⟩:=rx.tup
    obtain ⟨v,ev,rv⟩:=atI_rep r e
    exact .inr (.inl ⟨a,xs,i,v,e1,ry.int,sq,ev,k _ _ _ _ .refl sh rv h'⟩)
  | _ => exact h.elim
 | str z =>
  cases ty with
  | int i =>
   have h' : z.length <= sizeLine /\ oq (atI z.cps.toList i) fun c => Q3 (.str ⟨#[c]⟩) H3:=h
   cases e : atI z.cps.toList i with
   | none => rw [e] at h'; exact h'.2.elim
   | some c =>
    rw [e] at h'
    exact .inr (.inr ⟨z,i,c,rx.str,ry.int,h'.1,e,k _ _ _ _ .refl sh .ofStr h'.2⟩)
  | _ => exact h.elim
 | _ => exact h.elim
def r3SetL : TSet3:=fun o i v H Q => match o,i with
 | .ref a,.int k => match H a with
  | some (.lst ts) => oq (ixN ts.length k) fun j => Q (up3 H a (.lst (ts.set j v)))
  | _ => False
 | _,_ => False
theorem SimH.wrL {K : PySem.W.Frag} {H : Hp} {H3 : Hp3} {a : Addr} {xs : List V} {ts : List T} {xs' : List V} (s : SimH K H3 H) (hH : H a = some (.lst xs)) (r : Reps K H ts xs') : SimH K (up3 H3 a (.lst ts)) (upd H a (.lst xs')):=fun b o e => by
 have le : TupLe K H (upd H a (.lst xs')):=wr_tupLe (by rw [hH]; exact trivial)
 by_cases hb : b = a
 ·
  subst hb
  rw [up3_same] at e; cases e
  exact ⟨xs',upd_same,r.mono le⟩
 ·
  rw [up3_ne hb] at e
  exact (s b o e).stay le fun u q => by rw [upd_ne hb]; exact q
theorem set3_list : PSet3 X r3SetL:=by
 refine PSet.imp set_list ?_
 rintro o i v H Q ⟨to,ti,tv,H3,Q3,ro,ri,rv,sh,h,k⟩
 cases to with
 | ref a =>
  cases ti with
  | int n =>
   have h' : (match H3 a with
    | some (.lst ts) => oq (ixN ts.length n) fun j => Q3 (up3 H3 a (.lst (ts.set j tv)))
    | _ => False):=h
   split at h'
   ·
    rename_i ts e
    obtain ⟨xs,hH,r⟩:=sh a _ e
    cases ej : ixN ts.length n with
    | none => rw [ej] at h'; exact h'.elim
    | some j =>
     rw [ej] at h'
     exact ⟨a,xs,n,j,ro.ref,ri.int,hH,by rw [<- r.length]; exact ej,k _ _ (wr_tupLe (by rw [hH]; exact trivial)) (sh.wrL hH (r.set j rv)) h'⟩
   ·
    exact h'.elim
  | _ => exact h.elim
 | _ => exact h.elim
abbrev TO3:=St3 -> Hp3 -> (Option Int -> Hp3 -> Prop) -> Prop
def lftO (K : PySem.W.Frag) (t3 : TO3) : TO:=fun σ H Q => ∃ σ3 H3 Q3,SimS K H σ3 σ /\ SimH K H3 H /\ t3 σ3 H3 Q3 /\ ∀ o H' H3',TupLe K H H' -> SimH K H3' H' -> Q3 o H3' -> Q o H'
def PO3 (X : Cx) (e : Option Expr) (t : TO3) : Prop:=PO X e (lftO X.K t)
theorem PO.imp {e : Option Expr} {t t' : TO} (h : PO X e t) (w : ∀ σ H Q,t' σ H Q -> t σ H Q) : PO X e t':=fun pins s σ H Q I q => h pins s σ H Q I (w σ H Q q)
def tNoPart3 : TO3:=fun _ H Q => Q none H
def tPart3 (t : TE3) : TO3:=fun σ H Q => t σ H fun x H1 => match x with
 | .int i => Q (some i) H1
 | _ => False
theorem po3_none : PO3 X none tNoPart3:=by
 refine PO.imp po_none ?_
 rintro σ H Q ⟨σ3,H3,Q3,ss,sh,h,k⟩
 exact k _ _ _ .refl sh h
theorem po3_some {e : Expr} {te : TE3} (h : PE3 X e te) : PO3 X (some e) (tPart3 te):=by
 refine PO.imp (po_some h) ?_
 rintro σ H Q ⟨σ3,H3,Q3,ss,sh,h,k⟩
 refine ⟨σ3,H3,_,ss,sh,h,fun v H' t H3' le sh' r q => ?_⟩
 cases t with
 | int i => exact ⟨i,r.int,k _ _ _ le sh' q⟩
 | _ => exact q.elim
theorem sl_str : SlR X (fun x lo hi H Q => ∃ z,x = .str z /\ z.length <= sizeLine /\ Q (.str (PySem.Txt.slice z lo hi)) H):=by
 intro pins s σ H x v vl vu lo hi sl Q I rx hs pl pu h
 obtain ⟨z,rfl,hz,q⟩:=h
 obtain ⟨t,rfl⟩:=rx
 refine ⟨"str",_,F.slot_str_getitem.lookup,typeIs_str _ _ _,?_⟩
 obtain ⟨o,e,c,d⟩:=hs
 have fin : ∀ (t' : Tok) (k : Nat),EP X pins σ Q (.str (PySem.Txt.slice z lo hi) t') { s with toks:=k }:=fun t' k => ⟨.str _,H,I.tok k,⟨t',rfl⟩,q⟩
 cases pl with
 | none =>
  cases pu with
  | none => exact wpAny_getItem_str_slice (l:=none) (u:=none) (st:=none) ⟨o,e,c,d⟩ rfl (post_val_or_str ⟨Nat.le_trans (PySem.Txt.slice_le z _ _) hz,fin⟩)
  | int j uj => exact wpAny_getItem_str_slice (l:=none) (u:=some (j,uj)) (st:=none) ⟨o,e,c,d⟩ rfl (post_val_or_str ⟨Nat.le_trans (PySem.Txt.slice_le z _ _) hz,fin⟩)
 | int i ui =>
  cases pu with
  | none => exact wpAny_getItem_str_slice (l:=some (i,ui)) (u:=none) (st:=none) ⟨o,e,c,d⟩ rfl (post_val_or_str ⟨Nat.le_trans (PySem.Txt.slice_le z _ _) hz,fin⟩)
  | int j uj => exact wpAny_getItem_str_slice (l:=some (i,ui)) (u:=some (j,uj)) (st:=none) ⟨o,e,c,d⟩ rfl (post_val_or_str ⟨Nat.le_trans (PySem.Txt.slice_le z _ _) hz,fin⟩)
noncomputable def cut3 (ts : List T) (lo hi : Option Int) : List T:=(ts.drop (HT.sIx ts.length 0 lo)).take (HT.sIx ts.length ts.length hi - HT.sIx ts.length 0 lo)
def r3Sl : T -> Option Int -> Option Int -> Hp3 -> VK3 -> Prop:=fun x lo hi H Q => match x with
 | .ref a => match H a with
  | some (.lst ts) => ∀ p,H p = none -> Q (.ref p) (up3 H p (.lst (cut3 ts lo hi)))
  | some (.rol ts) => ∀ p,H p = none -> Q (.ref p) (up3 H p (.lst (cut3 ts lo hi)))
  | _ => False
 | .tup ts => ¬ (HT.sIx ts.length 0 lo = 0 /\ HT.sIx ts.length ts.length hi = ts.length) /\ Q (.tup (cut3 ts lo hi)) H
 | .str z => z.length <= sizeLine /\ Q (.str (PySem.Txt.slice z lo hi)) H
 | _ => False
def tSl3 (te : TE3) (tl th : TO3) : TE3:=fun σ H Q => te σ H fun x H1 => tl σ H1 fun l H2 => th σ H2 fun u H3 => r3Sl x l u H3 Q
theorem cut_rep {K : PySem.W.Frag} {H : Hp} {ts : List T} {xs : List V} (r : Reps K H ts xs) (lo hi : Option Int) : Reps K H (cut3 ts lo hi) (cutV xs lo hi):=by
 unfold cut3 cutV
 rw [<- r.length]
 exact (r.drop _).take _
theorem e3_slice {e : Expr} {lo hi : Option Expr} {te : TE3} {tl th : TO3} {p2 pos : Pos} (he : PE3 X e te) (hl : PO3 X lo tl) (hu : PO3 X hi th) : PE3 X (.Subscript e (.Slice lo hi none p2) pos) (tSl3 te tl th):=by
 refine PE.imp (pe_slice (sl_list.or (sl_tup.or sl_str)) he hl hu) ?_
 rintro σ H Q ⟨σ3,H3,Q3,ss,sh,h,k⟩
 refine ⟨σ3,H3,_,ss,sh,h,fun x H1 tx H31 le1 sh1 rx q1 => ⟨σ3,H31,_,ss.mono le1,sh1,q1,fun l H2 H32 le2 sh2 q2 => ⟨σ3,H32,_,ss.mono (le1.trans le2),sh2,q2,fun u H4 H34 le4 sh4 q4 => ?_⟩⟩⟩
 have k':=k.at (le1.trans (le2.trans le4))
 have rx':=rx.mono (le2.trans le4)
 cases tx with
 | ref a =>
  have h' : (match H34 a with
   | some (.lst ts) => ∀ p,H34 p = none -> Q3 (.ref p) (up3 H34 p (.lst (cut3 ts l u)))
   | some (.rol ts) => ∀ p,H34 p = none -> Q3 (.ref p) (up3 H34 p (.lst (cut3 ts l u)))
   | _ => False):=q4
  split at h'
  ·
   rename_i ts e
   obtain ⟨xs,sq,r⟩:=sh4.sqL (.inl e)
   exact .inl ⟨a,xs,rx'.ref,sq,fun p hp => k' _ _ _ _ (upd_tupLe hp) (sh4.newLst hp (cut_rep r l u)) .ofRef (h' p (sh4.fresh hp))⟩
  ·
   rename_i ts e
   obtain ⟨xs,sq,r⟩:=sh4.sqL (.inr e)
   exact .inl ⟨a,xs,rx'.ref,sq,fun p hp => k' _ _ _ _ (upd_tupLe hp) (sh4.newLst hp (cut_rep r l u)) .ofRef (h' p (sh4.fresh hp))⟩
  ·
   exact h'.elim
 | tup ts =>
  obtain ⟨a,xs,rfl,sq,r⟩:=rx'.tup
  refine .inr (.inl ⟨a,xs,rfl,sq,by rw [<- r.length]; exact q4.1,fun p hp => k' _ _ _ _ (upd_tupLe hp) (sh4.new hp) (SimH.newTup (H3:=H34) hp (cut_rep r l u)) q4.2⟩)
 | str z => exact .inr (.inr ⟨z,rx'.str,q4.1,k' _ _ _ _ .refl sh4 .ofStr q4.2⟩)
 | _ => exact q4.elim
noncomputable def look3 (k : Str) : List (Str × T) -> Option T
 | [] => none
 | (k',v) :: r => if k' = k then some v else look3 k r
noncomputable def put3 (k : Str) (v : T) (kvs : List (Str × T)) : List (Str × T) :=
 if (kvs.any fun kv => decide (kv.1 = k)) = true then kvs.map (fun kv => if kv.1 = k then (kv.1,v) else kv) else kvs ++ [(k,v)]
def r3D : R3:=fun x y H Q => match x,y with
 | .ref a,.str k => match H a with
  | some (.dct kvs) => oq (look3 k kvs) fun t => Q t H
  | _ => False
 | _,_ => False
theorem look_rep {K : PySem.W.Frag} {H : Hp} {k : Str} : ∀ {kvs : List (Str × T)} {vs : List (Key × V)} {t : T},RepD K H kvs vs -> look3 k kvs = some t -> ∃ v,valV vs (Sum.inr k : Key) = some v /\ Rep K H t v
 | [],_,_,_,e => by cases e
 | (k',t') :: r,_,t,.cons (b:=(kk,v')) ⟨e1,rv⟩ rr,e => by
  simp only at e1 rv
  subst e1
  unfold look3 at e
  by_cases hk : k' = k
  ·
   rw [if_pos hk] at e
   cases e
   exact ⟨v',by rw [valV_pos (by rw [hk])],rv⟩
  ·
   rw [if_neg hk] at e
   obtain ⟨v,ev,q⟩:=look_rep rr e
   exact ⟨v,by rw [valV_neg (by intro z; exact hk (Sum.inr.inj z))]; exact ev,q⟩
theorem e3_dget {o i : Expr} {to ti : TE3} {pos : Pos} (hu : X.A.units + 1 < cLine) (ho : PE3 X o to) (hi : PE3 X i ti) (hs : NoSl i:=by exact fun _ _ => rfl) : PE3 X (.Subscript o i pos) (tOp3 r3D to ti):=by
 refine PE.imp (pe_dget hu ho hi hs) ?_
 rintro σ H Q ⟨σ3,H3,Q3,ss,sh,h,k⟩
 refine ⟨σ3,H3,_,ss,sh,h,fun x H1 tx H31 le1 sh1 rx q1 => ⟨σ3,H31,_,ss.mono le1,sh1,q1,fun y H2 ty H32 le2 sh2 ry q2 => ?_⟩⟩
 cases tx with
 | ref a =>
  cases ty with
  | str key =>
   have h' : (match H32 a with
    | some (.dct kvs) => oq (look3 key kvs) fun t => Q3 t H32
    | _ => False):=q2
   split at h'
   ·
    rename_i kvs e
    obtain ⟨vs,hH,r⟩:=sh2 a _ e
    cases el : look3 key kvs with
    | none => rw [el] at h'; exact h'.elim
    | some t =>
     rw [el] at h'
     obtain ⟨v,ev,rv⟩:=look_rep r el
     refine ⟨a,v,rx.ref,?_,k.at (le1.trans le2) _ _ _ _ .refl sh2 rv h'⟩
     rw [ry.str,<- ev]
     exact DGet.k (k:=Sum.inr key) hH
   ·
    exact h'.elim
  | _ => exact q2.elim
 | _ => exact q2.elim
def sDPut3 (td ty tv : TE3) : TS3:=fun D σ H => tv σ H fun v H1 => td σ H1 fun x H2 => ty σ H2 fun y H3 => match x,y with
 | .ref a,.str k => match H3 a with
  | some (.dct kvs) => kvs.length < sizeLine /\ D.nx σ (up3 H3 a (.dct (put3 k v kvs)))
  | _ => False
 | _,_ => False
theorem put_rep {K : PySem.W.Frag} {H : Hp} {k : Str} {t : T} {v : V} (rv : Rep K H t v) {kvs : List (Str × T)} {vs : List (Key × V)} (r : RepD K H kvs vs) : RepD K H (put3 k t kvs) (putK vs (Sum.inr k : Key) v):=by
 have e : ∀ {kvs : List (Str × T)} {vs : List (Key × V)},RepD K H kvs vs -> (kvs.any fun kv => decide (kv.1 = k)) = (vs.any fun kv => decide (kv.1 = (Sum.inr k : Key))) /\ RepD K H (kvs.map (fun kv => if kv.1 = k then (kv.1,t) else kv)) (vs.map (fun kv => if kv.1 = (Sum.inr k : Key) then (kv.1,v) else kv)):=by
  intro kvs
  induction kvs with
  | nil => intro vs r; cases r; exact ⟨rfl,.nil⟩
  | cons p l ih =>
   intro vs r
   cases r with
   | cons q rr =>
    rename_i b l2
    obtain ⟨e1,e2⟩:=ih rr
    obtain ⟨q1,q2⟩:=q
    obtain ⟨bk,bv⟩:=b
    simp only at q1 q2
    subst q1
    by_cases hk : p.1 = k
    ·
     refine ⟨by simp [hk],?_⟩
     simp only [List.map_cons,hk,if_true]
     exact .cons ⟨rfl,rv⟩ e2
    ·
     have hk' : ¬ (Sum.inr p.1 : Key) = Sum.inr k:=fun z => hk (Sum.inr.inj z)
     refine ⟨by simp only [List.any_cons,hk,hk',decide_false,Bool.false_or]; exact e1,?_⟩
     simp only [List.map_cons,hk,hk',if_false]
     exact .cons ⟨rfl,q2⟩ e2
 obtain ⟨e1,e2⟩:=e r
 unfold put3 putK
 rw [e1]
 split
 ·
  exact e2
 ·
  have app : ∀ {a : List (Str × T)} {b : List (Key × V)},RepD K H a b -> RepD K H (a ++ [(k,t)]) (b ++ [((Sum.inr k : Key),v)]):=fun h => Paired.snoc h ⟨rfl,rv⟩
  exact app r
theorem SimH.wrD {K : PySem.W.Frag} {H : Hp} {H3 : Hp3} {a : Addr} {kv : List (Key × V)} {kvs : List (Str × T)} {kv' : List (Key × V)} (s : SimH K H3 H) (hH : H a = some (.dK kv)) (r : RepD K H kvs kv') : SimH K (up3 H3 a (.dct kvs)) (upd H a (.dK kv')):=fun b o e => by
 have le : TupLe K H (upd H a (.dK kv')):=wr_tupLe (by rw [hH]; exact trivial)
 by_cases hb : b = a
 ·
  subst hb
  rw [up3_same] at e; cases e
  exact ⟨kv',upd_same,r.mono le⟩
 ·
  rw [up3_ne hb] at e
  exact (s b o e).stay le fun u q => by rw [upd_ne hb]; exact q
theorem s3_dput {o i value : Expr} {td ty tv : TE3} {pos pos' : Pos} (hu : X.A.units + 1 < cLine) (ho : PE3 X o td) (hi : PE3 X i ty) (hv : PE3 X value tv) (hs : swapsWith value (some (.Subscript o i pos')) pos.line X.env = pure false:=by rfl) :
  PS3 X (.Assign [.Subscript o i pos'] value pos) (sDPut3 td ty tv):=by
 refine PS.imp (ps_dput hu ho hi hv hs) ?_
 rintro D σ H ⟨σ3,H3,D3,ss,sh,h,k1,_⟩
 refine ⟨σ3,H3,_,ss,sh,h,fun v H1 tv H31 le1 sh1 rv q1 => ⟨σ3,H31,_,ss.mono le1,sh1,q1,fun x H2 tx H32 le2 sh2 rx q2 => ⟨σ3,H32,_,ss.mono (le1.trans le2),sh2,q2,fun y H4 ty H34 le4 sh4 ry q4 => ?_⟩⟩⟩
 cases tx with
 | ref a =>
  cases ty with
  | str key =>
   have h' : (match H34 a with
    | some (.dct kvs) => kvs.length < sizeLine /\ D3.nx σ3 (up3 H34 a (.dct (put3 key tv kvs)))
    | _ => False):=q4
   split at h'
   ·
    rename_i kvs e
    obtain ⟨vs,hH,r⟩:=sh4 a _ e
    have rvv:=rv.mono (le2.trans le4)
    have le5 : TupLe X.K H4 (upd H4 a (.dK (putK vs (Sum.inr key : Key) v))):=wr_tupLe (by rw [hH]; exact trivial)
    refine ⟨a,_,(rx.mono le4).ref,?_,k1 _ _ _ _ (le1.trans (le2.trans (le4.trans le5))) (ss.mono (le1.trans (le2.trans (le4.trans le5)))) (sh4.wrD hH (put_rep rvv r)) h'.2⟩
    rw [ry.str]
    exact DPut.k (k:=Sum.inr key) hH (by rw [<- Paired.length r]; exact h'.1)
   ·
    exact h'.elim
  | _ => exact q4.elim
 | _ => exact q4.elim
def prs3 : List (Str × TE3) -> St3 -> Hp3 -> (List (Str × T) -> Hp3 -> Prop) -> Prop
 | [],_,H,Q => Q [] H
 | (k,tv) :: r,σ,H,Q => tv σ H fun y H2 => prs3 r σ H2 fun ps H3 => Q ((k,y) :: ps) H3
noncomputable def mrg3 (kvs more : List (Str × T)) : List (Str × T):=more.foldl (fun acc kv => put3 kv.1 kv.2 acc) kvs
def tDisp3 (trs : List (Str × TE3)) : TE3:=fun σ H Q => ∀ p,H p = none -> prs3 trs σ (up3 H p (.dct [])) fun ps H2 => H2 p = some (.dct []) /\ ps.length <= 15 /\ Q (.ref p) (up3 H2 p (.dct (mrg3 [] ps)))
end
end L3
namespace L3
open PySem PySem.Spec PyProof.Rows L2
section
variable {X : Cx} {x : Str} {p pos : Pos} {e : Expr} {es : List Expr} {t : TA3} {id Ty : String} {r : List T -> Hp3 -> VK3 -> Prop}
def tCB3 (r : List T -> Hp3 -> VK3 -> Prop) (t : TA3) : TE3:=fun σ H Q => t σ H fun vs H1 => r vs H1 Q
theorem e3_callB (hc : CallR3 X (.builtin id) r) (hg : Gl X x) (hm : X.mg x = none) (hv : bootBuiltins x = some (.builtin id)) (ha : PA3 X (e :: es) t) (hn : x ≠ "__name__":=by decide) (hdb : (x == ("__debug__" : Str)) = false:=by decide)
  (he : starEach (e :: es) X.env = (false,eval e X.env) :: starEach es X.env:=by rfl) (hpl : (backTo pos (starEach es X.env)).any (·.1) = false:=by rfl) : PE3 X (.Call (.Name x p) (e :: es) [] pos) (tCB3 r t):=by
 refine PE.imp (pe_callB hc hg hm hv ha hn hdb he hpl) ?_
 rintro σ H Q ⟨σ3,H3,Q3,ss,sh,h,k⟩
 exact ⟨σ3,H3,_,ss,sh,h,fun vs H' ts H3' le sh' r q => ⟨ts,H3',Q3,r,sh',q,k.at le⟩⟩
theorem e3_callTy (hc : CallR3 X (.type Ty) r) (hg : Gl X x) (hm : X.mg x = none) (hv : bootBuiltins x = some (.type Ty)) (ha : PA3 X (e :: es) t) (hn : x ≠ "__name__":=by decide) (hdb : (x == ("__debug__" : Str)) = false:=by decide)
  (he : starEach (e :: es) X.env = (false,eval e X.env) :: starEach es X.env:=by rfl) (hpl : (backTo pos (starEach es X.env)).any (·.1) = false:=by rfl) : PE3 X (.Call (.Name x p) (e :: es) [] pos) (tCB3 r t):=by
 refine PE.imp (pe_callTy hc hg hm hv ha hn hdb he hpl) ?_
 rintro σ H Q ⟨σ3,H3,Q3,ss,sh,h,k⟩
 exact ⟨σ3,H3,_,ss,sh,h,fun vs H' ts H3' le sh' r q => ⟨ts,H3',Q3,r,sh',q,k.at le⟩⟩
theorem Reps.one' {K : PySem.W.Frag} {H : Hp} {t : T} {vs : List V} (r : Reps K H [t] vs) : ∃ v,vs = [v] /\ Rep K H t v:=by
 obtain ⟨v,_,rfl,a,b⟩:=r.inv
 rw [b.inv0]
 exact ⟨v,rfl,a⟩
theorem Reps.two' {K : PySem.W.Frag} {H : Hp} {t u : T} {vs : List V} (r : Reps K H [t,u] vs) : ∃ v w,vs = [v,w] /\ Rep K H t v /\ Rep K H u w:=by
 obtain ⟨v,_,rfl,a,b⟩:=r.inv
 obtain ⟨w,rfl,c⟩:=b.one'
 exact ⟨v,w,rfl,a,c⟩
def r3Len : List T -> Hp3 -> VK3 -> Prop:=fun ts H Q => match ts with
 | [.ref a] => match H a with
  | some (.lst xs) => Q (.int xs.length) H
  | some (.rol xs) => Q (.int xs.length) H
  | _ => False
 | [.tup xs] => Q (.int xs.length) H
 | [.str z] => z.length <= sizeLine /\ Q (.int z.length) H
 | _ => False
theorem c3_len : CallR3 X (.builtin "len") r3Len:=by
 refine CallR.imp (call_len_seq.or call_len_str) ?_
 rintro xs H Q ⟨ts,H3,Q3,r,sh,h,k⟩
 match ts,h,r with
 | [.ref a],h,r =>
  obtain ⟨v,rfl,rv⟩:=r.one'
  have h' : (match H3 a with
   | some (.lst xs) => Q3 (.int xs.length) H3
   | some (.rol xs) => Q3 (.int xs.length) H3
   | _ => False):=h
  split at h'
  ·
   rename_i us e
   obtain ⟨ys,sq,rs⟩:=sh.sqL (.inl e)
   exact .inl ⟨a,ys,by rw [rv.ref],.inl sq,by rw [<- rs.length]; exact k _ _ _ _ .refl sh .ofInt h'⟩
  ·
   rename_i us e
   obtain ⟨ys,sq,rs⟩:=sh.sqL (.inr e)
   exact .inl ⟨a,ys,by rw [rv.ref],.inl sq,by rw [<- rs.length]; exact k _ _ _ _ .refl sh .ofInt h'⟩
  ·
   exact h'.elim
 | [.tup us],h,r =>
  obtain ⟨v,rfl,rv⟩:=r.one'
  obtain ⟨a,ys,rfl,sq,rs⟩:=rv.tup
  exact .inl ⟨a,ys,rfl,.inr sq,by rw [<- rs.length]; exact k _ _ _ _ .refl sh .ofInt h⟩
 | [.str z],h,r =>
  obtain ⟨v,rfl,rv⟩:=r.one'
  exact .inr ⟨z,by rw [rv.str],h.1,k _ _ _ _ .refl sh .ofInt h.2⟩
def r3List : List T -> Hp3 -> VK3 -> Prop:=fun ts H Q => match ts with
 | [.ref a] => match H a with
  | some (.lst xs) => ∀ p,H p = none -> Q (.ref p) (up3 H p (.lst xs))
  | some (.rol xs) => ∀ p,H p = none -> Q (.ref p) (up3 H p (.lst xs))
  | _ => False
 | [.tup xs] => ∀ p,H p = none -> Q (.ref p) (up3 H p (.lst xs))
 | _ => False
theorem c3_list : CallR3 X (.type "list") r3List:=by
 refine CallR.imp call_list_of ?_
 rintro xs H Q ⟨ts,H3,Q3,r,sh,h,k⟩
 match ts,h,r with
 | [.ref a],h,r =>
  obtain ⟨v,rfl,rv⟩:=r.one'
  have h' : (match H3 a with
   | some (.lst xs) => ∀ p,H3 p = none -> Q3 (.ref p) (up3 H3 p (.lst xs))
   | some (.rol xs) => ∀ p,H3 p = none -> Q3 (.ref p) (up3 H3 p (.lst xs))
   | _ => False):=h
  split at h'
  ·
   rename_i us e
   obtain ⟨ys,sq,rs⟩:=sh.sqL (.inl e)
   exact ⟨a,ys,by rw [rv.ref],.inl sq,fun l hl => k _ _ _ _ (upd_tupLe hl) (sh.newLst hl rs) .ofRef (h' l (sh.fresh hl))⟩
  ·
   rename_i us e
   obtain ⟨ys,sq,rs⟩:=sh.sqL (.inr e)
   exact ⟨a,ys,by rw [rv.ref],.inl sq,fun l hl => k _ _ _ _ (upd_tupLe hl) (sh.newLst hl rs) .ofRef (h' l (sh.fresh hl))⟩
  ·
   exact h'.elim
 | [.tup us],h,r =>
  obtain ⟨v,rfl,rv⟩:=r.one'
  obtain ⟨a,ys,rfl,sq,rs⟩:=rv.tup
  exact ⟨a,ys,rfl,.inr sq,fun l hl => k _ _ _ _ (upd_tupLe hl) (sh.newLst hl rs) .ofRef (h l (sh.fresh hl))⟩
def r3Tuple : List T -> Hp3 -> VK3 -> Prop:=fun ts H Q => match ts with
 | [.ref a] => match H a with
  | some (.lst xs) => Q (.tup xs) H
  | some (.rol xs) => Q (.tup xs) H
  | _ => False
 | [.tup xs] => Q (.tup xs) H
 | _ => False
theorem c3_tuple : CallR3 X (.type "tuple") r3Tuple:=by
 refine CallR.imp call_tuple_of ?_
 rintro xs H Q ⟨ts,H3,Q3,r,sh,h,k⟩
 match ts,h,r with
 | [.ref a],h,r =>
  obtain ⟨v,rfl,rv⟩:=r.one'
  have h' : (match H3 a with
   | some (.lst xs) => Q3 (.tup xs) H3
   | some (.rol xs) => Q3 (.tup xs) H3
   | _ => False):=h
  split at h'
  ·
   rename_i us e
   obtain ⟨ys,sq,rs⟩:=sh.sqL (.inl e)
   exact ⟨a,ys,by rw [rv.ref],.inl ⟨sq,fun l hl => k _ _ _ _ (upd_tupLe hl) (sh.new hl) (SimH.newTup (H3:=H3) hl rs) h'⟩⟩
  ·
   rename_i us e
   obtain ⟨ys,sq,rs⟩:=sh.sqL (.inr e)
   exact ⟨a,ys,by rw [rv.ref],.inl ⟨sq,fun l hl => k _ _ _ _ (upd_tupLe hl) (sh.new hl) (SimH.newTup (H3:=H3) hl rs) h'⟩⟩
  ·
   exact h'.elim
 | [.tup us],h,r =>
  obtain ⟨v,rfl,rv⟩:=r.one'
  obtain ⟨a,ys,rfl,sq,rs⟩:=rv.tup
  exact ⟨a,ys,rfl,.inr ⟨sq,k _ _ _ _ .refl sh (.ofTup sq rs) h⟩⟩
def r3Int : List T -> Hp3 -> VK3 -> Prop:=fun ts H Q => match ts with
 | [.int i] => Q (.int i) H
 | [.bl b] => Q (.int (if b then 1 else 0)) H
 | _ => False
theorem c3_int' : CallR3 X (.type "int") r3Int:=by
 refine CallR.imp call_int1 ?_
 rintro xs H Q ⟨ts,H3,Q3,r,sh,h,k⟩
 match ts,h,r with
 | [.int i],h,r =>
  obtain ⟨v,rfl,rv⟩:=r.one'
  exact .inl ⟨i,by rw [rv.int],k _ _ _ _ .refl sh .ofInt h⟩
 | [.bl b],h,r =>
  obtain ⟨v,rfl,rv⟩:=r.one'
  exact .inr ⟨b,by rw [rv.bl],k _ _ _ _ .refl sh .ofInt h⟩
def r3Str : List T -> Hp3 -> VK3 -> Prop:=fun ts H Q => match ts with
 | [.int i] => i.natAbs.log2 < 1920 /\ Q (.str (toString i)) H
 | _ => False
noncomputable def ints3 : List T -> Option (List Int)
 | [] => some []
 | .int i :: r => (ints3 r).map (i :: ·)
 | _ => none
theorem ints3_map : ∀ (ns : List Int),ints3 (ns.map T.int) = some ns
 | [] => rfl
 | n :: r => by simp [ints3,ints3_map r]
theorem ints3_vals {K : PySem.W.Frag} {H : Hp} : ∀ {ts : List T} {xs : List V} {us : List Value} {ns : List Int},ints3 ts = some ns -> Reps K H ts xs -> Vals xs us -> IntsAre us ns
 | [],xs,us,ns,e,r,v => by
  cases e
  rw [r.inv0] at v
  cases v
  exact .nil
 | .int i :: l,xs,us,ns,e,r,v => by
  obtain ⟨x,xr,rfl,rx,rr⟩:=r.inv
  cases v with
  | cons a b =>
   rw [rx.int] at a
   obtain ⟨t,rfl⟩:=a
   cases hl : ints3 l with
   | none => simp [ints3,hl] at e
   | some ms =>
    simp [ints3,hl] at e
    subst e
    exact .cons _ _ (ints3_vals hl rr b)
 | .non :: _,_,_,_,e,_,_ => by simp [ints3] at e
 | .bl _ :: _,_,_,_,e,_,_ => by simp [ints3] at e
 | .str _ :: _,_,_,_,e,_,_ => by simp [ints3] at e
 | .tup _ :: _,_,_,_,e,_,_ => by simp [ints3] at e
 | .ref _ :: _,_,_,_,e,_,_ => by simp [ints3] at e
 | .ty _ :: _,_,_,_,e,_,_ => by simp [ints3] at e
def r3Sum : List T -> Hp3 -> VK3 -> Prop:=fun ts H Q => match ts with
 | [.ref a] => match H a with
  | some (.lst xs) => oq (ints3 xs) fun ns => Q (.int ns.sum) H
  | some (.rol xs) => oq (ints3 xs) fun ns => Q (.int ns.sum) H
  | _ => False
 | _ => False
theorem c3_sum (hc : X.calm = true) : CallR3 X (.builtin "sum") r3Sum:=by
 intro pins s σ H xs us Q I rv h
 obtain ⟨ts,H3,Q3,r,sh,h,k⟩:=h
 match ts,h,r with
 | [.ref a],h,r =>
  obtain ⟨v,rfl,rv'⟩:=r.one'
  obtain ⟨u,rfl,ru⟩:=vals1 rv
  rw [rv'.ref] at ru
  cases ru
  have main : ∀ {ls : List T} {ys : List V},SqL X.K H a ys -> Reps X.K H ls ys -> oq (ints3 ls) (fun ns => Q3 (.int ns.sum) H3) -> wpAny (model X.prog X.w) X.A (call (.builtin "sum") [.ref a]) (EP X pins σ Q) X.xe s:=by
   intro ls ys sq rs q
   cases e : ints3 ls with
   | none => rw [e] at q; exact q.elim
   | some ns =>
    rw [e] at q
    obtain ⟨its,rvs,hl,_⟩:=I.list sq
    have hi:=ints3_vals e rs rvs
    have hall : AllInts its.toArray:=hi.allInts
    obtain ⟨zs,ez⟩:=hall.items
    have hls : s.heap.IsList a (intItems zs):=by rw [<- ez]; exact hl.isList
    refine sum_intListG (I.ok.hd hc) hls fun h' tk t' hk => ?_
    have es : preSum (numAt zs) zs.size = ns.sum:=by
     have e1:=nums_intItems zs
     rw [<- ez,show its.toArray.toList = its from rfl,hi.numsOf] at e1
     rw [preSum_eq,List.take_of_length_le (by simp),<- e1]
    rw [es]
    exact ⟨.int ns.sum,H,I.kept hk,⟨t',rfl⟩,k _ _ _ _ .refl sh .ofInt q⟩
  have h' : (match H3 a with
   | some (.lst xs) => oq (ints3 xs) fun ns => Q3 (.int ns.sum) H3
   | some (.rol xs) => oq (ints3 xs) fun ns => Q3 (.int ns.sum) H3
   | _ => False):=h
  split at h'
  ·
   rename_i ls e
   obtain ⟨ys,sq,rs⟩:=sh.sqL (.inl e)
   exact main sq rs h'
  ·
   rename_i ls e
   obtain ⟨ys,sq,rs⟩:=sh.sqL (.inr e)
   exact main sq rs h'
  ·
   exact h'.elim
noncomputable def isT (n : String) : T -> Hp3 -> Option Bool:=fun x H => match x with
 | .non => some (n == "NoneType")
 | .bl _ => some (n == "bool" || n == "int")
 | .int _ => some (n == "int")
 | .str _ => some (n == "str")
 | .tup _ => some (n == "tuple")
 | .ref a => match H a with
  | some (.lst _) => some (n == "list")
  | some (.dct _) => some (n == "dict")
  | _ => none
 | .ty _ => none
def r3Isi : List T -> Hp3 -> VK3 -> Prop:=fun ts H Q => match ts with
 | [x,.ty n] => (n = "str" \/ n = "int" \/ n = "bool" \/ n = "tuple" \/ n = "list") /\ oq (isT n x H) fun b => Q (.bl b) H
 | _ => False
variable {o : Expr} {to : TE3} {name : Str} {apos cpos : Pos} {m : T -> List T -> Hp3 -> VK3 -> Prop}
def ty3 (Ty : String) : T -> Hp3 -> Prop:=fun x H => match x with
 | .str _ => Ty = "str"
 | .tup _ => Ty = "tuple"
 | .ref a => Ty = "list" /\ match H a with
  | some (.lst _) => True
  | some (.rol _) => True
  | _ => False
 | _ => False
theorem ty3_V {K : PySem.W.Frag} {H : Hp} {H3 : Hp3} {t : T} {v : V} (sh : SimH K H3 H) (r : Rep K H t v) (h : ty3 Ty t H3) : tyV K Ty v H:=by
 cases t with
 | str z => rw [r.str]; exact h
 | tup ts =>
  obtain ⟨a,xs,rfl,sq,_⟩:=r.tup
  exact .inr (.inl ⟨h,xs,sq⟩)
 | ref a =>
  rw [r.ref]
  refine .inl ⟨h.1,?_⟩
  have h2:=h.2
  cases e : H3 a with
  | none => rw [e] at h2; exact h2.elim
  | some o =>
   rw [e] at h2
   cases o with
   | lst ts => obtain ⟨xs,sq,_⟩:=sh.sqL (.inl e); exact ⟨xs,sq⟩
   | rol ts => obtain ⟨xs,sq,_⟩:=sh.sqL (.inr e); exact ⟨xs,sq⟩
   | dct _ => exact h2.elim
   | dcp _ => exact h2.elim
 | _ => exact h.elim
def tBM3 (Ty : String) (m : T -> List T -> Hp3 -> VK3 -> Prop) (to : TE3) (t : TA3) : TE3:=fun σ H Q => to σ H fun x H1 => ty3 Ty x H1 /\ t σ H1 fun xs H2 => m x xs H2 Q
theorem e3_bm (pa : PlainAttrs Ty) (slot : Slot Ty name id) (hty : typeOf (.builtin id) = pure (.type "method_descriptor")) (hm : MtR3 X id m) (ho : PE3 X o to) (ha : PA3 X (e :: es) t)
  (hbase : attributeBase o name X.env (eval o X.env) = eval o X.env:=by rfl)
  (hfew : ((backTo cpos (starEach (e :: es) X.env)).all (fun x => !x.1) && (backToKw cpos (keywordEach [] X.env)).all (fun x => x.1.isSome)
   && decide ((e :: es).length + ([] : List Keyword).length + (if ([] : List Keyword).isEmpty then 0 else 1) < 30)) = true:=by rfl)
  (hline : (apos.endLine == cpos.line) = true:=by rfl) (hs : starEach (e :: es) X.env = (false,eval e X.env) :: starEach es X.env:=by rfl) (hplain : (backTo cpos (starEach es X.env)).any (·.1) = false:=by rfl) :
  PE3 X (.Call (.Attribute o name apos) (e :: es) [] cpos) (tBM3 Ty m to t):=by
 refine PE.imp (pe_bm pa slot hty hm ho ha hbase hfew hline hs hplain) ?_
 rintro σ H Q ⟨σ3,H3,Q3,ss,sh,h,k⟩
 exact ⟨σ3,H3,_,ss,sh,h,fun x H1 tx H31 le1 sh1 rx q1 => ⟨ty3_V sh1 rx q1.1,σ3,H31,_,ss.mono le1,sh1,q1.2,fun vs H2 ts H32 le2 sh2 rs q2 => ⟨tx,ts,H32,Q3,rx.mono le2,rs,sh2,q2,k.at (le1.trans le2)⟩⟩⟩
def r3App : T -> List T -> Hp3 -> VK3 -> Prop:=fun x ts H Q => match x,ts with
 | .ref a,[t] => match H a with
  | some (.lst xs) => xs.length < sizeLine /\ Q .non (up3 H a (.lst (xs ++ [t])))
  | _ => False
 | _,_ => False
theorem m3_append : MtR3 X "list.append" r3App:=by
 refine MtR.imp mt_append ?_
 rintro x xs H Q ⟨tx,ts,H3,Q3,rx,rs,sh,h,k⟩
 match tx,ts,h,rx,rs with
 | .ref a,[t],h,rx,rs =>
  obtain ⟨v,rfl,rv⟩:=rs.one'
  have h' : (match H3 a with
   | some (.lst xs) => xs.length < sizeLine /\ Q3 .non (up3 H3 a (.lst (xs ++ [t])))
   | _ => False):=h
  split at h'
  ·
   rename_i ls e
   obtain ⟨ys,hH,r⟩:=sh a _ e
   exact ⟨a,ys,v,rx.ref,rfl,hH,by rw [<- r.length]; exact h'.1,k _ _ _ _ (wr_tupLe (by rw [hH]; exact trivial)) (sh.wrL hH (r.append (.cons rv .nil))) .ofNon h'.2⟩
  ·
   exact h'.elim
def r3Ext : T -> List T -> Hp3 -> VK3 -> Prop:=fun x ts H Q => match x,ts with
 | .ref a,[.ref b] => match H a,H b with
  | some (.lst xs),some (.lst ys) => xs.length + ys.length <= sizeLine /\ Q .non (up3 H a (.lst (xs ++ ys)))
  | _,_ => False
 | _,_ => False
def r3PopAt : T -> List T -> Hp3 -> VK3 -> Prop:=fun x ts H Q => match x,ts with
 | .ref a,[.int i] => match H a with
  | some (.lst xs) => oq (ixN xs.length i) fun j => oq (xs[j]?) fun t => Q t (up3 H a (.lst (xs.eraseIdx j)))
  | _ => False
 | _,_ => False
theorem m3_popAt : MtR3 X "list.pop" r3PopAt:=by
 intro pins s σ H x xs v us Q I rx0 rs0 hh
 obtain ⟨tx,ts,H3,Q3,rx,rs,sh,h,k⟩:=hh
 refine mt_popAt pins s σ H x xs v us Q I rx0 rs0 ?_
 match tx,ts,h,rx,rs with
 | .ref a,[.int i],h,rx,rs =>
  obtain ⟨w,rfl,rv⟩:=rs.one'
  have h' : (match H3 a with
   | some (.lst xs) => oq (ixN xs.length i) fun j => oq (xs[j]?) fun t => Q3 t (up3 H3 a (.lst (xs.eraseIdx j)))
   | _ => False):=h
  split at h'
  ·
   rename_i ls e
   obtain ⟨ys,hH,r⟩:=sh a _ e
   have hz:=(I.lstM hH).1
   cases ej : ixN ls.length i with
   | none => rw [ej] at h'; exact h'.elim
   | some j =>
    rw [ej] at h'
    cases et : ls[j]? with
    | none => simp only [oq,et] at h'
    | some t =>
     have h2 : Q3 t (up3 H3 a (.lst (ls.eraseIdx j))):=by simpa only [oq,et] using h'
     obtain ⟨g1,g2,g3,g4⟩:=ixN_seq ej
     obtain ⟨y,ey,ry⟩:=r.get et
     have hl:=r.length
     have hb:=line63
     have le : TupLe X.K H (upd H a (.lst (ys.eraseIdx j))):=wr_tupLe (by rw [hH]; exact trivial)
     exact ⟨a,ys,i,j,y,rx.ref,by rw [rv.int],hH,by omega,by omega,by rw [<- hl]; exact g1,ey,k _ _ _ _ le (sh.wrL hH (r.eraseIdx j)) (ry.mono le) h2⟩
  ·
   exact h'.elim
noncomputable def strs3 : List T -> Option (List Str)
 | [] => some []
 | .str x :: r => (strs3 r).map (x :: ·)
 | _ => none
theorem strs3_map : ∀ (ns : List Str),strs3 (ns.map T.str) = some ns
 | [] => rfl
 | n :: r => by simp [strs3,strs3_map r]
theorem strs3_vals {K : PySem.W.Frag} {H : Hp} : ∀ {ts : List T} {xs : List V} {us : List Value} {ns : List Str},strs3 ts = some ns -> Reps K H ts xs -> Vals xs us -> StrsAre us ns
 | [],xs,us,ns,e,r,v => by
  cases e
  rw [r.inv0] at v
  cases v
  exact .nil
 | .str i :: l,xs,us,ns,e,r,v => by
  obtain ⟨x,xr,rfl,rx,rr⟩:=r.inv
  cases v with
  | cons a b =>
   rw [rx.str] at a
   obtain ⟨t,rfl⟩:=a
   cases hl : strs3 l with
   | none => simp [strs3,hl] at e
   | some ms =>
    simp [strs3,hl] at e
    subst e
    exact .cons _ _ (strs3_vals hl rr b)
 | .non :: _,_,_,_,e,_,_ => by simp [strs3] at e
 | .bl _ :: _,_,_,_,e,_,_ => by simp [strs3] at e
 | .int _ :: _,_,_,_,e,_,_ => by simp [strs3] at e
 | .tup _ :: _,_,_,_,e,_,_ => by simp [strs3] at e
 | .ref _ :: _,_,_,_,e,_,_ => by simp [strs3] at e
 | .ty _ :: _,_,_,_,e,_,_ => by simp [strs3] at e
end
end L3
namespace L3
open PySem PySem.Spec PyProof.Rows L2
section
variable {X : Cx}
def jOk (z : Str) (ys : List Str) : Prop:=(ys.map (·.length)).sum + ys.length * z.length <= 16777216
def r3Join : T -> List T -> Hp3 -> VK3 -> Prop:=fun x ts H Q => match x,ts with
 | .str z,[.ref a] => match H a with
  | some (.lst xs) => oq (strs3 xs) fun ys => jOk z ys /\ Q (.str (PySem.Txt.join z ys)) H
  | some (.rol xs) => oq (strs3 xs) fun ys => jOk z ys /\ Q (.str (PySem.Txt.join z ys)) H
  | _ => False
 | .str z,[.tup xs] => oq (strs3 xs) fun ys => jOk z ys /\ Q (.str (PySem.Txt.join z ys)) H
 | _,_ => False
theorem m3_join : MtR3 X "str.join" r3Join:=by
 intro pins s σ H x xs v us Q I rx0 rs0 hh
 obtain ⟨tx,ts,H3,Q3,rx,rs,sh,h,k⟩:=hh
 have fin : ∀ {y : Str},Q3 (.str y) H3 -> ∀ t' kk,EP X pins σ Q (.str y t') { s with toks:=kk }:=fun q t' kk => ⟨.str _,H,I.tok kk,⟨t',rfl⟩,k _ _ _ _ .refl sh .ofStr q⟩
 match tx,ts,h,rx,rs with
 | .str z,[.ref a],h,rx,rs =>
  obtain ⟨w,rfl,rv⟩:=rs.one'
  obtain ⟨u,rfl,ru⟩:=vals1 rs0
  rw [rv.ref] at ru
  cases ru
  rw [rx.str] at rx0
  obtain ⟨t,rfl⟩:=rx0
  have main : ∀ {ls : List T} {ys : List V},SqL X.K H a ys -> Reps X.K H ls ys -> oq (strs3 ls) (fun ys => jOk z ys /\ Q3 (.str (PySem.Txt.join z ys)) H3) -> wpAny (model X.prog X.w) X.A (call (.builtin "str.join") [.str z t,.ref a]) (EP X pins σ Q) X.xe s:=by
   intro ls ys sq r q
   cases e : strs3 ls with
   | none => rw [e] at q; exact q.elim
   | some zs =>
    rw [e] at q
    obtain ⟨its,rvs,hl,_⟩:=I.list sq
    exact join_list hl.isList (strs3_vals e r rvs) q.1 (fin q.2)
  have h' : (match H3 a with
   | some (.lst xs) => oq (strs3 xs) fun ys => jOk z ys /\ Q3 (.str (PySem.Txt.join z ys)) H3
   | some (.rol xs) => oq (strs3 xs) fun ys => jOk z ys /\ Q3 (.str (PySem.Txt.join z ys)) H3
   | _ => False):=h
  split at h'
  ·
   rename_i ls e
   obtain ⟨ys,sq,r⟩:=sh.sqL (.inl e)
   exact main sq r h'
  ·
   rename_i ls e
   obtain ⟨ys,sq,r⟩:=sh.sqL (.inr e)
   exact main sq r h'
  ·
   exact h'.elim
 | .str z,[.tup ls],h,rx,rs =>
  obtain ⟨w,rfl,rv⟩:=rs.one'
  obtain ⟨u,rfl,ru⟩:=vals1 rs0
  obtain ⟨a,ys,rfl,sq,r⟩:=rv.tup
  cases ru
  rw [rx.str] at rx0
  obtain ⟨t,rfl⟩:=rx0
  have q : oq (strs3 ls) (fun ys => jOk z ys /\ Q3 (.str (PySem.Txt.join z ys)) H3):=h
  cases e : strs3 ls with
  | none => rw [e] at q; exact q.elim
  | some zs =>
   rw [e] at q
   obtain ⟨its,rvs,hl,_⟩:=I.tuple sq
   exact join_tuple hl (strs3_vals e r rvs) q.1 (fin q.2)
def r3Index : T -> List T -> Hp3 -> VK3 -> Prop:=fun x ts H Q => match x,ts with
 | .str z,[.str y] => match Builtin.Str.occurrences z y 0 z.length 1 with
  | i :: _ => Q (.int i) H
  | [] => False
 | _,_ => False
theorem m3_index : MtR3 X "str.index" r3Index:=by
 intro pins s σ H x xs v us Q I rx0 rs0 hh
 obtain ⟨tx,ts,H3,Q3,rx,rs,sh,h,k⟩:=hh
 match tx,ts,h,rx,rs with
 | .str z,[.str y],h,rx,rs =>
  obtain ⟨w,rfl,rv⟩:=rs.one'
  obtain ⟨u,rfl,ru⟩:=vals1 rs0
  rw [rv.str] at ru
  obtain ⟨t',rfl⟩:=ru
  rw [rx.str] at rx0
  obtain ⟨t,rfl⟩:=rx0
  have h' : (match Builtin.Str.occurrences z y 0 z.length 1 with
   | i :: _ => Q3 (.int i) H3
   | [] => False):=h
  split at h'
  ·
   rename_i i rest e
   exact SC.index e ⟨.int i,H,I.tok _,⟨_,rfl⟩,k _ _ _ _ .refl sh .ofInt h'⟩
  ·
   exact h'.elim
end
end L3
namespace L3
open PySem PySem.Spec PyProof.Rows L2
noncomputable def compLook (n0 : List (Str × NameKind)) (N : List Str) (kind : Bool) (names : List (Str × NameKind)) (N' : List Str) (nt : Nat) (cap : List Nat) : Bool :=
 kind && names.all (fun y => y.2 != .cell || names.lookup y.1 == some .cell) && names.all (fun x => x.2 != .local || names.lookup x.1 == some .local) && names.all (fun y => y.2 != .free || n0.lookup y.1 == some .cell || n0.lookup y.1 == some .free)
  && N'.length == nt + cap.length && (List.range cap.length).all fun j => match N'[nt + j]?,cap[j]? with
   | some x,some i => N[i]? == some x && names.lookup x == some .free
   | _,_ => false
theorem compSc {X : Cx} {N' : List Str} {nt : Nat} {cap : List Nat} {scope : Scope} {n0 : List (Str × NameKind)} {N : List Str} (h0 : X.env.scope.names = n0) (hN : X.N = N)
  (h : compLook n0 N (scope.kind == .function) scope.names N' nt cap = true) : CompSc X N' nt cap scope:=by
 unfold compLook at h
 simp only [Bool.and_eq_true,List.all_eq_true,beq_iff_eq,bne_iff_ne,Bool.or_eq_true,List.mem_range] at h
 obtain ⟨⟨⟨⟨⟨h1,h2⟩,h3⟩,h4⟩,h5⟩,h6⟩:=h
 refine ⟨h1,fun y hy e => (h2 y hy).resolve_left fun z => z e,fun x hx e => (h3 x hx).resolve_left fun z => z e,fun y hy e => ?_,h5,fun j x e => ?_⟩
 ·
  show X.env.scope.names.lookup y.1 = _ \/ X.env.scope.names.lookup y.1 = _
  rw [h0]
  rcases h4 y hy with (z | z) | z
  ·
   exact absurd e z
  ·
   exact .inl z
  ·
   exact .inr z
 ·
  have hj : j < cap.length:=by
   have:=(List.getElem?_eq_some_iff.mp e).1
   omega
  have q:=h6 j hj
  rw [e] at q
  cases ec : cap[j]? with
  | none => rw [ec] at q; cases q
  | some i =>
   rw [ec] at q
   simp only [Bool.and_eq_true,beq_iff_eq] at q
   exact ⟨i,rfl,by rw [hN]; exact q.1,q.2⟩
noncomputable def relN (n00 names : List (Str × NameKind)) : List (Str × NameKind):=names.map fun (n,k) => if (k == NameKind.free && n00.lookup n == some .cell) = true then (n,NameKind.cell) else (n,k)
theorem compSc2 {X : Cx} {N0 N' : List Str} {nt : Nat} {cap : List Nat} {scope0 scope : Scope} {n00 : List (Str × NameKind)} {N : List Str} {cl : List (Str × Addr)} {pins : List (Addr × Obj)} {s : Shared} {H : Hp} {C : Addr} {fp : List Addr}
  (h0 : X.env.scope.names = n00) (hk : X.env.scope.kind = .function) (hN : N0 = N) (h : compLook (relN n00 scope0.names) N (scope.kind == .function) scope.names N' nt cap = true) : CompSc (cxComp X N0 scope0 cl pins s H C fp) N' nt cap scope:=by
 refine compSc (n0:=relN n00 scope0.names) (N:=N) ?_ hN h
 show (relabel scope0 X.env).names = _
 unfold relabel relN
 dsimp only
 refine List.map_congr_left fun y hy => ?_
 obtain ⟨n,k⟩:=y
 have e : X.env.kindOf n = n00.lookup n:=by unfold Env.kindOf; rw [h0]
 simp only [e,hk,beq_self_eq_true,Bool.and_true]
structure G3 (K : PySem.W.Frag) (mg : Str -> Option Value) (x : Str) (st : Stmt) (ps : List Str) (f : Addr) (fd : FuncData) : Prop where
 fn : Fun K x x st f fd
 b : Binds K fd ps []
 m : mg x = some (.ref f)
structure Bl (mg : Str -> Option Value) : Prop where
 len_ : mg "len" = none
 sum_ : mg "sum" = none
 isinstance_ : mg "isinstance" = none
 all_ : mg "all" = none
 any_ : mg "any" = none
 list_ : mg "list" = none
 tuple_ : mg "tuple" = none
 int_ : mg "int" = none
 str_ : mg "str" = none
 bool_ : mg "bool" = none
 range_ : mg "range" = none
 zip_ : mg "zip" = none
 reversed_ : mg "reversed" = none
 enumerate_ : mg "enumerate" = none
 set_ : mg "set" = none
 sorted_ : mg "sorted" = none
 min_ : mg "min" = none
 max_ : mg "max" = none
 dict_ : mg "dict" = none
 repr_ : mg "repr" = none
theorem bt_len : bootBuiltins "len" = some (.builtin "len"):=by decide +kernel
theorem bt_sum : bootBuiltins "sum" = some (.builtin "sum"):=by decide +kernel
theorem bt_list : bootBuiltins "list" = some (.type "list"):=by decide +kernel
theorem bt_tuple : bootBuiltins "tuple" = some (.type "tuple"):=by decide +kernel
theorem bt_int : bootBuiltins "int" = some (.type "int"):=by decide +kernel
theorem Room.u30 {k : Nat} {A : Around} (r : Room k A) : A.units + 30 < cLine:=by have:=r.un; omega
theorem Room.u31 {k : Nat} {A : Around} (r : Room k A) : A.units + 31 < cLine:=by have:=r.un; omega
theorem Room.u1 {k : Nat} {A : Around} (r : Room k A) : A.units + 1 < cLine:=by have:=r.un; omega
end L3
namespace L3
open PySem PySem.Spec PyProof.Rows L2
section
variable {H : Hp3} {Q : VK3} {σ : St3}
def vq (o : Option (Option T)) (Q : T -> Prop) : Prop:=match o with
 | some (some t) => Q t
 | _ => False
theorem q_vq (t : T) (Q : T -> Prop) : vq (some (some t)) Q = Q t:=rfl
theorem q_var (i : Nat) : tVar3 i σ H Q = vq (σ[i]?) fun t => Q t H:=rfl
def bq (x : T) (Q : Bool -> Prop) : Prop:=match x with
 | .bl k => Q k
 | _ => False
theorem q_bq (b : Bool) (Q : Bool -> Prop) : bq (.bl b) Q = Q b:=rfl
theorem q_test (t : TE3) (Q : Bool -> Hp3 -> Prop) : tTest3 t σ H Q = t σ H fun x H' => bq x fun k => Q k H':=rfl
theorem q_chain (r r' : R3) (ta tb tc : TE3) : tChain3 r r' ta tb tc σ H Q = ta σ H fun x H1 => tb σ H1 fun y H2 => r x y H2 fun z H3 => bq z fun k => if k = true then tc σ H3 fun w H4 => r' y w H4 Q else Q (.bl false) H3:=rfl
theorem q_andV (ta tb : TE3) : tAndV3 ta tb σ H Q = ta σ H fun x H1 => bq x fun c => if c = true then tb σ H1 Q else Q (.bl false) H1:=rfl
theorem q_orV (ta tb : TE3) : tOrV3 ta tb σ H Q = ta σ H fun x H1 => bq x fun c => if c = true then Q (.bl true) H1 else tb σ H1 Q:=rfl
theorem q_notV (ta : TE3) : tNotV3 ta σ H Q = ta σ H fun x H1 => bq x fun c => Q (.bl (!c)) H1:=rfl
theorem q_oq {α : Type} (v : α) (Q : α -> Prop) : oq (some v) Q = Q v:=rfl
theorem q_I (C : Int -> Int -> Prop) (g : Int -> Int -> T) (i j : Int) : rI3 C g (.int i) (.int j) H Q = (C i j /\ Q (g i j) H):=rfl
theorem q_I0 (g : Int -> Int -> T) (i j : Int) : rI03 g (.int i) (.int j) H Q = Q (g i j) H:=rfl
theorem q_addI (i j : Int) : rAdd3 (.int i) (.int j) H Q = Q (.int (i + j)) H:=rfl
theorem q_addS (i j : Str) : rAdd3 (.str i) (.str j) H Q = (i.length + j.length <= sizeLine /\ Q (.str (i ++ j)) H):=rfl
theorem q_addT (xs ys : List T) : rAdd3 (.tup xs) (.tup ys) H Q = (xs.length + ys.length <= sizeLine /\ Q (.tup (xs ++ ys)) H):=rfl
def catH (o u : Option O3) (H : Hp3) (Q : VK3) : Prop:=match o,u with
 | some (.lst xs),some (.lst ys) => xs.length + ys.length <= sizeLine /\ ∀ p,H p = none -> Q (.ref p) (up3 H p (.lst (xs ++ ys)))
 | _,_ => False
theorem q_addL (a b : Addr) : rAdd3 (.ref a) (.ref b) H Q = catH (H a) (H b) H Q:=rfl
theorem q_catH (xs ys : List T) : catH (some (.lst xs)) (some (.lst ys)) H Q = (xs.length + ys.length <= sizeLine /\ ∀ p,H p = none -> Q (.ref p) (up3 H p (.lst (xs ++ ys)))):=rfl
theorem q_eqI (n : Bool) (i j : Int) : r3Eq n (.int i) (.int j) H Q = Q (.bl (if n then !decide (i = j) else decide (i = j))) H:=rfl
theorem q_eqS (n : Bool) (i j : Str) : r3Eq n (.str i) (.str j) H Q = Q (.bl (if n then !decide (i = j) else decide (i = j))) H:=rfl
theorem q_eqB (n : Bool) (i j : Bool) : r3Eq n (.bl i) (.bl j) H Q = Q (.bl (if n then !decide (i = j) else decide (i = j))) H:=rfl
theorem q_eqT (n : Bool) (xs ys : List T) : r3Eq n (.tup xs) (.tup ys) H Q = (xs.all (pl 20) = true /\ ys.all (pl 20) = true /\ Q (.bl (if n then !decide (xs = ys) else decide (xs = ys))) H):=rfl
def eqH (n : Bool) (a b : Addr) (o u : Option O3) (H : Hp3) (Q : VK3) : Prop:=match o,u with
 | some (.lst xs),some (.lst ys) => a ≠ b /\ xs.all (pl 20) = true /\ ys.all (pl 20) = true /\ Q (.bl (if n then !@decide (xs = ys) (instDecidableEqList xs ys) else @decide (xs = ys) (instDecidableEqList xs ys))) H
 | _,_ => False
theorem q_eqL (n : Bool) (a b : Addr) : r3Eq n (.ref a) (.ref b) H Q = eqH n a b (H a) (H b) H Q:=rfl
theorem q_eqH (n : Bool) (a b : Addr) (xs ys : List T) : eqH n a b (some (.lst xs)) (some (.lst ys)) H Q = (a ≠ b /\ xs.all (pl 20) = true /\ ys.all (pl 20) = true /\ Q (.bl (if n then !decide (xs = ys) else decide (xs = ys))) H):=rfl
theorem q_inT (n : Bool) (x : T) (ts : List T) : r3In n x (.tup ts) H Q = (pl 20 x = true /\ ts.all (pl 20) = true /\ Q (.bl (memB n x ts)) H):=rfl
theorem q_inS (n : Bool) (i j : Str) : r3In n (.str i) (.str j) H Q = Q (.bl (occ n i j)) H:=rfl
def inH (n : Bool) (x : T) (o : Option O3) (H : Hp3) (Q : VK3) : Prop:=match o with
 | some (.lst ts) => pl 20 x = true /\ ts.all (pl 20) = true /\ Q (.bl (memB n x ts)) H
 | some (.rol ts) => pl 20 x = true /\ ts.all (pl 20) = true /\ Q (.bl (memB n x ts)) H
 | _ => False
theorem q_inL (n : Bool) (x : T) (a : Addr) : r3In n x (.ref a) H Q = inH n x (H a) H Q:=rfl
theorem q_inH (n : Bool) (x : T) (ts : List T) : inH n x (some (.lst ts)) H Q = (pl 20 x = true /\ ts.all (pl 20) = true /\ Q (.bl (memB n x ts)) H):=rfl
def ixH (o : Option O3) (i : Int) (H : Hp3) (Q : VK3) : Prop:=match o with
 | some (.lst ts) => oq (atI ts i) fun t => Q t H
 | some (.rol ts) => oq (atI ts i) fun t => Q t H
 | _ => False
theorem q_ixL (a : Addr) (i : Int) : r3Ix (.ref a) (.int i) H Q = ixH (H a) i H Q:=rfl
theorem q_ixH (ts : List T) (i : Int) : ixH (some (.lst ts)) i H Q = oq (atI ts i) fun t => Q t H:=rfl
theorem q_ixT (ts : List T) (i : Int) : r3Ix (.tup ts) (.int i) H Q = oq (atI ts i) fun t => Q t H:=rfl
theorem q_ixS (z : Str) (i : Int) : r3Ix (.str z) (.int i) H Q = (z.length <= sizeLine /\ oq (atI z.cps.toList i) fun c => Q (.str ⟨#[c]⟩) H):=rfl
def stH (o : Option O3) (a : Addr) (k : Int) (v : T) (H : Hp3) (Q : Hp3 -> Prop) : Prop:=match o with
 | some (.lst ts) => oq (ixN ts.length k) fun j => Q (up3 H a (.lst (ts.set j v)))
 | _ => False
theorem q_setL (a : Addr) (k : Int) (v : T) (Q : Hp3 -> Prop) : r3SetL (.ref a) (.int k) v H Q = stH (H a) a k v H Q:=rfl
theorem q_stH (ts : List T) (a : Addr) (k : Int) (v : T) (Q : Hp3 -> Prop) : stH (some (.lst ts)) a k v H Q = oq (ixN ts.length k) fun j => Q (up3 H a (.lst (ts.set j v))):=rfl
def pq (x : T) (Q : Option Int -> Prop) : Prop:=match x with
 | .int i => Q (some i)
 | _ => False
theorem q_pq (i : Int) (Q : Option Int -> Prop) : pq (.int i) Q = Q (some i):=rfl
theorem q_part (t : TE3) (Q : Option Int -> Hp3 -> Prop) : tPart3 t σ H Q = t σ H fun x H1 => pq x fun o => Q o H1:=rfl
def slH (o : Option O3) (lo hi : Option Int) (H : Hp3) (Q : VK3) : Prop:=match o with
 | some (.lst ts) => ∀ p,H p = none -> Q (.ref p) (up3 H p (.lst (cut3 ts lo hi)))
 | some (.rol ts) => ∀ p,H p = none -> Q (.ref p) (up3 H p (.lst (cut3 ts lo hi)))
 | _ => False
theorem q_slL (a : Addr) (lo hi : Option Int) : r3Sl (.ref a) lo hi H Q = slH (H a) lo hi H Q:=rfl
theorem q_slH (ts : List T) (lo hi : Option Int) : slH (some (.lst ts)) lo hi H Q = ∀ p,H p = none -> Q (.ref p) (up3 H p (.lst (cut3 ts lo hi))):=rfl
theorem q_slHr (ts : List T) (lo hi : Option Int) : slH (some (.rol ts)) lo hi H Q = ∀ p,H p = none -> Q (.ref p) (up3 H p (.lst (cut3 ts lo hi))):=rfl
theorem q_slT (ts : List T) (lo hi : Option Int) : r3Sl (.tup ts) lo hi H Q = (¬ (HT.sIx ts.length 0 lo = 0 /\ HT.sIx ts.length ts.length hi = ts.length) /\ Q (.tup (cut3 ts lo hi)) H):=rfl
theorem q_slS (z : Str) (lo hi : Option Int) : r3Sl (.str z) lo hi H Q = (z.length <= sizeLine /\ Q (.str (PySem.Txt.slice z lo hi)) H):=rfl
def dgH (o : Option O3) (k : Str) (H : Hp3) (Q : VK3) : Prop:=match o with
 | some (.dct kvs) => oq (look3 k kvs) fun t => Q t H
 | _ => False
theorem q_D (a : Addr) (k : Str) : r3D (.ref a) (.str k) H Q = dgH (H a) k H Q:=rfl
theorem q_dgH (kvs : List (Str × T)) (k : Str) : dgH (some (.dct kvs)) k H Q = oq (look3 k kvs) fun t => Q t H:=rfl
def dpH (x y v : T) (H : Hp3) (Q : Hp3 -> Prop) : Prop:=match x,y with
 | .ref a,.str k => match H a with
  | some (.dct kvs) => kvs.length < sizeLine /\ Q (up3 H a (.dct (put3 k v kvs)))
  | _ => False
 | _,_ => False
def dpO (o : Option O3) (a : Addr) (k : Str) (v : T) (H : Hp3) (Q : Hp3 -> Prop) : Prop:=match o with
 | some (.dct kvs) => kvs.length < sizeLine /\ Q (up3 H a (.dct (put3 k v kvs)))
 | _ => False
theorem q_dput (td ty tv : TE3) (D : Ends3) : sDPut3 td ty tv D σ H = tv σ H fun v H1 => td σ H1 fun x H2 => ty σ H2 fun y H3 => dpH x y v H3 fun H4 => D.nx σ H4:=rfl
theorem q_dpH (a : Addr) (k : Str) (v : T) (Q : Hp3 -> Prop) : dpH (.ref a) (.str k) v H Q = dpO (H a) a k v H Q:=rfl
theorem q_dpO (kvs : List (Str × T)) (a : Addr) (k : Str) (v : T) (Q : Hp3 -> Prop) : dpO (some (.dct kvs)) a k v H Q = (kvs.length < sizeLine /\ Q (up3 H a (.dct (put3 k v kvs)))):=rfl
def lnH (o : Option O3) (H : Hp3) (Q : VK3) : Prop:=match o with
 | some (.lst xs) => Q (.int xs.length) H
 | some (.rol xs) => Q (.int xs.length) H
 | _ => False
theorem q_lenL (a : Addr) : r3Len [.ref a] H Q = lnH (H a) H Q:=rfl
theorem q_lnH (xs : List T) : lnH (some (.lst xs)) H Q = Q (.int xs.length) H:=rfl
theorem q_lenT (xs : List T) : r3Len [.tup xs] H Q = Q (.int xs.length) H:=rfl
theorem q_lenS (z : Str) : r3Len [.str z] H Q = (z.length <= sizeLine /\ Q (.int z.length) H):=rfl
def liH (o : Option O3) (H : Hp3) (Q : VK3) : Prop:=match o with
 | some (.lst xs) => ∀ p,H p = none -> Q (.ref p) (up3 H p (.lst xs))
 | some (.rol xs) => ∀ p,H p = none -> Q (.ref p) (up3 H p (.lst xs))
 | _ => False
theorem q_listL (a : Addr) : r3List [.ref a] H Q = liH (H a) H Q:=rfl
theorem q_liH (xs : List T) : liH (some (.lst xs)) H Q = ∀ p,H p = none -> Q (.ref p) (up3 H p (.lst xs)):=rfl
theorem q_listT (xs : List T) : r3List [.tup xs] H Q = ∀ p,H p = none -> Q (.ref p) (up3 H p (.lst xs)):=rfl
def tpH (o : Option O3) (H : Hp3) (Q : VK3) : Prop:=match o with
 | some (.lst xs) => Q (.tup xs) H
 | some (.rol xs) => Q (.tup xs) H
 | _ => False
theorem q_tupL (a : Addr) : r3Tuple [.ref a] H Q = tpH (H a) H Q:=rfl
theorem q_tpH (xs : List T) : tpH (some (.lst xs)) H Q = Q (.tup xs) H:=rfl
theorem q_tupT (xs : List T) : r3Tuple [.tup xs] H Q = Q (.tup xs) H:=rfl
theorem q_intI (i : Int) : r3Int [.int i] H Q = Q (.int i) H:=rfl
theorem q_intB (b : Bool) : r3Int [.bl b] H Q = Q (.int (if b then 1 else 0)) H:=rfl
theorem q_strI (i : Int) : r3Str [.int i] H Q = (i.natAbs.log2 < 1920 /\ Q (.str (toString i)) H):=rfl
def smH (o : Option O3) (H : Hp3) (Q : VK3) : Prop:=match o with
 | some (.lst xs) => oq (ints3 xs) fun ns => Q (.int ns.sum) H
 | some (.rol xs) => oq (ints3 xs) fun ns => Q (.int ns.sum) H
 | _ => False
theorem q_sumL (a : Addr) : r3Sum [.ref a] H Q = smH (H a) H Q:=rfl
theorem q_smH (xs : List T) : smH (some (.lst xs)) H Q = oq (ints3 xs) fun ns => Q (.int ns.sum) H:=rfl
theorem q_isi (x : T) (n : String) : r3Isi [x,.ty n] H Q = ((n = "str" \/ n = "int" \/ n = "bool" \/ n = "tuple" \/ n = "list") /\ oq (isT n x H) fun b => Q (.bl b) H):=rfl
theorem q_tyS (Ty : String) (z : Str) : ty3 Ty (.str z) H = (Ty = "str"):=rfl
def tyH (o : Option O3) : Prop:=match o with
 | some (.lst _) => True
 | some (.rol _) => True
 | _ => False
theorem q_tyL (Ty : String) (a : Addr) : ty3 Ty (.ref a) H = (Ty = "list" /\ tyH (H a)):=rfl
theorem q_tyH (xs : List T) : tyH (some (.lst xs)) = True:=rfl
def apH (o : Option O3) (a : Addr) (t : T) (H : Hp3) (Q : VK3) : Prop:=match o with
 | some (.lst xs) => xs.length < sizeLine /\ Q .non (up3 H a (.lst (xs ++ [t])))
 | _ => False
theorem q_app (a : Addr) (t : T) : r3App (.ref a) [t] H Q = apH (H a) a t H Q:=rfl
theorem q_apH (xs : List T) (a : Addr) (t : T) : apH (some (.lst xs)) a t H Q = (xs.length < sizeLine /\ Q .non (up3 H a (.lst (xs ++ [t])))):=rfl
def exH (o u : Option O3) (a : Addr) (H : Hp3) (Q : VK3) : Prop:=match o,u with
 | some (.lst xs),some (.lst ys) => xs.length + ys.length <= sizeLine /\ Q .non (up3 H a (.lst (xs ++ ys)))
 | _,_ => False
theorem q_ext (a b : Addr) : r3Ext (.ref a) [.ref b] H Q = exH (H a) (H b) a H Q:=rfl
theorem q_exH (xs ys : List T) (a : Addr) : exH (some (.lst xs)) (some (.lst ys)) a H Q = (xs.length + ys.length <= sizeLine /\ Q .non (up3 H a (.lst (xs ++ ys)))):=rfl
def poH (o : Option O3) (a : Addr) (i : Int) (H : Hp3) (Q : VK3) : Prop:=match o with
 | some (.lst xs) => oq (ixN xs.length i) fun j => oq (xs[j]?) fun t => Q t (up3 H a (.lst (xs.eraseIdx j)))
 | _ => False
theorem q_pop (a : Addr) (i : Int) : r3PopAt (.ref a) [.int i] H Q = poH (H a) a i H Q:=rfl
theorem q_poH (xs : List T) (a : Addr) (i : Int) : poH (some (.lst xs)) a i H Q = oq (ixN xs.length i) fun j => oq (xs[j]?) fun t => Q t (up3 H a (.lst (xs.eraseIdx j))):=rfl
def joH (o : Option O3) (z : Str) (H : Hp3) (Q : VK3) : Prop:=match o with
 | some (.lst xs) => oq (strs3 xs) fun ys => jOk z ys /\ Q (.str (PySem.Txt.join z ys)) H
 | some (.rol xs) => oq (strs3 xs) fun ys => jOk z ys /\ Q (.str (PySem.Txt.join z ys)) H
 | _ => False
theorem q_joinL (z : Str) (a : Addr) : r3Join (.str z) [.ref a] H Q = joH (H a) z H Q:=rfl
theorem q_joH (xs : List T) (z : Str) : joH (some (.lst xs)) z H Q = oq (strs3 xs) fun ys => jOk z ys /\ Q (.str (PySem.Txt.join z ys)) H:=rfl
theorem q_joinT (z : Str) (xs : List T) : r3Join (.str z) [.tup xs] H Q = oq (strs3 xs) fun ys => jOk z ys /\ Q (.str (PySem.Txt.join z ys)) H:=rfl
def idH (o : List Nat) (H : Hp3) (Q : VK3) : Prop:=match o with
 | i :: _ => Q (.int i) H
 | [] => False
theorem q_index (z y : Str) : r3Index (.str z) [.str y] H Q = idH (Builtin.Str.occurrences z y 0 z.length 1) H Q:=rfl
theorem q_idH (i : Nat) (r : List Nat) : idH (i :: r) H Q = Q (.int i) H:=rfl
def rgq (vs : List T) (H : Hp3) (R : List T -> (Hp3 -> Prop) -> Hp3 -> Prop) : Prop:=match vs with
 | [.int j] => -(2 ^ 62) <= j /\ j < 2 ^ 62 /\ R (rng3 0 j.toNat) still0 H
 | [.int i,.int j] => (-(2 ^ 62) <= i /\ i < 2 ^ 62 /\ -(2 ^ 62) <= j /\ j < 2 ^ 62) /\ R (rng3 i (j - i).toNat) still0 H
 | _ => False
theorem q_rng (ta : TA3) (R : List T -> (Hp3 -> Prop) -> Hp3 -> Prop) : iRng3 ta σ H R = ta σ H fun vs H1 => rgq vs H1 R:=rfl
theorem q_rg1 (j : Int) (R : List T -> (Hp3 -> Prop) -> Hp3 -> Prop) : rgq [.int j] H R = (-(2 ^ 62) <= j /\ j < 2 ^ 62 /\ R (rng3 0 j.toNat) still0 H):=rfl
theorem q_rg2 (i j : Int) (R : List T -> (Hp3 -> Prop) -> Hp3 -> Prop) : rgq [.int i,.int j] H R = ((-(2 ^ 62) <= i /\ i < 2 ^ 62 /\ -(2 ^ 62) <= j /\ j < 2 ^ 62) /\ R (rng3 i (j - i).toNat) still0 H):=rfl
def tuq (x : T) (H : Hp3) (R : List T -> (Hp3 -> Prop) -> Hp3 -> Prop) : Prop:=match x with
 | .tup ts => R ts still0 H
 | _ => False
theorem q_iTup (tl : TE3) (R : List T -> (Hp3 -> Prop) -> Hp3 -> Prop) : iTup3 tl σ H R = tl σ H fun x H1 => tuq x H1 R:=rfl
theorem q_tuq (ts : List T) (R : List T -> (Hp3 -> Prop) -> Hp3 -> Prop) : tuq (.tup ts) H R = R ts still0 H:=rfl
def liq (x : T) (H : Hp3) (R : List T -> (Hp3 -> Prop) -> Hp3 -> Prop) : Prop:=match x with
 | .ref a => match H a with
  | some (.lst ts) => R ts (stillL a ts) H
  | some (.rol ts) => R ts (stillL a ts) H
  | _ => False
 | _ => False
def liO (o : Option O3) (a : Addr) (H : Hp3) (R : List T -> (Hp3 -> Prop) -> Hp3 -> Prop) : Prop:=match o with
 | some (.lst ts) => R ts (stillL a ts) H
 | some (.rol ts) => R ts (stillL a ts) H
 | _ => False
theorem q_iList (tl : TE3) (R : List T -> (Hp3 -> Prop) -> Hp3 -> Prop) : iList3 tl σ H R = tl σ H fun x H1 => liq x H1 R:=rfl
theorem q_liq (a : Addr) (R : List T -> (Hp3 -> Prop) -> Hp3 -> Prop) : liq (.ref a) H R = liO (H a) a H R:=rfl
theorem q_liO (ts : List T) (a : Addr) (R : List T -> (Hp3 -> Prop) -> Hp3 -> Prop) : liO (some (.lst ts)) a H R = R ts (stillL a ts) H:=rfl
theorem q_gNil (Q : St3 -> Hp3 -> Prop) : gNil3 [] σ H Q = Q σ H:=rfl
theorem q_gCons (t : TG3) (u : TGs3) (x : T) (r : List T) (Q : St3 -> Hp3 -> Prop) : gCons3 t u (x :: r) σ H Q = t x σ H fun σ' H' => u r σ' H' Q:=rfl
theorem q_gTup (n : Nat) (g : TGs3) (ts : List T) (Q : St3 -> Hp3 -> Prop) : gTup3 n g (.tup ts) σ H Q = (ts.length = n /\ g ts σ H Q):=rfl
end
theorem ixN_nat {n j : Nat} (h : j < n) : ixN n (j : Int) = some j:=by
 unfold ixN
 rw [if_pos (Int.natCast_nonneg j),if_pos (by omega),Int.toNat_natCast]
theorem ix_z (n : Nat) : ixN (n + 1) 0 = some 0:=ixN_nat (j:=0) (Nat.succ_pos n)
theorem at0 {α : Type} (a : α) (r : List α) : atI (a :: r) 0 = some a:=atI_nat (j:=0) rfl
theorem at1 {α : Type} (a b : α) (r : List α) : atI (a :: b :: r) 1 = some b:=atI_nat (j:=1) rfl
theorem at2 {α : Type} (a b c : α) (r : List α) : atI (a :: b :: c :: r) 2 = some c:=atI_nat (j:=2) rfl
theorem at3 {α : Type} (a b c d : α) (r : List α) : atI (a :: b :: c :: d :: r) 3 = some d:=atI_nat (j:=3) rfl
theorem at_ex {α : Type} (xs : List α) (i : Int) (h0 : 0 <= i) (h1 : i < xs.length) : ∃ z,z ∈ xs /\ atI xs i = some z:=by
 obtain ⟨j,rfl⟩:=Int.eq_ofNat_of_zero_le h0
 have hj : j < xs.length:=by omega
 exact ⟨xs[j],List.getElem_mem hj,atI_nat (List.getElem?_eq_getElem hj)⟩
theorem at_map {α β : Type} (f : α -> β) (xs : List α) (i : Int) : atI (xs.map f) i = (atI xs i).map f:=by
 unfold atI
 rw [List.length_map]
 cases ixN xs.length i with
 | none => rfl
 | some j => simp
theorem iter_go {g : TG3} {tb : TS3} {D : Ends3} {still : Hp3 -> Prop} {ts : List T} {σ : St3} {H : Hp3} (I : List T -> St3 -> Hp3 -> Prop) (h0 : I ts σ H) (hn : ∀ σ H,I [] σ H -> still H /\ D.nx σ H)
  (hs : ∀ t r σ H (N : St3 -> Hp3 -> Prop),I (t :: r) σ H -> (∀ σ' H',I r σ' H' -> N σ' H') -> still H /\ g t σ H fun σ2 H2 => tb { D with nx:=N,ct:=N,bk:=D.nx } σ2 H2) : iter3 g tb D still ts σ H:=by
 induction ts generalizing σ H with
 | nil => exact hn σ H h0
 | cons t r ih => exact hs t r σ H (iter3 g tb D still r) h0 fun σ' H' h => ih h
theorem cIter_go {g : TG3} {tt : TT3} {te : TE3} {still : Hp3 -> Prop} {fin : List T -> Hp3 -> Prop} {ts ys : List T} {σ : St3} {H : Hp3} (I : List T -> List T -> St3 -> Hp3 -> Prop) (h0 : I ts ys σ H) (hn : ∀ ys σ H,I [] ys σ H -> still H /\ ys.length <= sizeLine /\ fin ys H)
  (hs : ∀ t r ys σ H (N : List T -> St3 -> Hp3 -> Prop),I (t :: r) ys σ H -> (∀ ys' σ' H',I r ys' σ' H' -> N ys' σ' H') ->
   still H /\ g t σ H fun σ2 H2 => tt σ2 H2 fun b H3 => if b = true then te σ2 H3 fun y H4 => ys.length < sizeLine /\ N (ys ++ [y]) σ2 H4 else N ys σ2 H3) : cIter3 g tt te still fin ts ys σ H:=by
 induction ts generalizing σ H ys with
 | nil => exact hn ys σ H h0
 | cons t r ih => exact hs t r ys σ H (cIter3 g tt te still fin r) h0 fun ys' σ' H' h => ih h
theorem q_prs0 (σ : St3) (H : Hp3) (Q : List (Str × T) -> Hp3 -> Prop) : prs3 [] σ H Q = Q [] H:=rfl
theorem q_prs1 (k : Str) (tv : TE3) (r : List (Str × TE3)) (σ : St3) (H : Hp3) (Q : List (Str × T) -> Hp3 -> Prop) : prs3 ((k,tv) :: r) σ H Q = tv σ H fun y H2 => prs3 r σ H2 fun ps H3 => Q ((k,y) :: ps) H3:=rfl
theorem sx0 (n : Nat) : HT.sIx n 0 none = 0:=rfl
theorem cut_to {ts : List T} {k : Nat} : cut3 ts none (some (k : Int)) = ts.take k:=by
 unfold cut3
 rw [sx0,HT.sIx_nat,List.drop_zero,Nat.sub_zero]
 by_cases h : k <= ts.length
 ·
  rw [Nat.min_eq_left h]
 ·
  rw [Nat.min_eq_right (by omega),List.take_length,List.take_of_length_le (by omega)]
theorem cut_from {ts : List T} {k : Nat} : cut3 ts (some (k : Int)) none = ts.drop k:=by
 unfold cut3
 rw [HT.sIx_none,HT.sIx_nat]
 by_cases h : k <= ts.length
 ·
  rw [Nat.min_eq_left h,List.take_of_length_le (by simp)]
 ·
  rw [Nat.min_eq_right (by omega),List.drop_of_length_le (Nat.le_refl _),List.drop_of_length_le (by omega),List.take_nil]
theorem up3_none {H : Hp3} {a b : Addr} {o : O3} (h : up3 H a o b = none) : b ≠ a /\ H b = none:=by
 by_cases e : b = a
 ·
  subst e; rw [up3_same] at h; cases h
 ·
  rw [up3_ne e] at h; exact ⟨e,h⟩
end L3
namespace L3
open PySem PySem.Spec PyProof.Rows L2
theorem cIter_pure {α : Type} (enc f : α -> T) (as : List α) (rest : St3) {te : TE3} {still : Hp3 -> Prop} {fin : List T -> Hp3 -> Prop} {v : Option T} {H : Hp3} (hst : still H) (hl : as.length <= sizeLine)
  (ht : ∀ a ∈ as,∀ Q : VK3,Q (f a) H -> te (some (enc a) :: rest) H Q) (hfin : fin (as.map f) H) : cIter3 (gName3 0) tYes3 te still fin (as.map enc) [] (v :: rest) H:=by
 refine cIter_go (fun r ys σ H' => ∃ (rs ds : List α) (v : Option T),σ = v :: rest /\ r = rs.map enc /\ ys = ds.map f /\ ds ++ rs = as /\ H' = H) ⟨as,[],v,rfl,rfl,rfl,rfl,rfl⟩ ?_ ?_
 ·
  rintro ys σ H' ⟨rs,ds,v,rfl,hrs,rfl,hsp,rfl⟩
  have hrs' : rs = []:=List.map_eq_nil_iff.mp hrs.symm
  subst hrs'
  rw [List.append_nil] at hsp
  subst hsp
  exact ⟨hst,by rw [List.length_map]; exact hl,hfin⟩
 ·
  rintro x r ys σ H' N ⟨rs,ds,v,rfl,hrs,rfl,hsp,rfl⟩ hN
  cases rs with
  | nil => cases hrs
  | cons t rs =>
   injection hrs with e1 e2
   subst e1 e2
   refine ⟨hst,?_⟩
   show te (some (enc t) :: rest) H' _
   refine ht t (by rw [<- hsp]; simp) _ ⟨?_,hN _ _ _ ⟨rs,ds ++ [t],_,rfl,rfl,by simp,by rw [<- hsp]; simp,rfl⟩⟩
   have:=congrArg List.length hsp
   simp only [List.length_append,List.length_cons] at this
   rw [List.length_map]
   omega
end L3
namespace L3
open PySem PySem.Spec PyProof.Rows L2
section
variable {X : Cx}
noncomputable def bools3 : List T -> Option (List Bool)
 | [] => some []
 | .bl x :: r => (bools3 r).map (x :: ·)
 | _ => none
def alH (o : Option O3) (H : Hp3) (Q : VK3) : Prop:=match o with
 | some (.lst xs) => oq (bools3 xs) fun bs => Q (.bl (bs.all id)) H
 | some (.rol xs) => oq (bools3 xs) fun bs => Q (.bl (bs.all id)) H
 | _ => False
def r3All : List T -> Hp3 -> VK3 -> Prop:=fun ts H Q => match ts with
 | [.ref a] => alH (H a) H Q
 | _ => False
theorem q_all (a : Addr) {H : Hp3} {Q : VK3} : r3All [.ref a] H Q = alH (H a) H Q:=rfl
theorem q_alH (xs : List T) {H : Hp3} {Q : VK3} : alH (some (.lst xs)) H Q = oq (bools3 xs) fun bs => Q (.bl (bs.all id)) H:=rfl
end
end L3
set_option maxHeartbeats 4000000
namespace L3
open PySem PySem.Spec PyProof.Rows L2
theorem tu_norev : typeLookup (.type "tuple") "__reversed__" = pure none:=by rw [typeLookup_type,builtinLookup_eq_fast]; kernel_rfl
theorem tu_nodict : isSubtype (.type "tuple") (.type "dict") = pure false:=by rw [isSubtype_type]; kernel_rfl
theorem rv_init : Slot "reversed" "__init__" "object.__init__":=.of (owner:="object") (n:="__init__") (by rw [typeLookup_type,builtinLookup_eq_fast]; kernel_rfl) (by decide +kernel) (by decide +kernel) (by decide +kernel)
 (by first | exact .inr (by decide +kernel) | exact .inl (by decide +kernel)) (by rw [isSubtype_type]; kernel_rfl)
theorem rv_next : Slot "reversed" "__next__" "reversed.__next__":=.of (owner:="reversed") (n:="__next__") (by rw [typeLookup_type,builtinLookup_eq_fast]; kernel_rfl) (by decide +kernel) (by decide +kernel) (by decide +kernel)
 (by first | exact .inr (by decide +kernel) | exact .inl (by decide +kernel)) (by rw [isSubtype_type]; kernel_rfl)
theorem rv_iter : Slot "reversed" "__iter__" "reversed.__iter__":=.of (owner:="reversed") (n:="__iter__") (by rw [typeLookup_type,builtinLookup_eq_fast]; kernel_rfl) (by decide +kernel) (by decide +kernel) (by decide +kernel)
 (by first | exact .inr (by decide +kernel) | exact .inl (by decide +kernel)) (by rw [isSubtype_type]; kernel_rfl)
theorem rv_hint : Slot "reversed" "__length_hint__" "reversed.__length_hint__":=.of (owner:="reversed") (n:="__length_hint__") (by rw [typeLookup_type,builtinLookup_eq_fast]; kernel_rfl) (by decide +kernel) (by decide +kernel) (by decide +kernel)
 (by first | exact .inr (by decide +kernel) | exact .inl (by decide +kernel)) (by rw [isSubtype_type]; kernel_rfl)
theorem rv_own : Manifest.owners.lookup (String.ofList ['d','e','s','r','e','v','e','r'].reverse) = some Manifest.sig_reversed:=by kernel_rfl
theorem rv_next_e : entryFor table "reversed.__next__" = some Builtin.«reversed.__next__»:=entryFor_of_tree (by kernel_rfl)
theorem rv_hint_e : entryFor table "reversed.__length_hint__" = some Builtin.«reversed.__length_hint__»:=entryFor_of_tree (by kernel_rfl)
theorem rv_iter_e : entryFor table "reversed.__iter__" = some Builtin.«dict_keyiterator.__iter__» :=
 entryFor_alias (id':="dict_keyiterator.__iter__") (by kernel_rfl) (by first | rfl | decide +kernel | (unfold String.splitOn; simp +decide [String.splitOnAux])) (by decide +kernel) (by kernel_rfl)
theorem rv_next_a (a : Value) : argsOk "reversed.__next__" ⟨[a],[]⟩:=by
 unfold argsOk; rw [signature?_of (id:="reversed.__next__") (n:=['_','_','t','x','e','n','_','_']) (o:=['d','e','s','r','e','v','e','r']) (by kernel_rfl) rv_own]; kernel_rfl
theorem rv_iter_a (a : Value) : argsOk "reversed.__iter__" ⟨[a],[]⟩:=by
 unfold argsOk; rw [signature?_of (id:="reversed.__iter__") (n:=['_','_','r','e','t','i','_','_']) (o:=['d','e','s','r','e','v','e','r']) (by kernel_rfl) rv_own]; kernel_rfl
theorem rv_hint_a (a : Value) : argsOk "reversed.__length_hint__" ⟨[a],[]⟩:=by
 unfold argsOk; rw [signature?_of (id:="reversed.__length_hint__") (n:=['_','_','t','n','i','h','_','h','t','g','n','e','l','_','_']) (o:=['d','e','s','r','e','v','e','r']) (by kernel_rfl) rv_own]; kernel_rfl
theorem rv_nolen : typeLookup (.type "reversed") "__len__" = pure none:=by rw [typeLookup_type,builtinLookup_eq_fast]; kernel_rfl
noncomputable def rvObj (t : Addr) (i : Int) : Obj:={ cls:=.type "reversed",data:=.fields #[.ref t,rawInt i] }
def RvAt (h : Heap) (a t : Addr) (i : Int) : Prop:=∃ o,h.get? a = some o /\ o.cls = .type "reversed" /\ o.data = .fields #[.ref t,rawInt i]
theorem RvAt.ty {s : Shared} {a t : Addr} {i : Int} (x : RvAt s.heap a t i) : s.TypeIs (.ref a) "reversed":=let ⟨o,ho,hc,_⟩:=x; ⟨o,ho,hc⟩
theorem meets_rev_tup (t : Addr) (items : Array Value) (hsz : items.size <= sizeLine) : Meets (Builtin.«reversed.__new__» ⟨[.type "reversed",.ref t],[]⟩) (fun _ R s => s.heap.IsTuple t items /\
   ∀ tk,s.toks <= tk -> R (.ok (.ret (.ref s.heap.objs.size))) { s with heap:=s.heap.push (rvObj t ((items.size : Int) - 1)),toks:=tk }) :=
 .of_wp fun prog w A R s h => by
  obtain ⟨hl,h⟩:=h
  unfold Builtin.«reversed.__new__»
  refine wpAny_bind (wpAny_of_eq (newClass_reversed _) ?_)
  try dsimp only
  refine wpAny_bind (wpAny_of_eq (a:=()) (by first | rfl | kernel_rfl) ?_)
  refine wpAny_bind (wpAny_of_eq (a:=()) (by first | rfl | kernel_rfl) ?_)
  try dsimp only
  refine wpAny_bind (wpAny_specialOf hl.typeIs tu_norev ?_)
  try dsimp only
  refine wpAny_bind ?_
  show wpAny _ A.in1 (isInstance (Value.ref t) (.type "dict") >>= fun b => if b = true then pure false else specialOf (Value.ref t) "__getitem__" >>= fun o => _) _ _ s
  refine wpAny_bind (wpAny_isInstance (b:=false) hl.typeIs tu_nodict ?_)
  rw [if_neg Bool.false_ne_true]
  refine wpAny_bind (wpAny_specialOf hl.typeIs F.slot_tuple_getitem.lookup ?_)
  dsimp only
  rw [if_pos (by decide +kernel)]
  refine wpAny_pure ?_
  rw [if_neg (by decide)]
  refine wpAny_bind (len_tuple hl (by have:=line63; omega) ?_)
  refine wpAny_bind (wpAny_of_eq (a:=some (items.size : Int)) rfl ?_)
  dsimp only
  show wpAny _ _ (newObj (.type "reversed") (.fields #[.ref t,rawInt ((items.size : Int) - 1)]) >>= fun v => ret v) _ _ _
  refine wpAny_bind (wpAny_newObj_type ?_)
  exact wpAny_pure ⟨_,rfl,h _ (by show s.toks <= s.toks + 1 + 1; omega)⟩
theorem called_rev : TypeCalled "reversed" "reversed.__new__" "object.__init__" :=
 ⟨by decide +kernel,by decide +kernel,⟨_,_,F.mro_reversed⟩,F.made_reversed,by decide +kernel,F.sub_reversed_self,rv_init⟩
section
variable {prog : Program} {w : World} {A : Around} {E : Value -> Shared -> Prop} {s : Shared}
theorem call_rev_tup {t : Addr} {items : Array Value} {Q : Value -> Shared -> Prop} (hl : s.heap.IsTuple t items) (hsz : items.size <= sizeLine)
  (h : ∀ tk,s.toks <= tk -> Q (.ref s.heap.objs.size) { s with heap:=s.heap.push (rvObj t ((items.size : Int) - 1)),toks:=tk }) :
  wpAny (model prog w) A (call (.type "reversed") [.ref t]) Q E s:=by
 refine callType_new called_rev (by decide) (F.typeCall_reversed_1 _) (F.newCall_reversed_1 _) (fun obj => F.args_object_init_2 obj _) F.entry_reversed_new (meets_rev_tup t items hsz) ⟨hl,fun tk htk => ?_⟩
 exact ⟨⟨_,Heap.get?_push_size _ rfl,rfl⟩,h tk htk⟩
theorem rv_item {it t : Addr} {i : Nat} {items : Array Value} {x : Value} {Q : Option Value -> Shared -> Prop} (hit : RvAt s.heap it t (i : Int)) (hl : s.heap.IsTuple t items) (hsz : items.size <= sizeLine) (hx : items[i]? = some x)
  (hQ : ∀ h' tk,s.toks <= tk -> RvAt h' it t ((i : Int) - 1) -> Heap.SameBut it s.heap h' -> Q (some x) { s with heap:=h',toks:=tk }) : wpAny (model prog w) A (pyNext (.ref it)) Q E s:=by
 obtain ⟨o,ho,hc,hd⟩:=id hit
 have hi:=(Array.getElem?_eq_some_iff.mp hx).1
 have:=line63
 unfold pyNext
 refine wpAny_bind (wpAny_attempt (wpAny_callSpecial?_slot (name:=Str.ofString "__next__") hit.ty rv_next
  (wpAny_call_entry rv_next hit.ty rv_next_e ?_ (rv_next_a _))))
 unfold Builtin.«reversed.__next__»
 refine wpAny_bind (wpAny_of_eq (a:=(Value.ref it,[])) rfl ?_)
 try dsimp only
 refine wpAny_bind (wpAny_field ho hd (x:=.ref t) rfl ?_)
 refine wpAny_bind (wpAny_field ho hd (x:=rawInt (i : Int)) rfl ?_)
 show wpAny _ _ (if (i : Int) < 0 then _ else _) _ _ s
 rw [if_neg (by omega)]
 refine wpAny_bind (wpAny_specialOf hl.typeIs F.slot_tuple_getitem.lookup ?_)
 rw [if_neg (by decide)]
 refine wpAny_bind (wpAny_mkInt ?_)
 refine wpAny_bind (wpAny_attempt (getItem_tuple (k:=i) hl (by omega) (by omega) ?_ hx ?_))
 ·
  simp [seqIndex?]
  omega
 refine wpAny_bind (wpAny_field ho hd (x:=rawInt (i : Int)) rfl ?_)
 show wpAny _ _ (setField (.ref it) 1 (rawInt ((i : Int) - 1)) >>= fun _ => ret x) _ _ _
 refine wpAny_bind (wpAny_setField ho hd (by simp) ?_)
 refine wpAny_pure ⟨x,rfl,wpAny_pure (hQ _ _ (by show s.toks <= s.toks + 1; omega) ?_ (Heap.SameBut.update ..))⟩
 exact ⟨_,Heap.get?_update_self _ ho (Obj.isFreed_of_fields (Obj.data_mapFields hd _)),(Obj.cls_mapFields ..).trans hc,by
  rw [Obj.data_mapFields hd]; simp⟩
end
end L3
namespace L3
open PySem PySem.Spec PyProof.Rows L2
section
variable {prog : Program} {w : World} {A : Around} {E : Value -> Shared -> Prop} {s : Shared}
theorem rv_end {it t : Addr} {Q : Option Value -> Shared -> Prop} (hh : A.handled = none) (hit : RvAt s.heap it t (-1))
  (hQ : ∀ h',Heap.ExtBut it s.heap h' -> Q none { s with heap:=h' }) : wpAny (model prog w) A (pyNext (.ref it)) Q E s:=by
 obtain ⟨o,ho,hc,hd⟩:=id hit
 unfold pyNext
 refine wpAny_bind (wpAny_attempt (wpAny_callSpecial?_slot (name:=Str.ofString "__next__") hit.ty rv_next
  (wpAny_call_entry rv_next hit.ty rv_next_e ?_ (rv_next_a _))))
 unfold Builtin.«reversed.__next__»
 refine wpAny_bind (wpAny_of_eq (a:=(Value.ref it,[])) rfl ?_)
 try dsimp only
 refine wpAny_bind (wpAny_field ho hd (x:=.ref t) rfl ?_)
 refine wpAny_bind (wpAny_field ho hd (x:=rawInt (-1)) rfl ?_)
 show wpAny _ _ (if (-1 : Int) < 0 then _ else _) _ _ s
 rw [if_pos (by decide)]
 refine wpAny_bind (wpAny_rule ?_)
 refine wpAny_bind ?_
 show wpAny _ _ (setField (.ref it) 1 (rawInt (-1)) >>= fun _ => setField (.ref it) 0 .none) _ _ s
 refine wpAny_bind (wpAny_setField ho hd (by simp) ?_)
 have hf:=Obj.isFreed_of_fields (Obj.data_mapFields hd fun vs => vs.setIfInBounds 1 (rawInt (-1)))
 have ho2:=Heap.get?_update_self (Obj.mapFields fun vs => vs.setIfInBounds 1 (rawInt (-1))) ho hf
 refine wpAny_setField ho2 (Obj.data_mapFields hd _) (by simp) ?_
 refine wpAny_bind ?_
 show wpAny _ _ (newExc (.type "StopIteration") [] >>= _) _ _ _
 refine wpAny_bind ?_
 simp only [newExc,newTuple]
 refine wpAny_bind (wpAny_newObj_type ?_ (by size_fits))
 refine wpAny_bind (m:=firstArgMember _ _) (wpAny_of_eq (a:=Value.none) (by first | rfl | (simp only [firstArgMember]; rfl)) ?_)
 refine wpAny_newObj_type ?_ (by size_fits)
 simp only [raiseNew]
 refine wpAny_bind (wpAny_handled ?_)
 first | rw [show A.in1.handled = none from hh] | rw [hh]
 refine wpAny_bind (wpAny_pure (wpAny_throw ?_))
 refine wpAny_bind (wpAny_isInstance (T:="StopIteration") (b:=true) ⟨_,Heap.get?_push_size _ rfl,rfl⟩ isSubtype_stop ?_)
 refine wpAny_pure (hQ _ fun b o' hb e => ?_)
 refine Heap.get?_push_of_some _ (Heap.get?_push_of_some _ ?_)
 exact (Heap.get?_update_other _ _ (Ne.symm hb)).trans ((Heap.get?_update_other _ _ (Ne.symm hb)).trans e)
theorem rv_self {it t : Addr} {i : Int} {Q : Value -> Shared -> Prop} (hit : RvAt s.heap it t i) (h : Q (.ref it) s) : wpAny (model prog w) A (pyIter (.ref it)) Q E s:=by
 refine wpAny_pyIter_slot hit.ty rv_iter (wpAny_call_entry rv_iter hit.ty rv_iter_e ?_ (rv_iter_a _))
 show wpAny _ _ (ret (.ref it)) _ _ s
 exact wpAny_pure ⟨_,rfl,"reversed",_,hit.ty,rv_next.lookup,h⟩
end
theorem rv_walks {prog : Program} {w : World} {A : Around} (hh : A.handled = none) (I t : Addr) (hne : t ≠ I) (items : Array Value) (hsz : items.size <= sizeLine) :
  Walks prog w A I [I,t] [I] items.size (fun i v => items[items.size - 1 - i]? = some v) (fun i h => i <= items.size /\ RvAt h I t ((items.size : Int) - 1 - (i : Int)) /\ h.IsTuple t items) where
 sub:=fun b hb => by rw [List.mem_singleton.mp hb]; exact List.mem_cons_self
 frame:=fun _ _ _ x hk => by
  obtain ⟨o,ho,r⟩:=x.2.1
  exact ⟨x.1,⟨o,hk I (by simp) o ho,r⟩,x.2.2.at fun o e => hk t (by simp) o e⟩
 item:=fun i s Q E hi x hQ => by
  have e : (items.size : Int) - 1 - (i : Int) = ((items.size - 1 - i : Nat) : Int):=by omega
  have hit:=x.2.1
  rw [e] at hit
  have hx : items[items.size - 1 - i]? = some (items[items.size - 1 - i]'(by omega)):=Array.getElem?_eq_getElem (by omega)
  refine rv_item hit x.2.2 hsz hx fun h' tk htk hit' hs' => ?_
  have e2 : ((items.size - 1 - i : Nat) : Int) - 1 = (items.size : Int) - 1 - ((i + 1 : Nat) : Int):=by omega
  rw [e2] at hit'
  exact hQ _ h' tk hx ⟨hi,hit',x.2.2.at fun o eo => (hs'.2 t hne).trans eo⟩ fun b o hb eo => hs'.extBut b o (fun h => hb (by simp [h])) eo
 done:=fun s Q E x hQ => by
  have e : (items.size : Int) - 1 - (items.size : Int) = -1:=by omega
  have hit:=x.2.1
  rw [e] at hit
  exact rv_end hh hit fun h' he' => hQ h' s.toks fun b o hb eo => he' b o (fun h => hb (by simp [h])) eo
 self:=fun _ _ _ _ x hQ => rv_self x.2.1 hQ
end L3
namespace L3
open PySem PySem.Spec PyProof.Rows L2
section
variable {prog : Program} {w : World} {A : Around} {E : Value -> Shared -> Prop} {s : Shared}
theorem rv_len {it t : Addr} {items : Array Value} {Q : Value -> Shared -> Prop} (hit : RvAt s.heap it t ((items.size : Int) - 1)) (hl : s.heap.IsTuple t items) (hsz : items.size <= sizeLine)
  (hQ : ∀ u tk,s.toks <= tk -> Q (.int (items.size : Int) u) { s with toks:=tk }) : wpAny (model prog w) A (call (.builtin "reversed.__length_hint__") [.ref it]) Q E s:=by
 obtain ⟨o,ho,hc,hd⟩:=id hit
 have:=line63
 refine wpAny_call_entry rv_hint hit.ty rv_hint_e ?_ (rv_hint_a _)
 unfold Builtin.«reversed.__length_hint__»
 refine wpAny_bind (wpAny_of_eq (a:=Value.ref it) rfl ?_)
 refine wpAny_bind (wpAny_field ho hd (x:=.ref t) rfl ?_)
 rw [if_neg (show ¬ (Value.ref t == Value.none) = true from Bool.false_ne_true)]
 refine wpAny_bind (len_tuple hl (by omega) ?_)
 refine wpAny_bind (wpAny_of_eq (a:=some (items.size : Int)) rfl ?_)
 dsimp only
 refine wpAny_bind (wpAny_field ho hd (x:=rawInt ((items.size : Int) - 1)) rfl ?_)
 show wpAny _ _ (if (items.size : Int) < (items.size : Int) - 1 + 1 then _ else _) _ _ _
 rw [if_neg (by omega)]
 show wpAny _ _ (mkInt ((items.size : Int) - 1 + 1) >>= fun v => ret v) _ _ _
 refine wpAny_bind (wpAny_mkInt (wpAny_pure ⟨_,rfl,?_⟩))
 rw [show (items.size : Int) - 1 + 1 = items.size from by omega]
 exact hQ _ _ (by show s.toks <= s.toks + 1 + 1 + 1; omega)
end
noncomputable def empL : Obj:={ cls:=.type "list",data:=.seq ([] : List Value).toArray }
section
variable {prog : Program} {w : World} {A : Around} {E : Value -> Shared -> Prop} {s : Shared}
theorem rv_collect {I t : Addr} {items : Array Value} {Q : List Value -> Shared -> Prop} (hh : A.handled = none) (hne : t ≠ I) (hsz : items.size <= sizeLine) (hit : RvAt s.heap I t ((items.size : Int) - 1)) (hl : s.heap.IsTuple t items)
  (hQ : ∀ s' acc,Moved [I] (fun a b => b = a) s s' -> ItemsOf (fun i v => items[items.size - 1 - i]? = some v) acc items.size -> Q acc.toList s') : wpAny (model prog w) A (collect (.ref I)) Q E s:=by
 have W:=(rv_walks (prog:=prog) (w:=w) (A:=A.in1) hh I t hne items hsz).toS
 have hIl : I < s.heap.objs.size:=by obtain ⟨o,ho,_⟩:=hit; exact Heap.lt_size ho
 have htl : t < s.heap.objs.size:=by obtain ⟨o,ho,_⟩:=hl; exact Heap.lt_size ho
 have hSf : s.heap.objs.size ∉ [I,t]:=fun hm => by
  rcases List.mem_cons.mp hm with e | e
  ·
   rw [<- e] at hIl; exact Nat.lt_irrefl _ hIl
  ·
   rw [<- List.mem_singleton.mp e] at htl; exact Nat.lt_irrefl _ htl
 have hSI : s.heap.objs.size ≠ I:=fun e => by rw [<- e] at hIl; exact Nat.lt_irrefl _ hIl
 have st : (fun (i : Nat) (s : Shared) => i <= items.size /\ RvAt s.heap I t ((items.size : Int) - 1 - (i : Int)) /\ s.heap.IsTuple t items) 0 s:=⟨Nat.zero_le _,by simpa using hit,hl⟩
 unfold collect
 refine wpAny_bind (wpAny_runValue (codeAny_builtin F.entry_proto_collect ?_))
 rw [Around.under_plainId F.plain_proto_collect _]
 show wpAny _ A.in1 (newList [] >>= fun z => again (.builtin "list.__iadd__" ⟨[z,.ref I],[]⟩)) _ _ s
 refine wpAny_bind (wpAny_newObj_type ?_)
 refine wpAny_pure ⟨plainId_quiet F.plain_list_iadd _,codeAny_builtin F.entry_list_iadd ?_⟩
 rw [Around.under_plainId F.plain_list_iadd _]
 have st1:=W.frame 0 s (s.heap.push empL) s.toks st (Nat.le_refl _) fun b _ o e => Heap.get?_push_of_some _ e
 have hE : (s.heap.push empL).get? s.heap.objs.size = some empL:=Heap.get?_push_size _ rfl
 show wpAny _ A.in1 (Builtin.List.listExtendWith (.ref s.heap.objs.size) (.ref I) (.ref s.heap.objs.size)) _ _ { s with heap:=s.heap.push empL }
 unfold Builtin.List.listExtendWith
 have hty : ({ s with heap:=s.heap.push empL } : Shared).TypeIs (.ref I) "reversed":=RvAt.ty st1.2.1
 refine wpAny_bind (wpAny_typeOf hty ?_)
 have n1 : Builtin.List.listSameRef (.ref s.heap.objs.size) (.ref I) = false:=by simp [Builtin.List.listSameRef,hSI]
 have n2 : (Value.type "reversed" == Value.type "list") = false:=by decide
 have n3 : (Value.type "reversed" == Value.type "tuple") = false:=by decide
 simp only [n1,n2,n3,Bool.or_false,Bool.false_eq_true,if_false]
 refine wpAny_bind (rv_self st1.2.1 ?_)
 refine wpAny_bind (wpAny_holding ?_)
 unfold Builtin.List.listLengthHint
 refine wpAny_bind (wpAny_specialOf hty rv_nolen ?_)
 show wpAny _ A.in1 (specialOf (Value.ref I) (Str.ofString "__length_hint__") >>= _) _ _ _
 refine wpAny_bind (wpAny_specialOf hty rv_hint.lookup ?_)
 generalize hid : ("reversed.__length_hint__" : String) = id0
 (fail_if_success (clear hid id0))
 wp_delta
 rw [show splitId id0 = some ("reversed","__length_hint__") from by subst hid; decide +kernel]
 subst hid
 refine wpAny_bind (wpAny_isInstance (b:=true) hty F.sub_reversed_self ?_)
 rw [if_neg (show ¬ (!true) = true from Bool.false_ne_true)]
 dsimp only
 rw [if_neg (by decide +kernel)]
 refine wpAny_bind (wpAny_rule ?_)
 refine wpAny_bind (wpAny_of_eq (rv_hint.bind _) ?_)
 dsimp only
 have hit1 : RvAt (s.heap.push empL) I t ((items.size : Int) - 1):=by have:=st1.2.1; simpa using this
 refine wpAny_bind (wpAny_attempt (rv_len hit1 st1.2.2 hsz fun u tk htk => ?_))
 dsimp only
 have e0 : asInt? (Value.int (items.size : Int) u) = pure (some (items.size : Int)):=rfl
 rw [e0,pure_bind]
 dsimp only
 have f1 : Builtin.List.listFitsIndex (items.size : Int) = true:=by
  have:=line63
  unfold Builtin.List.listFitsIndex
  rw [Bool.and_eq_true,decide_eq_true_iff,decide_eq_true_iff]
  omega
 have f2 : Builtin.List.listTooLong (items.size : Int).toNat = false:=by
  unfold Builtin.List.listTooLong
  rw [decide_eq_false_iff_not,Int.toNat_natCast]
  omega
 rw [f1,f2,if_neg (show ¬ (!true) = true from Bool.false_ne_true),if_neg (show ¬ ((items.size : Int) < 0) from by omega),if_neg Bool.false_ne_true]
 refine wpAny_pure ?_
 have st2:=W.frame 0 _ (s.heap.push empL) tk st1 htk fun b _ o e => e
 have fin : ∀ (h2 : Heap),(∀ b o,b ≠ s.heap.objs.size -> (s.heap.push empL).get? b = some o -> h2.get? b = some o) -> (∃ c,h2.get? s.heap.objs.size = some { cls:=.type "list",dict:=none,data:=.seq #[] c,slots:=#[] }) ->
   codeAny (model prog w) A (.builtin "list.extend.loop" ⟨[.ref s.heap.objs.size,.ref I,.ref s.heap.objs.size],[]⟩) (fun r s' => r = .ok (.ret (.ref s.heap.objs.size)) /\ ∃ acc c,Moved [I] (fun a b => b = a) s s' /\ s'.heap.get? s.heap.objs.size = some { cls:=.type "list",dict:=none,data:=.seq acc c,slots:=#[] } /\ ItemsOf (fun i v => items[items.size - 1 - i]? = some v) acc items.size) { s with heap:=h2,toks:=tk }:=fun h2 k1 ⟨c,k2⟩ => by
  refine codeAny_extend_loopS W hsz _ hSf _ items.size 0 _ _ _ rfl (Nat.zero_le _) (W.frame 0 ({ s with heap:=s.heap.push empL,toks:=tk } : Shared) h2 tk st2 (Nat.le_refl _) fun b hb o e => k1 b o (fun z => hSf (z ▸ hb)) e) k2 (ItemsOf.nil _) fun s' acc' c' hm hS' hacc => ⟨rfl,acc',c',?_,hS',hacc⟩
  refine Moved.drop_new (o:=empL) (tk:=tk) (Moved.trans W.gtrans ((Moved.refl (G:=fun a b => b = a) fun _ => rfl).then_heap (s':={ s with heap:=s.heap.push empL,toks:=tk }) (Nat.le_refl _) fun b o hb e => ?_) hm) htk
  exact k1 b o (fun z => hb (z ▸ List.mem_cons_self)) e
 clear f1 f2
 split
 ·
  refine wpAny_bind (wpAny_rule ?_)
  refine wpAny_bind ?_
  show wpAny _ A.in1 (updateSeq s.heap.objs.size (·.push .none) >>= fun _ => updateSeq s.heap.objs.size (·.pop)) _ _ _
  refine wpAny_bind (wpAny_updateSeq hE rfl ?_)
  have hE2:=Heap.get?_update_self (Obj.mapSeq (·.push Value.none)) hE rfl
  refine wpAny_updateSeq hE2 rfl ?_
  have hE3:=Heap.get?_update_self (Obj.mapSeq (·.pop)) hE2 rfl
  refine wpAny_pure ⟨plainId_quiet F.plain_extend_loop _,codeAny_mono (fin _ (fun b o hb e => (Heap.get?_update_other _ _ (Ne.symm hb)).trans ((Heap.get?_update_other _ _ (Ne.symm hb)).trans e)) ⟨_,hE3⟩) ?_⟩
  rintro r s' ⟨rfl,acc,c,hm,hS',hacc⟩
  show wpAny _ A (load s.heap.objs.size >>= _) _ _ s'
  exact wpAny_bind (wpAny_load hS' (wpAny_pure (hQ s' acc hm hacc)))
 ·
  refine wpAny_pure ⟨plainId_quiet F.plain_extend_loop _,codeAny_mono (fin _ (fun b o hb e => e) ⟨_,hE⟩) ?_⟩
  rintro r s' ⟨rfl,acc,c,hm,hS',hacc⟩
  show wpAny _ A (load s.heap.objs.size >>= _) _ _ s'
  exact wpAny_bind (wpAny_load hS' (wpAny_pure (hQ s' acc hm hacc)))
end
theorem rv_items {items acc : Array Value} (h : ItemsOf (fun i v => items[items.size - 1 - i]? = some v) acc items.size) : acc = items.reverse:=by
 refine Array.ext (by rw [h.1]; simp) fun j h1 h2 => ?_
 have q : items[items.size - 1 - j]? = some acc[j]:=h.2 j acc[j] (Array.getElem?_eq_getElem h1)
 have hj : j < items.size:=by rw [<- h.1]; exact h1
 rw [Array.getElem?_eq_getElem (by omega)] at q
 rw [Array.getElem_reverse]
 exact (Option.some.inj q).symm
theorem meets_tup_rev (I t : Addr) (items : Array Value) (hsz : items.size <= sizeLine) (hne : t ≠ I) :
  Meets (Builtin.«tuple.__new__» ⟨[.type "tuple",.ref I],[]⟩)
   (fun A R s => A.handled = none /\ RvAt s.heap I t ((items.size : Int) - 1) /\ s.heap.IsTuple t items /\ ∀ s',Moved [I] (fun a b => b = a) s s' -> R (.ok (.ret (.ref s'.heap.objs.size))) { s' with heap:=s'.heap.push { cls:=.type "tuple",data:=.seq items.reverse } }) :=
 .of_wp fun prog w A R s h => by
  obtain ⟨hp,g,d,tk,os⟩:=s
  obtain ⟨hh,hr,hl,h⟩:=h
  have hsub:=sub_tuple_self
  have hinit:=init_tuple_lookup
  have hmh:=madeHere_tuple
  have hT : Shared.TypeIs ⟨hp,g,d,tk,os⟩ (.ref I) "reversed":=RvAt.ty hr
  have ho:=hr
  obtain ⟨o,ho,hc,hd⟩:=ho
  wp_walk using AutoSeq1.wpAny_loadPart' ho,wpAny_typeOf hT,rv_collect (A:=A.in1) hh hne hsz hr hl
  intro s' acc hm hacc
  rw [rv_items hacc]
  show wpAny _ _ (Builtin.Tuple.tupleExact items.reverse.toList.toArray >>= fun v => ret v) _ _ _
  unfold Builtin.Tuple.tupleExact
  refine wpAny_bind (wpAny_newObj_type ?_ (by show items.reverse.toList.toArray.size <= sizeLine; simpa using hsz))
  refine wpAny_pure ⟨_,rfl,?_⟩
  rw [show items.reverse.toList.toArray = items.reverse from Array.toArray_toList]
  exact h s' hm
section
variable {prog : Program} {w : World} {A : Around} {E : Value -> Shared -> Prop} {s : Shared}
theorem call_tup_rev {I t : Addr} {items : Array Value} {Q : Value -> Shared -> Prop} (hh : A.handled = none) (hne : t ≠ I) (hsz : items.size <= sizeLine) (hr : RvAt s.heap I t ((items.size : Int) - 1)) (hl : s.heap.IsTuple t items)
  (h : ∀ s',Moved [I] (fun a b => b = a) s s' -> Q (.ref s'.heap.objs.size) { s' with heap:=s'.heap.push { cls:=.type "tuple",data:=.seq items.reverse } }) :
  wpAny (model prog w) A (call (.type "tuple") [.ref I]) Q E s :=
 callType_new F.called_tuple (by decide) (F.typeCall_tuple_1 _) (F.newCall_tuple_1 _) (fun obj => F.args_object_init_2 obj _) F.entry_tuple_new
  (meets_tup_rev I t items hsz hne) ⟨hh,hr,hl,fun s' hm => ⟨⟨_,Heap.get?_push_size _ rfl,rfl⟩,h s' hm⟩⟩
end
section
variable {X : Cx} {e : Expr} {te : TE} {p1 p2 pos pos' : Pos}
def tTupRev (te : TE) : TE:=fun σ H Q => te σ H fun x H1 => ∃ p ys,x = .ref p /\ SqT X.K H1 p ys /\ ∀ l,H1 l = none -> Q (.ref l) (upd H1 l (.tup ys.reverse))
theorem pe_tupRev (hc : X.calm = true) (hgt : Gl X "tuple") (hmt : X.mg "tuple" = none) (hgr : Gl X "reversed") (hmr : X.mg "reversed" = none) (hvt : bootBuiltins "tuple" = some (.type "tuple")) (hvr : bootBuiltins "reversed" = some (.type "reversed")) (ha : PE X e te)
  (he : starEach [e] X.env = (false,eval e X.env) :: starEach [] X.env:=by rfl) (hpl : (backTo pos (starEach [] X.env)).any (·.1) = false:=by rfl) (hpl' : (backTo pos' (starEach [] X.env)).any (·.1) = false:=by rfl) :
  PE X (.Call (.Name "tuple" p1) [.Call (.Name "reversed" p2) [e] [] pos'] [] pos) (tTupRev (X:=X) te):=by
 intro pins s σ H Q I h
 refine wpAny_Call_Name_kw (ld_blt I hgt hmt hvt ?_ (by decide) (by decide))
 refine PyProof.Rows.callWith_type1 ?_ rfl hpl
 show wpAny _ _ (spliced ((false,eval (.Call (.Name "reversed" p2) [e] [] pos') X.env) :: backTo pos (starEach [] X.env))) _ _ s
 refine Calls.spliced_cons ?_
 refine wpAny_Call_Name_kw (ld_blt I hgr hmr hvr ?_ (by decide) (by decide))
 refine PyProof.Rows.callWith_type1 ?_ he hpl'
 rw [he]
 show wpAny _ _ (spliced ((false,eval e X.env) :: backTo pos' (starEach [] X.env))) _ _ s
 refine Calls.spliced_cons (thn (ha pins s σ H _ I h) fun u s1 ⟨x,H1,I1,r1,p,ys,hx,sq,q⟩ => ?_)
 subst hx
 cases r1
 obtain ⟨its,rv,hl,hz⟩:=I1.tuple sq
 have hlen:=rv.length
 have hsz : its.toArray.size <= sizeLine:=by simp only [List.size_toArray]; omega
 refine Calls.spliced_nil ?_
 refine call_rev_tup hl hsz fun tk htk => ?_
 refine Calls.spliced_nil ?_
 have hpI : p ≠ s1.heap.objs.size:=fun z => by
  obtain ⟨o,eo,_⟩:=hl
  have:=Heap.lt_size eo
  rw [z] at this
  exact Nat.lt_irrefl _ this
 refine call_tup_rev (I1.ok.hd hc) hpI hsz ⟨_,Heap.get?_push_size _ rfl,rfl,rfl⟩ (let ⟨o,eo,r⟩:=hl; ⟨o,Heap.get?_push_of_some _ eo,r⟩) fun s' hm => ?_
 have kp : ∀ b u,s1.heap.get? b = some u -> s'.heap.get? b = some u:=fun b u eb => hm.heap b u (fun z => by
  have:=Heap.lt_size eb
  rw [List.mem_singleton.mp z] at this
  exact Nat.lt_irrefl _ this) (Heap.get?_push_of_some _ eb)
 have e1 : s' = { s1 with heap:=s'.heap,toks:=s'.toks }:=by
  obtain ⟨a1,a2,a3,a4,a5⟩:=s'
  have:=hm.gens; have:=hm.drawn; have:=hm.os
  simp_all
 have I2 : Inv X pins σ H1 { s1 with heap:=s'.heap,toks:=s'.toks }:=I1.kept kp
 have I3 : Inv X pins σ (upd H1 s'.heap.objs.size (.tup ys.reverse)) { s1 with heap:=s'.heap.push { cls:=.type "tuple",data:=.seq its.toArray.reverse },toks:=s'.toks } :=
  I2.laid (t':=s'.toks) (fun b o e => Heap.get?_push_of_some _ e) (Nat.le_refl _) (show ObjOk X.prog X.w _ _ _ (.tup ys.reverse) from ⟨by simpa using hz,its.reverse,rv.reverse,by simpa using Tup0.new _ _⟩)
 rw [e1]
 exact ⟨.ref s'.heap.objs.size,_,I3,rfl,q _ (I2.hok.fresh (Nat.le_refl _))⟩
def tTupRev3 (te : TE3) : TE3:=fun σ H Q => te σ H fun x H1 => match x with
 | .tup xs => Q (.tup xs.reverse) H1
 | _ => False
theorem e3_tupRev {te : TE3} (hc : X.calm = true) (hgt : Gl X "tuple") (hmt : X.mg "tuple" = none) (hgr : Gl X "reversed") (hmr : X.mg "reversed" = none) (ha : PE3 X e te)
  (he : starEach [e] X.env = (false,eval e X.env) :: starEach [] X.env:=by rfl) (hpl : (backTo pos (starEach [] X.env)).any (·.1) = false:=by rfl) (hpl' : (backTo pos' (starEach [] X.env)).any (·.1) = false:=by rfl) :
  PE3 X (.Call (.Name "tuple" p1) [.Call (.Name "reversed" p2) [e] [] pos'] [] pos) (tTupRev3 te):=by
 refine PE.imp (pe_tupRev hc hgt hmt hgr hmr bt_tuple (by decide +kernel) ha he hpl hpl') ?_
 rintro σ H Q ⟨σ3,H3,Q3,ss,sh,h,k⟩
 refine ⟨σ3,H3,_,ss,sh,h,fun v H' t H3' le sh' r q => ?_⟩
 cases t with
 | tup ts =>
  obtain ⟨a,ys,rfl,sq,rs⟩:=r.tup
  exact ⟨a,ys,rfl,sq,fun l hl => k _ _ _ _ (le.trans (upd_tupLe hl)) (sh'.new hl) (SimH.newTup (H3:=H3') hl rs.reverse) q⟩
 | _ => exact q.elim
end
end L3
namespace L3
open PySem PySem.Spec PyProof.Rows L2
section
variable {prog : Program} {w : World} {A : Around} {E : Value -> Shared -> Prop} {s : Shared}
end
structure ZAp (z ti to i1 i2 : Addr) (f1 f2 : List Addr) : Prop where
 ne : ti ≠ z /\ to ≠ z /\ ti ≠ to /\ i1 ≠ i2
 m1 : i1 ∈ f1
 m2 : i2 ∈ f2
 n1 : z ∉ f1 /\ ti ∉ f1 /\ to ∉ f1 /\ i2 ∉ f1
 n2 : z ∉ f2 /\ ti ∉ f2 /\ to ∉ f2 /\ i1 ∉ f2
section
variable {z ti to i1 i2 : Addr} {f1 f2 : List Addr}
theorem ZAp.i1z (D : ZAp z ti to i1 i2 f1 f2) : i1 ≠ z:=fun e => D.n1.1 (e ▸ D.m1)
theorem ZAp.i2z (D : ZAp z ti to i1 i2 f1 f2) : i2 ≠ z:=fun e => D.n2.1 (e ▸ D.m2)
theorem ZAp.i1to (D : ZAp z ti to i1 i2 f1 f2) : i1 ≠ to:=fun e => D.n1.2.2.1 (e ▸ D.m1)
theorem ZAp.i2to (D : ZAp z ti to i1 i2 f1 f2) : i2 ≠ to:=fun e => D.n2.2.2.1 (e ▸ D.m2)
end
section
variable {prog : Program} {w : World} {A : Around} {E : Value -> Shared -> Prop} {s : Shared} {z ti to i1 i2 : Addr} {f1 f2 : List Addr} {n1 n2 k : Nat} {P1 P2 : Nat -> Value -> Prop} {S1 S2 : Nat -> Heap -> Prop}
theorem z_item {a b : Value} {Q : Value -> Shared -> Prop} (D1 : Draws prog w A i1 f1 n1 P1 S1) (D2 : Draws prog w A i2 f2 n2 P2 S2) (D : ZAp z ti to i1 i2 f1 f2)
  (hz : IsZip s.heap z ti to .none) (hI : IsPair s.heap ti (.ref i1) (.ref i2)) (hO : IsPair s.heap to a b) (h1 : S1 k s.heap) (h2 : S2 k s.heap) (k1 : k < n1) (k2 : k < n2)
  (hQ : ∀ x y h' tk,P1 k x -> P2 k y -> IsZip h' z ti to (rawInt s.heap.objs.size) -> IsPair h' to x y -> S1 (k + 1) h' -> S2 (k + 1) h' -> IsPair h' s.heap.objs.size x y -> h'.objs.size = s.heap.objs.size + 1 ->
   (∀ c o,c ∉ [z,to,i1,i2] -> s.heap.get? c = some o -> h'.get? c = some o) -> Q (.ref s.heap.objs.size) { s with heap:=h',toks:=tk }) :
  wpAny (model prog w) A (Builtin.«zip.__next__» ⟨[.ref z],[]⟩) (fun fin s' => ∃ v,fin = .done (.ret v) /\ Q v s') E s:=by
 show wpAny _ _ (field (.ref z) 2 >>= _) _ _ _
 refine wpAny_bind (wpAny_field hz rfl (x:=.bool false) rfl ?_)
 show wpAny _ _ (field (.ref z) 3 >>= _) _ _ _
 refine wpAny_bind (wpAny_field hz rfl (x:=.ref ti) rfl ?_)
 refine wpAny_bind (wpAny_seqItems hI rfl ?_)
 show wpAny _ _ (Builtin.SmallTypes.ownedTupleIsFree (.ref z) >>= _) _ _ _
 refine wpAny_bind ?_
 unfold Builtin.SmallTypes.ownedTupleIsFree
 refine wpAny_bind (wpAny_field hz rfl (x:=.none) rfl (wpAny_pure ?_))
 simp only [if_true]
 refine wpAny_bind (wpAny_rule ?_)
 refine wpAny_bind (wpAny_field hz rfl (x:=.ref to) rfl ?_)
 refine wpAny_bind (wpAny_setField_rec hz (by simp) fun ha hza hsa => ?_)
 replace hza : IsZip ha z ti to .ellipsis:=hza
 refine wpAny_bind ?_
 simp only [List.zipIdx_cons,List.zipIdx_nil,List.forIn_cons,List.forIn_nil]
 refine wpAny_bind (wpAny_bind (wpAny_onRaise ?_))
 show wpAny _ _ (Builtin.SmallTypes.nextOf (.ref i1) >>= _) _ _ _
 have fr1 : ∀ {i : Nat} {h h' : Heap} {c : Addr},S1 i h -> Heap.SameBut c h h' -> c ∉ f1 -> S1 i h':=fun st sb nc => D1.frame _ _ _ st fun b hb o e => (sb.2 b fun q => nc (q ▸ hb)).trans e
 have fr2 : ∀ {i : Nat} {h h' : Heap} {c : Addr},S2 i h -> Heap.SameBut c h h' -> c ∉ f2 -> S2 i h':=fun st sb nc => D2.frame _ _ _ st fun b hb o e => (sb.2 b fun q => nc (q ▸ hb)).trans e
 refine wpAny_bind (D1.item k _ _ _ k1 (fr1 h1 hsa D.n1.1) fun x hb tb px sb1 hsb => wpAny_pure ?_)
 have hOb : IsPair hb to a b:=(hsb.2 to (Ne.symm D.i1to)).trans ((hsa.2 to D.ne.2.1).trans hO)
 refine wpAny_bind (wpAny_seqItems hOb rfl ?_)
 refine wpAny_bind (wpAny_updateSeq_pair hOb fun hc hOc hsc => ?_)
 replace hOc : IsPair hc to x b:=hOc
 refine wpAny_bind (wpAny_letGo (wpAny_pure ?_))
 refine wpAny_bind (wpAny_bind (wpAny_onRaise ?_))
 show wpAny _ _ (Builtin.SmallTypes.nextOf (.ref i2) >>= _) _ _ _
 have s2c : S2 k hc:=fr2 (fr2 (fr2 h2 hsa D.n2.1) hsb D.n2.2.2.2) hsc D.n2.2.2.1
 refine wpAny_bind (D2.item k _ _ _ k2 s2c fun y hd td py sd2 hsd => wpAny_pure ?_)
 have hOd : IsPair hd to x b:=(hsd.2 to (Ne.symm D.i2to)).trans hOc
 refine wpAny_bind (wpAny_seqItems hOd rfl ?_)
 refine wpAny_bind (wpAny_updateSeq_pair hOd fun he hOe hse => ?_)
 replace hOe : IsPair he to x y:=hOe
 refine wpAny_bind (wpAny_letGo (wpAny_pure (wpAny_pure ?_)))
 refine wpAny_bind (wpAny_seqItems hOe rfl ?_)
 refine wpAny_bind (wpAny_newTuple ?_)
 have hsz : he.objs.size = s.heap.objs.size:=by rw [hse.1,hsd.1,hsc.1,hsb.1,hsa.1]
 have hze : IsZip he z ti to .ellipsis:=(hse.2 z (Ne.symm D.ne.2.1)).trans ((hsd.2 z (Ne.symm D.i2z)).trans ((hsc.2 z (Ne.symm D.ne.2.1)).trans ((hsb.2 z (Ne.symm D.i1z)).trans hza)))
 have hke : ∀ c o,c ∉ [z,to,i1,i2] -> s.heap.get? c = some o -> he.get? c = some o:=fun c o hc e => by
  simp only [List.mem_cons,List.not_mem_nil,or_false,not_or] at hc
  exact (hse.2 c hc.2.1).trans ((hsd.2 c hc.2.2.2).trans ((hsc.2 c hc.2.1).trans ((hsb.2 c hc.2.2.1).trans ((hsa.2 c hc.1).trans e))))
 have s1e : S1 (k + 1) he:=fr1 (fr1 (fr1 sb1 hsc D.n1.2.2.1) hsd D.n1.2.2.2) hse D.n1.2.2.1
 have s2e : S2 (k + 1) he:=fr2 sd2 hse D.n2.2.2.1
 have hzl : z < he.objs.size:=Heap.lt_size hze
 show wpAny _ _ (Builtin.SmallTypes.ownedTupleHandOut (.ref z) (.ref he.objs.size) >>= _) _ _ _
 refine wpAny_bind ?_
 unfold Builtin.SmallTypes.ownedTupleHandOut
 have hzf : IsZip (he.push { cls:=.type "tuple",data:=.seq #[x,y] }) z ti to .ellipsis:=Heap.get?_push_of_some _ hze
 refine wpAny_bind (wpAny_setField_rec hzf (by simp) fun hg hzg hsg => ?_)
 replace hzg : IsZip hg z ti to (rawInt he.objs.size):=hzg
 refine wpAny_setField_rec hzg (by simp) fun hh hzh hsh => ?_
 replace hzh : IsZip hh z ti to (rawInt he.objs.size):=hzh
 have up : ∀ c o,c ≠ z -> he.get? c = some o -> hh.get? c = some o:=fun c o c1 e => (hsh.2 c c1).trans ((hsg.2 c c1).trans (Heap.get?_push_of_some _ e))
 have hTh : IsPair hh he.objs.size x y:=(hsh.2 _ (Nat.ne_of_gt hzl)).trans ((hsg.2 _ (Nat.ne_of_gt hzl)).trans (Heap.get?_push_size _ rfl))
 have hzz : hh.objs.size = he.objs.size + 1:=by rw [hsh.1,hsg.1,Heap.size_push]
 rw [hsz] at hzh hTh hzz
 refine wpAny_pure ⟨_,rfl,?_⟩
 show Q (.ref he.objs.size) _
 rw [hsz]
 exact hQ x y hh _ px py hzh (up _ _ D.ne.2.1 hOe) (D1.frame _ _ _ s1e fun b hb o e => up b o (fun q => D.n1.1 (q ▸ hb)) e) (D2.frame _ _ _ s2e fun b hb o e => up b o (fun q => D.n2.1 (q ▸ hb)) e) hTh hzz fun c o hc e => up c o (fun q => hc (q ▸ List.mem_cons_self)) (hke c o hc e)
end
end L3
namespace L3
open PySem PySem.Spec PyProof.Rows L2
section
variable {prog : Program} {w : World} {A : Around} {E : Value -> Shared -> Prop} {s : Shared} {z ti to i1 i2 : Addr} {f1 f2 : List Addr} {n1 n2 k : Nat} {P1 P2 : Nat -> Value -> Prop} {S1 S2 : Nat -> Heap -> Prop}
theorem zn_item {a b : Value} {Q : Option Value -> Shared -> Prop} (D1 : Draws prog w A.in1 i1 f1 n1 P1 S1) (D2 : Draws prog w A.in1 i2 f2 n2 P2 S2) (D : ZAp z ti to i1 i2 f1 f2)
  (hz : IsZip s.heap z ti to .none) (hI : IsPair s.heap ti (.ref i1) (.ref i2)) (hO : IsPair s.heap to a b) (h1 : S1 k s.heap) (h2 : S2 k s.heap) (k1 : k < n1) (k2 : k < n2)
  (hQ : ∀ x y h' tk,P1 k x -> P2 k y -> IsZip h' z ti to (rawInt s.heap.objs.size) -> IsPair h' to x y -> S1 (k + 1) h' -> S2 (k + 1) h' -> IsPair h' s.heap.objs.size x y -> h'.objs.size = s.heap.objs.size + 1 ->
   (∀ c o,c ∉ [z,to,i1,i2] -> s.heap.get? c = some o -> h'.get? c = some o) -> Q (some (.ref s.heap.objs.size)) { s with heap:=h',toks:=tk }) : wpAny (model prog w) A (pyNext (.ref z)) Q E s:=by
 have hT : s.TypeIs (.ref z) "zip":=⟨_,hz,rfl⟩
 unfold pyNext
 exact wpAny_bind (wpAny_attempt (wpAny_callSpecial?_slot (name:=Str.ofString "__next__") hT F.slot_zip_next
  (wpAny_call_entry F.slot_zip_next hT F.entry_zip_next (z_item D1 D2 D hz hI hO h1 h2 k1 k2 fun x y h' tk a1 a2 a3 a4 a5 a6 a7 a8 a9 => wpAny_pure (hQ x y h' tk a1 a2 a3 a4 a5 a6 a7 a8 a9)) (F.args_zip_next_1 _))))
end
section
variable {prog : Program} {w : World} {A : Around} {E : Value -> Shared -> Prop} {s : Shared}
end
end L3
namespace L3
open PySem PySem.Spec PyProof.Rows L2
section
variable {X : Cx} {pins : List (Addr × Obj)} {σ : L2.St} {H : Hp} {s : Shared} {h' : Heap}
theorem turnedL {ch : List Addr} {t' : Nat} (I : Inv X pins σ H s) (k : ∀ b o,b ∉ ch -> s.heap.get? b = some o -> h'.get? b = some o) (hf : ∀ b ∈ ch,FpOk X pins H b) : Inv X pins σ H { s with heap:=h',toks:=t' }:=by
 have nit : ∀ b u,H b = some u -> b ∉ ch:=fun b u e z => by rw [(hf b z).1] at e; cases e
 refine I.step (g':=s.gens) (d':=s.drawn) (ch:=ch) (fun b hb => ?_) (fun b o _ _ hc e _ => k b o hc e) (fun b o _ _ hc e _ => ⟨o.slots,k b o hc e⟩) (fun _ _ _ _ n => n)
  (fun b o hc e => ⟨o,k b o hc e⟩) (fun _ _ e => e) (fun _ _ _ e => e) (fun b ps e => ⟨#[],by rw [e]; simp⟩) (fun m hm => ?_) (fun b u e => ?_) I.bare
 ·
  obtain ⟨_,f1,_,f3,f4,f5⟩:=hf b hb
  exact ⟨f3,f1,f4,f5⟩
 ·
  obtain ⟨o,es,ep,ho,r⟩:=hm
  exact ⟨o,es,ep,k _ o (fun z => (hf _ z).2.1 rfl) ho,r⟩
 ·
  refine (I.hok b u e).stay (fun c v hc q => k c v ?_ q) (fun _ q => q) fun _ _ q => q
  rcases hc with z | z
  ·
   rw [z]; exact nit b u e
  ·
   exact nit c _ z
end
theorem nm2 {x p q : Addr} (h1 : x ≠ p) (h2 : x ≠ q) : x ∉ [p,q]:=fun h => by
 rcases List.mem_cons.mp h with e | e
 ·
  exact h1 e
 ·
  exact h2 (List.mem_singleton.mp e)
theorem zap {a b z ti to i1 i2 : Addr} (l1 : a < i1 /\ b < i1) (l2 : i1 < i2) (l3 : i2 < ti) (l4 : ti < to) (l5 : to < z) : ZAp z ti to i1 i2 [i1,a] [i2,b] :=
 have t1 : i1 < ti:=Nat.lt_trans l2 l3
 have t2 : i1 < to:=Nat.lt_trans t1 l4
 have t3 : i1 < z:=Nat.lt_trans t2 l5
 have t4 : i2 < to:=Nat.lt_trans l3 l4
 have t5 : i2 < z:=Nat.lt_trans t4 l5
 have t6 : ti < z:=Nat.lt_trans l4 l5
 ⟨⟨Nat.ne_of_lt t6,Nat.ne_of_lt l5,Nat.ne_of_lt l4,Nat.ne_of_lt l2⟩,List.mem_cons_self,List.mem_cons_self,
  ⟨nm2 (Nat.ne_of_gt t3) (Nat.ne_of_gt (Nat.lt_trans l1.1 t3)),nm2 (Nat.ne_of_gt t1) (Nat.ne_of_gt (Nat.lt_trans l1.1 t1)),nm2 (Nat.ne_of_gt t2) (Nat.ne_of_gt (Nat.lt_trans l1.1 t2)),nm2 (Nat.ne_of_gt l2) (Nat.ne_of_gt (Nat.lt_trans l1.1 l2))⟩,
  ⟨nm2 (Nat.ne_of_gt t5) (Nat.ne_of_gt (Nat.lt_trans l1.2 t3)),nm2 (Nat.ne_of_gt l3) (Nat.ne_of_gt (Nat.lt_trans l1.2 t1)),nm2 (Nat.ne_of_gt t4) (Nat.ne_of_gt (Nat.lt_trans l1.2 t2)),nm2 (Nat.ne_of_lt l2) (Nat.ne_of_gt l1.2)⟩⟩
section
variable {X : Cx} {elts : List Expr} {x1 : Nat} {tpos pos p : Pos} {ea eb : Expr}
noncomputable def zip3 : List T -> List T -> List T
 | x :: xs,y :: ys => .tup [x,y] :: zip3 xs ys
 | _,_ => []
def iZip3 (ta : TA3) : TI3:=fun σ H R => ta σ H fun vs H1 => match vs with
 | [.tup xs,.tup ys] => R (zip3 xs ys) still0 H1
 | _ => False
theorem bt_zip : bootBuiltins "zip" = some (.type "zip"):=by decide +kernel
theorem q_iZip (ta : TA3) {σ : St3} {H : Hp3} {R : List T -> (Hp3 -> Prop) -> Hp3 -> Prop} : iZip3 ta σ H R = ta σ H fun vs H1 => match vs with
 | [.tup xs,.tup ys] => R (zip3 xs ys) still0 H1
 | _ => False:=rfl
end
end L3
set_option maxHeartbeats 1000000
namespace L3
open PySem PySem.Spec PyProof.Rows L2
theorem cIter_pure2 {α : Type} (e1 e2 f : α -> T) (as : List α) (rest : St3) {te : TE3} {still : Hp3 -> Prop} {fin : List T -> Hp3 -> Prop} {v u : Option T} {H : Hp3} (hst : still H) (hl : as.length <= sizeLine)
  (ht : ∀ a ∈ as,∀ Q : VK3,Q (f a) H -> te (some (e1 a) :: some (e2 a) :: rest) H Q) (hfin : fin (as.map f) H) :
  cIter3 (gTup3 2 (gCons3 (gName3 0) (gCons3 (gName3 1) gNil3))) tYes3 te still fin (as.map fun a => .tup [e1 a,e2 a]) [] (v :: u :: rest) H:=by
 refine cIter_go (fun r ys σ H' => ∃ (rs ds : List α) (v u : Option T),σ = v :: u :: rest /\ r = rs.map (fun a => .tup [e1 a,e2 a]) /\ ys = ds.map f /\ ds ++ rs = as /\ H' = H) ⟨as,[],v,u,rfl,rfl,rfl,rfl,rfl⟩ ?_ ?_
 ·
  rintro ys σ H' ⟨rs,ds,v,u,rfl,hrs,rfl,hsp,rfl⟩
  have hrs' : rs = []:=List.map_eq_nil_iff.mp hrs.symm
  subst hrs'
  rw [List.append_nil] at hsp
  subst hsp
  exact ⟨hst,by rw [List.length_map]; exact hl,hfin⟩
 ·
  rintro x r ys σ H' N ⟨rs,ds,v,u,rfl,hrs,rfl,hsp,rfl⟩ hN
  cases rs with
  | nil => cases hrs
  | cons t rs =>
   injection hrs with a1 a2
   subst a1 a2
   refine ⟨hst,rfl,?_⟩
   show te (some (e1 t) :: some (e2 t) :: rest) H' _
   refine ht t (by rw [<- hsp]; simp) _ ⟨?_,hN _ _ _ ⟨rs,ds ++ [t],_,_,rfl,rfl,by simp,by rw [<- hsp]; simp,rfl⟩⟩
   have:=congrArg List.length hsp
   simp only [List.length_append,List.length_cons] at this
   rw [List.length_map]
   omega
theorem zip3_self : ∀ (ts : List T),zip3 ts ts = ts.map fun t => .tup [t,t]
 | [] => rfl
 | t :: r => by rw [zip3,zip3_self r]; rfl
section
variable {H : Hp3} {Q : VK3}
theorem qi_str (x : T) : r3Isi [x,.ty "str"] H Q = oq (isT "str" x H) fun b => Q (.bl b) H:=by rw [q_isi]; exact propext ⟨fun h => h.2,fun h => ⟨by simp,h⟩⟩
theorem it_str_str (x : Str) : isT "str" (.str x) H = some true:=rfl
theorem it_int_str (x : Int) : isT "str" (.int x) H = some false:=rfl
theorem it_tup_str (x : List T) : isT "str" (.tup x) H = some false:=rfl
theorem it_bl_str (x : Bool) : isT "str" (.bl x) H = some false:=rfl
theorem it_non_str  : isT "str" (.non) H = some false:=rfl
theorem qi_int (x : T) : r3Isi [x,.ty "int"] H Q = oq (isT "int" x H) fun b => Q (.bl b) H:=by rw [q_isi]; exact propext ⟨fun h => h.2,fun h => ⟨by simp,h⟩⟩
theorem it_str_int (x : Str) : isT "int" (.str x) H = some false:=rfl
theorem it_int_int (x : Int) : isT "int" (.int x) H = some true:=rfl
theorem it_tup_int (x : List T) : isT "int" (.tup x) H = some false:=rfl
theorem it_bl_int (x : Bool) : isT "int" (.bl x) H = some true:=rfl
theorem it_non_int  : isT "int" (.non) H = some false:=rfl
theorem qi_bool (x : T) : r3Isi [x,.ty "bool"] H Q = oq (isT "bool" x H) fun b => Q (.bl b) H:=by rw [q_isi]; exact propext ⟨fun h => h.2,fun h => ⟨by simp,h⟩⟩
theorem it_str_bool (x : Str) : isT "bool" (.str x) H = some false:=rfl
theorem it_int_bool (x : Int) : isT "bool" (.int x) H = some false:=rfl
theorem it_tup_bool (x : List T) : isT "bool" (.tup x) H = some false:=rfl
theorem it_bl_bool (x : Bool) : isT "bool" (.bl x) H = some true:=rfl
theorem it_non_bool  : isT "bool" (.non) H = some false:=rfl
theorem qi_tuple (x : T) : r3Isi [x,.ty "tuple"] H Q = oq (isT "tuple" x H) fun b => Q (.bl b) H:=by rw [q_isi]; exact propext ⟨fun h => h.2,fun h => ⟨by simp,h⟩⟩
theorem it_str_tuple (x : Str) : isT "tuple" (.str x) H = some false:=rfl
theorem it_int_tuple (x : Int) : isT "tuple" (.int x) H = some false:=rfl
theorem it_tup_tuple (x : List T) : isT "tuple" (.tup x) H = some true:=rfl
theorem it_bl_tuple (x : Bool) : isT "tuple" (.bl x) H = some false:=rfl
theorem it_non_tuple  : isT "tuple" (.non) H = some false:=rfl
theorem qi_list (x : T) : r3Isi [x,.ty "list"] H Q = oq (isT "list" x H) fun b => Q (.bl b) H:=by rw [q_isi]; exact propext ⟨fun h => h.2,fun h => ⟨by simp,h⟩⟩
theorem it_str_list (x : Str) : isT "list" (.str x) H = some false:=rfl
theorem it_int_list (x : Int) : isT "list" (.int x) H = some false:=rfl
theorem it_tup_list (x : List T) : isT "list" (.tup x) H = some false:=rfl
theorem it_bl_list (x : Bool) : isT "list" (.bl x) H = some false:=rfl
theorem it_non_list  : isT "list" (.non) H = some false:=rfl
theorem dec_rfl {α : Type} [DecidableEq α] (a : α) : decide (a = a) = true:=decide_eq_true rfl
end
end L3
set_option maxHeartbeats 4000000
namespace L3
open PySem PySem.Spec PyProof.Rows L2
theorem sc_mk {N P : List Str} {sc : Scope} (a : sc.kind = .function:=by rfl) (b : sc.isCoroutine = false:=by rfl) (c : sc.isGenerator = false:=by rfl) (d : N.Nodup:=by decide +kernel) (e : N.take P.length = P:=by rfl)
 (f : ∀ x ∈ P,sc.names.lookup x = some .local \/ sc.names.lookup x = some .cell:=by decide +kernel) (g : ∀ y ∈ sc.names,y.2 ≠ .free:=by decide +kernel) : FnScope N P sc:=⟨a,b,c,d,e,f,g⟩
structure Cal (P : Program) (w : World) (K : PySem.W.Frag) (mg : Str -> Option Value) (base : Heap) (k : Nat) (x : Str) (st : Stmt) (ps : List Str) (sp : Sp3) : Prop where
 ex : ∃ (f : Addr) (fd : FuncData),G3 K mg x st ps f fd /\ FnOk3 P w K mg base k f fd ps sp
theorem e3_cl0 {X : Cx} {k : Nat} {ps : List Str} {sp : Sp3} {st : Stmt} {x : Str} {p pos : Pos} {e : Expr} {es : List Expr} {t : TA3} (D : Cal X.prog X.w X.K X.mg X.base k x st ps sp) (hr : Room k X.A) (hg : Gl X x)
  (ha : PA3 X (e :: es) t) (hdb : (x == ("__debug__" : Str)) = false:=by decide) (he : starEach (e :: es) X.env = (false,eval e X.env) :: starEach es X.env:=by rfl) (hpl : (backTo pos (starEach es X.env)).any (·.1) = false:=by rfl) :
  PE3 X (.Call (.Name x p) (e :: es) [] pos) (tCall3 sp t):=by
 obtain ⟨f,fd,g,F⟩:=D.ex
 exact e3_call F hr hg g.m g.fn.kp g.b ha hdb he hpl
theorem e3_cl {X : Cx} {k j : Nat} {ps : List Str} {sp : Sp3} {st : Stmt} {x : Str} {p pos : Pos} {e : Expr} {es : List Expr} {t : TA3} (D : Cal X.prog X.w X.K X.mg X.base k x st ps sp) (hr : Room j X.A) (hg : Gl X x) (ha : PA3 X (e :: es) t) (hk : k <= j:=by decide) (hdb : (x == ("__debug__" : Str)) = false:=by decide) (he : starEach (e :: es) X.env = (false,eval e X.env) :: starEach es X.env:=by rfl) (hpl : (backTo pos (starEach es X.env)).any (·.1) = false:=by rfl) : PE3 X (.Call (.Name x p) (e :: es) [] pos) (tCall3 sp t):=e3_cl0 D (hr.mono hk) hg ha hdb he hpl
end L3
set_option maxHeartbeats 1000000
namespace L3
open PySem PySem.Spec PyProof.Rows L2 PySem.Builtin PySem.Builtin.Str
section
variable {prog : Program} {w : World} {A : Around} {E : Value -> Shared -> Prop} {s : Shared} {x y : Str} {t u : Tok} {Q : Value -> Shared -> Prop}
end
section
variable {X : Cx}
end
end L3
set_option maxHeartbeats 4000000
namespace L3
open PySem PySem.Spec PyProof.Rows L2
section
variable {prog : Program} {w : World} {A : Around} {E : Value -> Shared -> Prop} {s : Shared}
end
section
variable {prog : Program} {w : World} {A : Around} {E : Value -> Shared -> Prop} {s : Shared}
end
end L3
namespace L3
open PySem PySem.Spec PyProof.Rows L2
theorem drawsEL {prog : Program} {w : World} {A : Around} (hh : A.handled = none) (it t : Addr) (hne : t ≠ it) (items : Array Value) (k : Nat) (hk : items[k]? = none) :
  Draws prog w A it [it,t] k (fun _ _ => True) (fun i h => i = k /\ h.IsListIter it t i /\ h.IsList t items) where
 live:=fun _ _ st => let ⟨o,ho,_⟩:=st.2.1; ⟨o,ho⟩
 frame:=fun _ _ _ st hk => ⟨st.1,st.2.1.at fun o e => hk it (by simp) o e,st.2.2.at fun o e => hk t (by simp) o e⟩
 item:=fun i s Q E hi st hQ => absurd st.1 (Nat.ne_of_lt hi)
 done:=fun s Q E st hE => wpAny_nextOf_list_end hh st.2.1 st.2.2 hk hE
end L3
set_option maxHeartbeats 1000000
namespace L3
open PySem PySem.Spec PyProof.Rows L2
section
variable {X : Cx} {elts : List Expr} {x1 j : Nat} {tpos pos p cp kp : Pos} {e : Expr}
theorem bt_enumerate : bootBuiltins "enumerate" = some (.type "enumerate"):=by decide +kernel
end
end L3
set_option maxHeartbeats 4000000
namespace L3
open PySem PySem.Spec PyProof.Rows L2
section
variable {X : Cx} {tg l : Expr}
end
end L3
namespace L3
open PySem PySem.Spec PyProof.Rows L2
section
variable {prog : Program} {w : World} {A : Around} {E : Value -> Shared -> Prop} {s : Shared}
end
end L3
set_option maxHeartbeats 1000000
namespace L3
open PySem PySem.Spec PyProof.Rows L2
section
variable {X : Cx} {e : Expr} {te : TE} {p1 p2 pos pos' : Pos}
end
end L3
namespace L3
open PySem PySem.Spec PyProof.Rows L2
section
variable {X : Cx} {pins : List (Addr × Obj)} {σ : L2.St} {H : Hp} {s : Shared}
end
section
variable {X : Cx}
end
end L3
namespace L3
open PySem PySem.Spec PyProof.Rows L2
section
variable {X : Cx} {a : Expr} {ta : TE3} {pos : Pos}
def ngq (x : T) (H : Hp3) (Q : VK3) : Prop:=match x with
 | .int i => Q (.int (-i)) H
 | _ => False
def tNeg3 (ta : TE3) : TE3:=fun σ H Q => ta σ H fun x H1 => ngq x H1 Q
theorem q_neg (ta : TE3) {σ : St3} {H : Hp3} {Q : VK3} : tNeg3 ta σ H Q = ta σ H fun x H1 => ngq x H1 Q:=rfl
theorem q_ngq (i : Int) {H : Hp3} {Q : VK3} : ngq (.int i) H Q = Q (.int (-i)) H:=rfl
def r3IntT : List T -> Hp3 -> VK3 -> Prop:=fun ts H Q => match ts with
 | [.str x] => x.length <= 640 /\ oq (PySem.intText? x) fun n => Q (.int n) H
 | _ => False
theorem q_intT (x : Str) {H : Hp3} {Q : VK3} : r3IntT [.str x] H Q = (x.length <= 640 /\ oq (PySem.intText? x) fun n => Q (.int n) H):=rfl
end
end L3
set_option maxHeartbeats 4000000
namespace L3
open PySem PySem.Spec PyProof.Rows L2
noncomputable def Ite0 (K : PySem.W.Frag) (a : Addr) : It :=
 ⟨fun i H => ∃ xs x,SqL K H a xs /\ xs[i]? = some x,
  fun i H v H' => ∃ p x,v = .ref p /\ H p = none /\ H' = upd H p (.tup [.int (i : Int),x]) /\ ∀ xs,SqL K H a xs -> xs[i]? = some x,
  fun i H => ∃ xs,SqL K H a xs /\ xs.length <= i⟩
theorem turn_enum0 {P : Program} {w : World} {K : PySem.W.Frag} {elts : List Expr} {x1 : Nat} {pos : Pos} (a it e : Addr) (l1 : a < it) (l2 : it < e) :
  Turn P w K (.Tuple elts x1 pos) (Ite0 K a) [e,it] e (fun i h => (∃ old,IsEnum h e it (i : Int) old) /\ h.IsListIter it a i) where
 mem:=List.mem_cons_self
 obj:=fun i h st c hc => by
  obtain ⟨⟨old,he⟩,⟨o1,e1,_,d1⟩⟩:=st
  simp only [List.mem_cons,List.not_mem_nil,or_false] at hc
  rcases hc with rfl | rfl
  ·
   exact ⟨_,he,fun v z => by cases z⟩
  ·
   exact ⟨_,e1,fun v z => by rw [d1] at z; cases z⟩
 keep:=fun i h h' st k => by
  obtain ⟨⟨old,he⟩,h1⟩:=st
  exact ⟨⟨old,k e (by simp) _ he⟩,h1.at fun o q => k it (by simp) o q⟩
 item:=by
  intro X hP hw hK hc i pins s σ H E I hf st hg
  subst hP hw hK
  obtain ⟨xs,x,hq,hx⟩:=hg
  obtain ⟨its,rv,p,hz⟩:=I.list hq
  obtain ⟨u,hu,ru⟩:=rv.get hx
  obtain ⟨⟨old,he⟩,h1⟩:=st
  have hu' : its.toArray[i]? = some u:=by simpa using hu
  have hai : a ≠ it:=Nat.ne_of_lt l1
  have hei : e ≠ it:=Nat.ne_of_gt l2
  have hea : e ≠ a:=Nat.ne_of_gt (Nat.lt_trans l1 l2)
  have hef : e ∉ [it,a]:=by simp [hei,hea]
  have D:=Draws.list (prog:=X.prog) (w:=X.w) (A:=X.A.in1) (I.ok.hd hc) it a hai its.toArray
  refine wpAny_pyNext_enum_itemD (i:=i) D he ⟨h1,p.isList⟩ (Array.getElem?_eq_some_iff.mp hu').1 hei hef fun x' h' tk px ho hs' hT hsz kp => ?_
  have e1 : x' = u:=Option.some.inj (px.symm.trans hu')
  subst e1
  obtain ⟨hs1,hs2⟩:=hs'
  refine ⟨_,rfl,wpAny_letOwnedTupleGo_enum ho fun h2' hz2' sb => ?_⟩
  have kp2 : ∀ c o,c ∉ [e,it] -> s.heap.get? c = some o -> h2'.get? c = some o:=fun c o nc q => (sb.2 c fun z => nc (z ▸ List.mem_cons_self)).trans (kp c o (fun z => nc (z ▸ List.mem_cons_self)) (fun z => nc (by simp [z])) q)
  have lt : ∀ {c o},s.heap.get? c = some o -> s.heap.objs.size ≠ c:=fun q => Nat.ne_of_gt (Heap.lt_size q)
  have lt1 : ∀ {c : Addr},c ∈ [e,it] -> c ≠ s.heap.objs.size:=fun {c} hc => by
   simp only [List.mem_cons,List.not_mem_nil,or_false] at hc
   rcases hc with q | q <;> subst q
   ·
    exact Ne.symm (lt he)
   ·
    obtain ⟨o,q,_⟩:=h1; exact Ne.symm (lt q)
  have hTe : s.heap.objs.size ≠ e:=lt he
  have I1 : Inv X pins σ (upd H s.heap.objs.size (.tup [.int (i : Int),x])) { s with heap:=s.heap.push { cls:=.type "tuple",data:=.seq #[.int (i : Int) tk,x'] },toks:=tk + 1 } :=
   I.laid (t':=tk + 1) (fun b o q => Heap.get?_push_of_some _ q) (Nat.le_refl _) (show ObjOk X.prog X.w _ _ _ (.tup [.int (i : Int),x]) from ⟨by show 2 <= sizeLine; decide,[.int (i : Int) tk,x'],.cons ⟨tk,rfl⟩ (.cons ru .nil),Tup0.new _ _⟩)
  have I2 : Inv X pins σ (upd H s.heap.objs.size (.tup [.int (i : Int),x])) { s with heap:=h2',toks:=tk + 1 }:=turnedL (s:={ s with heap:=s.heap.push { cls:=.type "tuple",data:=.seq #[.int (i : Int) tk,x'] },toks:=tk + 1 }) (ch:=[e,it]) (t':=tk + 1) I1 (fun c o nc q => by
   by_cases z : c = s.heap.objs.size
   ·
    subst z
    have q' : (s.heap.push { cls:=.type "tuple",data:=.seq #[.int (i : Int) tk,x'] }).get? s.heap.objs.size = some o:=q
    rw [Heap.get?_push_size _ rfl] at q'
    cases q'
    exact (sb.2 _ hTe).trans hT
   ·
    have q' : (s.heap.push { cls:=.type "tuple",data:=.seq #[.int (i : Int) tk,x'] }).get? c = some o:=q
    rw [Heap.get?_push_ne _ _ _ z] at q'
    exact kp2 c o nc q') fun c hc => ⟨by rw [upd_ne (lt1 hc)]; exact (hf c hc).1,(hf c hc).2⟩
  refine ⟨.ref s.heap.objs.size,_,I2,rfl,⟨s.heap.objs.size,x,rfl,I.hok.fresh (Nat.le_refl _),rfl,fun zs hq' => by rw [I.list_inj hq' hq]; exact hx⟩,⟨⟨x',?_⟩,hs1.at fun o q => (sb.2 it (Ne.symm hei)).trans q⟩,fun c hc => by rw [upd_ne (lt1 hc)]; exact (hf c hc).1⟩
  exact hz2'
 done:=by
  intro X hP hw hK hc i pins s σ H E I hf st hg
  subst hP hw hK
  obtain ⟨xs,hq,hx⟩:=hg
  obtain ⟨its,rv,p,hz⟩:=I.list hq
  obtain ⟨⟨old,he⟩,h1⟩:=st
  have hl:=rv.length
  have hai : a ≠ it:=Nat.ne_of_lt l1
  have D:=drawsEL (prog:=X.prog) (w:=X.w) (A:=X.A.in1) (I.ok.hd hc) it a hai its.toArray i (by simp; omega)
  exact wpAny_pyNext_enum_endD D he ⟨rfl,h1,p.isList⟩ fun h' eb => ⟨rfl,turnedL (ch:=[e,it]) (t':=s.toks) I (fun b o nb q => eb b o (fun z => nb (by simp [z])) q) hf⟩
 self:=fun _ _ _ _ _ st h => wpAny_pyIter_enum st.1.choose_spec h
section
variable {X : Cx} {elts : List Expr} {x1 : Nat} {tpos pos p : Pos} {e : Expr}
def iEnum0 (K : PySem.W.Frag) (te : TE) : TI:=fun σ H R => te σ H fun x H1 => ∃ a,x = .ref a /\ (∃ xs,H1 a = some (.lst xs)) /\ R (Ite0 K a) H1
theorem pi_enum0 {te : TE} (hg : Gl X "enumerate") (hm : X.mg "enumerate" = none) (he : PE X e te)
  (hs : starEach [e] X.env = (false,eval e X.env) :: starEach [] X.env:=by rfl) (hpl : (backTo pos (starEach [] X.env)).any (·.1) = false:=by rfl) :
  PI X (.Tuple elts x1 tpos) (.Call (.Name "enumerate" p) [e] [] pos) (iEnum0 X.K te):=by
 intro pins s σ H R I h
 refine wpAny_Call_Name_kw (ld_blt I hg hm bt_enumerate ?_ (by decide) (by decide))
 refine PyProof.Rows.callWith_type1 ?_ hs hpl
 rw [hs]
 show wpAny _ _ (spliced ((false,eval e X.env) :: backTo pos (starEach [] X.env))) _ _ s
 refine Calls.spliced_cons (thn (he pins s σ H _ I h) fun u s2 ⟨x,H2,I2,r1,a,ea,⟨xs,hl⟩,q⟩ => ?_)
 subst ea
 cases r1
 refine Calls.spliced_nil ?_
 obtain ⟨hz,its,n,rv,ho⟩:=I2.hok a _ hl
 have la : a < s2.heap.objs.size:=Heap.lt_size ho
 refine call_enumerate_list ⟨_,ho,rfl,n,rfl⟩ fun h' hE hL l1 kp => wpAny_pyIter_enum hE ?_
 refine ⟨s2.heap.objs.size + 1,[s2.heap.objs.size + 1,s2.heap.objs.size],_,_,H2,rfl,I2.kept (t':=s2.toks) kp,turn_enum0 a s2.heap.objs.size (s2.heap.objs.size + 1) la (Nat.lt_succ_self _),⟨⟨.none,hE⟩,hL⟩,fun c hc => ?_,q⟩
 have hc' : s2.heap.objs.size <= c:=by
  simp only [List.mem_cons,List.not_mem_nil,or_false] at hc
  rcases hc with z | z <;> subst z
  ·
   exact Nat.le_succ _
  ·
   exact Nat.le_refl _
 exact I2.fpOk hc' (I2.hok.fresh hc')
noncomputable def enum0 (k : Int) : List T -> List T
 | [] => []
 | x :: r => .tup [.int k,x] :: enum0 (k + 1) r
theorem enum0_get : ∀ (k : Int) (xs : List T) (i : Nat),(enum0 k xs)[i]? = xs[i]?.map fun x => .tup [.int (k + i),x]
 | _,[],i => by simp [enum0]
 | k,x :: xs,0 => by simp [enum0]
 | k,x :: xs,i + 1 => by
  simp only [enum0,List.getElem?_cons_succ]
  rw [enum0_get (k + 1) xs i]
  have : k + 1 + (i : Int) = k + ((i + 1 : Nat) : Int):=by omega
  rw [this]
theorem enum0_len : ∀ (k : Int) (xs : List T),(enum0 k xs).length = xs.length
 | _,[] => rfl
 | k,x :: xs => by simp [enum0,enum0_len (k + 1) xs]
def en0H (o : Option O3) (a : Addr) (H : Hp3) (R : List T -> (Hp3 -> Prop) -> Hp3 -> Prop) : Prop:=match o with
 | some (.lst ts) => R (enum0 0 ts) (stillL a ts) H
 | _ => False
def en0q (x : T) (H : Hp3) (R : List T -> (Hp3 -> Prop) -> Hp3 -> Prop) : Prop:=match x with
 | .ref a => en0H (H a) a H R
 | _ => False
def iEnum03 (te : TE3) : TI3:=fun σ H R => te σ H fun x H1 => en0q x H1 R
theorem q_iEnum0 (te : TE3) {σ : St3} {H : Hp3} {R : List T -> (Hp3 -> Prop) -> Hp3 -> Prop} : iEnum03 te σ H R = te σ H fun x H1 => en0q x H1 R:=rfl
theorem q_en0q (a : Addr) {H : Hp3} {R : List T -> (Hp3 -> Prop) -> Hp3 -> Prop} : en0q (.ref a) H R = en0H (H a) a H R:=rfl
theorem q_en0H (ts : List T) (a : Addr) {H : Hp3} {R : List T -> (Hp3 -> Prop) -> Hp3 -> Prop} : en0H (some (.lst ts)) a H R = R (enum0 0 ts) (stillL a ts) H:=rfl
theorem walk_enum0 {K : PySem.W.Frag} {H : Hp} {a : Addr} {ts : List T} : Walk3 K (Ite0 K a) (enum0 0 ts) (stillL a ts) H:=fun H' H3' le sh st => by
 obtain ⟨xs,sq,rs⟩:=sh.sqL st
 have hl:=rs.length
 refine ⟨fun i hi => ⟨xs,sq,by rw [enum0_len] at hi; omega⟩,fun i t e => ?_⟩
 rw [enum0_get] at e
 cases q : ts[i]? with
 | none => rw [q] at e; cases e
 | some x =>
  rw [q] at e
  cases e
  obtain ⟨v,ev,rv⟩:=rs.get q
  refine ⟨⟨xs,v,sq,ev⟩,fun z H'' y => ?_⟩
  obtain ⟨p,x',rfl,hp,rfl,q1⟩:=y
  have:=(q1 xs sq).symm.trans ev
  cases this
  refine ⟨upd_tupLe hp,sh.new hp,?_⟩
  rw [show (0 : Int) + (i : Int) = (i : Int) from by omega]
  exact SimH.newTup (H3:=H3') hp (.cons .ofInt (.cons rv .nil))
theorem i3_enum0 {te : TE3} (hg : Gl X "enumerate") (hm : X.mg "enumerate" = none) (he : PE3 X e te) (hs : starEach [e] X.env = (false,eval e X.env) :: starEach [] X.env:=by rfl) (hpl : (backTo pos (starEach [] X.env)).any (·.1) = false:=by rfl) :
  PI3 X (.Tuple elts x1 tpos) (.Call (.Name "enumerate" p) [e] [] pos) (iEnum03 te):=by
 refine PI.imp (pi_enum0 hg hm he hs hpl) ?_
 rintro σ H R ⟨σ3,H3,R3,ss,sh,h,k⟩
 refine ⟨σ3,H3,_,ss,sh,h,fun v H' t H3' le sh' r q => ?_⟩
 cases t with
 | ref a =>
  have q' : en0H (H3' a) a H3' R3:=q
  cases eo : H3' a with
  | none => rw [eo] at q'; exact q'.elim
  | some o =>
   rw [eo] at q'
   cases o with
   | lst ts =>
    obtain ⟨xs,hH,rs⟩:=sh' a _ eo
    exact ⟨a,r.ref,⟨xs,hH⟩,k _ _ (stillL a ts) H' H3' le sh' walk_enum0 q'⟩
   | rol ts => exact q'.elim
   | dct ts => exact q'.elim
   | dcp ts => exact q'.elim
 | _ => exact q.elim
end
theorem o3_shl {X : Cx} : OpR3 X (binaryOp .LShift) (rI3 CPow fun i j => .int (i * 2 ^ j.toNat)):=o3_I op_shl fun _ _ _ => .ofInt
end L3
namespace M
open PySem PySem.Spec PyProof.Rows L2 L3
end M
namespace M
open PySem PySem.Spec PyProof.Rows L2 L3
structure isNm (x : Str) : Prop where
 lo : 1 <= x.length
 hi : x.length <= 8
 az : ∀ c ∈ x.cps.toList,97 <= c /\ c <= 122
structure Nms (ws : List Str) : Prop where
 nm : ∀ x ∈ ws,isNm x
 nd : ws.Nodup
theorem Nms.nil : Nms []:=⟨fun _ h => (nomatch h),List.nodup_nil⟩
theorem Nms.snoc {ws : List Str} {x : Str} (n : Nms ws) (h : isNm x) (hx : x ∉ ws) : Nms (ws ++ [x]) :=
 ⟨fun y hy => (List.mem_append.mp hy).elim (n.nm y) fun z => by rw [List.mem_singleton.mp z]; exact h,nd_snoc n.nd hx⟩
structure Wk where
 tasks : List (Str × Int × List Str)
 orders : List (Str × Str)
 pairs : List (Str × Str × Str)
 row : List Str
noncomputable def sT (xs : List Str) : T:=.tup (xs.map T.str)
noncomputable def tkT (t : Str × Int × List Str) : T:=.tup [.str t.1,.int t.2.1,sT t.2.2]
noncomputable def orT (o : Str × Str) : T:=.tup [.str o.1,.str o.2]
noncomputable def prT (p : Str × Str × Str) : T:=.tup [.str p.1,.str p.2.1,.str p.2.2]
noncomputable def Wk.enc (W : Wk) : T:=.tup [.tup (W.tasks.map tkT),.tup (W.orders.map orT),.tup (W.pairs.map prT),sT W.row]
structure tkOk (t : Str × Int × List Str) : Prop where
 nm : isNm t.1
 lo : 1 <= t.2.1
 hi : t.2.1 < 10 ^ 60
 ks : Nms t.2.2
 kl : t.2.2.length <= 4
structure WkOk (W : Wk) : Prop where
 t1 : 1 <= W.tasks.length
 t8 : W.tasks.length <= 8
 tk : ∀ t ∈ W.tasks,tkOk t
 nd : (W.tasks.map (·.1)).Nodup
 os : W.orders.length <= 28
 od : W.orders.Nodup
 oo : ∀ o ∈ W.orders,o.1 ≠ o.2 /\ o.1 ∈ W.tasks.map (·.1) /\ o.2 ∈ W.tasks.map (·.1)
 ps : W.pairs.length <= 12
 pd : W.pairs.Nodup
 pp : ∀ p ∈ W.pairs,(p.1 = "with" \/ p.1 = "apart") /\ p.2.1 ≠ p.2.2 /\ p.2.1 ∈ W.tasks.map (·.1) /\ p.2.2 ∈ W.tasks.map (·.1)
 r1 : 1 <= W.row.length
 r8 : W.row.length <= 8
 rn : ∀ x ∈ W.row,isNm x
theorem prT_inj {a b : Str × Str × Str} (h : prT a = prT b) : a = b:=by
 obtain ⟨a1,a2,a3⟩:=a
 obtain ⟨b1,b2,b3⟩:=b
 simp only [prT,T.tup.injEq,List.cons.injEq,T.str.injEq,and_true] at h
 rw [h.1,h.2.1,h.2.2]
theorem mem_map_inj {α : Type} {f : α -> T} (hf : ∀ {a b},f a = f b -> a = b) {x : α} {xs : List α} : f x ∈ xs.map f ↔ x ∈ xs:=by
 rw [List.mem_map]
 exact ⟨fun ⟨y,hy,e⟩ => hf e ▸ hy,fun h => ⟨x,h,rfl⟩⟩
theorem str_inj {a b : Str} (h : T.str a = T.str b) : a = b:=by injection h
theorem memN {α : Type} {f : α -> T} (hf : ∀ {a b},f a = f b -> a = b) {x : α} {xs : List α} : memB true (f x) (xs.map f) = true ↔ x ∉ xs:=by
 unfold memB
 simp [mem_map_inj hf]
theorem memI {α : Type} {f : α -> T} (hf : ∀ {a b},f a = f b -> a = b) {x : α} {xs : List α} : memB false (f x) (xs.map f) = true ↔ x ∈ xs:=by
 unfold memB
 simp [mem_map_inj hf]
theorem pl_str (x : Str) : pl 20 (.str x) = true:=rfl
theorem pl_strs (xs : List Str) : (xs.map T.str).all (pl 20) = true:=by rw [List.all_eq_true]; intro t ht; obtain ⟨x,_,rfl⟩:=List.mem_map.mp ht; rfl
theorem pl_prT (o : Str × Str × Str) : pl 20 (prT o) = true:=rfl
theorem pl_prs (xs : List (Str × Str × Str)) : (xs.map prT).all (pl 20) = true:=by rw [List.all_eq_true]; intro t ht; obtain ⟨x,_,rfl⟩:=List.mem_map.mp ht; rfl
theorem q_enc0 (W : Wk) (H : Hp3) (Q : VK3) : r3Ix W.enc (.int 0) H Q = Q (.tup (W.tasks.map tkT)) H:=rfl
end M
namespace M
open PySem PySem.Spec PyProof.Rows L2 L3
noncomputable def mkS (l : List Nat) : Str:=⟨l.toArray⟩
theorem mkS_cps (l : List Nat) : (mkS l).cps.toList = l:=rfl
theorem mkS_len (l : List Nat) : (mkS l).length = l.length:=by show (l.toArray).size = _; simp
theorem mkS_of (x : Str) : ∃ l,x = mkS l:=⟨x.cps.toList,by cases x; rfl⟩
noncomputable def abcL : List Nat:=[97,98,99,100,101,102,103,104,105,106,107,108,109,110,111,112,113,114,115,116,117,118,119,120,121,122]
theorem abc_eq : ("abcdefghijklmnopqrstuvwxyz" : Str) = mkS abcL:=by decide +kernel
theorem abc_nat : ∀ i : _root_.Fin 26,abcL[i.val]? = some (97 + i.val):=by decide
theorem abc_at (i : Int) (h0 : 0 <= i) (h1 : i < 26) : atI abcL i = some (97 + i.toNat):=by
 obtain ⟨j,rfl⟩:=Int.eq_ofNat_of_zero_le h0
 have hj : j < 26:=by omega
 have:=abc_nat ⟨j,hj⟩
 exact atI_nat (by simpa using this)
theorem abc_ix0 : ∀ i : _root_.Fin 26,Builtin.Str.occurrences (mkS abcL) (mkS [97 + i.val]) 0 26 1 = [i.val]:=by decide +kernel
theorem abc_ix (c : Nat) (h0 : 97 <= c) (h1 : c <= 122) : Builtin.Str.occurrences (mkS abcL) (mkS [c]) 0 (mkS abcL).length 1 = [c - 97]:=by
 have:=abc_ix0 ⟨c - 97,by omega⟩
 rw [show 97 + (c - 97) = c by omega] at this
 exact this
theorem nm_mk {l : List Nat} (h1 : 1 <= l.length) (h8 : l.length <= 8) (h : ∀ c ∈ l,97 <= c /\ c <= 122) : isNm (mkS l):=⟨by rw [mkS_len]; exact h1,by rw [mkS_len]; exact h8,by rw [mkS_cps]; exact h⟩
theorem pigeon : ∀ (n : Nat) (l : List Nat),l.length < n -> ∃ m,m < n /\ m ∉ l
 | 0,l,h => by omega
 | n + 1,l,h => by
  by_cases hn : n ∈ l
  ·
   have hl:=List.length_erase_of_mem hn
   have : 0 < l.length:=List.length_pos_of_mem hn
   obtain ⟨m,hm,hx⟩:=pigeon n (l.erase n) (by omega)
   exact ⟨m,by omega,fun z => hx ((List.mem_erase_of_ne (by omega)).mpr z)⟩
  ·
   exact ⟨n,by omega,hn⟩
theorem free_letter (c : Nat) (h0 : 97 <= c) (h1 : c <= 122) (ws : List Str) (hl : ws.length <= 7) : ∃ m : Nat,∀ w ∈ ws,w.cps.toList.head? ≠ some (97 + (c - 97 + m) % 26):=by
 obtain ⟨t,ht,hx⟩:=pigeon 26 (ws.map fun w => w.cps.toList.headD 0 - 97) (by rw [List.length_map]; omega)
 refine ⟨t + 26 - (c - 97),fun w hw e => hx ?_⟩
 rw [List.mem_map]
 refine ⟨w,hw,?_⟩
 have e2 : (c - 97 + (t + 26 - (c - 97))) % 26 = t:=by omega
 rw [e2] at e
 cases hq : w.cps.toList with
 | nil => rw [hq] at e; cases e
 | cons a r => rw [hq] at e; injection e with e; simp only [List.headD_cons]; omega
end M
namespace M
open PySem PySem.Spec PyProof.Rows L2 L3
noncomputable def tkW (t : Str × Int × List Str) : List Str:=([("task" : Str),t.1,(toString t.2.1 : String)] : List Str) ++ t.2.2
noncomputable def tkR (t : Str × Int × List Str) : Str:=PySem.Txt.join " " (tkW t)
theorem sum_le {B : Nat} : ∀ {ys : List Str},(∀ y ∈ ys,y.length <= B) -> (ys.map (·.length)).sum <= ys.length * B
 | [],_ => by simp
 | y :: r,h => by
  have h1:=h y List.mem_cons_self
  have h2:=sum_le (ys:=r) fun z hz => h z (List.mem_cons_of_mem _ hz)
  simp only [List.map_cons,List.sum_cons,List.length_cons,Nat.succ_mul]
  omega
theorem jn_len (z : Str) (ys : List Str) : (PySem.Txt.join z ys).length = (ys.map (·.length)).sum + (ys.length - 1) * z.length:=size_glued z ys
theorem sp_len : (" " : Str).length = 1:=by decide +kernel
theorem jn_le {z : Str} {ys : List Str} {B n : Nat} (hz : z.length = 1) (hn : ys.length <= n) (h : ∀ y ∈ ys,y.length <= B) : (PySem.Txt.join z ys).length <= n * B + n:=by
 rw [jn_len,hz]
 have h1:=sum_le h
 have h2 : ys.length * B <= n * B:=Nat.mul_le_mul_right B hn
 omega
theorem wd_task : ("task" : Str).length = 4:=by decide +kernel
theorem wd_order : ("order" : Str).length = 5:=by decide +kernel
theorem wd_with : ("with" : Str).length = 4:=by decide +kernel
theorem wd_apart : ("apart" : Str).length = 5:=by decide +kernel
theorem wd_row : ("row" : Str).length = 3:=by decide +kernel
theorem num_len {n : Int} (h1 : 1 <= n) (h : n < 10 ^ 60) : ((toString n : String) : Str).length <= 60:=toString_length_le (by omega) (by decide) h
theorem tkW_le {t : Str × Int × List Str} (h : tkOk t) : (tkW t).length <= 7 /\ ∀ y ∈ tkW t,y.length <= 60:=by
 unfold tkW
 refine ⟨by have:=h.kl; simp only [List.length_append,List.length_cons,List.length_nil]; omega,fun y hy => ?_⟩
 rcases List.mem_append.mp hy with hy | hy
 ·
  simp only [List.mem_cons,List.not_mem_nil,or_false] at hy
  rcases hy with rfl | rfl | rfl
  ·
   rw [wd_task]; decide
  ·
   exact Nat.le_trans h.nm.hi (by decide)
  ·
   exact num_len h.lo h.hi
 ·
  exact Nat.le_trans (h.ks.nm y hy).hi (by decide)
theorem tkR_le {t : Str × Int × List Str} (h : tkOk t) : (tkR t).length <= 500:=Nat.le_trans (jn_le sp_len (tkW_le h).1 (tkW_le h).2) (by decide)
theorem or_le {o : Str × Str} (h1 : isNm o.1) (h2 : isNm o.2) : ∀ y ∈ (["order",o.1,o.2] : List Str),y.length <= 8:=fun y hy => by
 simp only [List.mem_cons,List.not_mem_nil,or_false] at hy
 rcases hy with rfl | rfl | rfl
 ·
  rw [wd_order]; decide
 ·
  exact h1.hi
 ·
  exact h2.hi
theorem pr_le {o : Str × Str × Str} (h0 : o.1 = "with" \/ o.1 = "apart") (h1 : isNm o.2.1) (h2 : isNm o.2.2) : ∀ y ∈ ([o.1,o.2.1,o.2.2] : List Str),y.length <= 8:=fun y hy => by
 simp only [List.mem_cons,List.not_mem_nil,or_false] at hy
 rcases hy with rfl | rfl | rfl
 ·
  rcases h0 with h0 | h0
  ·
   rw [h0,wd_with]; decide
  ·
   rw [h0,wd_apart]; decide
 ·
  exact h1.hi
 ·
  exact h2.hi
theorem rw_le {xs : List Str} (h : ∀ x ∈ xs,isNm x) : ∀ y ∈ (([("row" : Str)] : List Str) ++ xs),y.length <= 8:=fun y hy => by
 rcases List.mem_append.mp hy with hy | hy
 ·
  rw [List.mem_singleton.mp hy,wd_row]; decide
 ·
  exact (h y hy).hi
end M
namespace M
open PySem PySem.Spec PyProof.Rows L2 L3
noncomputable def glue (c : Nat) : List (List Nat) -> List Nat
 | [] => []
 | [x] => x
 | x :: y :: r => x ++ c :: glue c (y :: r)
theorem cut_eq {c : Nat} : ∀ {x y A B : List Nat},c ∉ x -> c ∉ y -> x ++ c :: A = y ++ c :: B -> x = y /\ A = B
 | [],[],A,B,_,_,h => by simp at h; exact ⟨rfl,h⟩
 | [],b :: y,A,B,_,hy,h => by
  simp at h
  exact absurd h.1 (fun e => hy (e ▸ List.mem_cons_self))
 | a :: x,[],A,B,hx,_,h => by
  simp at h
  exact absurd h.1.symm (fun e => hx (e ▸ List.mem_cons_self))
 | a :: x,b :: y,A,B,hx,hy,h => by
  simp only [List.cons_append,List.cons.injEq] at h
  obtain ⟨e,h⟩:=h
  have:=cut_eq (fun z => hx (List.mem_cons_of_mem _ z)) (fun z => hy (List.mem_cons_of_mem _ z)) h
  exact ⟨by rw [e,this.1],this.2⟩
theorem glue_inj {c : Nat} : ∀ {xs ys : List (List Nat)},xs ≠ [] -> ys ≠ [] -> (∀ x ∈ xs,c ∉ x) -> (∀ y ∈ ys,c ∉ y) -> glue c xs = glue c ys -> xs = ys
 | [],_,h,_,_,_,_ => absurd rfl h
 | _,[],_,h,_,_,_ => absurd rfl h
 | [x],[y],_,_,_,_,h => by rw [show x = y from h]
 | [x],y :: y2 :: r,_,_,hx,_,h => by
  have h' : x = y ++ c :: glue c (y2 :: r):=h
  exact absurd (show c ∈ x by rw [h']; simp) (hx x List.mem_cons_self)
 | x :: x2 :: r,[y],_,_,_,hy,h => by
  have h' : x ++ c :: glue c (x2 :: r) = y:=h
  exact absurd (show c ∈ y by rw [<- h']; simp) (hy y List.mem_cons_self)
 | x :: x2 :: r,y :: y2 :: r',_,_,hx,hy,h => by
  obtain ⟨e,h⟩:=cut_eq (hx x List.mem_cons_self) (hy y List.mem_cons_self) h
  rw [e,glue_inj (by simp) (by simp) (fun z hz => hx z (List.mem_cons_of_mem _ hz)) (fun z hz => hy z (List.mem_cons_of_mem _ hz)) h]
theorem cps_app (a b : Str) : (a ++ b).cps.toList = a.cps.toList ++ b.cps.toList:=by
 show (a.cps ++ b.cps).toList = _
 simp
theorem join_glue (c : Nat) : ∀ xs : List Str,(Str.join ⟨#[c]⟩ xs).cps.toList = glue c (xs.map fun x => x.cps.toList)
 | [] => rfl
 | [x] => rfl
 | x :: y :: r => by
  show (x ++ ⟨#[c]⟩ ++ Str.join ⟨#[c]⟩ (y :: r)).cps.toList = _
  rw [cps_app,cps_app,join_glue c (y :: r)]
  simp [glue]
theorem str_ext {a b : Str} (h : a.cps.toList = b.cps.toList) : a = b:=by
 obtain ⟨l,rfl⟩:=mkS_of a
 obtain ⟨m,rfl⟩:=mkS_of b
 rw [mkS_cps,mkS_cps] at h
 rw [h]
theorem map_cps_inj : ∀ {xs ys : List Str},xs.map (fun x => x.cps.toList) = ys.map (fun x => x.cps.toList) -> xs = ys
 | [],[],_ => rfl
 | [],_ :: _,h => by cases h
 | _ :: _,[],h => by cases h
 | x :: xs,y :: ys,h => by
  simp only [List.map_cons,List.cons.injEq] at h
  rw [str_ext h.1,map_cps_inj h.2]
theorem split_ne (x y : Str) : Txt.split x y ≠ []:=by
 unfold Txt.split
 split
 ·
  simp
 ·
  split
  ·
   simp
  ·
   intro h
   have:=congrArg List.length h
   rw [length_partsBetween] at this
   simp at this
theorem split_join {c : Nat} {ws : List Str} (hn : ws ≠ []) (hc : ∀ w ∈ ws,c ∉ w.cps.toList) : Txt.split (Str.join ⟨#[c]⟩ ws) ⟨#[c]⟩ = ws:=by
 have h1:=StrLaws.join_split (Str.join ⟨#[c]⟩ ws) ⟨#[c]⟩
 have h2:=StrLaws.split_free (Str.join ⟨#[c]⟩ ws) c
 have h3:=congrArg (fun z : Str => z.cps.toList) h1
 simp only [join_glue] at h3
 refine map_cps_inj (glue_inj (c:=c) (by simp [split_ne]) (by simp [hn]) ?_ ?_ h3)
 ·
  intro x hx
  obtain ⟨p,hp,rfl⟩:=List.mem_map.mp hx
  exact h2 p hp
 ·
  intro x hx
  obtain ⟨p,hp,rfl⟩:=List.mem_map.mp hx
  exact hc p hp
theorem sp_eq : (" " : Str) = ⟨#[32]⟩:=by decide +kernel
theorem jn_eq (z : Str) (ys : List Str) : PySem.Txt.join z ys = Str.join z ys:=by
 exact PySem.StrLaws.glued_eq_join z ys
theorem sp_split {ws : List Str} (hn : ws ≠ []) (hc : ∀ w ∈ ws,32 ∉ w.cps.toList) : Txt.split (PySem.Txt.join " " ws) " " = ws:=by
 rw [jn_eq,sp_eq]; exact split_join hn hc
theorem glue_mem {c d : Nat} : ∀ {xs : List (List Nat)},d ∈ glue c xs -> d = c \/ ∃ x ∈ xs,d ∈ x
 | [],h => by cases h
 | [x],h => .inr ⟨x,by simp,h⟩
 | x :: y :: r,h => by
  have h' : d ∈ x ++ c :: glue c (y :: r):=h
  rw [List.mem_append,List.mem_cons] at h'
  rcases h' with h' | h' | h'
  ·
   exact .inr ⟨x,by simp,h'⟩
  ·
   exact .inl h'
  ·
   rcases glue_mem h' with e | ⟨z,hz,e⟩
   ·
    exact .inl e
   ·
    exact .inr ⟨z,List.mem_cons_of_mem _ hz,e⟩
theorem jn_free {ws : List Str} (hc : ∀ w ∈ ws,10 ∉ w.cps.toList) : 10 ∉ (PySem.Txt.join " " ws).cps.toList:=by
 rw [jn_eq,sp_eq,join_glue]
 intro h
 rcases glue_mem h with e | ⟨x,hx,e⟩
 ·
  exact absurd e (by decide)
 ·
  obtain ⟨p,hp,rfl⟩:=List.mem_map.mp hx
  exact hc p hp e
def cleanS (w : Str) : Prop:=∀ c ∈ w.cps.toList,48 <= c
theorem isNm.clean {x : Str} (h : isNm x) : cleanS x:=fun c hc => by have:=h.az c hc; omega
theorem cleanS.no {w : Str} (h : cleanS w) {c : Nat} (hc : c < 48) : c ∉ w.cps.toList:=fun z => by have:=h c z; omega
theorem cl_task : cleanS "task":=by unfold cleanS; decide +kernel
theorem cl_order : cleanS "order":=by unfold cleanS; decide +kernel
theorem cl_with : cleanS "with":=by unfold cleanS; decide +kernel
theorem cl_apart : cleanS "apart":=by unfold cleanS; decide +kernel
theorem cl_row : cleanS "row":=by unfold cleanS; decide +kernel
theorem num_nat {n : Int} (h1 : 1 <= n) : ∃ m : Nat,n = m /\ 1 <= m:=⟨n.toNat,by omega,by omega⟩
theorem num_signs (m : Nat) : (((toString ((m : Nat) : Int) : String) : Str)).cps.toList = (Nat.toDigits 10 m).map Char.toNat:=PySem.W.KIN.signs_num m
theorem num_dig {m c : Nat} (h : c ∈ (Nat.toDigits 10 m).map Char.toNat) : 48 <= c /\ c <= 57:=by
 obtain ⟨ch,hch,e⟩:=List.mem_map.mp h
 have r:=PyProof.Rows.digit_range (Nat.isDigit_of_mem_toDigits (by decide) (by decide) hch)
 rw [<- e]
 exact r
theorem cl_num {n : Int} (h1 : 1 <= n) : cleanS ((toString n : String) : Str):=by
 obtain ⟨m,rfl,_⟩:=num_nat h1
 intro c hc
 rw [num_signs] at hc
 exact (num_dig hc).1
end M
namespace L3
open PySem PySem.Spec PyProof.Rows L2
theorem cut_f1 (a : T) (r : List T) : cut3 (a :: r) (some 1) none = r:=cut_from (k:=1)
theorem cut_f2 (a b : T) (r : List T) : cut3 (a :: b :: r) (some 2) none = r:=cut_from (k:=2)
theorem cut_f3 (a b c : T) (r : List T) : cut3 (a :: b :: c :: r) (some 3) none = r:=cut_from (k:=3)
structure Shut (p : Prop) : Prop where
 out : p
theorem seq_cut {t u : TS3} {D : Ends3} {σ : St3} {H : Hp3} (h : ∀ R,Shut (R = u) -> (tSeq3 t R) D σ H) : (tSeq3 t u) D σ H:=h u ⟨rfl⟩
theorem cIter_filt {α : Type} (enc f : α -> T) (p : α -> Bool) (as : List α) (rest : St3) {tt : TT3} {te : TE3} {still : Hp3 -> Prop} {fin : List T -> Hp3 -> Prop} {v : Option T} {H : Hp3} (hst : still H) (hl : as.length <= sizeLine)
  (hc : ∀ a ∈ as,∀ Q : Bool -> Hp3 -> Prop,Q (p a) H -> tt (some (enc a) :: rest) H Q)
  (ht : ∀ a ∈ as,p a = true -> ∀ Q : VK3,Q (f a) H -> te (some (enc a) :: rest) H Q) (hfin : fin ((as.filter p).map f) H) : cIter3 (gName3 0) tt te still fin (as.map enc) [] (v :: rest) H:=by
 refine cIter_go (fun r ys σ H' => ∃ (rs ds : List α) (v : Option T),σ = v :: rest /\ r = rs.map enc /\ ys = (ds.filter p).map f /\ ds ++ rs = as /\ H' = H) ⟨as,[],v,rfl,rfl,rfl,rfl,rfl⟩ ?_ ?_
 ·
  rintro ys σ H' ⟨rs,ds,v,rfl,hrs,rfl,hsp,rfl⟩
  have hrs' : rs = []:=List.map_eq_nil_iff.mp hrs.symm
  subst hrs'
  rw [List.append_nil] at hsp
  subst hsp
  exact ⟨hst,by rw [List.length_map]; exact Nat.le_trans (List.length_filter_le _ _) hl,hfin⟩
 ·
  rintro x r ys σ H' N ⟨rs,ds,v,rfl,hrs,rfl,hsp,rfl⟩ hN
  cases rs with
  | nil => cases hrs
  | cons t rs =>
   injection hrs with e1 e2
   subst e1 e2
   refine ⟨hst,?_⟩
   show tt (some (enc t) :: rest) H' _
   refine hc t (by rw [<- hsp]; simp) _ ?_
   cases hp : p t with
   | true =>
    rw [if_pos rfl]
    refine ht t (by rw [<- hsp]; simp) hp _ ⟨?_,hN _ _ _ ⟨rs,ds ++ [t],_,rfl,rfl,by simp [hp],by rw [<- hsp]; simp,rfl⟩⟩
    have:=congrArg List.length hsp
    simp only [List.length_append,List.length_cons] at this
    rw [List.length_map]
    have:=List.length_filter_le p ds
    omega
   | false =>
    rw [if_neg Bool.false_ne_true]
    exact hN _ _ _ ⟨rs,ds ++ [t],_,rfl,rfl,by simp [hp],by rw [<- hsp]; simp,rfl⟩
end L3
namespace M
open PySem PySem.Spec PyProof.Rows L2 L3
inductive Rw where
 | tk (t : Str × Int × List Str) | od (o : Str × Str) | pr (p : Str × Str × Str)
noncomputable def Rw.words : Rw -> List Str
 | .tk t => tkW t
 | .od o => ["order",o.1,o.2]
 | .pr p => [p.1,p.2.1,p.2.2]
noncomputable def tks : List Rw -> List (Str × Int × List Str)
 | [] => []
 | .tk t :: r => t :: tks r
 | _ :: r => tks r
noncomputable def prs : List Rw -> List (Str × Str × Str)
 | [] => []
 | .pr p :: r => p :: prs r
 | _ :: r => prs r
inductive RowW : List Str -> Prop
 | tk {t : Str × Int × List Str} (h : tkOk t) : RowW (tkW t)
 | od {a b : Str} (h1 : isNm a) (h2 : isNm b) : RowW ["order",a,b]
 | pr {z a b : Str} (h0 : z = "with" \/ z = "apart") (h1 : isNm a) (h2 : isNm b) : RowW [z,a,b]
 | row {xs : List Str} (h1 : 1 <= xs.length) (h8 : xs.length <= 8) (h : ∀ x ∈ xs,isNm x) : RowW (([("row" : Str)] : List Str) ++ xs)
theorem RowW.ne {ws : List Str} (h : RowW ws) : ws ≠ []:=by cases h <;> simp [tkW]
theorem RowW.clean {ws : List Str} (h : RowW ws) : ∀ w ∈ ws,cleanS w:=by
 intro w hw
 cases h with
 | tk h =>
  rcases List.mem_append.mp hw with hw | hw
  ·
   simp only [List.mem_cons,List.not_mem_nil,or_false] at hw
   rcases hw with rfl | rfl | rfl
   ·
    exact cl_task
   ·
    exact h.nm.clean
   ·
    exact cl_num h.lo
  ·
   exact (h.ks.nm w hw).clean
 | od h1 h2 =>
  simp only [List.mem_cons,List.not_mem_nil,or_false] at hw
  rcases hw with rfl | rfl | rfl
  ·
   exact cl_order
  ·
   exact h1.clean
  ·
   exact h2.clean
 | pr h0 h1 h2 =>
  simp only [List.mem_cons,List.not_mem_nil,or_false] at hw
  rcases hw with rfl | rfl | rfl
  ·
   rcases h0 with rfl | rfl
   ·
    exact cl_with
   ·
    exact cl_apart
  ·
   exact h1.clean
  ·
   exact h2.clean
 | row h1 h8 h =>
  rcases List.mem_append.mp hw with hw | hw
  ·
   rw [List.mem_singleton.mp hw]; exact cl_row
  ·
   exact (h w hw).clean
theorem RowW.split {ws : List Str} (h : RowW ws) : PySem.Txt.split (PySem.Txt.join " " ws) " " = ws:=sp_split h.ne fun w hw => (h.clean w hw).no (by decide)
theorem RowW.len {ws : List Str} (h : RowW ws) : (PySem.Txt.join " " ws).length <= 500:=by
 cases h with
 | tk h => exact tkR_le h
 | od h1 h2 => exact Nat.le_trans (jn_le sp_len (n:=3) (by simp) (or_le (o:=(_,_)) h1 h2)) (by decide)
 | pr h0 h1 h2 => exact Nat.le_trans (jn_le sp_len (n:=3) (by simp) (pr_le (o:=(_,_,_)) h0 h1 h2)) (by decide)
 | row h1 h8 h => exact Nat.le_trans (jn_le sp_len (n:=9) (by simp only [List.length_append,List.length_singleton]; omega) (rw_le h)) (by decide)
theorem RowW.free {ws : List Str} (h : RowW ws) : 10 ∉ (PySem.Txt.join " " ws).cps.toList:=jn_free fun w hw => (h.clean w hw).no (by decide)
end M
namespace M
open PySem PySem.Spec PyProof.Rows L2 L3
structure Cl (H : Hp3) (a : Addr) : Prop where
 ex : ∃ ns : List Int,H a = some (.lst (ns.map T.int)) /\ ns ≠ [] /\ ns.length <= 64
structure Drw (a : Addr) (H H' : Hp3) : Prop where
 cl : Cl H' a
 off : ∀ b,b ≠ a -> H' b = H b
theorem Drw.trans {a : Addr} {H H1 H2 : Hp3} (x : Drw a H H1) (y : Drw a H1 H2) : Drw a H H2:=⟨y.cl,fun b h => (y.off b h).trans (x.off b h)⟩
theorem Cl.refl {a : Addr} {H : Hp3} (D : Cl H a) : Drw a H H:=⟨D,fun _ _ => rfl⟩
theorem Cl.ne {a p : Addr} {H : Hp3} (D : Cl H a) (hp : H p = none) : p ≠ a:=fun e => by obtain ⟨ns,h,_⟩:=D.ex; rw [<- e,hp] at h; cases h
theorem Cl.new {a p : Addr} {H : Hp3} {u : O3} (D : Cl H a) (h : p ≠ a) : Cl (up3 H p u) a:=by
 obtain ⟨ns,e,r⟩:=D.ex
 exact ⟨ns,by rw [up3_ne (Ne.symm h)]; exact e,r⟩
def Kep (a : Addr) (H H' : Hp3) : Prop:=∀ b o,H b = some o -> b ≠ a -> H' b = some o
theorem Kep.refl {a : Addr} {H : Hp3} : Kep a H H:=fun _ _ h _ => h
theorem Kep.drw {a : Addr} {H H1 H2 : Hp3} (x : Kep a H H1) (y : Drw a H1 H2) : Kep a H H2:=fun b o h h1 => by rw [y.off b h1]; exact x b o h h1
theorem Kep.new {a p : Addr} {H H1 : Hp3} {u : O3} (x : Kep a H H1) (hp : H1 p = none) : Kep a H (up3 H1 p u):=fun b o h h1 => by
 have:=x b o h h1
 rw [up3_ne (ne3n this hp)]; exact this
theorem Kep.at {a p : Addr} {H H1 : Hp3} {u : O3} (x : Kep a H H1) (hp : H p = none) : Kep a H (up3 H1 p u):=fun b o h h1 => by
 rw [up3_ne (ne3n h hp)]; exact x b o h h1
theorem Kep.sub {a : Addr} {H H1 H2 : Hp3} (x : Kep a H H1) (s : Sub3 H1 H2) : Kep a H H2:=fun b o h h1 => s b o (x b o h h1)
theorem fin_drw {a : Addr} {H H' : Hp3} {Q : VK3} {v : T} (D : Cl H' a) (k : Kep a H H') (q : ∀ H'',Drw a H H'' -> Q v H'') : Fin3 Q v H':=by
 refine ⟨fun b => if b = a then H' b else H b,fun b o hb => ?_,q _ ⟨?_,fun b h1 => ?_⟩⟩
 ·
  by_cases h : b = a
  ·
   simp only [h,if_true] at hb ⊢; exact hb
  ·
   simp only [h,if_false] at hb
   exact k b o hb h
 ·
  obtain ⟨ns,e,r⟩:=D.ex
  exact ⟨ns,by simp only [if_true]; exact e,r⟩
 ·
  simp only [h1,if_false]
noncomputable def sg (c : Nat) : Str:=⟨#[c]⟩
noncomputable def sgT (c : Nat) : T:=.str ⟨#[c]⟩
theorem e_eq : ("" : Str) = ⟨#[]⟩:=by decide +kernel
theorem e_len : ("" : Str).length = 0:=by decide +kernel
theorem join_sg : ∀ l : List Nat,(Str.join ("" : Str) (l.map sg)).cps.toList = l
 | [] => rfl
 | [c] => rfl
 | c :: d :: r => by
  show (sg c ++ "" ++ Str.join "" ((d :: r).map sg)).cps.toList = _
  rw [cps_app,cps_app,join_sg (d :: r),e_eq]
  rfl
theorem jn_sg (l : List Nat) : PySem.Txt.join "" (l.map sg) = mkS l:=by
 rw [jn_eq]
 exact str_ext (by rw [join_sg,mkS_cps])
theorem strs_sg (l : List Nat) : strs3 (l.map sgT) = some (l.map sg):=by
 have:=strs3_map (l.map sg)
 rw [List.map_map] at this
 exact this
theorem ok_sg {l : List Nat} (h : l.length <= 100) : jOk "" (l.map sg):=by
 unfold jOk
 have h1 : ∀ l : List Nat,((l.map sg).map (·.length)).sum = l.length:=fun l => by
  induction l with
  | nil => rfl
  | cons c r ih => simp only [List.map_cons,List.sum_cons,ih,List.length_cons]; show 1 + r.length = _; omega
 rw [h1,e_len]
 simp only [Nat.mul_zero]
 omega
noncomputable def pairsOf : List Str -> List (Str × Str)
 | [] => []
 | x :: r => r.map (fun y => (x,y)) ++ pairsOf r
theorem pairsOf_mem : ∀ {ws : List Str} {o : Str × Str},o ∈ pairsOf ws -> o.1 ∈ ws /\ o.2 ∈ ws
 | [],o,h => by cases h
 | x :: r,o,h => by
  rcases List.mem_append.mp h with h | h
  ·
   obtain ⟨y,hy,rfl⟩:=List.mem_map.mp h
   exact ⟨List.mem_cons_self,List.mem_cons_of_mem _ hy⟩
  ·
   have:=pairsOf_mem h
   exact ⟨List.mem_cons_of_mem _ this.1,List.mem_cons_of_mem _ this.2⟩
theorem pairsOf_ne : ∀ {ws : List Str} {o : Str × Str},ws.Nodup -> o ∈ pairsOf ws -> o.1 ≠ o.2
 | [],o,_,h => by cases h
 | x :: r,o,nd,h => by
  rw [List.nodup_cons] at nd
  rcases List.mem_append.mp h with h | h
  ·
   obtain ⟨y,hy,rfl⟩:=List.mem_map.mp h
   exact fun e => nd.1 (by have e' : x = y:=e; rw [e']; exact hy)
  ·
   exact pairsOf_ne nd.2 h
theorem pairsOf_nd : ∀ {ws : List Str},ws.Nodup -> (pairsOf ws).Nodup
 | [],_ => List.nodup_nil
 | x :: r,nd => by
  rw [List.nodup_cons] at nd
  show (r.map (fun y => (x,y)) ++ pairsOf r).Nodup
  rw [List.nodup_append]
  refine ⟨?_,pairsOf_nd nd.2,?_⟩
  ·
   have : ∀ r : List Str,r.Nodup -> (r.map (fun y => (x,y))).Nodup:=fun r => by
    induction r with
    | nil => intro _; exact List.nodup_nil
    | cons y r ih =>
     intro h
     rw [List.nodup_cons] at h
     rw [List.map_cons,List.nodup_cons]
     refine ⟨fun hm => ?_,ih h.2⟩
     obtain ⟨z,hz,e⟩:=List.mem_map.mp hm
     have e' : z = y:=congrArg Prod.snd e
     exact h.1 (e' ▸ hz)
   exact this r nd.2
  ·
   intro a ha b hb e
   subst e
   obtain ⟨y,hy,rfl⟩:=List.mem_map.mp ha
   exact nd.1 (pairsOf_mem hb).1
theorem pairsOf_len : ∀ ws : List Str,2 * (pairsOf ws).length + ws.length = ws.length * ws.length
 | [] => rfl
 | x :: r => by
  have:=pairsOf_len r
  simp only [pairsOf,List.length_append,List.length_map,List.length_cons,Nat.succ_mul,Nat.mul_succ]
  omega
theorem pairsOf_28 {ws : List Str} (h : ws.length <= 8) : (pairsOf ws).length <= 28:=by
 have e:=pairsOf_len ws
 generalize ws.length = n at *
 match n,h with
 | 0,_ => omega
 | 1,_ => omega
 | 2,_ => omega
 | 3,_ => omega
 | 4,_ => omega
 | 5,_ => omega
 | 6,_ => omega
 | 7,_ => omega
 | 8,_ => omega
end M
namespace M
open PySem PySem.Spec PyProof.Rows L2 L3
theorem sub_up {H0 H : Hp3} {p : Addr} {o : O3} (h0 : H0 p = none) (s : Sub3 H0 H) : Sub3 H0 (up3 H p o):=fun b u e => by rw [up3_ne (ne3n e h0)]; exact s b u e
end M
namespace M
open PySem PySem.Spec PyProof.Rows L2 L3
noncomputable def top (i : Nat) : Stmt:=PySem.Challenge.pw_stationrow_k14_named_and_told_otherwise.main.body.getD i (.Pass ⟨0,0,0,0⟩)
def nm0 : String := "ne_eq not_false_eq_true up3_ne tSeq3 tAsg3 tC3 gName3 tFor3 tCons3 tNil3 tRet3 tRetN3 tOp3 tIfS3 tAnd3 tOr3 tNot3 tCB3 tBM3 tDrop3 tNext3 gSub3 tCall3 tTup3 tLst3 tIf3 tSl3 tNoPart3 tYes3 q_vq q_var q_bq q_test q_chain q_andV q_orV q_notV q_oq q_I q_I0 q_addI q_addS q_addT q_addL q_catH q_eqI q_eqS q_eqB q_eqT q_eqL q_eqH q_inT q_inS q_inL q_inH q_ixL q_ixH q_ixT q_ixS q_setL q_stH q_pq q_part q_slL q_slH q_slHr q_slT q_slS q_D q_dgH q_dput q_dpH q_dpO q_lenL q_lnH q_lenT q_lenS q_listL q_liH q_listT q_tupL q_tpH q_tupT q_intI q_intB q_strI q_sumL q_smH q_tyS q_tyL q_tyH q_app q_apH q_ext q_exH q_pop q_poH q_joinL q_joH q_joinT q_index q_idH q_rng q_rg1 q_rg2 q_iTup q_tuq q_iList q_liq q_liO q_gNil q_gCons q_gTup up3_same tDisp3 tComp3 tSetComp3 q_iZip q_all q_alH zip3_self qi_str it_str_str it_int_str it_tup_str it_bl_str it_non_str qi_int it_str_int it_int_int it_tup_int it_bl_int it_non_int qi_bool it_str_bool it_int_bool it_tup_bool it_bl_bool it_non_bool qi_tuple it_str_tuple it_int_tuple it_tup_tuple it_bl_tuple it_non_tuple qi_list it_str_list it_int_list it_tup_list it_bl_list it_non_list dec_rfl decide_true decide_false Bool.not_true Bool.not_false q_prs0 q_prs1 ix_z at0 at1 at2 at3 List.eraseIdx_cons_zero Int.toNat_natCast up3_up3 List.length_map List.length_cons List.length_nil Nat.zero_add Bool.false_eq_true if_false if_true List.getElem?_cons_zero List.getElem?_cons_succ List.set_cons_zero List.set_cons_succ q_neg q_ngq q_intT List.map_cons List.map_nil cut_f1 cut_f2 cut_f3 q_iEnum0 q_en0q q_en0H"
local macro_rules | `(tactic| walk_at "cp") => `(tactic| try dsimp only [cap3,List.replicate,List.map_cons,List.map_nil,List.cons_append,List.nil_append,List.getElem?_cons_zero,List.getElem?_cons_succ,Option.getD_some])
local macro_rules | `(tactic| walk_at "nx") => `(tactic| (obtain ⟨e⟩:=‹Shut (_ = _)›; subst e; try dsimp only))
local macro_rules | `(tactic| walk_at "rd") => do
 let ls <- (nm0.splitOn " ").toArray.mapM fun n => let i:=Lean.mkIdent n.toName; `(Lean.Parser.Tactic.simpLemma| $i:ident)
 `(tactic| ((try dsimp only [$[$ls:simpLemma],*]); try simp only [*,$[$ls:simpLemma],*]))
section
variable {P : Program} {w : World} {K : PySem.W.Frag} {mg : Str -> Option Value} {base : Heap}
def spWide : Sp3:=fun ts H Q => ∃ n : Int,ts = [.int n] /\ ∀ m : Int,0 <= m -> Q (.int m) H
def spNx : Sp3:=fun ts H Q => ∃ a,ts = [.ref a] /\ Cl H a /\ ∀ (n : Int) (H' : Hp3),Drw a H H' -> Q (.int n) H'
def spDk : Sp3:=fun ts H Q => ∃ (a : Addr) (ns : List Int),ts = [.ref a] /\ H a = some (.rol (ns.map T.int)) /\ ns.length <= 63 /\ ∀ (p : Addr) (H' : Hp3),Sub3 H H' -> H p = none -> Cl H' p -> Q (.ref p) H'
abbrev N_wide : List Str:=["_law_number","_law_found","_law_j"]
theorem sc_wide : FnScope N_wide ["_law_number"] (defScope (top 15)):=sc_mk
theorem ok_wide {f : Addr} {fd : FuncData} (g : G3 K mg "_law_wide" (top 15) ["_law_number"] f fd) (B : Bl mg) : Cal P w K mg base 1 "_law_wide" (top 15) ["_law_number"] spWide:=by
 refine ⟨f,fd,g,?_⟩
 refine fn3 g.fn sc_wide (fun ts H Q h => ?_) (fun cdv A outer s H E ts H3 Q hr h => ?_)
 ·
  obtain ⟨n,rfl,_⟩:=h; rfl
 ·
  have hu30:=Room.u30 hr
  have hu31:=Room.u31 hr
  have hu1:=Room.u1 hr
  obtain ⟨n,rfl,k⟩:=h
  refine ⟨_,(ss3_cons (s3_set (i:=1) sc_wide.nd c3_int)
    (ss3_cons (s3_set (i:=0) sc_wide.nd (e3_op o3_mod (v3 0) c3_int))
    (ss3_cons (s3_for PassesOwn.never rfl (i3_range1 rfl B.range_ (a3_cons c3_int a3_nil)) (g3_name (i:=2) sc_wide.nd) (ss3_cons (s3_set (i:=0) sc_wide.nd (e3_op o3_mod (e3_op o3_add (e3_op o3_add (e3_op o3_mul (v3 0) c3_int) (e3_op o3_mul (e3_op o3_mul c3_int (v3 2)) (v3 2))) c3_int) c3_int))
     (ss3_one (s3_set (i:=1) sc_wide.nd (e3_op o3_add (e3_op o3_mul (v3 1) (e3_op o3_pow c3_int c3_int)) (e3_op o3_mod (e3_op o3_mod (e3_op o3_mul (v3 0) c3_int) c3_int) (e3_op o3_pow c3_int c3_int)))))))
    (ss3_one (s3_ret (v3 1)))))),?_⟩
  rw [show start3 N_wide [T.int n] = [some (T.int n),none,none] from rfl]
  walk_at "rd"
  refine ⟨by decide,True.intro,by decide,by decide,?_⟩
  refine iter_go (fun r σ H => ∃ (x f : Int) (v : Option T),σ = [some (.int x),some (.int f),v] /\ 0 <= x /\ x < 2147483647 /\ 0 <= f /\ H = H3 /\ ∀ t ∈ r,∃ j : Int,t = .int j /\ 0 <= j /\ j < 7) ⟨_,0,none,rfl,Int.emod_nonneg _ (by decide),Int.emod_lt_of_pos _ (by decide),by decide,rfl,?_⟩ ?_ ?_
  ·
   intro t ht
   rw [show rng3 0 (Int.toNat 7) = (List.range 7).map (fun (i : Nat) => T.int (0 + (i : Int))) from rfl] at ht
   obtain ⟨i,hi,rfl⟩:=List.mem_map.mp ht
   rw [List.mem_range] at hi
   exact ⟨_,rfl,by omega,by omega⟩
  ·
   rintro σ H ⟨x,f,v,rfl,_,_,h0,rfl,_⟩
   refine ⟨trivial,?_⟩
   walk_at "rd"
   exact Fin3.of Sub3.refl (k _ h0)
  ·
   rintro t r σ H N ⟨x,f,v,rfl,x0,x1,f0,rfl,hr⟩ hN
   obtain ⟨j,rfl,j0,j1⟩:=hr _ List.mem_cons_self
   refine ⟨trivial,?_⟩
   walk_at "rd"
   have tn : (10 : Int) ^ Int.toNat 9 = 1000000000:=by decide
   rw [tn]
   refine ⟨.inl ⟨by omega,by omega⟩,.inl ⟨by decide,by decide⟩,.inl ⟨by omega,by omega⟩,by decide,⟨by decide,by decide,by decide⟩,.inr ⟨by decide,by decide⟩,.inr ⟨by decide,by decide⟩,by decide,⟨by decide,by decide,by decide⟩,by decide,?_⟩
   refine hN _ _ ⟨_,_,_,rfl,Int.emod_nonneg _ (by decide),Int.emod_lt_of_pos _ (by decide),?_,rfl,fun t ht => hr t (List.mem_cons_of_mem _ ht)⟩
   have:=Int.emod_nonneg (((x * 48271 + 7919 * j * j + 11) % 2147483647) * 69621 % 2147483629) (show (1000000000 : Int) ≠ 0 by decide)
   omega
abbrev N_next : List Str:=["_law_cells","_law_cell"]
theorem sc_next : FnScope N_next ["_law_cells"] (defScope (top 16)):=sc_mk
theorem ok_next {f : Addr} {fd : FuncData} (g : G3 K mg "_law_next" (top 16) ["_law_cells"] f fd) (B : Bl mg) (F_wide : Cal P w K mg base 1 "_law_wide" (top 15) ["_law_number"] spWide) : Cal P w K mg base 2 "_law_next" (top 16) ["_law_cells"] spNx:=by
 refine ⟨f,fd,g,?_⟩
 refine fn3 g.fn sc_next (fun ts H Q h => ?_) (fun cdv A outer s H E ts H3 Q hr h => ?_)
 ·
  obtain ⟨a,rfl,_⟩:=h; rfl
 ·
  have hu30:=Room.u30 hr
  have hu31:=Room.u31 hr
  have hu1:=Room.u1 hr
  obtain ⟨a,rfl,D,k⟩:=h
  obtain ⟨ns,hc,hne,hlen⟩:=D.ex
  refine ⟨_,(ss3_cons (s3_set (i:=1) sc_next.nd (e3_bm PySem.F.plainAttrs_list PySem.F.slot_list_pop PySem.F.type_list_pop m3_popAt (v3 0) (a3_cons c3_int a3_nil)))
    (ss3_cons (s3_if (t3_cmp (o3_eq hu30) (v3 0) (e3_lst a3_nil)) (ss3_one (s3_expr (e3_bm PySem.F.plainAttrs_list PySem.F.slot_list_append PySem.F.type_list_append m3_append (v3 0) (a3_cons (e3_cl F_wide hr rfl (a3_cons (e3_op o3_add (v3 1) c3_int) a3_nil)) a3_nil)))) ss3_nil)
    (ss3_one (s3_ret (v3 1))))),?_⟩
  rw [show start3 N_next [T.ref a] = [some (T.ref a),none] from rfl]
  have hsz : sizeLine = 16777216:=rfl
  cases ns with
  | nil => exact absurd rfl hne
  | cons n0 r =>
   simp only [List.map_cons] at hc
   simp only [List.length_cons] at hlen
   walk_at "rd"
   refine ⟨⟨True.intro,True.intro⟩,by omega,fun p hp => ?_⟩
   obtain ⟨np,hp0⟩:=up3_none hp
   have np':=Ne.symm np
   have hpl : (r.map T.int).all (pl 20) = true:=by rw [List.all_eq_true]; intro t ht; obtain ⟨x,_,rfl⟩:=List.mem_map.mp ht; rfl
   walk_at "rd"
   refine ⟨True.intro,True.intro,rfl,?_⟩
   cases r with
   | nil =>
    simp only [List.map_nil,dec_rfl,if_true]
    walk_at "rd"
    refine ⟨⟨True.intro,True.intro⟩,n0 + 1,rfl,fun m hm => ?_⟩
    walk_at "rd"
    refine ⟨by omega,fin_drw (a:=a) (H:=H3) ⟨[m],up3_same,by simp,by simp⟩ (fun b o hb h1 => ?_) fun H'' hD => k _ _ hD⟩
    rw [up3_ne h1,up3_ne (ne3n hb hp0),up3_ne h1]
    exact hb
   | cons n1 r =>
    rw [decide_eq_false (by simp),if_neg Bool.false_ne_true]
    refine fin_drw (a:=a) (H:=H3) ⟨n1 :: r,by rw [up3_ne np',up3_same],by simp,by simp only [List.length_cons] at hlen ⊢; omega⟩ (fun b o hb h1 => ?_) fun H'' hD => k _ _ hD
    rw [up3_ne (ne3n hb hp0),up3_ne h1]
    exact hb
abbrev N_deck : List Str:=["_law_script","_law_cells"]
theorem sc_deck : FnScope N_deck ["_law_script"] (defScope (top 17)):=sc_mk
theorem ok_deck {f : Addr} {fd : FuncData} (g : G3 K mg "_law_deck" (top 17) ["_law_script"] f fd) (B : Bl mg) (F_wide : Cal P w K mg base 1 "_law_wide" (top 15) ["_law_number"] spWide) : Cal P w K mg base 2 "_law_deck" (top 17) ["_law_script"] spDk:=by
 refine ⟨f,fd,g,?_⟩
 refine fn3 g.fn sc_deck (fun ts H Q h => ?_) (fun cdv A outer s H E ts H3 Q hr h => ?_)
 ·
  obtain ⟨a,ns,rfl,_⟩:=h; rfl
 ·
  have hu30:=Room.u30 hr
  have hu31:=Room.u31 hr
  have hu1:=Room.u1 hr
  obtain ⟨a,ns,rfl,ha,hlen,k⟩:=h
  refine ⟨_,(ss3_cons (s3_set (i:=1) sc_deck.nd (e3_op o3_add (e3_callTy c3_list rfl B.list_ bt_list (a3_cons (e3_slice (v3 0) po3_none (po3_some c3_int)) a3_nil)) (e3_lst (a3_cons c3_int a3_nil))))
    (ss3_cons (s3_if (t3_cmp (o3_eq hu30) (e3_op o3_mod (e3_ix ix3 (v3 1) c3_int) c3_int) c3_int) (ss3_one (s3_ret (e3_op o3_add (e3_lst (a3_cons (e3_op o3_fdiv (e3_ix ix3 (v3 1) c3_int) c3_int) a3_nil)) (e3_slice (v3 1) (po3_some c3_int) po3_none)))) ss3_nil)
    (ss3_one (s3_ret (e3_lst (a3_cons (e3_cl F_wide hr rfl (a3_cons (e3_op o3_add (e3_op o3_fdiv (e3_ix ix3 (v3 1) c3_int) c3_int) (e3_callB (c3_sum rfl) rfl B.sum_ bt_sum (a3_cons (e3_slice (v3 1) (po3_some c3_int) po3_none) a3_nil))) a3_nil)) a3_nil)))))),?_⟩
  rw [show start3 N_deck [T.ref a] = [some (T.ref a),none] from rfl]
  have hsz : sizeLine = 16777216:=rfl
  have hcut : cut3 (ns.map T.int) none (some 63) = ns.map T.int:=by
   rw [show (63 : Int) = ((63 : Nat) : Int) from rfl,cut_to,List.take_of_length_le (by simpa using hlen)]
  obtain ⟨m0,mr,hm⟩ : ∃ m0 mr,ns ++ [7] = m0 :: mr:=by cases ns <;> exact ⟨_,_,rfl⟩
  have hm' : ns.map T.int ++ [T.int 7] = T.int m0 :: mr.map T.int:=by
   have:=congrArg (List.map T.int) hm
   simpa using this
  have hml : mr.length + 1 = ns.length + 1:=by have:=congrArg List.length hm; simpa using this.symm
  have hi : ints3 (mr.map T.int) = some mr:=ints3_map mr
  walk_at "rd"
  intro p hp
  have nap : a ≠ p:=ne3n ha hp
  walk_at "rd"
  intro p1 hp1
  obtain ⟨n1,hp1⟩:=up3_none hp1
  have n1':=Ne.symm n1
  refine ⟨by omega,fun p2 hp2 => ?_⟩
  obtain ⟨n2,hp2⟩:=up3_none hp2
  obtain ⟨n3,hp2⟩:=up3_none hp2
  have n2':=Ne.symm n2
  walk_at "rd"
  refine ⟨by omega,fun p3 hp3 => ?_⟩
  obtain ⟨n4,hp3⟩:=up3_none hp3
  obtain ⟨n5,hp3⟩:=up3_none hp3
  obtain ⟨n6,hp3⟩:=up3_none hp3
  walk_at "rd"
  have hS : Sub3 H3 (up3 (up3 (up3 (up3 H3 p (O3.lst (ns.map T.int))) p1 (O3.lst (ns.map T.int))) p2 (O3.lst [T.int 7])) p3 (O3.lst (T.int m0 :: mr.map T.int))):=sub_up hp3 (sub_up hp2 (sub_up hp1 (sub_up hp Sub3.refl)))
  refine ⟨by decide,?_⟩
  split
  ·
   refine ⟨⟨by decide,by decide +kernel⟩,by omega,fun p4 hp4 => ?_⟩
   have hp4':=hp4
   obtain ⟨n7,hp4⟩:=up3_none hp4
   obtain ⟨_,hp4⟩:=up3_none hp4
   obtain ⟨_,hp4⟩:=up3_none hp4
   obtain ⟨_,hp4⟩:=up3_none hp4
   have n7':=Ne.symm n7
   walk_at "rd"
   intro p5 hp5
   obtain ⟨n8,hp5⟩:=up3_none hp5
   have hp5':=hp5
   obtain ⟨n9,hp5⟩:=up3_none hp5
   obtain ⟨_,hp5⟩:=up3_none hp5
   obtain ⟨_,hp5⟩:=up3_none hp5
   obtain ⟨_,hp5⟩:=up3_none hp5
   have n8':=Ne.symm n8
   walk_at "rd"
   refine ⟨by omega,fun p6 hp6 => ?_⟩
   have hp60 : H3 p6 = none:=by
    obtain ⟨_,hp6⟩:=up3_none hp6
    obtain ⟨_,hp6⟩:=up3_none hp6
    obtain ⟨_,hp6⟩:=up3_none hp6
    obtain ⟨_,hp6⟩:=up3_none hp6
    obtain ⟨_,hp6⟩:=up3_none hp6
    exact (up3_none hp6).2
   refine Fin3.of Sub3.refl (k p6 _ (sub_up hp60 (sub_up hp5 (sub_up hp4 hS))) hp60 ⟨(m0 / 2) :: mr,by rw [up3_same]; rfl,by simp,by simp only [List.length_cons]; omega⟩)
  ·
   refine ⟨⟨by decide,by decide +kernel⟩,fun p4 hp4 => ?_⟩
   have hp40 : H3 p4 = none:=by
    obtain ⟨_,hp4⟩:=up3_none hp4
    obtain ⟨_,hp4⟩:=up3_none hp4
    obtain ⟨_,hp4⟩:=up3_none hp4
    exact (up3_none hp4).2
   walk_at "rd"
   refine ⟨_,rfl,fun m hm0 => ?_⟩
   walk_at "rd"
   refine ⟨by omega,fun p5 hp5 => ?_⟩
   have hp50 : H3 p5 = none:=by
    obtain ⟨_,hp5⟩:=up3_none hp5
    obtain ⟨_,hp5⟩:=up3_none hp5
    obtain ⟨_,hp5⟩:=up3_none hp5
    obtain ⟨_,hp5⟩:=up3_none hp5
    exact (up3_none hp5).2
   exact Fin3.of Sub3.refl (k p5 _ (sub_up hp50 (sub_up hp40 hS)) hp50 ⟨[m],up3_same,by simp,by simp⟩)
def spTu : Sp3:=fun ts H Q => ∃ (α : Type) (f : α -> T) (n : Int) (a : Addr) (xs : List α),ts = [.int n,.ref a] /\ H a = some (.lst (xs.map f)) /\ xs.length <= 100 /\ ∀ (p : Addr) (ys : List α),H p = none -> ys.Perm xs -> Q (.ref p) (up3 H p (.lst (ys.map f)))
theorem erase_map {α β : Type} (f : α -> β) : ∀ (l : List α) (j : Nat),(l.map f).eraseIdx j = (l.eraseIdx j).map f
 | [],_ => rfl
 | x :: l,0 => rfl
 | x :: l,j + 1 => by simp only [List.map_cons,List.eraseIdx_cons_succ,erase_map f l j]
def spOs : Sp3:=fun ts H Q => ∃ (n : Int) (a : Addr) (b : Int) (ws : List Str),ts = [.int n,.ref a,.int b] /\ H a = some (.lst (ws.map T.str)) /\ ws.Nodup /\ ws.length <= 8 /\ 1 <= b /\ b <= 100 /\ ∀ (p : Addr) (os : List (Str × Str)),H p = none -> os.length <= 28 -> os.Nodup -> (∀ o ∈ os,o.1 ≠ o.2 /\ o.1 ∈ ws /\ o.2 ∈ ws) -> Q (.ref p) (up3 H p (.lst (os.map orT)))
def spPs : Sp3:=fun ts H Q => ∃ (n : Int) (a : Addr) (m wi : Int) (ws : List Str),ts = [.int n,.ref a,.int m,.int wi] /\ H a = some (.lst (ws.map T.str)) /\ 1 <= ws.length /\ ws.length <= 8 /\ 0 <= m /\ m <= 12 /\ ∀ ps : List (Str × Str × Str),ps.length <= 12 -> ps.Nodup -> (∀ p ∈ ps,(p.1 = "with" \/ p.1 = "apart") /\ p.2.1 ≠ p.2.2 /\ p.2.1 ∈ ws /\ p.2.2 ∈ ws) -> Q (.tup (ps.map prT)) H
theorem log_small {j : Int} (h : j.natAbs <= 8000) : j.natAbs.log2 < 9000:=Nat.lt_of_le_of_lt (Nat.log2_le_self _) (by omega)
theorem sub_of {H3 H : Hp3} {p : Addr} {o : O3} (hS : Sub3 H3 H) (hp : H p = some o) : Sub3 (up3 H3 p o) H:=fun b u hb => by
 by_cases e : b = p
 ·
  subst e; rw [up3_same] at hb; rw [hp]; exact hb
 ·
  rw [up3_ne e] at hb; exact hS b u hb
theorem perm_erase {α : Type} : ∀ {l : List α} {j : Nat} (h : j < l.length),(l[j] :: l.eraseIdx j).Perm l
 | x :: l,0,_ => .refl _
 | x :: l,j + 1,h => (List.Perm.swap x _ (l.eraseIdx j)).trans ((perm_erase (l:=l) (j:=j) (by simpa using h)).cons x)
theorem none_of {H3 H : Hp3} {q : Addr} (hS : Sub3 H3 H) (hq : H q = none) : H3 q = none:=by
 cases e : H3 q with
 | none => rfl
 | some o => rw [hS q o e] at hq; cases hq
abbrev N_turn : List Str:=["_law_cell","_law_names_here","_law_left","_law_turn_here","_law_k","_law_at"]
theorem sc_turn : FnScope N_turn ["_law_cell","_law_names_here"] (defScope (top 19)):=sc_mk
theorem ok_turn {f : Addr} {fd : FuncData} (g : G3 K mg "_law_turn" (top 19) ["_law_cell","_law_names_here"] f fd) (B : Bl mg) : Cal P w K mg base 1 "_law_turn" (top 19) ["_law_cell","_law_names_here"] spTu:=by
 refine ⟨f,fd,g,?_⟩
 refine fn3 g.fn sc_turn (fun ts H Q h => ?_) (fun cdv A outer s H E ts H3 Q hr h => ?_)
 ·
  obtain ⟨α,fe,n,a,xs,rfl,_⟩:=h; rfl
 ·
  have hu30:=Room.u30 hr
  have hu31:=Room.u31 hr
  have hu1:=Room.u1 hr
  obtain ⟨α,fe,n,a,xs,rfl,ha,hxl,k⟩:=h
  refine ⟨_,(ss3_cons (s3_set (i:=2) sc_turn.nd (e3_callTy c3_list rfl B.list_ bt_list (a3_cons (v3 1) a3_nil)))
    (ss3_cons (s3_set (i:=3) sc_turn.nd (e3_lst a3_nil))
    (ss3_cons (s3_for PassesOwn.never rfl (i3_range1 rfl B.range_ (a3_cons (e3_callB c3_len rfl B.len_ bt_len (a3_cons (v3 1) a3_nil)) a3_nil)) (g3_name (i:=4) sc_turn.nd) (ss3_cons (s3_set (i:=5) sc_turn.nd (e3_op o3_mod (v3 0) (e3_callB c3_len rfl B.len_ bt_len (a3_cons (v3 2) a3_nil))))
     (ss3_cons (s3_set (i:=0) sc_turn.nd (e3_op o3_fdiv (v3 0) (e3_callB c3_len rfl B.len_ bt_len (a3_cons (v3 2) a3_nil))))
     (ss3_one (s3_expr (e3_bm PySem.F.plainAttrs_list PySem.F.slot_list_append PySem.F.type_list_append m3_append (v3 3) (a3_cons (e3_bm PySem.F.plainAttrs_list PySem.F.slot_list_pop PySem.F.type_list_pop m3_popAt (v3 2) (a3_cons (v3 5) a3_nil)) a3_nil)))))))
    (ss3_one (s3_ret (v3 3)))))),?_⟩
  rw [show start3 N_turn [T.int n,T.ref a] = [some (T.int n),some (T.ref a),none,none,none,none] from rfl]
  have hsz : sizeLine = 16777216:=rfl
  walk_at "rd"
  intro q hq
  refine ⟨by omega,fun p hp => ?_⟩
  obtain ⟨npq,hp0⟩:=up3_none hp
  have npq':=Ne.symm npq
  have nap : a ≠ p:=ne3n ha hp0
  have naq : a ≠ q:=ne3n ha hq
  walk_at "rd"
  refine ⟨True.intro,by omega,by omega,?_⟩
  have hrl : (rng3 0 ((xs.length : Int)).toNat).length = xs.length:=by simp [rng3]
  simp only [Int.toNat_natCast] at hrl
  generalize rng3 0 xs.length = ts0 at hrl
  refine iter_go (fun r σ H' => ∃ (ls ys : List α) (c : Int) (v4 v5 : Option T),σ = [some (.int c),some (.ref a),some (.ref q),some (.ref p),v4,v5] /\ H' q = some (.lst (ls.map fe)) /\ H' p = some (.lst (ys.map fe)) /\ (ys ++ ls).Perm xs /\ ls.length = r.length /\ Sub3 H3 H')
   ⟨xs,[],n,none,none,rfl,by rw [up3_ne npq',up3_same],up3_same,by simp,hrl.symm,sub_up hp0 (sub_up hq Sub3.refl)⟩ ?_ ?_
  ·
   rintro σ H' ⟨ls,ys,c,v4,v5,rfl,h1,h2,hP,hl,hS⟩
   have : ls = []:=List.eq_nil_of_length_eq_zero hl
   subst this
   rw [List.append_nil] at hP
   refine ⟨trivial,?_⟩
   walk_at "rd"
   exact Fin3.of (sub_of hS h2) (k p ys hp0 hP)
  ·
   rintro x r σ H' N ⟨ls,ys,c,v4,v5,rfl,h1,h2,hP,hl,hS⟩ hN
   simp only [List.length_cons] at hl
   have hpl:=hP.length_eq
   rw [List.length_append] at hpl
   have hpos : (0 : Int) < (ls.length : Int):=by omega
   obtain ⟨j,hj⟩:=Int.eq_ofNat_of_zero_le (Int.emod_nonneg c (show (ls.length : Int) ≠ 0 by omega))
   have hj2 : j < ls.length:=by have:=Int.emod_lt_of_pos c hpos; omega
   have e1 : ixN ls.length (c % (ls.length : Int)) = some j:=by rw [hj]; exact ixN_nat hj2
   have e2 : (ls.map fe)[j]? = some (fe ls[j]):=by rw [List.getElem?_map,List.getElem?_eq_getElem hj2]; rfl
   have e3:=erase_map fe ls j
   have hlog : ((ls.length : Int)).natAbs.log2 < 9000:=log_small (by omega)
   refine ⟨trivial,?_⟩
   have hl1 : r.length + 1 <= ls.length:=by omega
   have hl2 : ls.length <= r.length + 1:=by omega
   have hyl : ys.length <= 100:=by omega
   clear hj hl hpl
   walk_at "rd"
   refine ⟨by first | trivial | omega,⟨by omega,hlog⟩,⟨True.intro,True.intro⟩,⟨True.intro,True.intro⟩,by omega,?_⟩
   refine hN _ _ ⟨ls.eraseIdx j,ys ++ [ls[j]],_,_,_,rfl,by rw [up3_ne npq',up3_same],by rw [up3_same]; simp,?_,?_,sub_up hp0 (sub_up hq hS)⟩
   ·
    refine List.Perm.trans ?_ hP
    rw [List.append_assoc]
    exact List.Perm.append_left ys (perm_erase hj2)
   ·
    rw [List.length_eraseIdx_of_lt hj2]; omega
abbrev N_orders : List Str:=["_law_cell","_law_turn_here","_law_often","_law_orders_here","_law_k","_law_one","_law_other_here"]
theorem sc_orders : FnScope N_orders ["_law_cell","_law_turn_here","_law_often"] (defScope (top 20)):=sc_mk
theorem ok_orders {f : Addr} {fd : FuncData} (g : G3 K mg "_law_orders" (top 20) ["_law_cell","_law_turn_here","_law_often"] f fd) (B : Bl mg) : Cal P w K mg base 1 "_law_orders" (top 20) ["_law_cell","_law_turn_here","_law_often"] spOs:=by
 refine ⟨f,fd,g,?_⟩
 refine fn3 g.fn sc_orders (fun ts H Q h => ?_) (fun cdv A outer s H E ts H3 Q hr h => ?_)
 ·
  obtain ⟨n,a,b,ws,rfl,_⟩:=h; rfl
 ·
  have hu30:=Room.u30 hr
  have hu31:=Room.u31 hr
  have hu1:=Room.u1 hr
  obtain ⟨n,a,b,ws,rfl,ha,hnd,h8,b1,b2,k⟩:=h
  refine ⟨_,(ss3_cons (s3_set (i:=3) sc_orders.nd (e3_lst a3_nil))
    (ss3_cons (s3_for PassesOwn.never rfl (i3_enum0 rfl B.enumerate_ (v3 1)) (g3_tup (n:=2) rfl (gs3_cons (g3_name (i:=4) sc_orders.nd) (gs3_cons (g3_name (i:=5) sc_orders.nd) gs3_nil))) (ss3_one (s3_for PassesOwn.never rfl (i3_list (e3_slice (v3 1) (po3_some (e3_op o3_add (v3 4) c3_int)) po3_none)) (g3_name (i:=6) sc_orders.nd) (ss3_cons (s3_if (t3_cmp (o3_eq hu30) (e3_op o3_mod (v3 0) (v3 2)) c3_int) (ss3_one (s3_expr (e3_bm PySem.F.plainAttrs_list PySem.F.slot_list_append PySem.F.type_list_append m3_append (v3 3) (a3_cons (e3_tup (a3_cons (v3 5) (a3_cons (v3 6) a3_nil))) a3_nil)))) ss3_nil)
      (ss3_one (s3_set (i:=0) sc_orders.nd (e3_op o3_fdiv (v3 0) (v3 2))))))))
    (ss3_one (s3_ret (v3 3))))),?_⟩
  rw [show start3 N_orders [T.int n,T.ref a,T.int b] = [some (T.int n),some (T.ref a),some (T.int b),none,none,none,none] from rfl]
  have hsz : sizeLine = 16777216:=rfl
  walk_at "rd"
  refine ⟨by omega,fun p hp => ?_⟩
  have nap : a ≠ p:=ne3n ha hp
  walk_at "rd"
  refine iter_go (fun r σ H' => ∃ (A B : List Str) (os pre : _) (c : Int) (v4 v5 v6 : Option T),ws = A ++ B /\ r = enum0 A.length (B.map T.str) /\ σ = [some (.int c),some (.ref a),some (.int b),some (.ref p),v4,v5,v6] /\ H' p = some (.lst (os.map orT)) /\ H' a = some (.lst (ws.map T.str)) /\ pre ++ pairsOf B = pairsOf ws /\ os.Sublist pre /\ Sub3 H3 H')
   ⟨[],ws,[],[],n,none,none,none,rfl,rfl,rfl,up3_same,by rw [up3_ne nap]; exact ha,rfl,List.Sublist.refl _,Sub3.new hp⟩ ?_ ?_
  ·
   rintro σ H' ⟨A,B,os,pre,c,v4,v5,v6,e1,e2,rfl,h1,h2,hpre,hsub,hS⟩
   have hB : B = []:=by
    cases B with
    | nil => rfl
    | cons x B => simp [enum0] at e2
   subst hB
   simp only [pairsOf,List.append_nil] at hpre
   subst hpre
   refine ⟨.inl h2,?_⟩
   walk_at "rd"
   exact Fin3.of (sub_of hS h1) (k p os hp (Nat.le_trans hsub.length_le (pairsOf_28 h8)) (hsub.nodup (pairsOf_nd hnd)) fun o ho => ⟨pairsOf_ne hnd (hsub.subset ho),pairsOf_mem (hsub.subset ho)⟩)
  ·
   rintro x r σ H' N ⟨A,B,os,pre,c,v4,v5,v6,e1,e2,rfl,h1,h2,hpre,hsub,hS⟩ hN
   cases B with
   | nil => simp [enum0] at e2
   | cons y B =>
    rw [List.map_cons,enum0,List.cons.injEq] at e2
    obtain ⟨rfl,rfl⟩:=e2
    have ecut : cut3 (ws.map T.str) (some ((A.length : Int) + 1)) none = B.map T.str:=by
     rw [show ((A.length : Int) + 1) = ((A.length + 1 : Nat) : Int) by omega,cut_from,e1,<- List.map_drop]
     congr 1
     rw [show A ++ y :: B = (A ++ [y]) ++ B by simp,List.drop_left' (by simp)]
    refine ⟨.inl h2,?_⟩
    walk_at "rd"
    refine ⟨trivial,fun q hq => ?_⟩
    rw [e1] at ecut
    rw [ecut]
    have npq : p ≠ q:=ne3n h1 hq
    have naq : a ≠ q:=ne3n h2 hq
    have hpre' : pre ++ (B.map (fun z => (y,z)) ++ pairsOf B) = pairsOf ws:=hpre
    have hlen : ∀ E C : List Str,B = E ++ C -> (pre ++ E.map (fun z => (y,z))).length <= 28:=fun E C eB => by
     have h28:=pairsOf_28 h8
     rw [<- hpre',eB] at h28
     simp only [List.length_append,List.length_map] at h28 ⊢
     omega
    refine iter_go (fun r σ H'' => ∃ (E C : List Str) (os' : List (Str × Str)) (c' : Int) (v6' : Option T),B = E ++ C /\ r = C.map T.str /\ σ = [some (.int c'),some (.ref a),some (.int b),some (.ref p),some (.int A.length),some (.str y),v6'] /\ H'' q = some (.lst (B.map T.str)) /\ H'' p = some (.lst (os'.map orT)) /\ H'' a = some (.lst (ws.map T.str)) /\ os'.Sublist (pre ++ E.map (fun z => (y,z))) /\ Sub3 H3 H'')
     ⟨[],B,os,c,v6,rfl,rfl,rfl,up3_same,by rw [up3_ne npq]; exact h1,by rw [up3_ne naq]; exact h2,by simpa using hsub,sub_up (none_of hS hq) hS⟩ ?_ ?_
    ·
     rintro σ H'' ⟨E,C,os',c',v6',eB,e2,rfl,g1,g2,g3,gs,gS⟩
     have hC : C = []:=List.map_eq_nil_iff.mp e2.symm
     subst hC
     rw [List.append_nil] at eB
     subst eB
     refine ⟨.inl g1,hN _ _ ⟨A ++ [y],B,os',_,c',_,_,_,by rw [e1]; simp,?_,rfl,g2,g3,?_,gs,gS⟩⟩
     ·
      rw [List.length_append,List.length_singleton,Int.natCast_add]; rfl
     ·
      rw [List.append_assoc]; exact hpre'
    ·
     rintro x r σ H'' N' ⟨E,C,os',c',v6',eB,e2,rfl,g1,g2,g3,gs,gS⟩ hN'
     cases C with
     | nil => cases e2
     | cons z C =>
      rw [List.map_cons,List.cons.injEq] at e2
      obtain ⟨rfl,rfl⟩:=e2
      have hl28:=Nat.le_trans gs.length_le (hlen E (z :: C) eB)
      have hlog : b.natAbs.log2 < 9000:=log_small (by omega)
      have hlog' : CDiv3 c' b:=⟨by omega,hlog⟩
      have hb0 : 0 < b:=by omega
      refine ⟨.inl g1,?_⟩
      clear hN hpre hpre' hlen hsub
      have nx1:=fun v6 => hN' [some (.int (c' / b)),some (.ref a),some (.int b),some (.ref p),some (.int A.length),some (.str y),v6] (up3 H'' p (.lst (os'.map orT ++ [orT (y,z)]))) ⟨E ++ [z],C,os' ++ [(y,z)],_,_,by rw [eB]; simp,rfl,rfl,by rw [up3_ne (Ne.symm npq)]; exact g1,by rw [up3_same]; simp,by rw [up3_ne nap]; exact g3,by
       rw [List.map_append,<- List.append_assoc]; exact gs.append (List.Sublist.refl _),sub_up hp gS⟩
      have nx2:=fun v6 => hN' [some (.int (c' / b)),some (.ref a),some (.int b),some (.ref p),some (.int A.length),some (.str y),v6] H'' ⟨E ++ [z],C,os',_,_,by rw [eB]; simp,rfl,rfl,g1,g2,g3,by
       rw [List.map_append,<- List.append_assoc]; exact gs.trans (List.sublist_append_left _ _),gS⟩
      clear hN' e1 eB ecut gs
      walk_at "rd"
      refine ⟨by first | trivial | omega,?_⟩
      split
      ·
       refine ⟨⟨True.intro,True.intro⟩,by decide,by omega,by first | trivial | exact hlog',?_⟩
       first | trivial | exact nx1 _
      ·
       refine ⟨by first | trivial | exact hlog',?_⟩
       first | trivial | exact nx2 _
abbrev N_pairs : List Str:=["_law_cell","_law_names_here","_law_many","_law_withs","_law_pairs_here","_law_k","_law_one","_law_other_here","_law_pair"]
theorem sc_pairs : FnScope N_pairs ["_law_cell","_law_names_here","_law_many","_law_withs"] (defScope (top 21)):=sc_mk
theorem ok_pairs {f : Addr} {fd : FuncData} (g : G3 K mg "_law_pairs" (top 21) ["_law_cell","_law_names_here","_law_many","_law_withs"] f fd) (B : Bl mg) : Cal P w K mg base 1 "_law_pairs" (top 21) ["_law_cell","_law_names_here","_law_many","_law_withs"] spPs:=by
 refine ⟨f,fd,g,?_⟩
 refine fn3 g.fn sc_pairs (fun ts H Q h => ?_) (fun cdv A outer s H E ts H3 Q hr h => ?_)
 ·
  obtain ⟨n,a,m,wi,ws,rfl,_⟩:=h; rfl
 ·
  have hu30:=Room.u30 hr
  have hu31:=Room.u31 hr
  have hu1:=Room.u1 hr
  obtain ⟨n,a,m,wi,ws,rfl,ha,w1,w8,m0,m12,k⟩:=h
  refine ⟨_,(ss3_cons (s3_set (i:=4) sc_pairs.nd (e3_lst a3_nil))
    (ss3_cons (s3_for PassesOwn.never rfl (i3_range1 rfl B.range_ (a3_cons (v3 2) a3_nil)) (g3_name (i:=5) sc_pairs.nd) (ss3_cons (s3_set (i:=6) sc_pairs.nd (e3_ix ix3 (v3 1) (e3_op o3_mod (v3 0) (e3_callB c3_len rfl B.len_ bt_len (a3_cons (v3 1) a3_nil)))))
     (ss3_cons (s3_set (i:=7) sc_pairs.nd (e3_ix ix3 (v3 1) (e3_op o3_mod (e3_op o3_fdiv (v3 0) c3_int) (e3_callB c3_len rfl B.len_ bt_len (a3_cons (v3 1) a3_nil)))))
     (ss3_cons (s3_set (i:=8) sc_pairs.nd (e3_tup (a3_cons (e3_ix ix3 (e3_lst (a3_cons c3_str (a3_cons c3_str a3_nil))) (e3_callTy c3_int' rfl B.int_ bt_int (a3_cons (e3_cmp o3_lt (e3_op o3_mod (e3_op o3_fdiv (v3 0) c3_int) c3_int) (v3 3)) a3_nil))) (a3_cons (v3 6) (a3_cons (v3 7) a3_nil)))))
     (ss3_cons (s3_if (PW3.pt (w3_and (t3_cmp (o3_ne hu30) (v3 6) (v3 7)) (w3_and1 (t3_cmp (o3_notin hu31) (v3 8) (v3 4) rfl)))) (ss3_one (s3_expr (e3_bm PySem.F.plainAttrs_list PySem.F.slot_list_append PySem.F.type_list_append m3_append (v3 4) (a3_cons (v3 8) a3_nil)))) ss3_nil)
     (ss3_one (s3_set (i:=0) sc_pairs.nd (e3_op o3_fdiv (v3 0) c3_int))))))))
    (ss3_one (s3_ret (e3_callTy c3_tuple rfl B.tuple_ bt_tuple (a3_cons (v3 4) a3_nil)))))),?_⟩
  rw [show start3 N_pairs [T.int n,T.ref a,T.int m,T.int wi] = [some (T.int n),some (T.ref a),some (T.int m),some (T.int wi),none,none,none,none,none] from rfl]
  have hsz : sizeLine = 16777216:=rfl
  walk_at "rd"
  refine ⟨by omega,fun p hp => ?_⟩
  have nap : a ≠ p:=ne3n ha hp
  refine ⟨True.intro,by omega,by omega,?_⟩
  have hrl : (rng3 0 m.toNat).length = m.toNat:=by simp [rng3]
  generalize rng3 0 m.toNat = ts0 at hrl
  refine iter_go (fun r σ H' => ∃ (ps : List (Str × Str × Str)) (c : Int) (v5 v6 v7 v8 : Option T),σ = [some (.int c),some (.ref a),some (.int m),some (.int wi),some (.ref p),v5,v6,v7,v8] /\ ps.length + r.length <= m.toNat /\ ps.Nodup /\ (∀ o ∈ ps,(o.1 = "with" \/ o.1 = "apart") /\ o.2.1 ≠ o.2.2 /\ o.2.1 ∈ ws /\ o.2.2 ∈ ws) /\ H' p = some (.lst (ps.map prT)) /\ Sub3 H3 H')
   ⟨[],n,none,none,none,none,rfl,by simp [hrl],List.nodup_nil,(fun _ h => nomatch h),up3_same,Sub3.new hp⟩ ?_ ?_
  ·
   rintro σ H' ⟨ps,c,v5,v6,v7,v8,rfl,hl,hnd,hps,hH,hS⟩
   refine ⟨trivial,?_⟩
   walk_at "rd"
   simp only [List.length_nil,Nat.add_zero] at hl
   exact Fin3.of hS (k ps (by omega) hnd hps)
  ·
   rintro x r σ H' N ⟨ps,c,v5,v6,v7,v8,rfl,hl,hnd,hps,hH,hS⟩ hN
   simp only [List.length_cons] at hl
   have haH : H' a = some (.lst (ws.map T.str)):=hS a _ ha
   have hpos : (0 : Int) < (ws.length : Int):=by omega
   obtain ⟨x1,hx1,e1⟩:=at_ex ws (c % (ws.length : Int)) (Int.emod_nonneg _ (by omega)) (Int.emod_lt_of_pos _ hpos)
   obtain ⟨x2,hx2,e2⟩:=at_ex ws (c / 8 % (ws.length : Int)) (Int.emod_nonneg _ (by omega)) (Int.emod_lt_of_pos _ hpos)
   have e1' : atI (ws.map T.str) (c % (ws.length : Int)) = some (.str x1):=by rw [at_map,e1]; rfl
   have e2' : atI (ws.map T.str) (c / 8 % (ws.length : Int)) = some (.str x2):=by rw [at_map,e2]; rfl
   refine ⟨trivial,?_⟩
   clear e1 e2
   walk_at "rd"
   refine ⟨trivial,⟨by decide,by decide +kernel⟩,trivial,by decide,fun q hq => ?_⟩
   refine ⟨⟨by decide,by decide +kernel⟩,by decide,?_⟩
   have npq : p ≠ q:=ne3n hH hq
   have hS2 : Sub3 H3 (up3 H' q (O3.lst [T.str "apart",T.str "with"])):=sub_up (none_of hS hq) hS
   have hH2 : up3 H' q (O3.lst [T.str "apart",T.str "with"]) p = some (.lst (ps.map prT)):=by rw [up3_ne npq]; exact hH
   obtain ⟨z,hz,ez⟩ : ∃ z : Str,(z = "with" \/ z = "apart") /\ atI [T.str "apart",T.str "with"] (if decide (c / 64 % 6 < wi) = true then 1 else 0) = some (T.str z):=by
    split
    ·
     exact ⟨"with",.inl rfl,at1 _ _ _⟩
    ·
     exact ⟨"apart",.inr rfl,at0 _ _⟩
   rw [ez,q_oq]
   refine ⟨by decide,?_⟩
   generalize up3 H' q (O3.lst [T.str "apart",T.str "with"]) = HH at hS2 hH2
   have cd : CDiv3 c 384:=⟨by decide,by decide +kernel⟩
   have nx : ∀ v8 v7 v6 v5,N [some (.int (c / 384)),some (.ref a),some (.int m),some (.int wi),some (.ref p),v5,v6,v7,v8] HH:=fun v8 v7 v6 v5 => hN _ _ ⟨ps,_,_,_,_,_,rfl,by omega,hnd,hps,hH2,hS2⟩
   rw [show T.tup [T.str z,T.str x1,T.str x2] = prT (z,x1,x2) from rfl]
   split
   ·
    rename_i hne
    have hne' : x1 ≠ x2:=by simpa using hne
    rw [hH2,q_inH]
    refine ⟨pl_prT _,pl_prs _,?_⟩
    rw [q_bq]
    split
    ·
     rename_i hin
     have hin':=(memN prT_inj).mp hin
     rw [hH2,q_tyH,q_apH,List.length_map]
     refine ⟨⟨trivial,trivial⟩,by omega,cd,hN _ _ ⟨ps ++ [(z,x1,x2)],_,_,_,_,_,rfl,by simp only [List.length_append,List.length_singleton]; omega,nd_snoc hnd hin',fun o ho => ?_,by rw [up3_same,List.map_append]; rfl,sub_up hp hS2⟩⟩
     rcases List.mem_append.mp ho with ho | ho
     ·
      exact hps o ho
     ·
      rw [List.mem_singleton.mp ho]
      exact ⟨hz,hne',hx1,hx2⟩
    ·
     exact ⟨cd,nx _ _ _ _⟩
   ·
    exact ⟨cd,nx _ _ _ _⟩
def spNs : Sp3:=fun ts H Q => ∃ n m : Int,ts = [.int n,.int m] /\ 0 <= m /\ m <= 8 /\ ∀ (p : Addr) (ws : List Str),H p = none -> Nms ws -> (ws.length : Int) = m -> Q (.ref p) (up3 H p (.lst (ws.map T.str)))
theorem up3_id {H : Hp3} {a : Addr} {o : O3} (h : H a = some o) : up3 H a o = H:=by
 funext b
 by_cases e : b = a
 ·
  subst e; rw [up3_same,h]
 ·
  rw [up3_ne e]
theorem ns_for {D : Ends3} {x0 x1 x3 x4 x5 x6 x7 x8 x12 : Option T} {own long : Int} {wd : Addr} {H : Hp3} (h1 : 1 <= long) (h8 : long <= 8) (hw : H wd = some (.lst []))
  (hn : ∀ (l : List Nat) (own' : Int) (x12' : Option T),(l.length : Int) = long -> (∀ c ∈ l,97 <= c /\ c <= 122) -> D.nx [x0,x1,some (.str (mkS abcL)),x3,x4,x5,x6,x7,x8,some (.int own'),some (.int long),some (.ref wd),x12'] (up3 H wd (.lst (l.map sgT)))) :
  iter3 (gName3 12) (tSeq3 (tDrop3 (tBM3 "list" r3App (tVar3 11) (tCons3 (tOp3 r3Ix (tVar3 2) (tOp3 (rI3 (fun x j => 0 < j) fun i j => T.int (i % j)) (tVar3 9) (tC3 (T.int 26)))) tNil3))) (tAsg3 (tOp3 (rI3 CDiv3 fun i j => T.int (i / j)) (tVar3 9) (tC3 (T.int 26))) (gName3 9))) D still0 (rng3 0 long.toNat)
   [x0,x1,some (.str (mkS abcL)),x3,x4,x5,x6,x7,x8,some (.int own),some (.int long),some (.ref wd),x12] H:=by
 have hsz : sizeLine = 16777216:=rfl
 have al : (mkS abcL).length <= sizeLine:=by rw [mkS_len]; decide
 have hrl : (rng3 0 long.toNat).length = long.toNat:=by simp [rng3]
 generalize rng3 0 long.toNat = ts0 at hrl
 refine iter_go (fun r σ H' => ∃ (l : List Nat) (own' : Int) (v : Option T),σ = [x0,x1,some (.str (mkS abcL)),x3,x4,x5,x6,x7,x8,some (.int own'),some (.int long),some (.ref wd),v] /\ l.length + r.length = long.toNat /\ (∀ c ∈ l,97 <= c /\ c <= 122) /\ H' = up3 H wd (.lst (l.map sgT)))
  ⟨[],own,x12,rfl,by simpa using hrl,(fun _ h => nomatch h),(up3_id hw).symm⟩ ?_ ?_
 ·
  rintro σ H' ⟨l,own',v,rfl,hl,hlet,rfl⟩
  simp only [List.length_nil,Nat.add_zero] at hl
  exact ⟨trivial,hn l own' v (by omega) hlet⟩
 ·
  rintro x r σ H' N ⟨l,own',v,rfl,hl,hlet,rfl⟩ hN
  simp only [List.length_cons] at hl
  have ha:=abc_at (own' % 26) (Int.emod_nonneg _ (by decide)) (Int.emod_lt_of_pos _ (by decide))
  have hb:=Int.emod_lt_of_pos own' (show (0 : Int) < 26 by decide)
  refine ⟨trivial,?_⟩
  clear hn hw
  walk_at "rd"
  simp only [mkS_cps,ha,q_oq]
  walk_at "rd"
  refine ⟨⟨True.intro,True.intro⟩,by decide,al,by omega,⟨by decide,by decide +kernel⟩,?_⟩
  refine hN _ _ ⟨l ++ [97 + (own' % 26).toNat],_,_,rfl,by simp only [List.length_append,List.length_singleton]; omega,fun y hy => ?_,by simp [sgT]⟩
  rcases List.mem_append.mp hy with hy | hy
  ·
   exact hlet y hy
  ·
   rw [List.mem_singleton.mp hy]; omega
theorem ns_while {D : Ends3} {x0 x1 x3 x4 x5 x6 x8 x9 x10 x12 : Option T} {p wd : Addr} {ws : List Str} {H : Hp3} (hp : H p = some (.lst (ws.map T.str))) (hne : p ≠ wd) (hw7 : ws.length <= 7) (l : List Nat) (hw : H wd = some (.lst (l.map sgT))) (h1 : 1 <= l.length) (h8 : l.length <= 8) (hl : ∀ x ∈ l,97 <= x /\ x <= 122)
  (hnx : ∀ l' : List Nat,l'.length <= 8 -> isNm (mkS l') -> mkS l' ∉ ws -> D.nx [x0,x1,some (.str (mkS abcL)),x3,x4,x5,x6,some (.ref p),x8,x9,x10,some (.ref wd),x12] (up3 H wd (.lst (l'.map sgT)))) :
  tWhile3 (tTest3 (tOp3 (r3In false) (tBM3 "str" r3Join (tC3 (T.str (Str.ofString ""))) (tCons3 (tVar3 11) tNil3)) (tVar3 7)))
   (tAsg3 (tOp3 r3Ix (tVar3 2) (tOp3 (rI3 (fun x j => 0 < j) fun i j => T.int (i % j)) (tOp3 rAdd3 (tBM3 "str" r3Index (tVar3 2) (tCons3 (tOp3 r3Ix (tVar3 11) (tC3 (T.int 0))) tNil3)) (tC3 (T.int 1))) (tC3 (T.int 26)))) (gSub3 (tVar3 11) (tC3 (T.int 0)) r3SetL)) D
   [x0,x1,some (.str (mkS abcL)),x3,x4,x5,x6,some (.ref p),x8,x9,x10,some (.ref wd),x12] H:=by
 have hsz : sizeLine = 16777216:=rfl
 have al : (mkS abcL).length <= sizeLine:=by rw [mkS_len]; decide
 refine ⟨fun m σ H' => ∃ (c : Nat) (r : List Nat),σ = [x0,x1,some (.str (mkS abcL)),x3,x4,x5,x6,some (.ref p),x8,x9,x10,some (.ref wd),x12] /\ H' = up3 H wd (.lst ((c :: r).map sgT)) /\ r.length <= 7 /\ (∀ x ∈ c :: r,97 <= x /\ x <= 122) /\ ∀ w ∈ ws,w.cps.toList.head? ≠ some (97 + (c - 97 + m) % 26),?_,?_⟩
 ·
  cases l with
  | nil => simp at h1
  | cons c r =>
   obtain ⟨hc0,hc1⟩:=hl c List.mem_cons_self
   obtain ⟨m,hm⟩:=free_letter c hc0 hc1 ws hw7
   exact ⟨m,c,r,rfl,(up3_id hw).symm,by simp only [List.length_cons] at h8; omega,hl,hm⟩
 ·
  rintro m σ H' ⟨c,r,rfl,rfl,hr,hl,hm⟩
  obtain ⟨hc0,hc1⟩:=hl c List.mem_cons_self
  have es:=strs_sg (c :: r)
  have ej:=jn_sg (c :: r)
  have eo : jOk "" ((c :: r).map sg):=ok_sg (by simp only [List.length_cons]; omega)
  have nxt : isNm (mkS (c :: r)):=nm_mk (by simp) (by simp only [List.length_cons]; omega) hl
  have hcons : (c :: r).map sgT = T.str ⟨#[c]⟩ :: r.map sgT:=rfl
  have hix:=abc_ix c hc0 hc1
  have ha:=abc_at ((((c - 97 : Nat) : Int) + 1) % 26) (Int.emod_nonneg _ (by decide)) (Int.emod_lt_of_pos _ (by decide))
  clear hw
  generalize hcr : (c :: r).map sg = crs at es ej eo
  simp only [tTest3,tOp3,tBM3,tC3,tCons3,tNil3,q_var,List.getElem?_cons_zero,List.getElem?_cons_succ,q_vq,q_joinL,up3_same,q_joH,es,q_oq,q_inL,up3_ne hne,hp,q_inH,q_bq,q_tyS]
  refine ⟨trivial,eo,pl_str _,pl_strs ws,?_⟩
  rw [ej]
  split
  ·
   rename_i hin
   have hin' : mkS (c :: r) ∈ ws:=(memI str_inj).mp hin
   have hm0 : m ≠ 0:=fun e => hm _ hin' (by rw [mkS_cps,e]; show some c = _; congr 1; omega)
   clear hin hnx
   rw [hcons]
   clear es ej eo hcr hcons
   walk_at "rd"
   rw [show (⟨#[c]⟩ : Str) = mkS [c] from rfl]
   simp only [hix]
   walk_at "rd"
   simp only [mkS_cps,ha,q_oq]
   walk_at "rd"
   refine ⟨trivial,by decide,al,m - 1,by omega,_,r,trivial,rfl,hr,?_,?_⟩
   ·
    intro x hx
    rcases List.mem_cons.mp hx with rfl | hx
    ·
     omega
    ·
     exact hl x (List.mem_cons_of_mem _ hx)
   ·
    intro w hw
    have e : (97 + ((((c - 97 : Nat) : Int) + 1) % 26).toNat - 97 + (m - 1)) % 26 = (c - 97 + m) % 26:=by omega
    rw [e]
    exact hm w hw
  ·
   rename_i hin
   exact hnx _ (by simp only [List.length_cons]; omega) nxt fun z => hin ((memI str_inj).mpr z)
abbrev N_names : List Str:=["_law_cell","_law_many","_law_letters","_law_alike","_law_size","_law_at","_law_number","_law_names_here","_law_k","_law_own","_law_long","_law_word","_law_j"]
theorem sc_names : FnScope N_names ["_law_cell","_law_many"] (defScope (top 14)):=sc_mk
theorem ok_names {f : Addr} {fd : FuncData} (g : G3 K mg "_law_names" (top 14) ["_law_cell","_law_many"] f fd) (B : Bl mg) : Cal P w K mg base 1 "_law_names" (top 14) ["_law_cell","_law_many"] spNs:=by
 refine ⟨f,fd,g,?_⟩
 refine fn3 g.fn sc_names (fun ts H Q h => ?_) (fun cdv A outer s H E ts H3 Q hr h => ?_)
 ·
  obtain ⟨n,m,rfl,_⟩:=h; rfl
 ·
  have hu30:=Room.u30 hr
  have hu31:=Room.u31 hr
  have hu1:=Room.u1 hr
  obtain ⟨n,m,rfl,m0,m8,k⟩:=h
  refine ⟨_,(ss3_cons (s3_set (i:=2) sc_names.nd c3_str)
    (ss3_cons (s3_set (i:=3) sc_names.nd (e3_cmp (o3_eq hu30) (e3_op o3_mod (v3 0) c3_int) c3_int))
    (ss3_cons (s3_set (i:=4) sc_names.nd (e3_op o3_add c3_int (e3_op o3_mod (e3_op o3_fdiv (v3 0) c3_int) c3_int)))
    (ss3_cons (s3_set (i:=5) sc_names.nd (e3_op o3_mod (e3_op o3_fdiv (v3 0) c3_int) (v3 4)))
    (ss3_cons (s3_set (i:=6) sc_names.nd (e3_op o3_fdiv (v3 0) c3_int))
    (ss3_cons (s3_set (i:=7) sc_names.nd (e3_lst a3_nil))
    (ss3_cons (s3_for PassesOwn.never rfl (i3_range1 rfl B.range_ (a3_cons (v3 1) a3_nil)) (g3_name (i:=8) sc_names.nd) (ss3_cons (s3_set (i:=9) sc_names.nd (v3 6))
     (ss3_cons (s3_set (i:=10) sc_names.nd (v3 4))
     (ss3_cons (s3_if (t3_not (t3_val (v3 3))) (ss3_cons (s3_set (i:=10) sc_names.nd (e3_op o3_add c3_int (e3_op o3_mod (v3 6) c3_int)))
      (ss3_one (s3_set (i:=9) sc_names.nd (e3_op o3_fdiv (v3 6) c3_int)))) ss3_nil)
     (ss3_cons (s3_set (i:=11) sc_names.nd (e3_lst a3_nil))
     (ss3_cons (s3_for PassesOwn.never rfl (i3_range1 rfl B.range_ (a3_cons (v3 10) a3_nil)) (g3_name (i:=12) sc_names.nd) (ss3_cons (s3_expr (e3_bm PySem.F.plainAttrs_list PySem.F.slot_list_append PySem.F.type_list_append m3_append (v3 11) (a3_cons (e3_ix ix3 (v3 2) (e3_op o3_mod (v3 9) c3_int)) a3_nil)))
      (ss3_one (s3_set (i:=9) sc_names.nd (e3_op o3_fdiv (v3 9) c3_int)))))
     (ss3_cons (s3_if (t3_val (v3 3)) (ss3_one (s3_asg (e3_ix ix3 (v3 2) (e3_op o3_mod (e3_op o3_add (e3_bm PySem.F.plainAttrs_str PySem.F.slot_str_index PySem.F.type_str_index m3_index (v3 2) (a3_cons (e3_ix ix3 (v3 11) (v3 5)) a3_nil)) (v3 8)) c3_int)) (g3_sub (v3 11) (v3 5) set3_list))) (ss3_one (s3_set (i:=6) sc_names.nd (v3 9))))
     (ss3_cons (s3_while PassesOwn.never (t3_cmp (o3_in hu31) (e3_bm PySem.F.plainAttrs_str PySem.F.slot_str_join PySem.F.type_str_join m3_join c3_str (a3_cons (v3 11) a3_nil)) (v3 7) rfl) (ss3_one (s3_asg (e3_ix ix3 (v3 2) (e3_op o3_mod (e3_op o3_add (e3_bm PySem.F.plainAttrs_str PySem.F.slot_str_index PySem.F.type_str_index m3_index (v3 2) (a3_cons (e3_ix ix3 (v3 11) c3_int) a3_nil)) c3_int) c3_int)) (g3_sub (v3 11) c3_int set3_list))))
     (ss3_one (s3_expr (e3_bm PySem.F.plainAttrs_list PySem.F.slot_list_append PySem.F.type_list_append m3_append (v3 7) (a3_cons (e3_bm PySem.F.plainAttrs_str PySem.F.slot_str_join PySem.F.type_str_join m3_join c3_str (a3_cons (v3 11) a3_nil)) a3_nil))))))))))))
    (ss3_one (s3_ret (v3 7)))))))))),?_⟩
  rw [show start3 N_names [T.int n,T.int m] = [some (T.int n),some (T.int m),none,none,none,none,none,none,none,none,none,none,none] from rfl]
  have hsz : sizeLine = 16777216:=rfl
  walk_at "rd"
  simp only [abc_eq]
  refine ⟨by decide,⟨by decide,by decide +kernel⟩,by decide,⟨by decide,by decide +kernel⟩,by omega,⟨by decide,by decide +kernel⟩,by omega,fun p hp => ?_⟩
  refine ⟨True.intro,by omega,by omega,?_⟩
  have z1 : 1 <= 1 + n / 2 % 8:=by omega
  have z8 : 1 + n / 2 % 8 <= 8:=by omega
  have a0:=Int.emod_nonneg (n / 16) (show (1 + n / 2 % 8) ≠ 0 by omega)
  have a1:=Int.emod_lt_of_pos (n / 16) (show (0 : Int) < 1 + n / 2 % 8 by omega)
  generalize n / 16 % (1 + n / 2 % 8) = at0' at a0 a1
  generalize 1 + n / 2 % 8 = size at z1 z8 a1
  generalize n / 128 = nb
  generalize decide (n % 2 = 0) = alike
  have hrl : (rng3 0 m.toNat).length = m.toNat:=by simp [rng3]
  have hri : ∀ t ∈ rng3 0 m.toNat,∃ j : Int,t = .int j:=by
   intro t ht
   unfold rng3 at ht
   obtain ⟨i,_,rfl⟩:=List.mem_map.mp ht
   exact ⟨_,rfl⟩
  generalize rng3 0 m.toNat = ts0 at hrl hri
  refine iter_go (fun r σ H' => ∃ (ws : List Str) (nb : Int) (v8 v9 v10 v11 v12 : Option T),σ = [some (.int n),some (.int m),some (.str (mkS abcL)),some (.bl alike),some (.int size),some (.int at0'),some (.int nb),some (.ref p),v8,v9,v10,v11,v12] /\ ws.length + r.length = m.toNat /\ Nms ws /\ H' p = some (.lst (ws.map T.str)) /\ Sub3 H3 H' /\ ∀ t ∈ r,∃ j : Int,t = .int j)
   ⟨[],nb,none,none,none,none,none,rfl,by simpa using hrl,.nil,up3_same,Sub3.new hp,hri⟩ ?_ ?_
  ·
   rintro σ H' ⟨ws,nb,v8,v9,v10,v11,v12,rfl,hl,hn,hH,hS,_⟩
   simp only [List.length_nil,Nat.add_zero] at hl
   refine ⟨trivial,?_⟩
   walk_at "rd"
   refine Fin3.of (fun b o hb => ?_) (k p ws hp hn (by omega))
   by_cases e : b = p
   ·
    subst e; rw [up3_same] at hb; rw [hH]; exact hb
   ·
    rw [up3_ne e] at hb; exact hS b o hb
  ·
   rintro x r σ H' N ⟨ws,nb,v8,v9,v10,v11,v12,rfl,hl,hn,hH,hS,hri⟩ hN
   simp only [List.length_cons] at hl
   obtain ⟨kk,rfl⟩:=hri _ List.mem_cons_self
   have hw7 : ws.length <= 7:=by omega
   refine ⟨trivial,?_⟩
   have al : (mkS abcL).length <= sizeLine:=by rw [mkS_len]; decide
   -- behind the word
   have fin : ∀ (nb' : Int) (v9 v10 v12 : Option T) (wd : Addr) (HH : Hp3) (l : List Nat),HH p = some (.lst (ws.map T.str)) -> p ≠ wd -> HH wd = some (.lst (l.map sgT)) -> H3 wd = none -> Sub3 H3 HH -> 1 <= l.length -> l.length <= 8 -> (∀ c ∈ l,97 <= c /\ c <= 122) ->
     tWhile3 (tTest3 (tOp3 (r3In false) (tBM3 "str" r3Join (tC3 (T.str (Str.ofString ""))) (tCons3 (tVar3 11) tNil3)) (tVar3 7)))
      (tAsg3 (tOp3 r3Ix (tVar3 2) (tOp3 (rI3 (fun x j => 0 < j) fun i j => T.int (i % j)) (tOp3 rAdd3 (tBM3 "str" r3Index (tVar3 2) (tCons3 (tOp3 r3Ix (tVar3 11) (tC3 (T.int 0))) tNil3)) (tC3 (T.int 1))) (tC3 (T.int 26)))) (gSub3 (tVar3 11) (tC3 (T.int 0)) r3SetL))
      { nx:=tDrop3 (tBM3 "list" r3App (tVar3 7) (tCons3 (tBM3 "str" r3Join (tC3 (T.str (Str.ofString ""))) (tCons3 (tVar3 11) tNil3)) tNil3)) { nx:=N,rt:=Fin3 Q,bk:=tRet3 (tVar3 7) { nx:=fun x H' => Fin3 Q T.non H',rt:=Fin3 Q },ct:=N },rt:=Fin3 Q,bk:=tRet3 (tVar3 7) { nx:=fun x H' => Fin3 Q T.non H',rt:=Fin3 Q },ct:=N }
      [some (.int n),some (.int m),some (.str (mkS abcL)),some (.bl alike),some (.int size),some (.int at0'),some (.int nb'),some (.ref p),some (.int kk),v9,v10,some (.ref wd),v12] HH:=by
    intro nb' v9 v10 v12 wd HH l hpH hpw hwd hw0 hSH l1 l8 hlet
    refine ns_while hpH hpw hw7 l hwd l1 l8 hlet fun l' g8 g1 g2 => ?_
    have es:=strs_sg l'
    have ej:=jn_sg l'
    have eo : jOk "" (l'.map sg):=ok_sg (by omega)
    have hH2 : up3 HH wd (.lst (l'.map sgT)) p = some (.lst (ws.map T.str)):=by rw [up3_ne hpw]; exact hpH
    have hS2 : Sub3 H3 (up3 HH wd (.lst (l'.map sgT))):=sub_up hw0 hSH
    simp only [tDrop3,tBM3,tC3,tCons3,tNil3,q_var,List.getElem?_cons_zero,List.getElem?_cons_succ,q_vq,q_joinL,up3_same,q_joH,es,q_oq,q_tyS,q_tyL,hH2,q_tyH,q_app,q_apH,ej,List.length_map]
    refine ⟨⟨trivial,trivial⟩,trivial,eo,by omega,?_⟩
    refine hN _ _ ⟨ws ++ [mkS l'],_,_,_,_,_,_,rfl,by simp only [List.length_append,List.length_singleton]; omega,hn.snoc g1 g2,?_,sub_up hp hS2,fun t ht => hri t (List.mem_cons_of_mem _ ht)⟩
    rw [up3_same,List.map_append]; rfl
   cases alike with
   | true =>
    walk_at "rd"
    refine ⟨by omega,fun wd hwd => ?_⟩
    have hpw : p ≠ wd:=ne3n hH hwd
    have hw0 : H3 wd = none:=by cases e : H3 wd with
     | none => rfl
     | some o => rw [hS wd o e] at hwd; cases hwd
    refine ⟨True.intro,by omega,by omega,ns_for z1 z8 up3_same fun l own' x12' hl2 hlet => ?_⟩
    obtain ⟨cc,hcc,ec⟩:=at_ex l at0' a0 (by omega)
    have e1 : atI (l.map sgT) at0' = some (T.str ⟨#[cc]⟩):=by rw [at_map,ec]; rfl
    obtain ⟨ja,rfl⟩:=Int.eq_ofNat_of_zero_le a0
    have e2 : ixN l.length (ja : Int) = some ja:=ixN_nat (by omega)
    obtain ⟨c0,c1⟩:=hlet cc hcc
    have hix:=abc_ix cc c0 c1
    have ha:=abc_at ((((cc - 97 : Nat) : Int) + kk) % 26) (Int.emod_nonneg _ (by decide)) (Int.emod_lt_of_pos _ (by decide))
    have hb:=Int.emod_lt_of_pos ((((cc - 97 : Nat) : Int) + kk)) (show (0 : Int) < 26 by decide)
    have hH2 : up3 H' wd (.lst ((l.set ja (97 + ((((cc - 97 : Nat) : Int) + kk) % 26).toNat)).map sgT)) p = some (.lst (ws.map T.str)):=by rw [up3_ne hpw]; exact hH
    have fin':=fin nb (some (.int own')) (some (.int size)) x12' wd (up3 H' wd (.lst ((l.set ja (97 + ((((cc - 97 : Nat) : Int) + kk) % 26).toNat)).map sgT))) _ hH2 hpw up3_same hw0 (sub_up hw0 hS) (by rw [List.length_set]; omega) (by rw [List.length_set]; omega) (fun y hy => by
     rcases List.mem_or_eq_of_mem_set hy with hy | rfl
     ·
      exact hlet y hy
     ·
      omega)
    clear fin hN hri k
    walk_at "rd"
    rw [show (⟨#[cc]⟩ : Str) = mkS [cc] from rfl]
    simp only [hix]
    walk_at "rd"
    simp only [mkS_cps,ha,q_oq]
    walk_at "rd"
    refine ⟨True.intro,by decide,al,?_⟩
    rw [List.map_set] at fin'
    exact fin'
   | false =>
    walk_at "rd"
    refine ⟨by decide,⟨by decide,by decide +kernel⟩,by omega,fun wd hwd => ?_⟩
    have hpw : p ≠ wd:=ne3n hH hwd
    have hw0 : H3 wd = none:=by cases e : H3 wd with
     | none => rfl
     | some o => rw [hS wd o e] at hwd; cases hwd
    refine ⟨True.intro,by omega,by omega,ns_for (by omega) (by omega) up3_same fun l own' x12' hl2 hlet => ?_⟩
    have hH2 : up3 H' wd (.lst (l.map sgT)) p = some (.lst (ws.map T.str)):=by rw [up3_ne hpw]; exact hH
    have fin':=fin own' (some (.int own')) (some (.int (1 + nb % 8))) x12' wd (up3 H' wd (.lst (l.map sgT))) l hH2 hpw up3_same hw0 (sub_up hw0 hS) (by omega) (by omega) hlet
    clear fin hN hri k
    walk_at "rd"
    try exact fin'
structure Box (p : Prop) : Prop where
 out : p
def spTs : Sp3:=fun ts H Q => ∃ (c a b : Addr) (ws pool : List Str) (free : Bool),ts = [.ref c,.ref a,.ref b,.bl free] /\ Cl H c /\ a ≠ c /\ b ≠ c /\ H a = some (.lst (ws.map T.str)) /\ H b = some (.lst (pool.map T.str)) /\ Nms ws /\ Nms pool /\ 1 <= pool.length /\ pool.length <= 8 /\ ws.length <= 8 /\
 ∀ (tk : List (Str × Int × List Str)) (H' : Hp3),tk.map (·.1) = ws -> (∀ t ∈ tk,tkOk t) -> Drw c H H' -> Q (.tup (tk.map tkT)) H'
theorem log_64 {j : Int} (h0 : 0 < j) (h : j < 2 ^ 64) : CDiv3 i j:=⟨h0,Nat.lt_trans ((Nat.log2_lt (by omega)).mpr (show j.natAbs < 2 ^ 64 by omega)) (by decide)⟩
theorem ts_for {D : Ends3} {x0 x1 x3 x4 x5 x6 x8 x10 x11 : Option T} {cell : Int} {b kd : Addr} {pool : List Str} {ts0 : List T} {H : Hp3} (hb : H b = some (.lst (pool.map T.str))) (nbk : b ≠ kd) (hp : Nms pool) (p1 : 1 <= pool.length) (p8 : pool.length <= 8) (hk : H kd = some (.lst [])) (h4 : ts0.length <= 4) (hts : ∀ t ∈ ts0,∃ j : Int,t = .int j /\ 0 <= j /\ j < 4)
  (hn : ∀ (ks : List Str) (x10 x11 : Option T),ks.length <= 4 -> Nms ks -> D.nx [x0,x1,some (.ref b),x3,x4,x5,x6,some (.int cell),x8,some (.ref kd),x10,x11] (up3 H kd (.lst (ks.map T.str)))) :
  iter3 (gName3 10) (tSeq3 (tAsg3 (tOp3 r3Ix (tVar3 2) (tOp3 (rI3 (fun x j => 0 < j) fun i j => T.int (i % j)) (tOp3 (rI3 CDiv3 fun i j => T.int (i / j)) (tVar3 7) (tOp3 (rI3 CPow fun i j => T.int (i * 2 ^ j.toNat)) (tC3 (T.int 324)) (tOp3 (rI3 CMul fun i j => T.int (i * j)) (tC3 (T.int 2)) (tVar3 10)))) (tCB3 r3Len (tCons3 (tVar3 2) tNil3)))) (gName3 11)) (tIfS3 (tTest3 (tOp3 (r3In true) (tVar3 11) (tVar3 9))) (tDrop3 (tBM3 "list" r3App (tVar3 9) (tCons3 (tVar3 11) tNil3))) tNext3)) D still0 ts0 [x0,x1,some (.ref b),x3,x4,x5,x6,some (.int cell),x8,some (.ref kd),x10,x11] H:=by
 have hsz : sizeLine = 16777216:=rfl
 refine iter_go (fun r σ H' => ∃ (ks : List Str) (v10 v11 : Option T),σ = [x0,x1,some (.ref b),x3,x4,x5,x6,some (.int cell),x8,some (.ref kd),v10,v11] /\ ks.length + r.length <= 4 /\ Nms ks /\ H' = up3 H kd (.lst (ks.map T.str)) /\ ∀ t ∈ r,∃ j : Int,t = .int j /\ 0 <= j /\ j < 4)
  ⟨[],x10,x11,rfl,by simpa using h4,.nil,(up3_id hk).symm,hts⟩ ?_ ?_
 ·
  rintro σ H' ⟨ks,v10,v11,rfl,hl,hks,rfl,_⟩
  exact ⟨trivial,hn ks v10 v11 (by simpa using hl) hks⟩
 ·
  rintro x r σ H' N ⟨ks,v10,v11,rfl,hl,hks,rfl,hr⟩ hN
  simp only [List.length_cons] at hl
  obtain ⟨j,rfl,j0,j4⟩:=hr _ List.mem_cons_self
  refine ⟨trivial,?_⟩
  have hpos : (0 : Int) < (pool.length : Int):=by omega
  have hm : 0 < (2 : Int) ^ (2 * j).toNat /\ (2 : Int) ^ (2 * j).toNat <= 64:=by
   have : j = 0 \/ j = 1 \/ j = 2 \/ j = 3:=by omega
   rcases this with rfl | rfl | rfl | rfl <;> decide
  have cd : CDiv3 cell (324 * 2 ^ (2 * j).toNat):=log_64 (i:=cell) (by omega) (by omega)
  obtain ⟨z,hz,ez⟩:=at_ex pool (cell / (324 * 2 ^ (2 * j).toNat) % (pool.length : Int)) (Int.emod_nonneg _ (by omega)) (Int.emod_lt_of_pos _ hpos)
  have ez' : atI (pool.map T.str) (cell / (324 * 2 ^ (2 * j).toNat) % (pool.length : Int)) = some (.str z):=by rw [at_map,ez]; rfl
  have cp : CPow 324 (2 * j):=⟨by omega,by omega,by decide⟩
  have cm : CMul 2 j:=.inl ⟨by decide,by decide⟩
  have i1:=pl_str z
  have i2:=pl_strs ks
  have nx1 : z ∉ ks -> ∀ v10 v11,N [x0,x1,some (.ref b),x3,x4,x5,x6,some (.int cell),x8,some (.ref kd),v10,v11] (up3 H kd (.lst (ks.map T.str ++ [T.str z]))):=fun hzk v10 v11 => hN _ _ ⟨ks ++ [z],_,_,rfl,by simp only [List.length_append,List.length_singleton]; omega,hks.snoc (hp.nm z hz) hzk,by simp,fun t ht => hr t (List.mem_cons_of_mem _ ht)⟩
  have nx2 : ∀ v10 v11,N [x0,x1,some (.ref b),x3,x4,x5,x6,some (.int cell),x8,some (.ref kd),v10,v11] (up3 H kd (.lst (ks.map T.str))):=fun v10 v11 => hN _ _ ⟨ks,_,_,rfl,by omega,hks,rfl,fun t ht => hr t (List.mem_cons_of_mem _ ht)⟩
  clear hN hn hr hts ez hk
  walk_at "rd"
  refine ⟨by first | trivial | exact cm,by first | trivial | exact cp,by first | trivial | exact cd,by first | trivial | exact hpos,?_⟩
  try simp only [true_and]
  split
  ·
   rename_i hin
   have hin':=(memN str_inj).mp hin
   first | exact ⟨by omega,nx1 hin' _ _⟩ | exact ⟨⟨trivial,trivial⟩,by omega,nx1 hin' _ _⟩
  ·
   first | trivial | exact nx2 _ _
abbrev N_tasks : List Str:=["_law_cells","_law_names_here","_law_pool","_law_free","_law_base","_law_tasks_here","_law_name","_law_cell","_law_length","_law_kinds","_law_k","_law_kind"]
theorem sc_tasks : FnScope N_tasks ["_law_cells","_law_names_here","_law_pool","_law_free"] (defScope (top 18)):=sc_mk
theorem ok_tasks {f : Addr} {fd : FuncData} (g : G3 K mg "_law_tasks" (top 18) ["_law_cells","_law_names_here","_law_pool","_law_free"] f fd) (B : Bl mg) (F_next : Cal P w K mg base 2 "_law_next" (top 16) ["_law_cells"] spNx) : Cal P w K mg base 3 "_law_tasks" (top 18) ["_law_cells","_law_names_here","_law_pool","_law_free"] spTs:=by
 refine ⟨f,fd,g,?_⟩
 refine fn3 g.fn sc_tasks (fun ts H Q h => ?_) (fun cdv A outer s H E ts H3 Q hr h => ?_)
 ·
  obtain ⟨c,a,b,ws,pool,free,rfl,_⟩:=h; rfl
 ·
  have hu30:=Room.u30 hr
  have hu31:=Room.u31 hr
  have hu1:=Room.u1 hr
  obtain ⟨c,a,b,ws,pool,free,rfl,D,nac,nbc,ha,hb,hws,hpool,p1,p8,w8,k⟩:=h
  refine ⟨_,(ss3_cons (s3_set (i:=4) sc_tasks.nd (e3_op o3_mod (e3_cl F_next hr rfl (a3_cons (v3 0) a3_nil)) (e3_op o3_pow c3_int c3_int)))
    (ss3_cons (s3_if (t3_cmp (o3_eq hu30) (e3_op o3_mod (v3 4) c3_int) c3_int) (ss3_one (s3_set (i:=4) sc_tasks.nd (e3_op o3_mod (e3_op o3_fdiv (v3 4) c3_int) c3_int))) ss3_nil)
    (ss3_cons (s3_set (i:=5) sc_tasks.nd (e3_lst a3_nil))
    (ss3_cons (s3_for PassesOwn.never rfl (i3_list (v3 1)) (g3_name (i:=6) sc_tasks.nd) (ss3_cons (s3_set (i:=7) sc_tasks.nd (e3_cl F_next hr rfl (a3_cons (v3 0) a3_nil)))
     (ss3_cons (s3_set (i:=8) sc_tasks.nd (e3_op o3_add (e3_op o3_add (e3_op o3_mul (v3 4) (e3_op o3_add c3_int (e3_op o3_mod (v3 7) c3_int))) c3_int) (e3_op o3_mod (e3_op o3_fdiv (v3 7) c3_int) c3_int)))
     (ss3_cons (s3_if (t3_val (v3 3)) (ss3_cons (s3_set (i:=8) sc_tasks.nd (e3_op o3_add c3_int (e3_op o3_mod (v3 7) (e3_op o3_sub (e3_op o3_pow c3_int c3_int) c3_int))))
      (ss3_one (s3_set (i:=7) sc_tasks.nd (e3_cl F_next hr rfl (a3_cons (v3 0) a3_nil))))) ss3_nil)
     (ss3_cons (s3_set (i:=9) sc_tasks.nd (e3_lst a3_nil))
     (ss3_cons (s3_for PassesOwn.never rfl (i3_range1 rfl B.range_ (a3_cons (e3_ix ix3 (e3_lst (a3_cons (e3_op o3_mul (e3_op o3_fdiv (e3_op o3_mod (e3_op o3_fdiv (v3 7) c3_int) c3_int) c3_int) (e3_op o3_mod (e3_op o3_fdiv (v3 7) c3_int) c3_int)) (a3_cons (e3_op o3_mod (e3_op o3_fdiv (v3 7) c3_int) c3_int) a3_nil))) (e3_callTy c3_int' rfl B.int_ bt_int (a3_cons (v3 3) a3_nil))) a3_nil)) (g3_name (i:=10) sc_tasks.nd) (ss3_cons (s3_set (i:=11) sc_tasks.nd (e3_ix ix3 (v3 2) (e3_op o3_mod (e3_op o3_fdiv (v3 7) (e3_op o3_shl c3_int (e3_op o3_mul c3_int (v3 10)))) (e3_callB c3_len rfl B.len_ bt_len (a3_cons (v3 2) a3_nil)))))
      (ss3_one (s3_if (t3_cmp (o3_notin hu31) (v3 11) (v3 9) rfl) (ss3_one (s3_expr (e3_bm PySem.F.plainAttrs_list PySem.F.slot_list_append PySem.F.type_list_append m3_append (v3 9) (a3_cons (v3 11) a3_nil)))) ss3_nil))))
     (ss3_one (s3_expr (e3_bm PySem.F.plainAttrs_list PySem.F.slot_list_append PySem.F.type_list_append m3_append (v3 5) (a3_cons (e3_tup (a3_cons (v3 6) (a3_cons (v3 8) (a3_cons (e3_callTy c3_tuple rfl B.tuple_ bt_tuple (a3_cons (v3 9) a3_nil)) a3_nil)))) a3_nil))))))))))
    (ss3_one (s3_ret (e3_callTy c3_tuple rfl B.tuple_ bt_tuple (a3_cons (v3 5) a3_nil)))))))),?_⟩
  rw [show start3 N_tasks [T.ref c,T.ref a,T.ref b,T.bl free] = [some (T.ref c),some (T.ref a),some (T.ref b),some (T.bl free),none,none,none,none,none,none,none,none] from rfl]
  have hsz : sizeLine = 16777216:=rfl
  refine seq_cut fun R0 hR0 => ?_
  walk_at "rd"
  refine ⟨c,rfl,D,fun n1 H1 hD1 => ?_⟩
  walk_at "rd"
  refine ⟨⟨by decide,by decide,by decide⟩,?_⟩
  have big : (10 : Int) ^ Int.toNat 59 = 10 ^ 59:=rfl
  rw [big]
  clear big
  refine ⟨by decide +kernel,?_⟩
  have h1a : H1 a = some (.lst (ws.map T.str)):=by rw [hD1.off a nac]; exact ha
  have h1b : H1 b = some (.lst (pool.map T.str)):=by rw [hD1.off b nbc]; exact hb
  have b0 : 0 <= n1 % 10 ^ 59:=Int.emod_nonneg _ (by decide +kernel)
  have b1 : n1 % 10 ^ 59 < 10 ^ 59:=Int.emod_lt_of_pos _ (by decide +kernel)
  generalize n1 % 10 ^ 59 = base0 at b0 b1
  walk_at "nx"
  refine seq_cut fun R1 hR1 => ?_
  have key : ∀ base : Int,0 <= base -> base < 10 ^ 59 -> R1 { nx:=fun x H' => Fin3 Q T.non H',rt:=Fin3 Q } [some (.ref c),some (.ref a),some (.ref b),some (.bl free),some (.int base),none,none,none,none,none,none,none] H1:=by
   clear b0 b1 base0
   intro base b0 b1
   walk_at "nx"
   walk_at "rd"
   refine ⟨by omega,fun p hp => ?_⟩
   have nap : a ≠ p:=ne3n h1a hp
   have nbp : b ≠ p:=ne3n h1b hp
   have npc : p ≠ c:=hD1.cl.ne hp
   have hp0 : H3 p = none:=by rw [<- hD1.off p npc]; exact hp
   rw [up3_ne nap,h1a,q_liO]
   refine iter_go (fun r σ H' => ∃ (A B : List Str) (tk : List (Str × Int × List Str)) (v6 v7 v8 v9 v10 v11 : Option T),ws = A ++ B /\ r = B.map T.str /\ σ = [some (.ref c),some (.ref a),some (.ref b),some (.bl free),some (.int base),some (.ref p),v6,v7,v8,v9,v10,v11] /\ tk.map (·.1) = A /\ (∀ t ∈ tk,tkOk t) /\ H' p = some (.lst (tk.map tkT)) /\ Cl H' c /\ H' a = some (.lst (ws.map T.str)) /\ H' b = some (.lst (pool.map T.str)) /\ Kep c H3 H')
    ⟨[],ws,[],none,none,none,none,none,none,rfl,rfl,rfl,rfl,(fun _ h => nomatch h),up3_same,hD1.cl.new npc,by rw [up3_ne nap]; exact h1a,by rw [up3_ne nbp]; exact h1b,(Kep.refl.drw hD1).new hp⟩ ?_ ?_
   ·
    rintro σ H' ⟨A,B,tk,v6,v7,v8,v9,v10,v11,e1,e2,rfl,htA,htk,hH,hC,hHa,hHb,hK⟩
    have hB : B = []:=List.map_eq_nil_iff.mp e2.symm
    subst hB
    rw [List.append_nil] at e1
    refine ⟨.inl hHa,?_⟩
    clear hHa hHb e2
    walk_at "rd"
    exact fin_drw hC hK fun H'' hD => k tk H'' (htA.trans e1.symm) htk hD
   ·
    rintro x r σ H' N ⟨A,B,tk,v6,v7,v8,v9,v10,v11,e1,e2,rfl,htA,htk,hH,hC,hHa,hHb,hK⟩ hN
    cases B with
    | nil => cases e2
    | cons y B =>
     rw [List.map_cons,List.cons.injEq] at e2
     obtain ⟨rfl,rfl⟩:=e2
     have hlA : tk.length + 1 <= 8:=by
      have h1:=congrArg List.length e1
      have h2:=congrArg List.length htA
      simp only [List.length_append,List.length_cons,List.length_map] at h1 h2
      omega
     have hyn : isNm y:=hws.nm y (by rw [e1]; simp)
     -- behind the kinds
     have fin : ∀ (len cell : Int) (ks : List Str) (v10 v11 : Option T) (kd : Addr) (HH : Hp3),1 <= len -> len < 10 ^ 60 -> ks.length <= 4 -> Nms ks -> p ≠ kd -> HH p = some (.lst (tk.map tkT)) -> HH kd = some (.lst (ks.map T.str)) -> Cl HH c -> HH a = some (.lst (ws.map T.str)) -> HH b = some (.lst (pool.map T.str)) -> Kep c H3 HH ->
       tDrop3 (tBM3 "list" r3App (tVar3 5) (tCons3 (tTup3 (tCons3 (tVar3 6) (tCons3 (tVar3 8) (tCons3 (tCB3 r3Tuple (tCons3 (tVar3 9) tNil3)) tNil3)))) tNil3)) { nx:=N,rt:=Fin3 Q,bk:=tRet3 (tCB3 r3Tuple (tCons3 (tVar3 5) tNil3)) { nx:=fun x H' => Fin3 Q T.non H',rt:=Fin3 Q },ct:=N }
        [some (.ref c),some (.ref a),some (.ref b),some (.bl free),some (.int base),some (.ref p),some (.str y),some (.int cell),some (.int len),some (.ref kd),v10,v11] HH:=by
      intro len cell ks v10 v11 kd HH l1 l2 k4 hks npk g1 g2 g3 g4 g5 g6
      have nx : N [some (.ref c),some (.ref a),some (.ref b),some (.bl free),some (.int base),some (.ref p),some (.str y),some (.int cell),some (.int len),some (.ref kd),v10,v11] (up3 HH p (.lst (tk.map tkT ++ [tkT (y,len,ks)]))):=hN _ _ ⟨A ++ [y],B,tk ++ [(y,len,ks)],_,_,_,_,_,_,by rw [e1]; simp,rfl,rfl,by rw [List.map_append,htA]; rfl,fun t ht => by
       rcases List.mem_append.mp ht with ht | ht
       ·
        exact htk t ht
       ·
        rw [List.mem_singleton.mp ht]; exact ⟨hyn,l1,l2,hks,k4⟩,by rw [up3_same,List.map_append]; rfl,g3.new npc,by rw [up3_ne nap]; exact g4,by rw [up3_ne nbp]; exact g5,fun b o hb h1 => by
       rw [up3_ne (fun e => by rw [e,hp0] at hb; cases hb)]; exact g6 b o hb h1⟩
      simp only [tDrop3,tBM3,tCons3,tNil3,tTup3,tCB3,q_var,List.getElem?_cons_zero,List.getElem?_cons_succ,q_vq,q_tupL,g2,q_tpH,q_tyL,g1,q_tyH,q_app,q_apH,List.length_map]
      exact ⟨⟨trivial,trivial⟩,by show 3 <= sizeLine; decide,by omega,nx⟩
     refine ⟨.inl hHa,?_⟩
     simp only [tSeq3,tAsg3,tCall3,tCons3,tNil3,q_var,List.getElem?_cons_zero,List.getElem?_cons_succ,q_vq,gName3,List.set_cons_zero,List.set_cons_succ]
     refine ⟨c,rfl,hC,fun n2 H2 hD2 => ?_⟩
     have hK2:=hK.drw hD2
     have h2p : H2 p = some (.lst (tk.map tkT)):=by rw [hD2.off p npc]; exact hH
     have h2a : H2 a = some (.lst (ws.map T.str)):=by rw [hD2.off a nac]; exact hHa
     have h2b : H2 b = some (.lst (pool.map T.str)):=by rw [hD2.off b nbc]; exact hHb
     replace fin:=Box.mk fin
     replace hN:=Box.mk hN
     clear e1 htA htk hH hHa hHb hK hC k
     have l0 : 0 <= base * (1 + n2 % 9):=Int.mul_nonneg b0 (by omega)
     have l1 : base * (1 + n2 % 9) <= base * 9:=Int.mul_le_mul_of_nonneg_left (by omega) b0
     have t59 : (10 : Int) ^ 60 = 10 * 10 ^ 59:=by decide +kernel
     cases free with
     | true =>
      dsimp only
      walk_at "rd"
      refine ⟨by decide,.inr ⟨by omega,by omega⟩,⟨by decide,by decide +kernel⟩,by decide,⟨by decide,by decide,by decide⟩,by decide +kernel,c,rfl,hD2.cl,fun n3 H4 hD3 => ?_⟩
      have hK4:=hK2.drw hD3
      have D4:=hD3.cl
      have h4p : H4 p = some (.lst (tk.map tkT)):=by rw [hD3.off p npc]; exact h2p
      have h4a : H4 a = some (.lst (ws.map T.str)):=by rw [hD3.off a nac]; exact h2a
      have h4b : H4 b = some (.lst (pool.map T.str)):=by rw [hD3.off b nbc]; exact h2b
      clear h2p h2a h2b hD2 hD3
      dsimp only
      refine ⟨by omega,fun kd hkd => ?_⟩
      have npk : p ≠ kd:=ne3n h4p hkd
      have nak : a ≠ kd:=ne3n h4a hkd
      have nbk : b ≠ kd:=ne3n h4b hkd
      have nkc : kd ≠ c:=D4.ne hkd
      have m0 : 0 <= n2 % (10 ^ 60 - 1):=Int.emod_nonneg _ (by decide +kernel)
      have m1 : n2 % (10 ^ 60 - 1) < 10 ^ 60 - 1:=Int.emod_lt_of_pos _ (by decide +kernel)
      walk_at "rd"
      refine ⟨⟨by decide,by decide +kernel⟩,by decide,⟨by decide,by decide +kernel⟩,⟨by decide,by decide +kernel⟩,by decide,.inl ⟨by omega,by omega⟩,⟨by decide,by decide +kernel⟩,by decide,by omega,fun q hq => ?_⟩
      obtain ⟨nqk,hq0⟩:=up3_none hq
      have nkq : kd ≠ q:=Ne.symm nqk
      have npq : p ≠ q:=ne3n h4p hq0
      have naq : a ≠ q:=ne3n h4a hq0
      have nbq : b ≠ q:=ne3n h4b hq0
      have nqc : q ≠ c:=D4.ne hq0
      have kd0 : H3 kd = none:=by
       cases e : H3 kd with
       | none => rfl
       | some o => rw [hK4 kd o e nkc] at hkd; cases hkd
      try simp only [at0,at1,q_oq,q_rg1]
      try refine ⟨True.intro,?_⟩
      try rw [q_rg1]
      refine ⟨by omega,by omega,ts_for (by rw [up3_ne nbq,up3_ne nbk]; exact h4b) nbk hpool p1 p8 (by rw [up3_ne nkq,up3_same]) (by simp only [rng3,List.length_map,List.length_range]; omega) (fun t ht => ?_) fun ks x10 x11 k4 hks => ?_⟩
      ·
       unfold rng3 at ht
       obtain ⟨i,hi,rfl⟩:=List.mem_map.mp ht
       rw [List.mem_range] at hi
       exact ⟨_,rfl,by omega,by omega⟩
      ·
       refine fin.out _ _ ks x10 x11 kd _ (show 1 <= 1 + n2 % (10 ^ 60 - 1) by omega) (show 1 + n2 % (10 ^ 60 - 1) < 10 ^ 60 by omega) k4 hks npk ?_ up3_same ?_ ?_ ?_ ((((hK4.new hkd).new hq).at kd0))
       ·
        rw [up3_ne npk,up3_ne npq,up3_ne npk]; exact h4p
       ·
        exact ((D4.new nkc).new nqc).new nkc
       ·
        rw [up3_ne nak,up3_ne naq,up3_ne nak]; exact h4a
       ·
        rw [up3_ne nbk,up3_ne nbq,up3_ne nbk]; exact h4b
     | false =>
      dsimp only
      walk_at "rd"
      refine ⟨by decide,.inr ⟨by omega,by omega⟩,⟨by decide,by decide +kernel⟩,by decide,by omega,fun kd hkd => ?_⟩
      have hK4:=hK2
      have D4:=hD2.cl
      have h4p:=h2p
      have h4a:=h2a
      have h4b:=h2b
      clear h2p h2a h2b
      have npk : p ≠ kd:=ne3n h4p hkd
      have nak : a ≠ kd:=ne3n h4a hkd
      have nbk : b ≠ kd:=ne3n h4b hkd
      have nkc : kd ≠ c:=D4.ne hkd
      walk_at "rd"
      refine ⟨⟨by decide,by decide +kernel⟩,by decide,⟨by decide,by decide +kernel⟩,⟨by decide,by decide +kernel⟩,by decide,.inl ⟨by omega,by omega⟩,⟨by decide,by decide +kernel⟩,by decide,by omega,fun q hq => ?_⟩
      obtain ⟨nqk,hq0⟩:=up3_none hq
      have nkq : kd ≠ q:=Ne.symm nqk
      have npq : p ≠ q:=ne3n h4p hq0
      have naq : a ≠ q:=ne3n h4a hq0
      have nbq : b ≠ q:=ne3n h4b hq0
      have nqc : q ≠ c:=D4.ne hq0
      have kd0 : H3 kd = none:=by
       cases e : H3 kd with
       | none => rfl
       | some o => rw [hK4 kd o e nkc] at hkd; cases hkd
      have pr : n2 / 27 % 3 / 2 = 0 \/ n2 / 27 % 3 / 2 = 1:=by omega
      have pr2 : 0 <= n2 / 27 % 3 / 2 * (n2 / 81 % 4) /\ n2 / 27 % 3 / 2 * (n2 / 81 % 4) < 4:=by rcases pr with e | e <;> rw [e] <;> omega
      generalize n2 / 27 % 3 / 2 * (n2 / 81 % 4) = cnt at pr2 ⊢
      try simp only [at0,at1,q_oq,q_rg1]
      try refine ⟨True.intro,?_⟩
      try rw [q_rg1]
      refine ⟨by omega,by omega,ts_for (by rw [up3_ne nbq,up3_ne nbk]; exact h4b) nbk hpool p1 p8 (by rw [up3_ne nkq,up3_same]) (by simp only [rng3,List.length_map,List.length_range]; omega) (fun t ht => ?_) fun ks x10 x11 k4 hks => ?_⟩
      ·
       unfold rng3 at ht
       obtain ⟨i,hi,rfl⟩:=List.mem_map.mp ht
       rw [List.mem_range] at hi
       exact ⟨_,rfl,by omega,by omega⟩
      ·
       refine fin.out _ _ ks x10 x11 kd _ (by omega) (by omega) k4 hks npk ?_ up3_same ?_ ?_ ?_ ((((hK4.new hkd).new hq).at kd0))
       ·
        rw [up3_ne npk,up3_ne npq,up3_ne npk]; exact h4p
       ·
        exact ((D4.new nkc).new nqc).new nkc
       ·
        rw [up3_ne nak,up3_ne naq,up3_ne nak]; exact h4a
       ·
        rw [up3_ne nbk,up3_ne nbq,up3_ne nbk]; exact h4b
  have key':=Box.mk key
  clear key k hR1
  walk_at "rd"
  refine ⟨by decide,?_⟩
  split
  ·
   refine ⟨⟨by decide,by decide +kernel⟩,by decide,?_⟩
   exact key'.out _ (Int.emod_nonneg _ (by decide)) (Int.lt_trans (Int.emod_lt_of_pos _ (by decide)) (by decide +kernel))
  ·
   exact key'.out _ b0 b1
end
end M
namespace L3
open PySem PySem.Spec PyProof.Rows L2
theorem rng0 (n : Nat) : rng3 0 n = (List.range n).map fun (i : Nat) => T.int (i : Int):=by
 unfold rng3
 refine List.map_congr_left fun i _ => ?_
 rw [Int.zero_add]
end L3
namespace M
open PySem PySem.Spec PyProof.Rows L2 L3
section
variable {d c R lf l0 l1 l2 fd th q : Addr} {rows : List T} {ts : List (Str × Int × List Str)} {os : List (Str × Str)} {ps : List (Str × Str × Str)} {L : List Rw} {H H' : Hp3} {o : O3}
end
section
variable {W : Wk} {ts : List (Str × Int × List Str)} {os : List (Str × Str)} {ps : List (Str × Str × Str)} {L : List Rw}
end
end M
namespace M
open PySem PySem.Spec PyProof.Rows L2 L3
local macro_rules | `(tactic| walk_at "cp") => `(tactic| try dsimp only [cap3,List.replicate,List.map_cons,List.map_nil,List.cons_append,List.nil_append,List.getElem?_cons_zero,List.getElem?_cons_succ,Option.getD_some])
local macro_rules | `(tactic| walk_at "nx") => `(tactic| (obtain ⟨e⟩:=‹Shut (_ = _)›; subst e; try dsimp only))
local macro_rules | `(tactic| walk_at "rd") => do
 let ls <- (nm0.splitOn " ").toArray.mapM fun n => let i:=Lean.mkIdent n.toName; `(Lean.Parser.Tactic.simpLemma| $i:ident)
 `(tactic| ((try dsimp only [$[$ls:simpLemma],*]); try simp only [*,$[$ls:simpLemma],*]))
section
variable {P : Program} {w : World} {K : PySem.W.Frag} {mg : Str -> Option Value} {base : Heap}
def spWs : Sp3:=fun ts H Q => ∃ (c : Addr) (most wi : Int),ts = [.ref c,.int most,.int wi] /\ 1 <= most /\ most <= 8 /\ Cl H c /\ ∀ (W : Wk) (H' : Hp3),WkOk W -> (W.tasks.length : Int) <= most -> Drw c H H' -> Q W.enc H'
structure Wt (c : Addr) (H0 H : Hp3) (fs : List (Addr × O3)) : Prop where
 cl : Cl H c
 kp : Kep c H0 H
 at' : ∀ p ∈ fs,H p.1 = some p.2 /\ p.1 ≠ c
theorem Wt.drw {c : Addr} {H0 H H' : Hp3} {fs : List (Addr × O3)} (w : Wt c H0 H fs) (d : Drw c H H') : Wt c H0 H' fs:=⟨d.cl,w.kp.drw d,fun p hp => ⟨by rw [d.off _ (w.at' p hp).2]; exact (w.at' p hp).1,(w.at' p hp).2⟩⟩
theorem Wt.new {c p : Addr} {H0 H : Hp3} {fs : List (Addr × O3)} {o : O3} (w : Wt c H0 H fs) (hp : H p = none) : Wt c H0 (up3 H p o) ((p,o) :: fs):=⟨w.cl.new (w.cl.ne hp),w.kp.new hp,fun q hq => by
 rcases List.mem_cons.mp hq with rfl | hq
 ·
  exact ⟨up3_same,w.cl.ne hp⟩
 ·
  exact ⟨by rw [up3_ne (ne3n (w.at' q hq).1 hp)]; exact (w.at' q hq).1,(w.at' q hq).2⟩⟩
theorem Nms.take {ws : List Str} (h : Nms ws) (n : Nat) : Nms (ws.take n):=⟨fun x hx => h.nm x (List.mem_of_mem_take hx),h.nd.sublist (List.take_sublist n ws)⟩
theorem mem_getD {α : Type} (xs : List α) (d : α) {i : Nat} (h : i < xs.length) : xs.getD i d ∈ xs:=by
 rw [List.getD_eq_getElem?_getD,List.getElem?_eq_getElem h]
 exact List.getElem_mem h
abbrev N_works : List Str:=["_law_cells","_law_most","_law_withs","_law_head","_law_many","_law_free","_law_names_here","_law_pool","_law_tasks_here","_law_orders_here","_law_pairs_here","_law_cell","_law_row"]
theorem sc_works : FnScope N_works ["_law_cells","_law_most","_law_withs"] (defScope (top 22)):=sc_mk
theorem ok_works {f : Addr} {fd : FuncData} (g : G3 K mg "_law_works" (top 22) ["_law_cells","_law_most","_law_withs"] f fd) (B : Bl mg) (F_turn : Cal P w K mg base 1 "_law_turn" (top 19) ["_law_cell","_law_names_here"] spTu) (F_next : Cal P w K mg base 2 "_law_next" (top 16) ["_law_cells"] spNx) (F_pairs : Cal P w K mg base 1 "_law_pairs" (top 21) ["_law_cell","_law_names_here","_law_many","_law_withs"] spPs) (F_orders : Cal P w K mg base 1 "_law_orders" (top 20) ["_law_cell","_law_turn_here","_law_often"] spOs) (F_tasks : Cal P w K mg base 3 "_law_tasks" (top 18) ["_law_cells","_law_names_here","_law_pool","_law_free"] spTs) (F_names : Cal P w K mg base 1 "_law_names" (top 14) ["_law_cell","_law_many"] spNs) : Cal P w K mg base 4 "_law_works" (top 22) ["_law_cells","_law_most","_law_withs"] spWs:=by
 refine ⟨f,fd,g,?_⟩
 refine fn3 g.fn sc_works (fun ts H Q h => ?_) (fun cdv A outer s H E ts H3 Q hr h => ?_)
 ·
  obtain ⟨c,most,wi,rfl,_⟩:=h; rfl
 ·
  have hu30:=Room.u30 hr
  have hu31:=Room.u31 hr
  have hu1:=Room.u1 hr
  obtain ⟨c,most,wi,rfl,o1,o8,D,k⟩:=h
  refine ⟨_,(ss3_cons (s3_set (i:=3) sc_works.nd (e3_cl F_next hr rfl (a3_cons (v3 0) a3_nil)))
    (ss3_cons (s3_set (i:=4) sc_works.nd (e3_op o3_add c3_int (e3_op o3_mod (v3 3) (v3 1))))
    (ss3_cons (s3_set (i:=5) sc_works.nd (e3_cmp (o3_eq hu30) (e3_op o3_mod (e3_op o3_fdiv (v3 3) c3_int) c3_int) c3_int))
    (ss3_cons (s3_set (i:=6) sc_works.nd (e3_cl F_names hr rfl (a3_cons (e3_cl F_next hr rfl (a3_cons (v3 0) a3_nil)) (a3_cons (v3 4) a3_nil))))
    (ss3_cons (s3_set (i:=7) sc_works.nd (e3_slice (e3_cl F_names hr rfl (a3_cons (e3_cl F_next hr rfl (a3_cons (v3 0) a3_nil)) (a3_cons c3_int a3_nil))) po3_none (po3_some (e3_op o3_add c3_int (e3_op o3_mod (e3_op o3_fdiv (v3 3) c3_int) c3_int)))))
    (ss3_cons (s3_set (i:=8) sc_works.nd (e3_cl F_tasks hr rfl (a3_cons (v3 0) (a3_cons (v3 6) (a3_cons (v3 7) (a3_cons (v3 5) a3_nil))))))
    (ss3_cons (s3_set (i:=9) sc_works.nd (e3_cl F_orders hr rfl (a3_cons (e3_cl F_next hr rfl (a3_cons (v3 0) a3_nil)) (a3_cons (e3_cl F_turn hr rfl (a3_cons (e3_cl F_next hr rfl (a3_cons (v3 0) a3_nil)) (a3_cons (v3 6) a3_nil))) (a3_cons (e3_op o3_add c3_int (e3_op o3_mod (e3_op o3_fdiv (v3 3) c3_int) c3_int)) a3_nil)))))
    (ss3_cons (s3_set (i:=10) sc_works.nd (e3_cl F_pairs hr rfl (a3_cons (e3_cl F_next hr rfl (a3_cons (v3 0) a3_nil)) (a3_cons (v3 6) (a3_cons (e3_op o3_mod (e3_op o3_fdiv (v3 3) c3_int) (e3_ix ix3 (e3_lst (a3_cons c3_int (a3_cons c3_int a3_nil))) (e3_callTy c3_int' rfl B.int_ bt_int (a3_cons (v3 5) a3_nil)))) (a3_cons (v3 2) a3_nil))))))
    (ss3_cons (s3_set (i:=11) sc_works.nd (e3_cl F_next hr rfl (a3_cons (v3 0) a3_nil)))
    (ss3_cons (s3_setC (i:=12) rfl sc_works.nd (compSc (n0:=(defScope (top 22)).names) (N:=N_works) (N':=["_law_k","_law_pool","_law_cell"]) (nt:=1) (cap:=[7,11]) rfl rfl (by decide +kernel)) (i3_range1 rfl B.range_ (a3_cons (e3_op o3_add c3_int (e3_op o3_mod (v3 11) (e3_ix ix3 (e3_lst (a3_cons c3_int (a3_cons c3_int a3_nil))) (e3_callTy c3_int' rfl B.int_ bt_int (a3_cons (v3 5) a3_nil))))) a3_nil)) (fun cl pins s H C0 fp => ⟨(g3_name (i:=0) (show List.Nodup [("_law_k" : Str),("_law_pool" : Str),("_law_cell" : Str)] by decide +kernel)),if3_nil,(e3_ix ix3 (v3 1) (e3_op o3_mod (e3_op o3_fdiv (v3 2) (e3_op o3_shl c3_int (e3_op o3_mul c3_int (v3 0)))) (e3_callB c3_len rfl B.len_ bt_len (a3_cons (v3 1) a3_nil))))⟩))
    (ss3_one (s3_ret (e3_tup (a3_cons (v3 8) (a3_cons (e3_callTy c3_tuple rfl B.tuple_ bt_tuple (a3_cons (e3_cl F_turn hr rfl (a3_cons (e3_cl F_next hr rfl (a3_cons (v3 0) a3_nil)) (a3_cons (v3 9) a3_nil))) a3_nil)) (a3_cons (v3 10) (a3_cons (e3_callTy c3_tuple rfl B.tuple_ bt_tuple (a3_cons (v3 12) a3_nil)) a3_nil))))))))))))))))),?_⟩
  rw [show start3 N_works [T.ref c,T.int most,T.int wi] = [some (T.ref c),some (T.int most),some (T.int wi),none,none,none,none,none,none,none,none,none,none] from rfl]
  have hsz : sizeLine = 16777216:=rfl
  refine seq_cut fun R1 hR1 => ?_
  walk_at "rd"
  refine ⟨c,rfl,D,fun hd H1 hD1 => ?_⟩
  have w1 : Wt c H3 H1 []:=⟨hD1.cl,Kep.refl.drw hD1,(fun _ h => nomatch h)⟩
  walk_at "nx"
  refine seq_cut fun R2 hR2 => ?_
  walk_at "rd"
  have h0m:=Int.emod_nonneg hd (show most ≠ 0 by omega)
  have h1m:=Int.emod_lt_of_pos hd (show 0 < most by omega)
  refine ⟨by omega,?_⟩
  walk_at "nx"
  refine seq_cut fun R3 hR3 => ?_
  walk_at "rd"
  refine ⟨⟨by decide,by decide +kernel⟩,by decide,?_⟩
  walk_at "nx"
  generalize decide (hd / 8 % 3 = 1) = free
  generalize hmany : 1 + hd % most = many
  have m1 : 1 <= many:=by omega
  have m8 : many <= most:=by omega
  clear hmany h0m h1m
  refine seq_cut fun R4 hR4 => ?_
  walk_at "rd"
  refine ⟨c,rfl,w1.cl,fun n2 H2 hD2 => ?_⟩
  have w2:=w1.drw hD2
  dsimp only
  refine ⟨n2,many,rfl,by omega,by omega,fun pn ws hpn hws hwl => ?_⟩
  have w3:=w2.new (o:=.lst (ws.map T.str)) hpn
  generalize up3 H2 pn (.lst (ws.map T.str)) = H4 at w3
  walk_at "nx"
  refine seq_cut fun R5 hR5 => ?_
  walk_at "rd"
  refine ⟨c,rfl,w3.cl,fun n3 H5 hD3 => ?_⟩
  have w4:=w3.drw hD3
  dsimp only
  refine ⟨n3,4,rfl,by decide,by decide,fun pq ws4 hpq hws4 hwl4 => ?_⟩
  have w5:=w4.new (o:=.lst (ws4.map T.str)) hpq
  generalize up3 H5 pq (.lst (ws4.map T.str)) = H6 at w5
  clear hD1 hD2 hD3 w1 w2 w3 w4 hpn hpq
  have f1:=(w5.at' (pq,.lst (ws4.map T.str)) (by simp)).1
  dsimp only at f1
  obtain ⟨j,hj⟩:=Int.eq_ofNat_of_zero_le (show 0 <= 2 + hd / 24 % 3 by omega)
  have hj2 : 2 <= j:=by omega
  have hj4 : j <= 4:=by omega
  have ec : cut3 (ws4.map T.str) none (some (2 + hd / 24 % 3)) = (ws4.take j).map T.str:=by rw [hj,cut_to,List.map_take]
  clear hj
  walk_at "rd"
  refine ⟨⟨by decide,by decide +kernel⟩,by decide,fun pl hpl => ?_⟩
  have hpl4 : (ws4.take j).length = j:=by rw [List.length_take]; omega
  have hpN : Nms (ws4.take j):=hws4.take j
  generalize ws4.take j = pool at hpl4 hpN
  have hpl2 : 2 <= pool.length:=by omega
  have hpl5 : pool.length <= 4:=by omega
  clear hpl4
  have w6:=w5.new (o:=.lst (pool.map T.str)) hpl
  clear w5 f1 ec
  generalize up3 H6 pl (.lst (pool.map T.str)) = H7 at w6
  have g1:=w6.at' (pn,.lst (ws.map T.str)) (by simp)
  have g2:=w6.at' (pl,.lst (pool.map T.str)) (by simp)
  walk_at "nx"
  refine seq_cut fun R6 hR6 => ?_
  walk_at "rd"
  refine ⟨c,pn,pl,ws,pool,free,rfl,w6.cl,g1.2,g2.2,g1.1,g2.1,hws,hpN,by omega,by omega,by omega,fun tk H8 htk hok hD4 => ?_⟩
  have w7:=w6.drw hD4
  clear w6 hD4 g1 g2
  dsimp only
  walk_at "nx"
  refine seq_cut fun R7 hR7 => ?_
  walk_at "rd"
  refine ⟨c,rfl,w7.cl,fun n5 H9 hD5 => ?_⟩
  have w8:=w7.drw hD5
  dsimp only
  refine ⟨c,rfl,w8.cl,fun n6 H10 hD6 => ?_⟩
  have w9:=w8.drw hD6
  clear w7 w8 hD5 hD6
  dsimp only
  refine ⟨Str,T.str,n6,pn,ws,rfl,(w9.at' (pn,.lst (ws.map T.str)) (by simp)).1,by omega,fun pt wt hpt hper => ?_⟩
  have w10:=w9.new (o:=.lst (wt.map T.str)) hpt
  clear w9
  generalize up3 H10 pt (.lst (wt.map T.str)) = H11 at w10
  walk_at "rd"
  refine ⟨⟨by decide,by decide +kernel⟩,by decide,?_⟩
  refine ⟨n5,pt,_,wt,rfl,(w10.at' (pt,.lst (wt.map T.str)) (by simp)).1,hper.nodup_iff.mpr hws.nd,by rw [hper.length_eq]; omega,by omega,by omega,fun po os hpo ho28 hond hoo => ?_⟩
  have w11:=w10.new (o:=.lst (os.map orT)) hpo
  clear w10
  generalize up3 H11 po (.lst (os.map orT)) = H12 at w11
  dsimp only
  walk_at "nx"
  refine seq_cut fun R8 hR8 => ?_
  walk_at "rd"
  refine ⟨c,rfl,w11.cl,fun n7 H13 hD7 => ?_⟩
  have w12:=w11.drw hD7
  clear w11 hD7
  walk_at "rd"
  refine ⟨⟨by decide,by decide +kernel⟩,by omega,fun p6 hp6 => ?_⟩
  obtain ⟨u,eu,u0,u13⟩ : ∃ u : Int,atI [T.int 6,T.int 13] (if free = true then 1 else 0) = some (T.int u) /\ 0 < u /\ u <= 13:=by
   cases free
   ·
    exact ⟨6,at0 _ _,by decide,by decide⟩
   ·
    exact ⟨13,at1 _ _ _,by decide,by decide⟩
  rw [eu,q_oq,q_I]
  refine ⟨u0,?_⟩
  have w13:=w12.new (o:=.lst [T.int 6,T.int 13]) hp6
  clear w12 eu
  generalize up3 H13 p6 (.lst [T.int 6,T.int 13]) = H14 at w13
  refine ⟨n7,pn,_,wi,ws,rfl,(w13.at' (pn,.lst (ws.map T.str)) (by simp)).1,by omega,by omega,Int.emod_nonneg _ (by omega),by have:=Int.emod_lt_of_pos (hd / 288) u0; omega,fun ps hp12 hpnd hpp => ?_⟩
  dsimp only
  walk_at "nx"
  refine seq_cut fun R9 hR9 => ?_
  walk_at "rd"
  refine ⟨c,rfl,w13.cl,fun cell H15 hD8 => ?_⟩
  have w14:=w13.drw hD8
  clear w13 hD8
  walk_at "nx"
  refine seq_cut fun R10 hR10 => ?_
  walk_at "rd"
  refine ⟨by omega,fun p8 hp8 => ?_⟩
  obtain ⟨v,ev,v0,v8⟩ : ∃ v : Int,atI [T.int 5,T.int 8] (if free = true then 1 else 0) = some (T.int v) /\ 0 < v /\ v <= 8:=by
   cases free
   ·
    exact ⟨5,at0 _ _,by decide,by decide⟩
   ·
    exact ⟨8,at1 _ _ _,by decide,by decide⟩
  rw [ev,q_oq,q_I]
  refine ⟨v0,?_⟩
  rw [q_addI]
  have c0:=Int.emod_nonneg cell (show v ≠ 0 by omega)
  have c1:=Int.emod_lt_of_pos cell v0
  refine ⟨trivial,?_⟩
  rw [q_rg1]
  refine ⟨by omega,by omega,?_⟩
  have w15:=w14.new (o:=.lst [T.int 5,T.int 8]) hp8
  clear w14 ev
  generalize up3 H15 p8 (.lst [T.int 5,T.int 8]) = H16 at w15
  walk_at "cp"
  obtain ⟨nn,hnn⟩ : ∃ nn : Nat,(1 + cell % v).toNat = nn:=⟨_,rfl⟩
  rw [hnn,rng0]
  have nn1 : 1 <= nn:=by omega
  have nn8 : nn <= 8:=by omega
  clear hnn
  have gp:=(w15.at' (pl,.lst (pool.map T.str)) (by simp)).1
  dsimp only at gp
  have pp0 : (0 : Int) < (pool.length : Int):=by omega
  refine cIter_pure (fun i : Nat => T.int (i : Int)) (fun i => T.str (pool.getD ((cell / (64 * 2 ^ (2 * (i : Int)).toNat) % (pool.length : Int)).toNat) "")) (List.range nn) [some (T.ref pl),some (T.int cell)] trivial (by rw [List.length_range]; omega) (fun i hi Q' hq => ?_) (fun pr hpr => ?_)
  ·
   rw [List.mem_range] at hi
   have hm : 0 < (2 : Int) ^ (2 * (i : Int)).toNat /\ (2 : Int) ^ (2 * (i : Int)).toNat <= 65536:=by
    have : i = 0 \/ i = 1 \/ i = 2 \/ i = 3 \/ i = 4 \/ i = 5 \/ i = 6 \/ i = 7:=by omega
    rcases this with rfl | rfl | rfl | rfl | rfl | rfl | rfl | rfl <;> decide
   have cd : CDiv3 cell (64 * 2 ^ (2 * (i : Int)).toNat):=log_64 (i:=cell) (by omega) (by omega)
   have cp : CPow 64 (2 * (i : Int)):=⟨by omega,by omega,by decide⟩
   have cm : CMul 2 (i : Int):=.inl ⟨by decide,by decide⟩
   have e0:=Int.emod_nonneg (cell / (64 * 2 ^ (2 * (i : Int)).toNat)) (show (pool.length : Int) ≠ 0 by omega)
   have e1:=Int.emod_lt_of_pos (cell / (64 * 2 ^ (2 * (i : Int)).toNat)) pp0
   have ea : atI (pool.map T.str) (cell / (64 * 2 ^ (2 * (i : Int)).toNat) % (pool.length : Int)) = some (T.str (pool.getD ((cell / (64 * 2 ^ (2 * (i : Int)).toNat) % (pool.length : Int)).toNat) "")):=by
    generalize cell / (64 * 2 ^ (2 * (i : Int)).toNat) % (pool.length : Int) = ix at e0 e1
    obtain ⟨t,rfl⟩:=Int.eq_ofNat_of_zero_le e0
    have ht : t < pool.length:=by omega
    refine atI_nat ?_
    rw [List.getElem?_map,List.getElem?_eq_getElem ht,Int.toNat_natCast,List.getD_eq_getElem?_getD,List.getElem?_eq_getElem ht]
    rfl
   clear hm e0 e1 k
   walk_at "rd"
   exact ⟨by first | trivial | exact cm,by first | trivial | exact cp,by first | trivial | exact cd,by first | trivial | exact pp0,by first | trivial | exact hq⟩
  ·
   have w16:=w15.new (o:=.lst ((List.range nn).map fun (i : Nat) => T.str (pool.getD ((cell / (64 * 2 ^ (2 * (i : Int)).toNat) % (pool.length : Int)).toNat) ""))) hpr
   clear w15 gp
   generalize up3 H16 pr (.lst ((List.range nn).map fun (i : Nat) => T.str (pool.getD ((cell / (64 * 2 ^ (2 * (i : Int)).toNat) % (pool.length : Int)).toNat) ""))) = H17 at w16
   walk_at "nx"
   walk_at "rd"
   refine ⟨c,rfl,w16.cl,fun n9 H18 hD9 => ?_⟩
   have w17:=w16.drw hD9
   clear w16 hD9
   dsimp only
   refine ⟨Str × Str,orT,n9,po,os,rfl,(w17.at' (po,.lst (os.map orT)) (by simp)).1,by omega,fun pz oz hpz hperz => ?_⟩
   have w18:=w17.new (o:=.lst (oz.map orT)) hpz
   clear w17
   dsimp only
   rw [q_tupL,up3_same,q_tpH]
   generalize up3 H18 pz (.lst (oz.map orT)) = H19 at w18
   have gr:=(w18.at' (pr,.lst ((List.range nn).map fun (i : Nat) => T.str (pool.getD ((cell / (64 * 2 ^ (2 * (i : Int)).toNat) % (pool.length : Int)).toNat) ""))) (by simp)).1
   dsimp only at gr
   rw [gr,q_tpH]
   refine ⟨by omega,fin_drw w18.cl w18.kp fun H'' hD => ?_⟩
   have hmem : ∀ i : Nat,pool.getD ((cell / (64 * 2 ^ (2 * (i : Int)).toNat) % (pool.length : Int)).toNat) "" ∈ pool:=fun i => by
    have e0:=Int.emod_nonneg (cell / (64 * 2 ^ (2 * (i : Int)).toNat)) (show (pool.length : Int) ≠ 0 by omega)
    have e1:=Int.emod_lt_of_pos (cell / (64 * 2 ^ (2 * (i : Int)).toNat)) pp0
    exact mem_getD _ _ (by omega)
   have htl : tk.length = ws.length:=by rw [<- htk,List.length_map]
   have hW : WkOk ⟨tk,oz,ps,(List.range nn).map fun (i : Nat) => pool.getD ((cell / (64 * 2 ^ (2 * (i : Int)).toNat) % (pool.length : Int)).toNat) ""⟩:=by
    refine ⟨?_,?_,hok,?_,?_,?_,?_,hp12,hpnd,?_,?_,?_,?_⟩
    ·
     show 1 <= tk.length; omega
    ·
     show tk.length <= 8; omega
    ·
     show (tk.map (·.1)).Nodup; rw [htk]; exact hws.nd
    ·
     show oz.length <= 28; rw [hperz.length_eq]; exact ho28
    ·
     exact hperz.nodup_iff.mpr hond
    ·
     intro o ho
     show _ /\ o.1 ∈ tk.map (·.1) /\ o.2 ∈ tk.map (·.1)
     rw [htk]
     obtain ⟨a1,a2,a3⟩:=hoo o (hperz.subset ho)
     exact ⟨a1,hper.subset a2,hper.subset a3⟩
    ·
     intro o ho
     show _ /\ _ /\ o.2.1 ∈ tk.map (·.1) /\ o.2.2 ∈ tk.map (·.1)
     rw [htk]
     exact hpp o ho
    ·
     show 1 <= ((List.range nn).map _).length; rw [List.length_map,List.length_range]; exact nn1
    ·
     show ((List.range nn).map _).length <= 8; rw [List.length_map,List.length_range]; exact nn8
    ·
     intro x hx
     obtain ⟨i,_,rfl⟩:=List.mem_map.mp hx
     exact hpN.nm _ (hmem i)
   have kk:=k _ H'' hW (by show (tk.length : Int) <= most; omega) hD
   simp only [Wk.enc,sT,List.map_map,Function.comp_def] at kk
   exact kk
end
end M
namespace L3
open PySem PySem.Spec PyProof.Rows L2
section
variable {X : Cx} {e st : Expr} {p2 pos : Pos}
end
end L3
namespace M
universe u
variable {α : Type u}
inductive RT (R : α -> α -> Prop) : α -> α -> Prop
 | refl {a : α} : RT R a a
 | step {a b c : α} : RT R a b -> R b c -> RT R a c
theorem RT.trans {R : α -> α -> Prop} {a b c : α} (h : RT R a b) (g : RT R b c) : RT R a c:=by
 induction g with
 | refl => exact h
 | step _ r ih => exact .step ih r
theorem RT.flip {R : α -> α -> Prop} {a b : α} (h : RT R a b) : RT (fun x y => R y x) b a:=by
 induction h with
 | refl => exact .refl
 | step _ r ih => exact (RT.step (R:=fun x y => R y x) .refl r).trans ih
theorem rt_flip {R : α -> α -> Prop} {a b : α} : RT (fun x y => R y x) a b ↔ RT R b a:=⟨fun h => h.flip,fun h => h.flip⟩
theorem RT.mono {R S : α -> α -> Prop} (hs : ∀ a b,R a b -> S a b) {a b : α} (h : RT R a b) : RT S a b:=by
 induction h with
 | refl => exact .refl
 | step _ r ih => exact .step ih (hs _ _ r)
theorem rt_in {L : List (α × α)} {F : List α} {s x : α} (hs : s ∈ F) (hc : ∀ a b,(a,b) ∈ L -> a ∈ F -> b ∈ F) (h : RT (fun a b => (a,b) ∈ L) s x) : x ∈ F:=by
 induction h with
 | refl => exact hs
 | step _ r ih => exact hc _ _ r ih
theorem nd_len [DecidableEq α] : ∀ {l m : List α},l.Nodup -> (∀ x ∈ l,x ∈ m) -> l.length <= m.length:=by
 intro l
 induction l with
 | nil => intro m _ _; exact Nat.zero_le _
 | cons a l ih =>
  intro m nd hs
  rw [List.nodup_cons] at nd
  have ha:=hs a List.mem_cons_self
  have h:=ih (m:=m.erase a) nd.2 fun x hx => by
   have hx':=hs x (List.mem_cons_of_mem _ hx)
   have hne : x ≠ a:=fun e => nd.1 (e ▸ hx)
   exact (List.mem_erase_of_ne hne).mpr hx'
  have e:=List.length_erase_of_mem ha
  have p : 0 < m.length:=List.length_pos_of_mem ha
  simp only [List.length_cons]
  omega
end M
set_option maxHeartbeats 1000000
namespace L3
open PySem PySem.Spec PyProof.Rows L2
noncomputable def key3 : T -> Option Key
 | .int i => some (.inl i)
 | .str x => some (.inr x)
 | _ => none
noncomputable def keys3 : List T -> Option (List Key)
 | [] => some []
 | t :: r => match key3 t,keys3 r with
  | some k,some ks => some (k :: ks)
  | _,_ => none
noncomputable def lookP (k : List Key) : List (List Key × T) -> Option T
 | [] => none
 | (k',v) :: r => if k' = k then some v else lookP k r
noncomputable def putP (k : List Key) (v : T) (kvs : List (List Key × T)) : List (List Key × T) :=
 if (kvs.any fun kv => decide (kv.1 = k)) = true then kvs.map (fun kv => if kv.1 = k then (kv.1,v) else kv) else kvs ++ [(k,v)]
def dgPH (o : Option O3) (ts : List T) (H : Hp3) (Q : VK3) : Prop:=match o with
 | some (.dcp kvs) => oq (keys3 ts) fun ks => oq (lookP ks kvs) fun t => Q t H
 | _ => False
def dgP (x : T) (ts : List T) (H : Hp3) (Q : VK3) : Prop:=match x with
 | .ref a => dgPH (H a) ts H Q
 | _ => False
def tDGetP3 (td : TE3) (ta : TA3) : TE3:=fun σ H Q => td σ H fun x H1 => ta σ H1 fun ts H2 => ts.length <= sizeLine /\ dgP x ts H2 Q
def dpPH (o : Option O3) (a : Addr) (ts : List T) (v : T) (H : Hp3) (Q : Hp3 -> Prop) : Prop:=match o with
 | some (.dcp kvs) => oq (keys3 ts) fun ks => kvs.length < sizeLine /\ Q (up3 H a (.dcp (putP ks v kvs)))
 | _ => False
def dpP (x : T) (ts : List T) (v : T) (H : Hp3) (Q : Hp3 -> Prop) : Prop:=match x with
 | .ref a => dpPH (H a) a ts v H Q
 | _ => False
def sDPutP3 (td : TE3) (ta : TA3) (tv : TE3) : TS3:=fun D σ H => tv σ H fun v H1 => td σ H1 fun x H2 => ta σ H2 fun ts H3 => ts.length <= sizeLine /\ dpP x ts v H3 fun H4 => D.nx σ H4
section
variable {H : Hp3} {Q : VK3} {σ : St3}
theorem q_dgP (a : Addr) (ts : List T) : dgP (.ref a) ts H Q = dgPH (H a) ts H Q:=rfl
theorem q_dgPH (kvs : List (List Key × T)) (x y : Str) : dgPH (some (.dcp kvs)) [.str x,.str y] H Q = oq (lookP [Sum.inr x,Sum.inr y] kvs) fun t => Q t H:=rfl
theorem q_dpP (a : Addr) (ts : List T) (v : T) (Q : Hp3 -> Prop) : dpP (.ref a) ts v H Q = dpPH (H a) a ts v H Q:=rfl
theorem q_dpPH (kvs : List (List Key × T)) (a : Addr) (x y : Str) (v : T) (Q : Hp3 -> Prop) : dpPH (some (.dcp kvs)) a [.str x,.str y] v H Q = (kvs.length < sizeLine /\ Q (up3 H a (.dcp (putP [Sum.inr x,Sum.inr y] v kvs)))):=rfl
end
section
variable {X : Cx} {o i k value : Expr} {es : List Expr} {td ti tk tv : TE3} {ta : TA3} {pos pos' p2 : Pos} {x1 : Nat}
def tDNew3 : TE3:=fun _ H Q => ∀ p,H p = none -> Q (.ref p) (up3 H p (.dct []))
def tDNewP3 : TE3:=fun _ H Q => ∀ p,H p = none -> Q (.ref p) (up3 H p (.dcp []))
theorem SimH.newD {K : PySem.W.Frag} {H : Hp} {H3 : Hp3} {p : Addr} (s : SimH K H3 H) (hp : H p = none) : SimH K (up3 H3 p (.dct [])) (upd H p (.dK [])):=fun a o e => by
 by_cases ha : a = p
 ·
  subst ha
  rw [up3_same] at e; cases e
  exact ⟨[],upd_same,.nil⟩
 ·
  rw [up3_ne ha] at e
  exact s.new hp a o e
def d1q (y : T) (p : Addr) (v : T) (H : Hp3) (Q : VK3) : Prop:=match y with
 | .str k => H p = some (.dct []) /\ Q (.ref p) (up3 H p (.dct [(k,v)]))
 | _ => False
def tDisp1 (tk tv : TE3) : TE3:=fun σ H Q => ∀ p,H p = none -> tk σ (up3 H p (.dct [])) fun y H1 => tv σ H1 fun v H2 => d1q y p v H2 Q
theorem q_d1q (x : Str) (p : Addr) (v : T) {H : Hp3} {Q : VK3} : d1q (.str x) p v H Q = (H p = some (.dct []) /\ Q (.ref p) (up3 H p (.dct [(x,v)]))):=rfl
theorem e3_disp1 {v : Expr} (hk : PE3 X k tk) (hv : PE3 X v tv) : PE3 X (.Dict [some k] [v] pos) (tDisp1 tk tv):=by
 refine PE.imp (pe_disp (pps_cons hk hv pps_nil) rfl rfl (by simp) (by show 1 <= 15; decide)) ?_
 rintro σ H Q ⟨σ3,H3,Q3,ss,sh,h,k⟩ p hp
 have le0 : TupLe X.K H (upd H p (.dK [])):=upd_tupLe hp
 refine ⟨σ3,up3 H3 p (.dct []),_,ss.mono le0,sh.newD hp,h p (sh.fresh hp),fun y H1 ty H31 le1 sh1 ry q1 => ?_⟩
 refine ⟨σ3,H31,_,ss.mono (le0.trans le1),sh1,q1,fun z H2 tz H32 le2 sh2 rz q2 => ?_⟩
 cases ty with
 | str key =>
  have h' : H32 p = some (.dct []) /\ Q3 (.ref p) (up3 H32 p (.dct [(key,tz)])):=q2
  obtain ⟨ws,hH,r⟩:=sh2 p _ h'.1
  cases r
  refine ⟨hH,[(Sum.inr key,z)],by rw [(ry.mono le2).str]; rfl,by show 1 <= 15; decide,?_⟩
  have e : mergeK [] [((Sum.inr key : Key),z)] = [((Sum.inr key : Key),z)]:=rfl
  rw [e]
  exact k _ _ _ _ (le0.trans (le1.trans (le2.trans (wr_tupLe (by rw [hH]; exact trivial))))) (sh2.wrD hH (.cons ⟨rfl,rz⟩ .nil)) .ofRef h'.2
 | _ => exact q2.elim
def diH (neg : Bool) (y : T) (o : Option O3) (H : Hp3) (Q : VK3) : Prop:=match y,o with
 | .str k,some (.dct kvs) => Q (.bl (if neg then !(look3 k kvs).isSome else (look3 k kvs).isSome)) H
 | _,_ => False
def diq (neg : Bool) (y x : T) (H : Hp3) (Q : VK3) : Prop:=match x with
 | .ref a => diH neg y (H a) H Q
 | _ => False
def tDIn3 (neg : Bool) (ti to : TE3) : TE3:=fun σ H Q => ti σ H fun y H1 => to σ H1 fun x H2 => diq neg y x H2 Q
theorem q_diq (neg : Bool) (y : T) (a : Addr) {H : Hp3} {Q : VK3} : diq neg y (.ref a) H Q = diH neg y (H a) H Q:=rfl
theorem q_diH (neg : Bool) (k : Str) (kvs : List (Str × T)) {H : Hp3} {Q : VK3} : diH neg (.str k) (some (.dct kvs)) H Q = Q (.bl (if neg then !(look3 k kvs).isSome else (look3 k kvs).isSome)) H:=rfl
theorem look_rep0 {K : PySem.W.Frag} {H : Hp} {k : Str} : ∀ {kvs : List (Str × T)} {vs : List (Key × V)},RepD K H kvs vs -> (valV vs (Sum.inr k : Key)).isSome = (look3 k kvs).isSome
 | [],_,.nil => rfl
 | (k',t') :: r,_,.cons (b:=(kk,v')) ⟨e1,rv⟩ rr => by
  simp only at e1 rv
  subst e1
  unfold look3
  by_cases hk : k' = k
  ·
   rw [if_pos hk,valV_pos (by rw [hk])]; rfl
  ·
   rw [if_neg hk,valV_neg (by intro z; exact hk (Sum.inr.inj z))]
   exact look_rep0 rr
theorem din_aux {neg : Bool} {H : Hp} {H3 : Hp3} {x y : V} {tx ty : T} {Q3 : VK3} (sh : SimH X.K H3 H) (rx : Rep X.K H tx x) (ry : Rep X.K H ty y) (q : diq neg ty tx H3 Q3) :
  ∃ a ov b,x = .ref a /\ DGet H a y ov /\ (if neg then !ov.isSome else ov.isSome) = b /\ Q3 (.bl b) H3:=by
 cases tx with
 | ref a =>
  have h' : diH neg ty (H3 a) H3 Q3:=q
  cases ty with
  | str k =>
   cases e : H3 a with
   | none => rw [e] at h'; exact h'.elim
   | some ob =>
    rw [e] at h'
    cases ob with
    | dct kvs =>
     obtain ⟨ws,hH,r⟩:=sh a _ e
     refine ⟨a,valV ws (Sum.inr k : Key),_,rx.ref,by rw [ry.str]; exact DGet.k (k:=Sum.inr k) hH,rfl,?_⟩
     rw [look_rep0 r]
     exact h'
    | _ => exact h'.elim
  | _ => exact h'.elim
 | _ => exact q.elim
theorem t3_din (hu : X.A.units + 1 < cLine) (hi : PE3 X i ti) (ho : PE3 X o td) (hm : behindInMarks .In o = false:=by rfl) : PT3 X (.Compare i [.In] [o] pos) (tTest3 (tDIn3 false ti td)):=by
 refine PT.imp (pt_cmp (pc_din hu hi ho) hm) ?_
 rintro σ H Q ⟨σ3,H3,Q3,ss,sh,h,k⟩
 refine ⟨σ3,H3,_,ss,sh,h,fun y H1 ty H31 le1 sh1 ry q1 => ⟨σ3,H31,_,ss.mono le1,sh1,q1,fun x H2 tx H32 le2 sh2 rx q2 => ?_⟩⟩
 obtain ⟨a,ov,b,e,g,eb,q⟩:=din_aux sh2 rx (ry.mono le2) q2
 exact ⟨a,ov,e,g,b,by rw [show ov.isSome = b from eb],k _ _ _ (le1.trans le2) sh2 q⟩
theorem t3_dnotin (hu : X.A.units + 1 < cLine) (hi : PE3 X i ti) (ho : PE3 X o td) (hm : behindInMarks .NotIn o = false:=by rfl) : PT3 X (.Compare i [.NotIn] [o] pos) (tTest3 (tDIn3 true ti td)):=by
 refine PT.imp (pt_cmp (pc_dnotin hu hi ho) hm) ?_
 rintro σ H Q ⟨σ3,H3,Q3,ss,sh,h,k⟩
 refine ⟨σ3,H3,_,ss,sh,h,fun y H1 ty H31 le1 sh1 ry q1 => ⟨σ3,H31,_,ss.mono le1,sh1,q1,fun x H2 tx H32 le2 sh2 rx q2 => ?_⟩⟩
 obtain ⟨a,ov,b,e,g,eb,q⟩:=din_aux sh2 rx (ry.mono le2) q2
 exact ⟨a,ov,e,g,b,by rw [show (!ov.isSome) = b from eb],k _ _ _ (le1.trans le2) sh2 q⟩
end
def seqq (x : T) (H : Hp3) (R : List T -> (Hp3 -> Prop) -> Hp3 -> Prop) : Prop:=match x with
 | .tup ts => R ts still0 H
 | .ref a => liO (H a) a H R
 | _ => False
theorem q_seqT (ts : List T) {H : Hp3} {R : List T -> (Hp3 -> Prop) -> Hp3 -> Prop} : seqq (.tup ts) H R = R ts still0 H:=rfl
theorem q_seqL (a : Addr) {H : Hp3} {R : List T -> (Hp3 -> Prop) -> Hp3 -> Prop} : seqq (.ref a) H R = liO (H a) a H R:=rfl
def iSeqV3 (i : Nat) : TI3:=fun σ H R => vq (σ[i]?) fun x => seqq x H R
theorem q_iSeqV (i : Nat) {σ : St3} {H : Hp3} {R : List T -> (Hp3 -> Prop) -> Hp3 -> Prop} : iSeqV3 i σ H R = vq (σ[i]?) fun x => seqq x H R:=rfl
theorem i3_seqV {X : Cx} {tg : Expr} (i : Nat) {x : Str} {pos : Pos} (hN : X.N[i]? = some x:=by rfl) (hv : Vis X.env.scope x:=by first | exact Or.inl rfl | exact Or.inr (Or.inl rfl) | exact Or.inr (Or.inr rfl)) (hd : (x == ("__debug__" : Str)) = false:=by decide)
  (hcd : (x == ("__classdict__" : Str)) = false:=by decide) : PI3 X tg (.Name x pos) (iSeqV3 i):=by
 intro pins s σ H R I q
 obtain ⟨σ3,H3,R3,ss,sh,h,k⟩:=q
 have h' : vq (σ3[i]?) fun x => seqq x H3 R3:=h
 cases e : σ3[i]? with
 | none => rw [e] at h'; exact h'.elim
 | some o =>
  cases o with
  | none => rw [e] at h'; exact h'.elim
  | some t =>
   rw [e] at h'
   cases t with
   | tup ts => exact i3_tup (v3 i hN hv hd hcd) pins s σ H R I ⟨σ3,H3,R3,ss,sh,by show tVar3 i σ3 H3 _; rw [q_var,e]; exact h',k⟩
   | ref a => exact i3_list (v3 i hN hv hd hcd) pins s σ H R I ⟨σ3,H3,R3,ss,sh,by show tVar3 i σ3 H3 _; rw [q_var,e]; exact h',k⟩
   | _ => exact h'.elim
theorem iter_pre {α : Type} (enc : α -> T) (xs : List α) {g : TG3} {tb : TS3} {D : Ends3} {still : Hp3 -> Prop} {σ : St3} {H : Hp3} (I : List α -> St3 -> Hp3 -> Prop) (h0 : I [] σ H) (hn : ∀ σ H,I xs σ H -> still H /\ D.nx σ H)
  (hs : ∀ A x B σ H (N : St3 -> Hp3 -> Prop),xs = A ++ x :: B -> I A σ H -> (∀ σ' H',I (A ++ [x]) σ' H' -> N σ' H') -> still H /\ g (enc x) σ H fun σ2 H2 => tb { D with nx:=N,ct:=N,bk:=D.nx } σ2 H2) : iter3 g tb D still (xs.map enc) σ H:=by
 have : ∀ (B A : List α) (σ : St3) (H : Hp3),xs = A ++ B -> I A σ H -> iter3 g tb D still (B.map enc) σ H:=by
  intro B
  induction B with
  | nil => intro A σ H e h; rw [List.append_nil] at e; subst e; exact hn σ H h
  | cons x B ih =>
   intro A σ H e h
   exact hs A x B σ H (iter3 g tb D still (B.map enc)) e h fun σ' H' h' => ih (A ++ [x]) σ' H' (by rw [e]; simp) h'
 exact this xs [] σ H rfl h0
theorem cIter_pre {α : Type} (enc : α -> T) (xs : List α) {g : TG3} {tt : TT3} {te : TE3} {still : Hp3 -> Prop} {fin : List T -> Hp3 -> Prop} {σ : St3} {H : Hp3} (I : List α -> List T -> St3 -> Hp3 -> Prop) (h0 : I [] [] σ H) (hn : ∀ ys σ H,I xs ys σ H -> still H /\ ys.length <= sizeLine /\ fin ys H)
  (hs : ∀ A x B ys σ H (N : List T -> St3 -> Hp3 -> Prop),xs = A ++ x :: B -> I A ys σ H -> (∀ ys' σ' H',I (A ++ [x]) ys' σ' H' -> N ys' σ' H') ->
   still H /\ g (enc x) σ H fun σ2 H2 => tt σ2 H2 fun b H3 => if b = true then te σ2 H3 fun y H4 => ys.length < sizeLine /\ N (ys ++ [y]) σ2 H4 else N ys σ2 H3) : cIter3 g tt te still fin (xs.map enc) [] σ H:=by
 have : ∀ (B A : List α) (ys : List T) (σ : St3) (H : Hp3),xs = A ++ B -> I A ys σ H -> cIter3 g tt te still fin (B.map enc) ys σ H:=by
  intro B
  induction B with
  | nil => intro A ys σ H e h; rw [List.append_nil] at e; subst e; exact hn ys σ H h
  | cons x B ih =>
   intro A ys σ H e h
   exact hs A x B ys σ H (cIter3 g tt te still fin (B.map enc)) e h fun ys' σ' H' h' => ih (A ++ [x]) ys' σ' H' (by rw [e]; simp) h'
 exact this xs [] [] σ H rfl h0
end L3
set_option maxHeartbeats 4000000
namespace M
open PySem PySem.Spec PyProof.Rows L2 L3
noncomputable def lkP (ws : List Str) (p : Str × Str × Str) : List (Str × Str):=if p.1 ∈ ws then [(p.2.1,p.2.2),(p.2.2,p.2.1)] else []
noncomputable def lkW (ws : List Str) (W : Wk) : List (Str × Str):=W.orders ++ W.pairs.flatMap (lkP ws)
def lkR (ws : List Str) (W : Wk) (a b : Str) : Prop:=(a,b) ∈ lkW ws W
theorem lkP_len (ws : List Str) (p : Str × Str × Str) : (lkP ws p).length <= 2:=by unfold lkP; split <;> simp
theorem lkF_len (ws : List Str) : ∀ ps : List (Str × Str × Str),(ps.flatMap (lkP ws)).length <= 2 * ps.length
 | [] => Nat.le_refl _
 | p :: r => by
  have h1:=lkP_len ws p
  have h2:=lkF_len ws r
  simp only [List.flatMap_cons,List.length_append,List.length_cons]
  omega
theorem lkW_len {ws : List Str} {W : Wk} (h : WkOk W) : (lkW ws W).length <= 52:=by
 have h1:=lkF_len ws W.pairs
 have h2:=h.os
 have h3:=h.ps
 unfold lkW
 rw [List.length_append]
 omega
theorem lkW_in {ws : List Str} {W : Wk} (h : WkOk W) {a b : Str} (m : (a,b) ∈ lkW ws W) : a ∈ W.tasks.map (·.1) /\ b ∈ W.tasks.map (·.1):=by
 unfold lkW at m
 rcases List.mem_append.mp m with m | m
 ·
  exact (h.oo _ m).2
 ·
  obtain ⟨p,hp,hm⟩:=List.mem_flatMap.mp m
  obtain ⟨_,_,q1,q2⟩:=h.pp p hp
  unfold lkP at hm
  split at hm
  ·
   simp only [List.mem_cons,Prod.mk.injEq,List.not_mem_nil,or_false] at hm
   rcases hm with ⟨rfl,rfl⟩ | ⟨rfl,rfl⟩
   ·
    exact ⟨q1,q2⟩
   ·
    exact ⟨q2,q1⟩
  ·
   cases hm
noncomputable def dF (F : List Str) : List (Str × T):=F.map fun z => (z,T.bl true)
theorem dF_look (z : Str) : ∀ F : List Str,(look3 z (dF F)).isSome = decide (z ∈ F)
 | [] => rfl
 | y :: r => by
  have ih:=dF_look z r
  unfold dF at ih ⊢
  simp only [List.map_cons,look3]
  by_cases h : y = z
  ·
   simp [h]
  ·
   rw [if_neg h,ih]
   have h' : ¬ z = y:=fun e => h e.symm
   simp [h']
theorem dF_any (z : Str) (F : List Str) : ((dF F).any fun kv => decide (kv.1 = z)) = decide (z ∈ F):=by
 unfold dF
 rw [List.any_map]
 induction F with
 | nil => rfl
 | cons y r ih =>
  simp only [List.any_cons,Function.comp_apply,ih]
  by_cases h : y = z
  ·
   simp [h]
  ·
   have h' : ¬ z = y:=fun e => h e.symm
   simp [h,h']
theorem dF_put {z : Str} {F : List Str} (h : z ∉ F) : put3 z (T.bl true) (dF F) = dF (F ++ [z]):=by
 unfold put3
 rw [dF_any,decide_eq_false h,if_neg Bool.false_ne_true]
 unfold dF
 rw [List.map_append]
 rfl
theorem dF_len (F : List Str) : (dF F).length = F.length:=List.length_map _
theorem dF_one (z : Str) : [(z,T.bl true)] = dF [z]:=rfl
theorem seq_walk {x : T} {ts : List T} {H : Hp3} {R : List T -> (Hp3 -> Prop) -> Hp3 -> Prop} (hx : (∃ a,x = .ref a /\ H a = some (.lst ts)) \/ x = .tup ts)
  (h : ∀ still : Hp3 -> Prop,(still = still0 \/ ∃ a,still = stillL a ts /\ H a = some (.lst ts)) -> R ts still H) : seqq x H R:=by
 rcases hx with ⟨a,rfl,e⟩ | rfl
 ·
  rw [q_seqL,e,q_liO]
  exact h _ (.inr ⟨a,rfl,e⟩)
 ·
  rw [q_seqT]
  exact h _ (.inl rfl)
noncomputable def grpW (W : Wk) (t : Str) : List Str:=(W.tasks.map (·.1)).filter fun x => @decide (RT (lkR ["with"] W) t x /\ RT (lkR ["with"] W) x t) (Classical.propDecidable _)
noncomputable def gpsW (W : Wk) : List (List Str):=((W.tasks.map (·.1)).filter fun t => decide ((grpW W t).head? = some t)).map (grpW W)
noncomputable def ahdW (W : Wk) (t : Str) : List Str:=(W.tasks.map (·.1)).filter fun x => @decide (RT (lkR ["with"] W) x t /\ ¬ RT (lkR ["with"] W) t x) (Classical.propDecidable _)
noncomputable def bhdW (W : Wk) (t : Str) : List Str:=(W.tasks.map (·.1)).filter fun x => @decide (RT (lkR ["with"] W) t x /\ ¬ RT (lkR ["with"] W) x t) (Classical.propDecidable _)
theorem grpW_self {W : Wk} {t : Str} (h : t ∈ W.tasks.map (·.1)) : t ∈ grpW W t:=by
 unfold grpW
 rw [List.mem_filter]
 exact ⟨h,@decide_eq_true _ (Classical.propDecidable _) ⟨.refl,.refl⟩⟩
theorem grpW_len (W : Wk) (t : Str) : (grpW W t).length <= W.tasks.length:=by
 have:=List.length_filter_le (fun x => @decide (RT (lkR ["with"] W) t x /\ RT (lkR ["with"] W) x t) (Classical.propDecidable _)) (W.tasks.map (·.1))
 rw [List.length_map] at this
 exact this
noncomputable def swp (o : Str × Str) : Str × Str:=(o.2,o.1)
theorem rt_swp {L : List (Str × Str)} {a b : Str} : RT (fun x y => (x,y) ∈ L.map swp) a b ↔ RT (fun x y => (x,y) ∈ L) b a:=by
 have e : (fun x y => (x,y) ∈ L.map swp) = fun x y : Str => (y,x) ∈ L:=by
  funext x y
  refine propext ⟨fun h => ?_,fun h => List.mem_map.mpr ⟨(y,x),h,rfl⟩⟩
  obtain ⟨o,ho,eo⟩:=List.mem_map.mp h
  obtain ⟨o1,o2⟩:=o
  cases eo
  exact ho
 rw [e]
 exact rt_flip
end M
namespace M
open PySem PySem.Spec PyProof.Rows L2 L3
local macro_rules | `(tactic| walk_at "cp") => `(tactic| try dsimp only [cap3,List.replicate,List.map_cons,List.map_nil,List.cons_append,List.nil_append,List.getElem?_cons_zero,List.getElem?_cons_succ,Option.getD_some])
local macro_rules | `(tactic| walk_at "nx") => `(tactic| (obtain ⟨e⟩:=‹Shut (_ = _)›; subst e; try dsimp only))
local macro_rules | `(tactic| walk_at "rd") => do
 let ls <- ((nm0 ++ " q_dgP q_dgPH q_dpP q_dpPH tDGetP3 sDPutP3 tDNew3 tDNewP3 tDisp1 q_d1q tDIn3 q_diq q_diH q_iSeqV").splitOn " ").toArray.mapM fun n => let i:=Lean.mkIdent n.toName; `(Lean.Parser.Tactic.simpLemma| $i:ident)
 `(tactic| ((try dsimp only [$[$ls:simpLemma],*]); try simp only [*,$[$ls:simpLemma],*]))
section
variable {P : Program} {w : World} {K : PySem.W.Frag} {mg : Str -> Option Value} {base : Heap}
def spLk : Sp3:=fun ts H Q => ∃ W : Wk,ts = [W.enc] /\ WkOk W /\ ∀ p,H p = none -> Q (.ref p) (up3 H p (.lst ((lkW ["with"] W).map orT)))
def spRe : Sp3:=fun ts H Q => ∃ (x : T) (L : List (Str × Str)) (s : Str),ts = [x,.str s] /\ ((∃ a,x = .ref a /\ H a = some (.lst (L.map orT))) \/ x = .tup (L.map orT)) /\ L.length <= 100 /\
 ∀ (p : Addr) (kvs : List (Str × T)),H p = none -> (∀ z,(look3 z kvs).isSome = true ↔ RT (fun a b => (a,b) ∈ L) s z) -> Q (.ref p) (up3 H p (.dct kvs))
def spTo : Sp3:=fun ts H Q => ∃ (W : Wk) (t : Str),ts = [W.enc,.str t] /\ WkOk W /\ ∀ (p : Addr) (kvs : List (Str × T)),H p = none -> (∀ z,(look3 z kvs).isSome = true ↔ RT (lkR ["with"] W) t z) -> Q (.ref p) (up3 H p (.dct kvs))
def spFr : Sp3:=fun ts H Q => ∃ (W : Wk) (t : Str),ts = [W.enc,.str t] /\ WkOk W /\ ∀ (p : Addr) (kvs : List (Str × T)),H p = none -> (∀ z,(look3 z kvs).isSome = true ↔ RT (lkR ["with"] W) z t) -> Q (.ref p) (up3 H p (.dct kvs))
def spIb : Sp3:=fun ts H Q => ∃ (W : Wk) (a b : Addr) (ka kb : List (Str × T)),ts = [W.enc,.ref a,.ref b] /\ WkOk W /\ H a = some (.dct ka) /\ H b = some (.dct kb) /\ Q (sT ((W.tasks.map (·.1)).filter fun x => (look3 x ka).isSome && (look3 x kb).isSome)) H
def spIf : Sp3:=fun ts H Q => ∃ (W : Wk) (a b : Addr) (ka kb : List (Str × T)),ts = [W.enc,.ref a,.ref b] /\ WkOk W /\ H a = some (.dct ka) /\ H b = some (.dct kb) /\ Q (sT ((W.tasks.map (·.1)).filter fun x => (look3 x ka).isSome && !(look3 x kb).isSome)) H
def spGo : Sp3:=fun ts H Q => ∃ (W : Wk) (t : Str),ts = [W.enc,.str t] /\ WkOk W /\ Q (sT (grpW W t)) H
def spGs : Sp3:=fun ts H Q => ∃ W : Wk,ts = [W.enc] /\ WkOk W /\ Q (.tup ((gpsW W).map sT)) H
def spAh : Sp3:=fun ts H Q => ∃ (W : Wk) (t : Str),ts = [W.enc,.str t] /\ WkOk W /\ Q (sT (ahdW W t)) H
def spBe : Sp3:=fun ts H Q => ∃ (W : Wk) (t : Str),ts = [W.enc,.str t] /\ WkOk W /\ Q (sT (bhdW W t)) H
abbrev N_links_of : List Str:=["works","links","word","one","other"]
theorem sc_links_of : FnScope N_links_of ["works"] (defScope (top 1)):=sc_mk
theorem ok_links_of {f : Addr} {fd : FuncData} (g : G3 K mg "links_of" (top 1) ["works"] f fd) (B : Bl mg) : Cal P w K mg base 1 "links_of" (top 1) ["works"] spLk:=by
 refine ⟨f,fd,g,?_⟩
 refine fn3 g.fn sc_links_of (fun ts H Q h => ?_) (fun cdv A outer s H E ts H3 Q hr h => ?_)
 ·
  obtain ⟨W,rfl,_⟩:=h; rfl
 ·
  have hu30:=Room.u30 hr
  have hu31:=Room.u31 hr
  have hu1:=Room.u1 hr
  obtain ⟨⟨tk,ors,prs,row⟩,rfl,hW,k⟩:=h
  refine ⟨_,(ss3_cons (s3_set (i:=1) sc_links_of.nd (e3_callTy c3_list rfl B.list_ bt_list (a3_cons (e3_ix ix3 (v3 0) c3_int) a3_nil)))
    (ss3_cons (s3_for PassesOwn.never rfl (i3_tup (e3_ix ix3 (v3 0) c3_int)) (g3_tup (n:=3) rfl (gs3_cons (g3_name (i:=2) sc_links_of.nd) (gs3_cons (g3_name (i:=3) sc_links_of.nd) (gs3_cons (g3_name (i:=4) sc_links_of.nd) gs3_nil)))) (ss3_one (s3_if (t3_cmp (o3_eq hu30) (v3 2) c3_str) (ss3_cons (s3_expr (e3_bm PySem.F.plainAttrs_list PySem.F.slot_list_append PySem.F.type_list_append m3_append (v3 1) (a3_cons (e3_tup (a3_cons (v3 3) (a3_cons (v3 4) a3_nil))) a3_nil)))
      (ss3_one (s3_expr (e3_bm PySem.F.plainAttrs_list PySem.F.slot_list_append PySem.F.type_list_append m3_append (v3 1) (a3_cons (e3_tup (a3_cons (v3 4) (a3_cons (v3 3) a3_nil))) a3_nil))))) ss3_nil)))
    (ss3_one (s3_ret (v3 1))))),?_⟩
  rw [show start3 N_links_of [Wk.enc ⟨tk,ors,prs,row⟩] = [some (T.tup [T.tup (tk.map tkT),T.tup (ors.map orT),T.tup (prs.map prT),T.tup (row.map T.str)]),none,none,none,none] from rfl]
  have hsz : sizeLine = 16777216:=rfl
  have os28 : ors.length <= 28:=hW.os
  have ps12 : prs.length <= 12:=hW.ps
  walk_at "rd"
  intro p hp
  refine iter_pre prT prs (fun A σ H => ∃ (v2 v3 v4 : Option T),σ = [some (T.tup [T.tup (tk.map tkT),T.tup (ors.map orT),T.tup (prs.map prT),T.tup (row.map T.str)]),some (.ref p),v2,v3,v4] /\ H = up3 H3 p (.lst ((ors ++ A.flatMap (lkP ["with"])).map orT))) ⟨none,none,none,rfl,by simp⟩ ?_ ?_
  ·
   rintro σ H ⟨v2,v3,v4,rfl,rfl⟩
   refine ⟨trivial,?_⟩
   walk_at "rd"
   exact Fin3.of Sub3.refl (k p hp)
  ·
   rintro A ⟨w,a,b⟩ B σ H N e ⟨v2,v3,v4,rfl,rfl⟩ hN
   have hl:=lkF_len ["with"] A
   have hA : A.length <= 12:=by
    have:=congrArg List.length e
    simp only [List.length_append,List.length_cons] at this
    omega
   have hl2 : (ors ++ A.flatMap (lkP ["with"])).length <= 52:=by rw [List.length_append]; omega
   have fin : N [some (T.tup [T.tup (tk.map tkT),T.tup (ors.map orT),T.tup (prs.map prT),T.tup (row.map T.str)]),some (.ref p),some (.str w),some (.str a),some (.str b)] (up3 H3 p (.lst ((ors ++ A.flatMap (lkP ["with"])).map orT ++ (lkP ["with"] (w,a,b)).map orT))):=hN _ _ ⟨_,_,_,rfl,by rw [List.flatMap_append,<- List.append_assoc,List.map_append]; simp⟩
   generalize ors ++ A.flatMap (lkP ["with"]) = cur at fin hl2
   replace fin:=Box.mk fin
   refine ⟨trivial,?_⟩
   clear hN e k hW hl
   simp only [prT]
   walk_at "rd"
   refine ⟨trivial,?_⟩
   by_cases hw : w = "with"
   ·
    subst hw
    have e1 : lkP ["with"] ("with",a,b) = [(a,b),(b,a)]:=by unfold lkP; simp
    rw [e1] at fin
    simp only [decide_true,if_true]
    refine ⟨⟨trivial,trivial⟩,by omega,by omega,⟨trivial,trivial⟩,by omega,by simp; omega,?_⟩
    have fo:=fin.out
    simp only [List.map_cons,List.map_nil,orT] at fo
    rw [List.append_assoc]
    exact fo
   ·
    have e1 : lkP ["with"] (w,a,b) = []:=by unfold lkP; simp [hw]
    rw [e1,List.map_nil,List.append_nil] at fin
    simp only [hw,decide_false,Bool.false_eq_true,if_false]
    exact fin.out
abbrev N_reached : List Str:=["links","start","found","grown","one","other"]
theorem sc_reached : FnScope N_reached ["links","start"] (defScope (top 2)):=sc_mk
theorem ok_reached {f : Addr} {fd : FuncData} (g : G3 K mg "reached" (top 2) ["links","start"] f fd) (B : Bl mg) : Cal P w K mg base 1 "reached" (top 2) ["links","start"] spRe:=by
 refine ⟨f,fd,g,?_⟩
 refine fn3 g.fn sc_reached (fun ts H Q h => ?_) (fun cdv A outer s H E ts H3 Q hr h => ?_)
 ·
  obtain ⟨x,L,s,rfl,_⟩:=h; rfl
 ·
  have hu30:=Room.u30 hr
  have hu31:=Room.u31 hr
  have hu1:=Room.u1 hr
  obtain ⟨x,L,s0,rfl,hx,hL,k⟩:=h
  refine ⟨_,(ss3_cons (s3_set (i:=2) sc_reached.nd (e3_disp1 (v3 1) c3_bl))
    (ss3_cons (s3_set (i:=3) sc_reached.nd c3_bl)
    (ss3_cons (s3_while PassesOwn.never (t3_val (v3 3)) (ss3_cons (s3_set (i:=3) sc_reached.nd c3_bl)
     (ss3_one (s3_for PassesOwn.never rfl (i3_seqV 0) (g3_tup (n:=2) rfl (gs3_cons (g3_name (i:=4) sc_reached.nd) (gs3_cons (g3_name (i:=5) sc_reached.nd) gs3_nil))) (ss3_one (s3_if (PW3.pt (w3_and (t3_din hu1 (v3 4) (v3 2)) (w3_and1 (t3_dnotin hu1 (v3 5) (v3 2))))) (ss3_cons (s3_dput hu1 (v3 2) (v3 5) c3_bl)
       (ss3_one (s3_set (i:=3) sc_reached.nd c3_bl))) ss3_nil))))))
    (ss3_one (s3_ret (v3 2)))))),?_⟩
  rw [show start3 N_reached [x,T.str s0] = [some (x),some (T.str s0),none,none,none,none] from rfl]
  have hsz : sizeLine = 16777216:=rfl
  walk_at "rd"
  intro p hp
  refine ⟨trivial,?_⟩
  rw [dF_one]
  refine ⟨fun m σ H => ∃ (F : List Str) (g : Bool) (v4 v5 : Option T),σ = [some x,some (.str s0),some (.ref p),some (.bl g),v4,v5] /\ H = up3 H3 p (.dct (dF F)) /\ s0 ∈ F /\ F.Nodup /\ (∀ z ∈ F,RT (fun a b => (a,b) ∈ L) s0 z) /\ (g = false -> ∀ a b,(a,b) ∈ L -> a ∈ F -> b ∈ F) /\ m = 2 * (L.length + 1 - F.length) + (if g then 1 else 0),
   ⟨_,[s0],true,none,none,rfl,rfl,List.mem_cons_self,by simp,(fun z hz => by rw [List.mem_singleton.mp hz]; exact .refl),(fun z => nomatch z),rfl⟩,?_⟩
  have bound : ∀ F : List Str,F.Nodup -> (∀ z ∈ F,RT (fun a b => (a,b) ∈ L) s0 z) -> F.length <= L.length + 1:=fun F nd hF => by
   have:=nd_len (l:=F) (m:=s0 :: L.map (·.2)) nd fun z hz => by
    cases hF z hz with
    | refl => exact List.mem_cons_self
    | step _ r => exact List.mem_cons_of_mem _ (List.mem_map.mpr ⟨_,r,rfl⟩)
   simpa using this
  rintro m σ H ⟨F,g,v4,v5,rfl,rfl,hs,nd,hR,hg,rfl⟩
  walk_at "rd"
  cases g with
  | false =>
   simp only [Bool.false_eq_true,if_false]
   refine Fin3.of Sub3.refl (k p _ hp fun z => ?_)
   rw [dF_look,decide_eq_true_iff]
   exact ⟨hR z,fun h => rt_in hs (hg rfl) h⟩
  | true =>
   simp only [if_true]
   have hx' : (∃ a,x = .ref a /\ up3 H3 p (.dct (dF F)) a = some (.lst (L.map orT))) \/ x = .tup (L.map orT):=by
    rcases hx with ⟨a,rfl,e⟩ | e
    ·
     exact .inl ⟨a,rfl,by rw [up3_ne (ne3n e hp)]; exact e⟩
    ·
     exact .inr e
   refine seq_walk hx' fun still hst => ?_
   have hst' : ∀ F',still (up3 H3 p (.dct (dF F'))):=by
    rcases hst with rfl | ⟨a,rfl,e⟩
    ·
     exact fun _ => trivial
    ·
     have hpa : a ≠ p:=fun z => by subst z; rw [up3_same] at e; cases e
     rw [up3_ne hpa] at e
     exact fun F' => .inl (by rw [up3_ne hpa]; exact e)
   refine iter_pre orT L (fun A σ H => ∃ (F' : List Str) (g' : Bool) (v4 v5 : Option T),σ = [some x,some (.str s0),some (.ref p),some (.bl g'),v4,v5] /\ H = up3 H3 p (.dct (dF F')) /\ s0 ∈ F' /\ F'.Nodup /\ (∀ z ∈ F',RT (fun a b => (a,b) ∈ L) s0 z) /\ (g' = false -> F' = F /\ ∀ o ∈ A,o.1 ∈ F -> o.2 ∈ F) /\ (g' = true -> F.length < F'.length)) ⟨F,false,v4,v5,rfl,rfl,hs,nd,hR,fun _ => ⟨rfl,(fun _ h => nomatch h)⟩,(fun z => nomatch z)⟩ ?_ ?_
   ·
    rintro σ H ⟨F',g',v4,v5,rfl,rfl,hs',nd',hR',h1,h2⟩
    refine ⟨hst' F',?_⟩
    have b1:=bound F nd hR
    have b2:=bound F' nd' hR'
    cases g' with
    | true =>
     have:=h2 rfl
     exact ⟨_,by simp only [if_true]; omega,F',true,v4,v5,rfl,rfl,hs',nd',hR',(fun z => nomatch z),rfl⟩
    | false =>
     obtain ⟨e,hc⟩:=h1 rfl
     subst e
     exact ⟨_,by simp,F',false,v4,v5,rfl,rfl,hs',nd',hR',fun _ a b hab ha => hc (a,b) hab ha,rfl⟩
   ·
    rintro A ⟨a,b⟩ B σ H N e ⟨F',g',v4,v5,rfl,rfl,hs',nd',hR',h1,h2⟩ hN
    refine ⟨hst' F',?_⟩
    have hab : (a,b) ∈ L:=by rw [e]; simp
    have b2:=bound F' nd' hR'
    have l1:=dF_look a F'
    have l2:=dF_look b F'
    have l3:=dF_len F'
    have no : ¬ (a ∈ F' /\ b ∉ F') -> N [some x,some (.str s0),some (.ref p),some (.bl g'),some (.str a),some (.str b)] (up3 H3 p (.dct (dF F'))):=fun hno => hN _ _ ⟨F',g',_,_,rfl,rfl,hs',nd',hR',fun hg' => by
     obtain ⟨e1,hc⟩:=h1 hg'
     subst e1
     refine ⟨rfl,fun o ho => ?_⟩
     rcases List.mem_append.mp ho with ho | ho
     ·
      exact hc o ho
     ·
      rw [List.mem_singleton.mp ho]
      intro ha
      exact Classical.byContradiction fun hb => hno ⟨ha,hb⟩,h2⟩
    have yes : a ∈ F' -> b ∉ F' -> N [some x,some (.str s0),some (.ref p),some (.bl true),some (.str a),some (.str b)] (up3 H3 p (.dct (put3 b (T.bl true) (dF F')))):=fun ha hb => by
     rw [dF_put hb]
     refine hN _ _ ⟨F' ++ [b],true,_,_,rfl,rfl,List.mem_append_left _ hs',nd_snoc nd' hb,fun z hz => ?_,(fun z => nomatch z),fun _ => ?_⟩
     ·
      rcases List.mem_append.mp hz with hz | hz
      ·
       exact hR' z hz
      ·
       rw [List.mem_singleton.mp hz]
       exact .step (hR' a ha) hab
     ·
      rw [List.length_append,List.length_singleton]
      cases g' with
      | true => have:=h2 rfl; omega
      | false => obtain ⟨e1,_⟩:=h1 rfl; subst e1; omega
    replace no:=Box.mk no
    replace yes:=Box.mk yes
    clear hN h1 h2 hst' hst bound k hx hx' hg hR hR' nd nd' hs hs' e hab
    simp only [orT]
    walk_at "rd"
    refine ⟨trivial,?_⟩
    by_cases ha : a ∈ F'
    ·
     simp only [ha,decide_true,if_true]
     by_cases hb : b ∈ F'
     ·
      simp only [hb,decide_true,Bool.not_true,Bool.false_eq_true,if_false]
      exact no.out fun z => z.2 hb
     ·
      simp only [hb,decide_false,Bool.not_false,if_true]
      exact ⟨by omega,yes.out ha hb⟩
    ·
     simp only [ha,decide_false,Bool.false_eq_true,if_false]
     exact no.out fun z => ha z.1
abbrev N_led_to : List Str:=["works","task"]
theorem sc_led_to : FnScope N_led_to N_led_to (defScope (top 3)):=sc_mk
theorem ok_led_to {f : Addr} {fd : FuncData} (g : G3 K mg "led_to" (top 3) N_led_to f fd) (B : Bl mg) (F_reached : Cal P w K mg base 1 "reached" (top 2) ["links","start"] spRe) (F_links_of : Cal P w K mg base 1 "links_of" (top 1) ["works"] spLk) : Cal P w K mg base 2 "led_to" (top 3) N_led_to spTo:=by
 refine ⟨f,fd,g,?_⟩
 refine fn3 g.fn sc_led_to (fun ts H Q h => ?_) (fun cdv A outer s H E ts H3 Q hr h => ?_)
 ·
  obtain ⟨W,t,rfl,_⟩:=h; rfl
 ·
  have hu30:=Room.u30 hr
  have hu31:=Room.u31 hr
  have hu1:=Room.u1 hr
  obtain ⟨W,t,rfl,hW,k⟩:=h
  refine ⟨_,(ss3_one (s3_ret (e3_cl F_reached hr rfl (a3_cons (e3_cl F_links_of hr rfl (a3_cons (v3 0) a3_nil)) (a3_cons (v3 1) a3_nil))))),?_⟩
  rw [show start3 N_led_to [W.enc,T.str t] = [some (W.enc),some (T.str t)] from rfl]
  walk_at "rd"
  refine ⟨W,rfl,hW,fun q hq => ?_⟩
  try dsimp only
  refine ⟨_,lkW ["with"] W,t,rfl,.inl ⟨q,rfl,up3_same⟩,Nat.le_trans (lkW_len hW) (by decide),fun p kvs hp hk => ?_⟩
  obtain ⟨n1,hp⟩:=up3_none hp
  refine Fin3.of (fun a o e => ?_) (k p kvs hp hk)
  by_cases h : a = p
  ·
   subst h; rw [up3_same] at e ⊢; exact e
  ·
   rw [up3_ne h] at e ⊢
   rw [up3_ne (ne3n e hq)]
   exact e
abbrev N_led_from : List Str:=["works","task"]
theorem sc_led_from : FnScope N_led_from N_led_from (defScope (top 4)):=sc_mk
theorem ok_led_from {f : Addr} {fd : FuncData} (g : G3 K mg "led_from" (top 4) N_led_from f fd) (B : Bl mg) (F_reached : Cal P w K mg base 1 "reached" (top 2) ["links","start"] spRe) (F_links_of : Cal P w K mg base 1 "links_of" (top 1) ["works"] spLk) : Cal P w K mg base 2 "led_from" (top 4) N_led_from spFr:=by
 refine ⟨f,fd,g,?_⟩
 refine fn3 g.fn sc_led_from (fun ts H Q h => ?_) (fun cdv A outer s H E ts H3 Q hr h => ?_)
 ·
  obtain ⟨W,t,rfl,_⟩:=h; rfl
 ·
  have hu30:=Room.u30 hr
  have hu31:=Room.u31 hr
  have hu1:=Room.u1 hr
  obtain ⟨W,t,rfl,hW,k⟩:=h
  refine ⟨_,(ss3_one (s3_ret (e3_cl F_reached hr rfl (a3_cons (e3_comp rfl (compSc (n0:=(defScope (top 4)).names) (N:=N_led_from) (N':=["one","other"]) (nt:=2) (cap:=[]) rfl rfl (by decide +kernel)) (i3_list (e3_cl F_links_of hr rfl (a3_cons (v3 0) a3_nil))) (fun cl pins s H C0 fp => ⟨(g3_tup (n:=2) rfl (gs3_cons (g3_name (i:=0) (show List.Nodup [("one" : Str),("other" : Str)] by decide +kernel)) (gs3_cons (g3_name (i:=1) (show List.Nodup [("one" : Str),("other" : Str)] by decide +kernel)) gs3_nil))),if3_nil,(e3_tup (a3_cons (v3 1) (a3_cons (v3 0) a3_nil)))⟩)) (a3_cons (v3 1) a3_nil))))),?_⟩
  rw [show start3 N_led_from [W.enc,T.str t] = [some (W.enc),some (T.str t)] from rfl]
  have hsz : sizeLine = 16777216:=rfl
  have hl:=lkW_len (ws:=["with"]) hW
  walk_at "rd"
  refine ⟨W,rfl,hW,fun q hq => ?_⟩
  try dsimp only
  rw [q_liq,up3_same,q_liO]
  walk_at "cp"
  refine cIter_pre orT (lkW ["with"] W) (fun A ys σ H => H = up3 H3 q (.lst ((lkW ["with"] W).map orT)) /\ ys = (A.map swp).map orT /\ ∃ v0 v1 : Option T,σ = [v0,v1]) ⟨rfl,rfl,none,none,rfl⟩ ?_ ?_
  ·
   rintro ys σ H ⟨rfl,rfl,v0,v1,rfl⟩
   refine ⟨.inl up3_same,by rw [List.length_map,List.length_map]; omega,fun r hr => ?_⟩
   obtain ⟨n0,hr0⟩:=up3_none hr
   refine ⟨_,(lkW ["with"] W).map swp,t,rfl,.inl ⟨r,rfl,up3_same⟩,by rw [List.length_map]; omega,fun p kvs hp hk => ?_⟩
   obtain ⟨n1,hp⟩:=up3_none hp
   obtain ⟨n2,hp⟩:=up3_none hp
   refine Fin3.of (fun a o e => ?_) (k p kvs hp fun z => (hk z).trans rt_swp)
   by_cases h : a = p
   ·
    subst h; rw [up3_same] at e ⊢; exact e
   ·
    rw [up3_ne h] at e ⊢
    rw [up3_ne (ne3n e hr0),up3_ne (ne3n e hq)]
    exact e
  ·
   rintro A ⟨a,b⟩ B ys σ H N e ⟨rfl,rfl,v0,v1,rfl⟩ hN
   have hA : A.length <= 52:=by
    have:=congrArg List.length e
    simp only [List.length_append,List.length_cons] at this
    omega
   refine ⟨.inl up3_same,?_⟩
   have fin:=hN (((A.map swp).map orT) ++ [orT (b,a)]) [some (.str a),some (.str b)] _ ⟨rfl,by rw [List.map_append,List.map_append]; rfl,_,_,rfl⟩
   replace fin:=Box.mk fin
   clear hN k e
   simp only [orT] at fin ⊢
   walk_at "rd"
   exact ⟨trivial,by omega,by omega,fin.out⟩
abbrev N_in_both : List Str:=["works","found","other"]
theorem sc_in_both : FnScope N_in_both N_in_both (defScope (top 5)):=sc_mk
theorem ok_in_both {f : Addr} {fd : FuncData} (g : G3 K mg "in_both" (top 5) N_in_both f fd) (B : Bl mg) : Cal P w K mg base 1 "in_both" (top 5) N_in_both spIb:=by
 refine ⟨f,fd,g,?_⟩
 refine fn3 g.fn sc_in_both (fun ts H Q h => ?_) (fun cdv A outer s H E ts H3 Q hr h => ?_)
 ·
  obtain ⟨W,a,b,ka,kb,rfl,_⟩:=h; rfl
 ·
  have hu30:=Room.u30 hr
  have hu31:=Room.u31 hr
  have hu1:=Room.u1 hr
  obtain ⟨⟨tk,ors,prs,row⟩,a,b,ka,kb,rfl,hW,ha,hb,k⟩:=h
  refine ⟨_,(ss3_one (s3_ret (e3_callTy c3_tuple rfl B.tuple_ bt_tuple (a3_cons (e3_comp rfl (compSc (n0:=(defScope (top 5)).names) (N:=N_in_both) (N':=["task","found","other"]) (nt:=1) (cap:=[1,2]) rfl rfl (by decide +kernel)) (i3_tup (e3_ix ix3 (v3 0) c3_int)) (fun cl pins s H C0 fp => ⟨(g3_name (i:=0) (show List.Nodup [("task" : Str),("found" : Str),("other" : Str)] by decide +kernel)),(if3_one (PW3.pt (w3_and (t3_din hu1 (e3_ix ix3 (v3 0) c3_int) (v3 1)) (w3_and1 (t3_din hu1 (e3_ix ix3 (v3 0) c3_int) (v3 2)))))),(e3_ix ix3 (v3 0) c3_int)⟩)) a3_nil)))),?_⟩
  rw [show start3 N_in_both [Wk.enc ⟨tk,ors,prs,row⟩,T.ref a,T.ref b] = [some (T.tup [T.tup (tk.map tkT),T.tup (ors.map orT),T.tup (prs.map prT),T.tup (row.map T.str)]),some (T.ref a),some (T.ref b)] from rfl]
  have hsz : sizeLine = 16777216:=rfl
  have t8 : tk.length <= 8:=hW.t8
  walk_at "rd"
  walk_at "cp"
  refine cIter_filt tkT (fun t => T.str t.1) (fun t => (look3 t.1 ka).isSome && (look3 t.1 kb).isSome) tk [some (.ref a),some (.ref b)] trivial (by omega) (fun t ht Q' hq => ?_) (fun t ht hpt Q' hq => ?_) (fun p hp => ?_)
  ·
   obtain ⟨nm,len,ks⟩:=t
   simp only [tkT]
   dsimp only at hq
   cases e1 : (look3 nm ka).isSome <;> cases e2 : (look3 nm kb).isSome <;> simp only [e1,e2,Bool.and_true,Bool.and_false,Bool.not_true,Bool.not_false,Bool.true_and,Bool.false_and] at hq <;> walk_at "rd"
  ·
   simp only [tkT]
   walk_at "rd"
   try exact hq
  ·
   walk_at "rd"
   refine Fin3.of (Sub3.new hp) ?_
   have e : (tk.filter fun t => (look3 t.1 ka).isSome && (look3 t.1 kb).isSome).map (fun t => T.str t.1) = ((tk.map (·.1)).filter fun x => (look3 x ka).isSome && (look3 x kb).isSome).map T.str:=by
    rw [List.filter_map,List.map_map]
    rfl
   rw [e]
   exact k
abbrev N_group_of : List Str:=["works","task"]
theorem sc_group_of : FnScope N_group_of N_group_of (defScope (top 7)):=sc_mk
theorem ok_group_of {f : Addr} {fd : FuncData} (g : G3 K mg "group_of" (top 7) N_group_of f fd) (B : Bl mg) (F_in_both : Cal P w K mg base 1 "in_both" (top 5) ["works","found","other"] spIb) (F_led_to : Cal P w K mg base 2 "led_to" (top 3) N_group_of spTo) (F_led_from : Cal P w K mg base 2 "led_from" (top 4) N_group_of spFr) : Cal P w K mg base 3 "group_of" (top 7) N_group_of spGo:=by
 refine ⟨f,fd,g,?_⟩
 refine fn3 g.fn sc_group_of (fun ts H Q h => ?_) (fun cdv A outer s H E ts H3 Q hr h => ?_)
 ·
  obtain ⟨W,t,rfl,_⟩:=h; rfl
 ·
  have hu30:=Room.u30 hr
  have hu31:=Room.u31 hr
  have hu1:=Room.u1 hr
  obtain ⟨W,t,rfl,hW,k⟩:=h
  refine ⟨_,(ss3_one (s3_ret (e3_cl F_in_both hr rfl (a3_cons (v3 0) (a3_cons (e3_cl F_led_to hr rfl (a3_cons (v3 0) (a3_cons (v3 1) a3_nil))) (a3_cons (e3_cl F_led_from hr rfl (a3_cons (v3 0) (a3_cons (v3 1) a3_nil))) a3_nil)))))),?_⟩
  rw [show start3 N_group_of [W.enc,T.str t] = [some (W.enc),some (T.str t)] from rfl]
  walk_at "rd"
  refine ⟨W,t,rfl,hW,fun p ka hp hka => ?_⟩
  try dsimp only
  refine ⟨W,t,rfl,hW,fun q kb hq hkb => ?_⟩
  obtain ⟨n1,hq0⟩:=up3_none hq
  try dsimp only
  refine ⟨W,p,q,ka,kb,rfl,hW,by rw [up3_ne (Ne.symm n1)]; exact up3_same,up3_same,?_⟩
  refine Fin3.of (fun a o e => by rw [up3_ne (ne3n e hq0),up3_ne (ne3n e hp)]; exact e) ?_
  rw [show (W.tasks.map (·.1)).filter (fun x => (look3 x ka).isSome && (look3 x kb).isSome) = grpW W t from ?_]
  ·
   exact k
  ·
   unfold grpW
   refine List.filter_congr fun x hx => ?_
   rw [Bool.eq_iff_iff,Bool.and_eq_true,@decide_eq_true_iff _ (Classical.propDecidable _),hka x,hkb x]
abbrev N_groups_of : List Str:=["works","groups","task","group"]
theorem sc_groups_of : FnScope N_groups_of ["works"] (defScope (top 8)):=sc_mk
theorem ok_groups_of {f : Addr} {fd : FuncData} (g : G3 K mg "groups_of" (top 8) ["works"] f fd) (B : Bl mg) (F_group_of : Cal P w K mg base 3 "group_of" (top 7) ["works","task"] spGo) : Cal P w K mg base 4 "groups_of" (top 8) ["works"] spGs:=by
 refine ⟨f,fd,g,?_⟩
 refine fn3 g.fn sc_groups_of (fun ts H Q h => ?_) (fun cdv A outer s H E ts H3 Q hr h => ?_)
 ·
  obtain ⟨W,rfl,_⟩:=h; rfl
 ·
  have hu30:=Room.u30 hr
  have hu31:=Room.u31 hr
  have hu1:=Room.u1 hr
  obtain ⟨⟨tk,ors,prs,row⟩,rfl,hW,k⟩:=h
  refine ⟨_,(ss3_cons (s3_set (i:=1) sc_groups_of.nd (e3_lst a3_nil))
    (ss3_cons (s3_for PassesOwn.never rfl (i3_tup (e3_ix ix3 (v3 0) c3_int)) (g3_name (i:=2) sc_groups_of.nd) (ss3_cons (s3_set (i:=3) sc_groups_of.nd (e3_cl F_group_of hr rfl (a3_cons (v3 0) (a3_cons (e3_ix ix3 (v3 2) c3_int) a3_nil))))
     (ss3_one (s3_if (t3_cmp (o3_eq hu30) (e3_ix ix3 (v3 3) c3_int) (e3_ix ix3 (v3 2) c3_int)) (ss3_one (s3_expr (e3_bm PySem.F.plainAttrs_list PySem.F.slot_list_append PySem.F.type_list_append m3_append (v3 1) (a3_cons (v3 3) a3_nil)))) ss3_nil))))
    (ss3_one (s3_ret (e3_callTy c3_tuple rfl B.tuple_ bt_tuple (a3_cons (v3 1) a3_nil)))))),?_⟩
  rw [show start3 N_groups_of [Wk.enc ⟨tk,ors,prs,row⟩] = [some (T.tup [T.tup (tk.map tkT),T.tup (ors.map orT),T.tup (prs.map prT),T.tup (row.map T.str)]),none,none,none] from rfl]
  have hsz : sizeLine = 16777216:=rfl
  have t8 : tk.length <= 8:=hW.t8
  walk_at "rd"
  refine ⟨by omega,fun p hp => ?_⟩
  refine iter_pre tkT tk (fun A σ H => ∃ (v2 v3 : Option T),σ = [some (T.tup [T.tup (tk.map tkT),T.tup (ors.map orT),T.tup (prs.map prT),T.tup (row.map T.str)]),some (.ref p),v2,v3] /\ H = up3 H3 p (.lst ((((A.map (·.1)).filter fun t => decide ((grpW ⟨tk,ors,prs,row⟩ t).head? = some t)).map (grpW ⟨tk,ors,prs,row⟩)).map sT))) ⟨none,none,rfl,rfl⟩ ?_ ?_
  ·
   rintro σ H ⟨v2,v3,rfl,rfl⟩
   refine ⟨trivial,?_⟩
   walk_at "rd"
   exact Fin3.of (Sub3.new hp) k
  ·
   rintro A ⟨nm,len,ks⟩ B σ H N e ⟨v2,v3,rfl,rfl⟩ hN
   have hA : A.length <= 8:=by
    have:=congrArg List.length e
    simp only [List.length_append,List.length_cons] at this
    omega
   have hm : nm ∈ (⟨tk,ors,prs,row⟩ : Wk).tasks.map (·.1):=by
    show nm ∈ tk.map (·.1)
    rw [e]; simp
   have hg:=grpW_self hm
   have hfl : (((A.map (·.1)).filter fun t => decide ((grpW ⟨tk,ors,prs,row⟩ t).head? = some t)).map (grpW ⟨tk,ors,prs,row⟩)).length <= 8:=by
    rw [List.length_map]
    exact Nat.le_trans (List.length_filter_le _ _) (by rw [List.length_map]; exact hA)
   have fin : ∀ v2 v3,N [some (T.tup [T.tup (tk.map tkT),T.tup (ors.map orT),T.tup (prs.map prT),T.tup (row.map T.str)]),some (.ref p),v2,v3] (up3 H3 p (.lst ((((A.map (·.1)).filter fun t => decide ((grpW ⟨tk,ors,prs,row⟩ t).head? = some t)).map (grpW ⟨tk,ors,prs,row⟩)).map sT ++ (if (grpW ⟨tk,ors,prs,row⟩ nm).head? = some nm then [sT (grpW ⟨tk,ors,prs,row⟩ nm)] else [])))):=fun v2 v3 => by
    refine hN _ _ ⟨v2,v3,rfl,?_⟩
    rw [List.map_append,List.filter_append,List.map_append,List.map_append]
    by_cases h : (grpW ⟨tk,ors,prs,row⟩ nm).head? = some nm
    ·
     simp [h]
    ·
     simp [h]
   generalize (((A.map (·.1)).filter fun t => decide ((grpW ⟨tk,ors,prs,row⟩ t).head? = some t)).map (grpW ⟨tk,ors,prs,row⟩)) = cur at fin hfl
   replace fin:=Box.mk fin
   refine ⟨trivial,?_⟩
   clear hN e k
   simp only [tkT]
   walk_at "rd"
   refine ⟨⟨tk,ors,prs,row⟩,nm,rfl,hW,?_⟩
   cases eg : grpW ⟨tk,ors,prs,row⟩ nm with
   | nil => rw [eg] at hg; cases hg
   | cons y r =>
    rw [eg] at fin
    clear hg hm
    simp only [sT,List.map_cons] at fin ⊢
    walk_at "rd"
    by_cases hy : y = nm
    ·
     simp only [hy,decide_true,if_true,List.head?_cons] at fin ⊢
     exact ⟨⟨trivial,trivial⟩,by omega,fin.out _ _⟩
    ·
     have hy' : ¬ some y = some nm:=fun z => hy (Option.some.inj z)
     simp only [hy,hy',decide_false,Bool.false_eq_true,if_false,List.head?_cons,List.append_nil] at fin ⊢
     exact fin.out _ _
abbrev N_in_first_alone : List Str:=["works","found","other"]
theorem sc_in_first_alone : FnScope N_in_first_alone N_in_first_alone (defScope (top 6)):=sc_mk
theorem ok_in_first_alone {f : Addr} {fd : FuncData} (g : G3 K mg "in_first_alone" (top 6) N_in_first_alone f fd) (B : Bl mg) : Cal P w K mg base 1 "in_first_alone" (top 6) N_in_first_alone spIf:=by
 refine ⟨f,fd,g,?_⟩
 refine fn3 g.fn sc_in_first_alone (fun ts H Q h => ?_) (fun cdv A outer s H E ts H3 Q hr h => ?_)
 ·
  obtain ⟨W,a,b,ka,kb,rfl,_⟩:=h; rfl
 ·
  have hu30:=Room.u30 hr
  have hu31:=Room.u31 hr
  have hu1:=Room.u1 hr
  obtain ⟨⟨tk,ors,prs,row⟩,a,b,ka,kb,rfl,hW,ha,hb,k⟩:=h
  refine ⟨_,(ss3_one (s3_ret (e3_callTy c3_tuple rfl B.tuple_ bt_tuple (a3_cons (e3_comp rfl (compSc (n0:=(defScope (top 6)).names) (N:=N_in_first_alone) (N':=["task","found","other"]) (nt:=1) (cap:=[1,2]) rfl rfl (by decide +kernel)) (i3_tup (e3_ix ix3 (v3 0) c3_int)) (fun cl pins s H C0 fp => ⟨(g3_name (i:=0) (show List.Nodup [("task" : Str),("found" : Str),("other" : Str)] by decide +kernel)),(if3_one (PW3.pt (w3_and (t3_din hu1 (e3_ix ix3 (v3 0) c3_int) (v3 1)) (w3_and1 (t3_dnotin hu1 (e3_ix ix3 (v3 0) c3_int) (v3 2)))))),(e3_ix ix3 (v3 0) c3_int)⟩)) a3_nil)))),?_⟩
  rw [show start3 N_in_first_alone [Wk.enc ⟨tk,ors,prs,row⟩,T.ref a,T.ref b] = [some (T.tup [T.tup (tk.map tkT),T.tup (ors.map orT),T.tup (prs.map prT),T.tup (row.map T.str)]),some (T.ref a),some (T.ref b)] from rfl]
  have hsz : sizeLine = 16777216:=rfl
  have t8 : tk.length <= 8:=hW.t8
  walk_at "rd"
  walk_at "cp"
  refine cIter_filt tkT (fun t => T.str t.1) (fun t => (look3 t.1 ka).isSome && !(look3 t.1 kb).isSome) tk [some (.ref a),some (.ref b)] trivial (by omega) (fun t ht Q' hq => ?_) (fun t ht hpt Q' hq => ?_) (fun p hp => ?_)
  ·
   obtain ⟨nm,len,ks⟩:=t
   simp only [tkT]
   dsimp only at hq
   cases e1 : (look3 nm ka).isSome <;> cases e2 : (look3 nm kb).isSome <;> simp only [e1,e2,Bool.and_true,Bool.and_false,Bool.not_true,Bool.not_false,Bool.true_and,Bool.false_and] at hq <;> walk_at "rd"
  ·
   simp only [tkT]
   walk_at "rd"
   try exact hq
  ·
   walk_at "rd"
   refine Fin3.of (Sub3.new hp) ?_
   have e : (tk.filter fun t => (look3 t.1 ka).isSome && !(look3 t.1 kb).isSome).map (fun t => T.str t.1) = ((tk.map (·.1)).filter fun x => (look3 x ka).isSome && !(look3 x kb).isSome).map T.str:=by
    rw [List.filter_map,List.map_map]
    rfl
   rw [e]
   exact k
abbrev N_ahead_of : List Str:=["works","task"]
theorem sc_ahead_of : FnScope N_ahead_of N_ahead_of (defScope (top 9)):=sc_mk
theorem ok_ahead_of {f : Addr} {fd : FuncData} (g : G3 K mg "ahead_of" (top 9) N_ahead_of f fd) (B : Bl mg) (F_in_first_alone : Cal P w K mg base 1 "in_first_alone" (top 6) ["works","found","other"] spIf) (F_led_from : Cal P w K mg base 2 "led_from" (top 4) N_ahead_of spFr) (F_led_to : Cal P w K mg base 2 "led_to" (top 3) N_ahead_of spTo) : Cal P w K mg base 3 "ahead_of" (top 9) N_ahead_of spAh:=by
 refine ⟨f,fd,g,?_⟩
 refine fn3 g.fn sc_ahead_of (fun ts H Q h => ?_) (fun cdv A outer s H E ts H3 Q hr h => ?_)
 ·
  obtain ⟨W,t,rfl,_⟩:=h; rfl
 ·
  have hu30:=Room.u30 hr
  have hu31:=Room.u31 hr
  have hu1:=Room.u1 hr
  obtain ⟨W,t,rfl,hW,k⟩:=h
  refine ⟨_,(ss3_one (s3_ret (e3_cl F_in_first_alone hr rfl (a3_cons (v3 0) (a3_cons (e3_cl F_led_from hr rfl (a3_cons (v3 0) (a3_cons (v3 1) a3_nil))) (a3_cons (e3_cl F_led_to hr rfl (a3_cons (v3 0) (a3_cons (v3 1) a3_nil))) a3_nil)))))),?_⟩
  rw [show start3 N_ahead_of [W.enc,T.str t] = [some (W.enc),some (T.str t)] from rfl]
  walk_at "rd"
  refine ⟨W,t,rfl,hW,fun p ka hp hka => ?_⟩
  try dsimp only
  refine ⟨W,t,rfl,hW,fun q kb hq hkb => ?_⟩
  obtain ⟨n1,hq0⟩:=up3_none hq
  try dsimp only
  refine ⟨W,p,q,ka,kb,rfl,hW,by rw [up3_ne (Ne.symm n1)]; exact up3_same,up3_same,?_⟩
  refine Fin3.of (fun a o e => by rw [up3_ne (ne3n e hq0),up3_ne (ne3n e hp)]; exact e) ?_
  rw [show (W.tasks.map (·.1)).filter (fun x => (look3 x ka).isSome && !(look3 x kb).isSome) = ahdW W t from ?_]
  ·
   exact k
  ·
   unfold ahdW
   refine List.filter_congr fun x hx => ?_
   rw [Bool.eq_iff_iff,Bool.and_eq_true,@decide_eq_true_iff _ (Classical.propDecidable _),hka x,Bool.not_eq_true',<- Bool.not_eq_true,hkb x]
abbrev N_behind_of : List Str:=["works","task"]
theorem sc_behind_of : FnScope N_behind_of N_behind_of (defScope (top 10)):=sc_mk
theorem ok_behind_of {f : Addr} {fd : FuncData} (g : G3 K mg "behind_of" (top 10) N_behind_of f fd) (B : Bl mg) (F_in_first_alone : Cal P w K mg base 1 "in_first_alone" (top 6) ["works","found","other"] spIf) (F_led_to : Cal P w K mg base 2 "led_to" (top 3) N_behind_of spTo) (F_led_from : Cal P w K mg base 2 "led_from" (top 4) N_behind_of spFr) : Cal P w K mg base 3 "behind_of" (top 10) N_behind_of spBe:=by
 refine ⟨f,fd,g,?_⟩
 refine fn3 g.fn sc_behind_of (fun ts H Q h => ?_) (fun cdv A outer s H E ts H3 Q hr h => ?_)
 ·
  obtain ⟨W,t,rfl,_⟩:=h; rfl
 ·
  have hu30:=Room.u30 hr
  have hu31:=Room.u31 hr
  have hu1:=Room.u1 hr
  obtain ⟨W,t,rfl,hW,k⟩:=h
  refine ⟨_,(ss3_one (s3_ret (e3_cl F_in_first_alone hr rfl (a3_cons (v3 0) (a3_cons (e3_cl F_led_to hr rfl (a3_cons (v3 0) (a3_cons (v3 1) a3_nil))) (a3_cons (e3_cl F_led_from hr rfl (a3_cons (v3 0) (a3_cons (v3 1) a3_nil))) a3_nil)))))),?_⟩
  rw [show start3 N_behind_of [W.enc,T.str t] = [some (W.enc),some (T.str t)] from rfl]
  walk_at "rd"
  refine ⟨W,t,rfl,hW,fun p ka hp hka => ?_⟩
  try dsimp only
  refine ⟨W,t,rfl,hW,fun q kb hq hkb => ?_⟩
  obtain ⟨n1,hq0⟩:=up3_none hq
  try dsimp only
  refine ⟨W,p,q,ka,kb,rfl,hW,by rw [up3_ne (Ne.symm n1)]; exact up3_same,up3_same,?_⟩
  refine Fin3.of (fun a o e => by rw [up3_ne (ne3n e hq0),up3_ne (ne3n e hp)]; exact e) ?_
  rw [show (W.tasks.map (·.1)).filter (fun x => (look3 x ka).isSome && !(look3 x kb).isSome) = bhdW W t from ?_]
  ·
   exact k
  ·
   unfold bhdW
   refine List.filter_congr fun x hx => ?_
   rw [Bool.eq_iff_iff,Bool.and_eq_true,@decide_eq_true_iff _ (Classical.propDecidable _),hka x,Bool.not_eq_true',<- Bool.not_eq_true,hkb x]
end
end M
set_option maxHeartbeats 1000000
namespace L3
open PySem PySem.Spec PyProof.Rows L2
section
variable {X : Cx} {pins : List (Addr × Obj)} {σ : L2.St} {H : Hp} {s : Shared}
theorem sum_le {c : Nat} : ∀ {xs : List Nat},(∀ x ∈ xs,x <= c) -> xs.sum <= xs.length * c
 | [],_ => by simp
 | x :: xs,h => by
  have a:=h x List.mem_cons_self
  have b:=sum_le (xs:=xs) fun y hy => h y (List.mem_cons_of_mem _ hy)
  simp only [List.sum_cons,List.length_cons,Nat.succ_mul]
  omega
end
section
variable {X : Cx}
end
end L3
set_option maxHeartbeats 4000000
namespace L3
open PySem PySem.Spec PyProof.Rows L2
section
variable {prog : Program} {w : World} {A : Around} {E : Value -> Shared -> Prop} {s : Shared}
end
end L3
namespace L3
open PySem PySem.Spec PyProof.Rows L2
section
variable {X : Cx} {tg e : Expr} {p p1 p2 pos pos' : Pos}
variable {o : Expr} {to : TE3} {name : Str} {apos cpos : Pos} {m : T -> List T -> Hp3 -> VK3 -> Prop} {Ty id : String}
end
end L3
namespace L3
open PySem PySem.Spec PyProof.Rows L2
section
variable {X : Cx}
def rInsert : V -> List V -> Hp -> VK -> Prop:=fun x vs H Q => ∃ l xs i y,x = .ref l /\ vs = [.int i,y] /\ H l = some (.lst xs) /\ 0 <= i /\ i <= xs.length /\ xs.length < sizeLine /\ Q .non (upd H l (.lst (xs.take i.toNat ++ y :: xs.drop i.toNat)))
theorem mt_insert : MtR X "list.insert" rInsert:=by
 intro pins s σ H x vs v us Q I rx rv h
 obtain ⟨l,xs,i,y,rfl,rfl,hH,h0,h1,hz,q⟩:=h
 cases rx
 obtain ⟨u,u',rfl,ru,ru'⟩:=vals2 rv
 obtain ⟨t,rfl⟩:=ru
 obtain ⟨z,its,n,r,hl,e⟩:=I.lstM hH
 have hsz : sizeLine = 16777216:=rfl
 have hf : ¬ (!Builtin.List.listFitsIndex i) = true:=by
  rw [fitsIndex_both (by omega) (by omega)]
  exact Bool.false_ne_true
 refine call_meets F.slot_list_insert ⟨_,e,rfl⟩ F.entry_list_insert (F.args_list_insert_3 _ _ _) (AutoSeq1.list_insert_list_int_val_1 l its.toArray n i t u' hf (by rw [List.size_toArray]; omega)) ⟨e,?_⟩
 refine ⟨.non,_,I.lset (its':=its.take i.toNat ++ u' :: its.drop i.toNat) hH e ?_ ((r.take _).append (.cons ru' (r.drop _))) ?_,rfl,q⟩
 ·
  dsimp only
  rw [if_neg (by omega),List.size_toArray,Nat.min_eq_left (by omega)]
  apply Array.toList_inj.mp
  simp
  exact List.take_of_length_le (by simp)
 ·
  rw [List.length_append,List.length_cons,List.length_take,List.length_drop]
  omega
def insH (o : Option O3) (a : Addr) (i : Int) (t : T) (H : Hp3) (Q : VK3) : Prop:=match o with
 | some (.lst xs) => (0 <= i /\ i <= xs.length /\ xs.length < sizeLine) /\ Q .non (up3 H a (.lst (xs.take i.toNat ++ t :: xs.drop i.toNat)))
 | _ => False
def r3Ins : T -> List T -> Hp3 -> VK3 -> Prop:=fun x ts H Q => match x,ts with
 | .ref a,[.int i,t] => insH (H a) a i t H Q
 | _,_ => False
theorem q_ins (a : Addr) (i : Int) (t : T) (H : Hp3) (Q : VK3) : r3Ins (.ref a) [.int i,t] H Q = insH (H a) a i t H Q:=rfl
theorem q_insH (xs : List T) (a : Addr) (i : Int) (t : T) (H : Hp3) (Q : VK3) : insH (some (.lst xs)) a i t H Q = ((0 <= i /\ i <= xs.length /\ xs.length < sizeLine) /\ Q .non (up3 H a (.lst (xs.take i.toNat ++ t :: xs.drop i.toNat)))):=rfl
theorem m3_insert : MtR3 X "list.insert" r3Ins:=by
 refine MtR.imp mt_insert ?_
 rintro x xs H Q ⟨tx,ts,H3,Q3,rx,rs,sh,h,k⟩
 cases tx with
 | ref a =>
  cases ts with
  | nil => exact h.elim
  | cons t1 ts =>
   cases ts with
   | nil => cases t1 <;> exact h.elim
   | cons t2 ts =>
    cases ts with
    | cons _ _ => cases t1 <;> exact h.elim
    | nil =>
     cases t1 with
     | int i =>
      rw [q_ins] at h
      cases e : H3 a with
      | none => rw [e] at h; exact h.elim
      | some o =>
       rw [e] at h
       cases o with
       | lst ls =>
        rw [q_insH] at h
        obtain ⟨ys,hH,r⟩:=sh a _ e
        obtain ⟨⟨h1,h2,h3⟩,h'⟩:=h
        obtain ⟨v,v',rfl,rv,rv'⟩:=rs.two'
        refine ⟨a,ys,i,v',rx.ref,by rw [rv.int],hH,h1,by rw [<- r.length]; exact h2,by rw [<- r.length]; exact h3,k _ _ _ _ (wr_tupLe (by rw [hH]; exact trivial)) (sh.wrL hH ((r.take _).append (.cons rv' (r.drop _)))) .ofNon h'⟩
       | _ => exact h.elim
     | _ => exact h.elim
 | _ => exact h.elim
end
end L3
namespace L3
open PySem PySem.Spec PyProof.Rows L2
end L3
namespace L2
open PySem PySem.Spec PyProof.Rows
end L2
namespace L2
open PySem PySem.Spec PyProof.Rows
theorem plain_dul : plainId "dict.update.loop" = true:=by decide +kernel
theorem entry_dul : entryFor table "dict.update.loop" = some Builtin.«dict.update.loop»:=entryFor_of_tree (by kernel_rfl)
section
variable {prog : Program} {w : World} {K : Type} [DecidableEq K] {knd : KeyKind prog w K}
end
end L2
namespace L3
open PySem PySem.Spec PyProof.Rows L2
section
variable {X : Cx}
theorem SimH.newDk {K : PySem.W.Frag} {H : Hp} {H3 : Hp3} {p : Addr} {kvs : List (Str × T)} {vs : List (Key × V)} (s : SimH K H3 H) (hp : H p = none) (r : RepD K H kvs vs) : SimH K (up3 H3 p (.dct kvs)) (upd H p (.dK vs)):=fun a o e => by
 by_cases ha : a = p
 ·
  subst ha
  rw [up3_same] at e; cases e
  exact ⟨vs,upd_same,r.mono (upd_tupLe hp)⟩
 ·
  rw [up3_ne ha] at e
  exact s.new hp a o e
end
end L3
namespace L3
open PySem PySem.Spec PyProof.Rows L2
theorem miss_keysZ : typeLookup (.type "zip") "keys" = pure none:=by rw [typeLookup_type,builtinLookup_eq_fast]; kernel_rfl
theorem zip_getattr_none : typeLookup (.type "zip") "__getattr__" = pure none:=by rw [typeLookup_type,builtinLookup_eq_fast]; kernel_rfl
theorem entry_zip_ga : entryFor table "zip.__getattribute__" = some Builtin.«object.__getattribute__» :=
 entryFor_alias (id':="object.__getattribute__") (by kernel_rfl) (by decide +kernel) (by decide +kernel) (by kernel_rfl)
theorem meets_ga_zip (z ti to : Addr) (f0 : Value) (u : Tok) :
  Meets (Builtin.«object.__getattribute__» ⟨[.ref z,.str "keys" u],[]⟩) (fun A R s => IsZip s.heap z ti to f0 /\ raisesAttr (.ref z) "keys" A R s) :=
 Meets.of_wp fun prog w A R s hs => by
  obtain ⟨hp,g,d,tk,os⟩:=s
  obtain ⟨hx,hs⟩:=hs
  have hT : (⟨hp,g,d,tk,os⟩ : Shared).TypeIs (.ref z) "zip":=⟨_,hx,rfl⟩
  have hmiss:=miss_keysZ
  unfold Builtin.«object.__getattribute__»
  repeat (any_goals (first | assumption | wp_step))
  all_goals exact wpAny_raiseAttrError hs.1 hs.2 (attrMsg_fits (by decide +kernel) (by decide))
theorem attrZ_miss {prog : Program} {w : World} {A : Around} {E : Value -> Shared -> Prop} {s : Shared} {z ti to : Addr} {f0 : Value} {Q : Option Value -> Shared -> Prop}
  (hx : IsZip s.heap z ti to f0) (hA : A.handled = none)
  (h : ∀ h' tk e,Heap.NewExcOf s.heap h' e "AttributeError" -> Q none { s with heap:=h',toks:=tk }) : wpAny (model prog w) A (getAttr? (.ref z) "keys") Q E s:=by
 obtain ⟨hp,g,d,tk,os⟩:=s
 have hT : ∀ tk',(⟨hp,g,d,tk',os⟩ : Shared).TypeIs (.ref z) "zip":=fun _ => ⟨_,hx,rfl⟩
 have f1:=sub_AttributeError
 have f3:=F.slot_zip_getattribute.lookup
 have f4:=F.slot_zip_getattribute.bind (.ref z)
 have f5:=zip_getattr_none
 unfold getAttr? getAttrBy? getAttrBy
 repeat (any_goals (first | assumption | exact hT _ | ((with_reducible show wpAny _ _ (call (Value.builtin "zip.__getattribute__") _ _) _ _ _); refine call_meets F.slot_zip_getattribute (hT _) entry_zip_ga (F.args_zip_getattribute_2 _ _) (meets_ga_zip z ti to f0 _) ⟨hx,hA,fun h' tk' e hx' => ?_⟩) | wp_step))
 obtain ⟨t',u',he⟩:=hx'.there
 show wpAny _ _ (getattributeRaised _ _ _ _ _ _ _) _ _ _
 unfold getattributeRaised
 repeat (any_goals (first | assumption | wp_step))
 all_goals exact h _ _ _ hx'.of
abbrev IsZipB (h : Heap) (z ti to t : Addr) (b : Bool) : Prop :=
 h.get? z = some { cls:=.type "zip",dict:=none,data:=.fields #[rawInt t,.bool b,.bool false,.ref ti,.ref to],slots:=#[] }
theorem wpAny_alive {M : Model} {A : Around} {E : Value -> Shared -> Prop} {s : Shared} {a : Addr} {o : Obj} {Q : Option Obj -> Shared -> Prop} (ho : s.heap.get? a = some o) (h : Q (some o) s) : wpAny M A (loadIfAlive a) Q E s:=fun Γ p _ => by
 show PySem.Sem.wp M Γ (.loadIfAlive a .pure) _ _ p s
 rw [Sem.wp_loadIfAlive,ho]
 exact h
section
variable {prog : Program} {w : World} {A : Around} {E : Value -> Shared -> Prop} {s : Shared} {z ti to i1 i2 t : Addr} {f1 f2 : List Addr} {n1 n2 k : Nat} {P1 P2 : Nat -> Value -> Prop} {S1 S2 : Nat -> Heap -> Prop}
theorem zfree_no {b : Bool} {o : Obj} {Q : Bool -> Shared -> Prop} (hz : IsZipB s.heap z ti to t b) (ho : s.heap.get? t = some o)
  (h : ∀ h',IsZipB h' z ti to t true -> Heap.SameBut z s.heap h' -> Q false { s with heap:=h' }) : wpAny (model prog w) A (Builtin.SmallTypes.ownedTupleIsFree (.ref z)) Q E s:=by
 unfold Builtin.SmallTypes.ownedTupleIsFree
 refine wpAny_bind (wpAny_field hz rfl (x:=rawInt t) rfl ?_)
 show wpAny _ _ (loadIfAlive (Int.toNat (t : Int)) >>= _) _ _ _
 rw [Int.toNat_natCast]
 refine wpAny_bind (wpAny_alive ho ?_)
 show wpAny _ _ (field (.ref z) 1 >>= _) _ _ _
 refine wpAny_bind (wpAny_field hz rfl (x:=.bool b) rfl ?_)
 cases b with
 | true =>
  show wpAny _ _ (pure false) _ _ _
  exact wpAny_pure (h _ hz ⟨rfl,fun _ _ => rfl⟩)
 | false =>
  show wpAny _ _ (setField (.ref z) 1 (.bool true) >>= _) _ _ _
  exact wpAny_bind (wpAny_setField_rec hz (by simp) fun h' hz' hs' => wpAny_pure (h h' hz' hs'))
theorem z2_item {bb : Bool} {o : Obj} {Q : Value -> Shared -> Prop} (D1 : Draws prog w A i1 f1 n1 P1 S1) (D2 : Draws prog w A i2 f2 n2 P2 S2) (D : ZAp z ti to i1 i2 f1 f2)
  (hz : IsZipB s.heap z ti to t bb) (ho : s.heap.get? t = some o) (hI : IsPair s.heap ti (.ref i1) (.ref i2)) (h1 : S1 k s.heap) (h2 : S2 k s.heap) (k1 : k < n1) (k2 : k < n2)
  (hQ : ∀ x y h' tk,P1 k x -> P2 k y -> IsZipB h' z ti to t true -> S1 (k + 1) h' -> S2 (k + 1) h' -> IsPair h' s.heap.objs.size x y ->
   (∀ c o,c ∉ [z,i1,i2] -> s.heap.get? c = some o -> h'.get? c = some o) -> Q (.ref s.heap.objs.size) { s with heap:=h',toks:=tk }) :
  wpAny (model prog w) A (Builtin.«zip.__next__» ⟨[.ref z],[]⟩) (fun fin s' => ∃ v,fin = .done (.ret v) /\ Q v s') E s:=by
 show wpAny _ _ (field (.ref z) 2 >>= _) _ _ _
 refine wpAny_bind (wpAny_field hz rfl (x:=.bool false) rfl ?_)
 show wpAny _ _ (field (.ref z) 3 >>= _) _ _ _
 refine wpAny_bind (wpAny_field hz rfl (x:=.ref ti) rfl ?_)
 refine wpAny_bind (wpAny_seqItems hI rfl ?_)
 show wpAny _ _ (Builtin.SmallTypes.ownedTupleIsFree (.ref z) >>= _) _ _ _
 refine wpAny_bind (zfree_no hz ho fun ha hza hsa => ?_)
 simp only [Bool.false_eq_true,if_false]
 rw [<- Array.forIn_toList]
 simp only [List.forIn_cons,List.forIn_nil]
 have fr1 : ∀ {i : Nat} {h h' : Heap} {c : Addr},S1 i h -> Heap.SameBut c h h' -> c ∉ f1 -> S1 i h':=fun st sb nc => D1.frame _ _ _ st fun b hb o e => (sb.2 b fun q => nc (q ▸ hb)).trans e
 have fr2 : ∀ {i : Nat} {h h' : Heap} {c : Addr},S2 i h -> Heap.SameBut c h h' -> c ∉ f2 -> S2 i h':=fun st sb nc => D2.frame _ _ _ st fun b hb o e => (sb.2 b fun q => nc (q ▸ hb)).trans e
 refine wpAny_bind (wpAny_bind (wpAny_bind (wpAny_holding ?_)))
 show wpAny _ _ (Builtin.SmallTypes.nextOf (.ref i1) >>= _) _ _ _
 refine wpAny_bind (D1.item k _ _ _ k1 (fr1 h1 hsa D.n1.1) fun x hb tb px sb1 hsb => wpAny_pure (wpAny_pure ?_))
 refine wpAny_bind (wpAny_bind (wpAny_holding ?_))
 show wpAny _ _ (Builtin.SmallTypes.nextOf (.ref i2) >>= _) _ _ _
 refine wpAny_bind (D2.item k _ _ _ k2 (fr2 (fr2 h2 hsa D.n2.1) hsb D.n2.2.2.2) fun y hd td py sd2 hsd => wpAny_pure (wpAny_pure (wpAny_pure ?_)))
 refine wpAny_bind (wpAny_newTuple (hsz:=(by decide : 2 <= sizeLine)) (wpAny_pure ⟨_,rfl,?_⟩))
 have hsz : hd.objs.size = s.heap.objs.size:=by rw [hsd.1,hsb.1,hsa.1]
 show Q (.ref hd.objs.size) _
 rw [hsz]
 have up : ∀ c o,hd.get? c = some o -> (hd.push { cls:=.type "tuple",data:=.seq #[x,y] }).get? c = some o:=fun c o e => Heap.get?_push_of_some _ e
 have hzd : IsZipB hd z ti to t true:=(hsd.2 z (Ne.symm D.i2z)).trans ((hsb.2 z (Ne.symm D.i1z)).trans hza)
 refine hQ x y (hd.push { cls:=.type "tuple",data:=.seq #[x,y] }) td px py (up _ _ hzd) (D1.frame _ _ _ (fr1 sb1 hsd D.n1.2.2.2) fun b hb o e => up _ _ e) (D2.frame _ _ _ sd2 fun b hb o e => up _ _ e) (by rw [<- hsz]; exact Heap.get?_push_size _ rfl) fun c o hc e => ?_
 simp only [List.mem_cons,List.not_mem_nil,or_false,not_or] at hc
 exact up _ _ ((hsd.2 c hc.2.2).trans ((hsb.2 c hc.2.1).trans ((hsa.2 c hc.1).trans e)))
theorem z2_end {bb : Bool} {o : Obj} {Q : Fin -> Shared -> Prop} (D1 : Draws prog w A i1 f1 n1 P1 S1) (D : ZAp z ti to i1 i2 f1 f2)
  (hz : IsZipB s.heap z ti to t bb) (ho : s.heap.get? t = some o) (hI : IsPair s.heap ti (.ref i1) (.ref i2)) (h1 : S1 n1 s.heap)
  (hE : ∀ h' e tk,(∀ c o,c ∉ [z,to,i1,i2] -> s.heap.get? c = some o -> h'.get? c = some o) -> (∃ o,h'.get? e = some o /\ o.cls = .type "StopIteration") -> E (.ref e) { s with heap:=h',toks:=tk }) :
  wpAny (model prog w) A (Builtin.«zip.__next__» ⟨[.ref z],[]⟩) Q E s:=by
 show wpAny _ _ (field (.ref z) 2 >>= _) _ _ _
 refine wpAny_bind (wpAny_field hz rfl (x:=.bool false) rfl ?_)
 show wpAny _ _ (field (.ref z) 3 >>= _) _ _ _
 refine wpAny_bind (wpAny_field hz rfl (x:=.ref ti) rfl ?_)
 refine wpAny_bind (wpAny_seqItems hI rfl ?_)
 show wpAny _ _ (Builtin.SmallTypes.ownedTupleIsFree (.ref z) >>= _) _ _ _
 refine wpAny_bind (zfree_no hz ho fun ha hza hsa => ?_)
 simp only [Bool.false_eq_true,if_false]
 rw [<- Array.forIn_toList]
 simp only [List.forIn_cons,List.forIn_nil]
 refine wpAny_bind (wpAny_bind (wpAny_bind (wpAny_holding ?_)))
 show wpAny _ _ (Builtin.SmallTypes.nextOf (.ref i1) >>= _) _ _ _
 refine wpAny_bind (D1.done _ _ _ (D1.frame _ _ _ h1 fun b hb o e => (hsa.2 b fun q => D.n1.1 (q ▸ hb)).trans e) fun hb e hsb he => ?_)
 refine hE hb e _ (fun c o nc x => ?_) he
 simp only [List.mem_cons,List.not_mem_nil,or_false,not_or] at nc
 exact hsb c _ nc.2.2.1 ((hsa.2 c nc.1).trans x)
structure ZSt (z ti to i1 i2 l1 l2 : Addr) (xs ys : Array Value) (i : Nat) (h : Heap) : Prop where
 zz : (i = 0 /\ IsZip h z ti to .none) \/ ∃ t b o,IsZipB h z ti to t b /\ t ∉ [z,to,i1,i2] /\ h.get? t = some o
 ii : IsPair h ti (.ref i1) (.ref i2)
 oo : ∃ a b,IsPair h to a b
 a1 : h.IsListIter i1 l1 i /\ h.IsList l1 xs
 a2 : h.IsListIter i2 l2 i /\ h.IsList l2 ys
theorem ZSt.frame {l1 l2 : Addr} {xs ys : Array Value} {i : Nat} {h h' : Heap} (S : ZSt z ti to i1 i2 l1 l2 xs ys i h) (k : ∀ c o,h.get? c = some o -> c ∈ [z,ti,to,i1,i2,l1,l2] -> h'.get? c = some o)
  (kt : ∀ c o,h.get? c = some o -> ∃ o',h'.get? c = some o') : ZSt z ti to i1 i2 l1 l2 xs ys i h':=by
 obtain ⟨zz,ii,⟨a,b,oo⟩,a1,a2⟩:=S
 refine ⟨?_,k ti _ ii (by simp),⟨a,b,k to _ oo (by simp)⟩,⟨a1.1.at fun o e => k i1 o e (by simp),a1.2.at fun o e => k l1 o e (by simp)⟩,⟨a2.1.at fun o e => k i2 o e (by simp),a2.2.at fun o e => k l2 o e (by simp)⟩⟩
 rcases zz with ⟨e,hz⟩ | ⟨t,b,o,hz,nt,ho⟩
 ·
  exact .inl ⟨e,k z _ hz (by simp)⟩
 ·
  obtain ⟨o',ho'⟩:=kt t o ho
  exact .inr ⟨t,b,o',k z _ hz (by simp),nt,ho'⟩
theorem zz_item {l1 l2 : Addr} {xs ys : Array Value} {i : Nat} {x y : Value} {Q : Option Value -> Shared -> Prop} (hh : A.handled = none) (D : ZAp z ti to i1 i2 [i1,l1] [i2,l2]) (n1 : l1 ≠ i1) (n2 : l2 ≠ i2)
  (nl1 : l1 ∉ [z,to,i1,i2]) (nl2 : l2 ∉ [z,to,i1,i2]) (nti : ti ∉ [z,to,i1,i2]) (S : ZSt z ti to i1 i2 l1 l2 xs ys i s.heap) (hx : xs[i]? = some x) (hy : ys[i]? = some y)
  (hQ : ∀ h' tk,ZSt z ti to i1 i2 l1 l2 xs ys (i + 1) h' -> IsPair h' s.heap.objs.size x y -> (∀ c o,c ∉ [z,to,i1,i2] -> s.heap.get? c = some o -> h'.get? c = some o) -> Q (some (.ref s.heap.objs.size)) { s with heap:=h',toks:=tk }) :
  wpAny (model prog w) A (pyNext (.ref z)) Q E s:=by
 obtain ⟨zz,ii,⟨a,b,oo⟩,a1,a2⟩:=S
 have d1:=Draws.list (prog:=prog) (w:=w) (A:=A.in1) hh i1 l1 n1 xs
 have d2:=Draws.list (prog:=prog) (w:=w) (A:=A.in1) hh i2 l2 n2 ys
 have lt : ∀ {c o},s.heap.get? c = some o -> s.heap.objs.size ≠ c:=fun e => Nat.ne_of_gt (Heap.lt_size e)
 have m1 : s.heap.objs.size ≠ i1:=by obtain ⟨o,e,_⟩:=a1.1; exact lt e
 have m2 : s.heap.objs.size ≠ i2:=by obtain ⟨o,e,_⟩:=a2.1; exact lt e
 rcases zz with ⟨e,hz⟩ | ⟨t,bb,o,hz,nt,ho⟩
 ·
  have m3:=lt hz
  have m4:=lt oo
  refine zn_item d1 d2 D hz ii oo a1 a2 (Array.getElem?_eq_some_iff.mp hx).1 (Array.getElem?_eq_some_iff.mp hy).1 fun x' y' h' tk px py hz' hO' s1 s2 hT hsz kp => ?_
  have e1 : x' = x:=Option.some.inj (px.symm.trans hx)
  have e2 : y' = y:=Option.some.inj (py.symm.trans hy)
  subst e1 e2
  exact hQ h' tk ⟨.inr ⟨_,_,_,hz',by simp [m1,m2,m3,m4],hT⟩,kp _ _ nti ii,⟨_,_,hO'⟩,s1,s2⟩ hT kp
 ·
  have hT : s.TypeIs (.ref z) "zip":=⟨_,hz,rfl⟩
  unfold pyNext
  refine wpAny_bind (wpAny_attempt (wpAny_callSpecial?_slot (name:=Str.ofString "__next__") hT F.slot_zip_next
   (wpAny_call_entry F.slot_zip_next hT F.entry_zip_next (z2_item d1 d2 D hz ho ii a1 a2 (Array.getElem?_eq_some_iff.mp hx).1 (Array.getElem?_eq_some_iff.mp hy).1 fun x' y' h' tk px py hz' s1 s2 hT kp => wpAny_pure ?_) (F.args_zip_next_1 _))))
  have e1 : x' = x:=Option.some.inj (px.symm.trans hx)
  have e2 : y' = y:=Option.some.inj (py.symm.trans hy)
  subst e1 e2
  have kp' : ∀ c o,c ∉ [z,to,i1,i2] -> s.heap.get? c = some o -> h'.get? c = some o:=fun c o nc e => kp c o (fun m => nc (by simp only [List.mem_cons,List.not_mem_nil,or_false] at m ⊢; rcases m with q | q | q <;> simp [q])) e
  exact hQ h' tk ⟨.inr ⟨_,_,_,hz',nt,kp' _ _ nt ho⟩,kp' _ _ nti ii,⟨_,_,kp to _ (by simp only [List.mem_cons,List.not_mem_nil,or_false,not_or]; exact ⟨D.ne.2.1,Ne.symm D.i1to,Ne.symm D.i2to⟩) oo⟩,s1,s2⟩ hT kp'
theorem zz_end {l1 l2 : Addr} {xs ys : Array Value} {Q : Option Value -> Shared -> Prop} (hh : A.handled = none) (D : ZAp z ti to i1 i2 [i1,l1] [i2,l2]) (n1 : l1 ≠ i1) (hn : 0 < xs.size)
  (S : ZSt z ti to i1 i2 l1 l2 xs ys xs.size s.heap) (hQ : ∀ h' tk,(∀ c o,c ∉ [z,to,i1,i2] -> s.heap.get? c = some o -> h'.get? c = some o) -> Q none { s with heap:=h',toks:=tk }) :
  wpAny (model prog w) A (pyNext (.ref z)) Q E s:=by
 obtain ⟨zz,ii,⟨a,b,oo⟩,a1,a2⟩:=S
 have d1:=Draws.list (prog:=prog) (w:=w) (A:=A.in1) hh i1 l1 n1 xs
 rcases zz with ⟨e,hz⟩ | ⟨t,bb,o,hz,nt,ho⟩
 ·
  omega
 ·
  have hT : s.TypeIs (.ref z) "zip":=⟨_,hz,rfl⟩
  unfold pyNext
  refine wpAny_bind (wpAny_attempt (wpAny_callSpecial?_slot (name:=Str.ofString "__next__") hT F.slot_zip_next
   (wpAny_call_entry F.slot_zip_next hT F.entry_zip_next (z2_end d1 D hz ho ii a1 fun h' e tk kp ⟨o,ho,hc⟩ => ?_) (F.args_zip_next_1 _))))
  refine wpAny_bind (wpAny_isInstance (T:="StopIteration") (b:=true) ⟨o,ho,hc⟩ isSubtype_stop ?_)
  exact wpAny_pure (hQ _ _ kp)
variable {K : Type} [DecidableEq K] {knd : KeyKind prog w K}
theorem dzip_loop {R : Result -> Shared -> Prop} {l1 l2 : Addr} {xs ys : Array Value} (hh : A.handled = none) (D : ZAp z ti to i1 i2 [i1,l1] [i2,l2]) (n1 : l1 ≠ i1) (n2 : l2 ≠ i2)
  (nl1 : l1 ∉ [z,to,i1,i2]) (nl2 : l2 ∉ [z,to,i1,i2]) (nti : ti ∉ [z,to,i1,i2]) (d : Addr) (nd : d ∉ [z,ti,to,i1,i2,l1,l2]) (hn : 0 < xs.size) (hxy : xs.size = ys.size) (ps : List (K × Value)) (hps : ps.length = xs.size) (h8 : xs.size <= sizeLine)
  (hT : ∀ (j : Nat) (x y : Value),xs[j]? = some x -> ys[j]? = some y -> ∃ kk,ps[j]? = some (kk,y) /\ knd.is kk x = true) :
  ∀ (k i : Nat) (s : Shared),xs.size - i = k -> i <= xs.size -> ZSt z ti to i1 i2 l1 l2 xs ys i s.heap -> s.heap.DictOf knd d (merged [] (ps.take i)) ->
   (∀ h' tk,h'.DictOf knd d (merged [] ps) -> (∀ c o,c ∉ [d,z,to,i1,i2] -> s.heap.get? c = some o -> h'.get? c = some o) -> R (.ok (.ret .none)) { s with heap:=h',toks:=tk }) ->
   codeAny (model prog w) A (.builtin "dict.update.loop" ⟨[.ref d,.ref z,rawInt i,.none],[]⟩) R s:=by
 have nd' : d ∉ [z,to,i1,i2]:=fun m => nd (by simp only [List.mem_cons,List.not_mem_nil,or_false] at m ⊢; rcases m with q | q | q | q <;> simp [q])
 intro k
 induction k with
 | zero =>
  intro i s hk hi st hB fin
  have ei : i = xs.size:=by omega
  subst ei
  refine codeAny_builtin entry_dul ?_
  rw [Around.under_plainId plain_dul _]
  show wpAny _ A.in1 (pyNext (.ref z) >>= _) _ _ s
  refine wpAny_bind (zz_end hh D n1 hn st fun h' tk kp => ?_)
  show wpAny _ A.in1 (do Builtin.Dict.addKeywords d []; ret Value.none) _ _ _
  rw [<- hps,List.take_length] at hB
  refine wpAny_bind (wpAny_pure (wpAny_pure (fin h' tk ?_ fun c o nc e => kp c o (fun m => nc (List.mem_cons_of_mem _ m)) e)))
  obtain ⟨o,es,ep,ho,rest⟩:=hB
  exact ⟨o,es,ep,kp d _ nd' ho,rest⟩
 | succ k ih =>
  intro i s hk hi st hB fin
  have lt : i < xs.size:=by omega
  have hx : xs[i]? = some xs[i]:=by simp [lt]
  have hy : ys[i]? = some (ys[i]'(hxy ▸ lt)):=by simp [hxy ▸ lt]
  obtain ⟨kk,hp,hkv⟩:=hT i _ _ hx hy
  refine codeAny_builtin entry_dul ?_
  rw [Around.under_plainId plain_dul _]
  show wpAny _ A.in1 (pyNext (.ref z) >>= _) _ _ s
  refine wpAny_bind (zz_item hh D n1 n2 nl1 nl2 nti st hx hy fun h1 tk st' hT' kp => ?_)
  have hB' : h1.DictOf knd d (merged [] (ps.take i)):=by
   obtain ⟨o,es,ep,ho,rest⟩:=hB
   exact ⟨o,es,ep,kp d _ nd' ho,rest⟩
  refine wpAny_bind (wpAny_holding ?_)
  refine wpAny_bind (m:=tryCatch (Builtin.Dict.pairItems (.ref s.heap.objs.size)) _) (wpAny_tryCatch ?_)
  unfold Builtin.Dict.pairItems
  refine wpAny_bind (wpAny_typeOf (T:="tuple") ⟨_,hT',rfl⟩ ?_)
  rw [if_pos (by decide)]
  refine wpAny_bind (wpAny_seqItems hT' rfl (wpAny_pure ?_))
  have hm : (merged [] (ps.take i)).length <= sizeLine:=by
   have h1:=merged_length_le ([] : List (K × Value)) (ps.take i)
   have h2 : (ps.take i).length <= xs.size:=by rw [List.length_take]; omega
   simp only [List.length_nil,Nat.zero_add] at h1
   omega
  show wpAny _ A.in1 (holding [xs[i],ys[i]'(hxy ▸ lt)] (dictSet d xs[i] (ys[i]'(hxy ▸ lt)))) _ _ _
  refine wpAny_holding (wpAny_dictSet_pairs hkv hB' (fun h' hB2 sb => ?_) hm)
  refine wpAny_pure ⟨plainId_quiet plain_dul _,ih (i + 1) _ (by omega) lt (st'.frame (fun c o e hc => ?_) fun c o e => ?_) (by rw [merged_take_succ _ _ _ _ hp]; exact hB2) fun h2 tk2 hB4 kp2 => ?_⟩
  ·
   exact (sb.2 c (fun q : c = d => nd (q ▸ hc))).trans e
  ·
   by_cases q : c = d
   ·
    subst q
    obtain ⟨o,es,ep,ho,rest⟩:=hB2
    exact ⟨o,ho⟩
   ·
    exact ⟨o,(sb.2 c q).trans e⟩
  ·
   refine fin h2 tk2 hB4 fun c o nc e => kp2 c o nc ((sb.2 c (fun q : c = d => nc (q ▸ List.mem_cons_self))).trans (kp c o (fun m => nc (List.mem_cons_of_mem _ m)) e))
end
end L3
namespace L3
open PySem PySem.Spec PyProof.Rows L2
section
variable {prog : Program} {w : World} {K : Type} [DecidableEq K] {knd : KeyKind prog w K}
theorem call_dict_zip {A : Around} {E : Value -> Shared -> Prop} {s : Shared} {z ti to i1 i2 l1 l2 : Addr} {xs ys : Array Value} {ps : List (K × Value)} {Q : Value -> Shared -> Prop} (hh : A.handled = none)
  (D : ZAp z ti to i1 i2 [i1,l1] [i2,l2]) (n1 : l1 ≠ i1) (n2 : l2 ≠ i2) (nl1 : l1 ∉ [z,to,i1,i2]) (nl2 : l2 ∉ [z,to,i1,i2]) (nti : ti ∉ [z,to,i1,i2])
  (hz : IsZip s.heap z ti to .none) (S : ZSt z ti to i1 i2 l1 l2 xs ys 0 s.heap) (hn : 0 < xs.size) (hxy : xs.size = ys.size) (hps : ps.length = xs.size) (h8 : xs.size <= sizeLine)
  (hT : ∀ (j : Nat) (x y : Value),xs[j]? = some x -> ys[j]? = some y -> ∃ kk,ps[j]? = some (kk,y) /\ knd.is kk x = true)
  (h : ∀ (h' : Heap) (tk : Nat),h'.DictOf knd s.heap.objs.size (merged [] ps) -> (∀ b o,b ∉ [z,to,i1,i2] -> s.heap.get? b = some o -> h'.get? b = some o) -> Q (.ref s.heap.objs.size) { s with heap:=h',toks:=tk }) :
  wpAny (model prog w) A (call (.type "dict") [.ref z]) Q E s:=by
 refine callType_codes (Q₁:=fun obj s₁ => obj = .ref s.heap.objs.size /\ s₁ = { s with heap:=s.heap.push { cls:=.type "dict",data:=.dict #[] } }) F.kt_called_dict (F.kt_typeCall_dict_1 _) F.entry_dict_init (kt_code_dict_new _ ⟨rfl,rfl⟩) ?_
 rintro obj s₁ ⟨rfl,rfl⟩
 have hnew : (s.heap.push { cls:=.type "dict",data:=.dict #[] }).DictOf knd s.heap.objs.size []:=Heap.DictOf.new s.heap
 have hl1 : IsZip (s.heap.push { cls:=.type "dict",data:=.dict #[] }) z ti to .none:=Heap.get?_push_of_some _ hz
 refine ⟨hnew.typeIs,F.args_dict_init_2 _ _,?_⟩
 unfold Builtin.«dict.__init__»
 refine wpAny_bind ?_
 unfold Builtin.Dict.selfAndRest
 refine wpAny_bind (wpAny_notOrdered_dict hnew.typeIs ?_)
 show wpAny _ _ (pure (s.heap.objs.size,[Value.ref z])) _ _ _
 refine wpAny_pure ?_
 show wpAny _ _ (Builtin.Dict.updateFrom "dict.__init__" s.heap.objs.size (.ref z) [] .none) _ _ _
 unfold Builtin.Dict.updateFrom
 refine wpAny_bind (wpAny_typeOf (T:="zip") ⟨_,hl1,rfl⟩ ?_)
 rw [if_pos (by decide)]
 have hh2 : A.in1.in1.handled = none:=by simp [hh]
 refine wpAny_bind (attrZ_miss hl1 hh2 fun h2 tk e ne => ?_)
 show wpAny _ _ (do rule _; let it <- pyIter (.ref z); again (.builtin "dict.update.loop" ⟨[.ref s.heap.objs.size,it,rawInt 0,.none],[]⟩)) _ _ _
 refine wpAny_bind (wpAny_rule ?_)
 have hl2 : IsZip h2 z ti to .none:=ne.keeps _ _ hl1
 refine wpAny_bind (wpAny_pyIter_zip (s:={ s with heap:=h2,toks:=tk }) hl2 ?_)
 refine wpAny_pure ?_
 have kp0 : ∀ b o,s.heap.get? b = some o -> h2.get? b = some o:=fun b o e => ne.keeps _ _ (Heap.get?_push_of_some _ e)
 have lt : ∀ {c o},s.heap.get? c = some o -> s.heap.objs.size ≠ c:=fun e => Nat.ne_of_gt (Heap.lt_size e)
 have nB : s.heap.objs.size ∉ [z,ti,to,i1,i2,l1,l2]:=by
  obtain ⟨_,ii,⟨_,_,oo⟩,⟨⟨_,e1,_⟩,⟨_,e2,_⟩⟩,⟨⟨_,e3,_⟩,⟨_,e4,_⟩⟩⟩:=S
  have:=lt hz; have:=lt ii; have:=lt oo; have:=lt e1; have:=lt e2; have:=lt e3; have:=lt e4
  simp only [List.mem_cons,List.not_mem_nil,or_false,not_or]
  exact ⟨lt hz,lt ii,lt oo,lt e1,lt e3,lt e2,lt e4⟩
 refine ⟨plainId_quiet plain_dul _,?_⟩
 have hh3 : A.in1.handled = none:=by simp [hh]
 refine dzip_loop (knd:=knd) hh3 D n1 n2 nl1 nl2 nti s.heap.objs.size nB hn hxy ps hps h8 hT (xs.size - 0) 0 { s with heap:=h2,toks:=tk } (by omega) (Nat.zero_le _) (S.frame (fun c o e _ => kp0 c o e) fun c o e => ⟨o,kp0 c o e⟩) ?_ ?_
 ·
  obtain ⟨o,es,ep,ho,rest⟩:=hnew
  exact ⟨o,es,ep,ne.keeps _ _ ho,rest⟩
 ·
  intro h' tk' hB' kp
  refine ⟨rfl,h h' tk' hB' fun b o nb e => kp b o (fun m => ?_) (kp0 b o e)⟩
  rcases List.mem_cons.mp m with q | q
  ·
   exact lt e q.symm
  ·
   exact nb q
end
section
variable {X : Cx} {ea eb : Expr} {p1 p2 pos pos' : Pos}
def tDZ (X : Cx) (ta : TA) : TE:=fun σ H Q => ta σ H fun vs H1 => ∃ (a b : Addr) (ks : List Str) (ys : List V),vs = [.ref a,.ref b] /\ SqL X.K H1 a (ks.map V.str) /\ SqL X.K H1 b ys /\ ks.length = ys.length /\ 0 < ks.length /\ ks.Nodup /\
 ∀ l,H1 l = none -> Q (.ref l) (upd H1 l (.dK ((ks.map Sum.inr).zip ys)))
theorem kv_zip : ∀ {ks : List Str} {ys : List V} {jts : List Value},Vals ys jts -> KV (κ:=Key) ((ks.map Sum.inr).zip ys) ((ks.map Sum.inr).zip jts)
 | [],_,_,_ => .nil
 | _ :: _,_,_,.nil => .nil
 | k :: ks,_,_,.cons q qs => .cons ⟨rfl,q⟩ (kv_zip qs)
theorem pe_dz {ta : TA} (hc : X.calm = true) (hgt : Gl X "dict") (hmt : X.mg "dict" = none) (hbt : bootBuiltins "dict" = some (.type "dict")) (hgr : Gl X "zip") (hmr : X.mg "zip" = none) (ha : PA X [ea,eb] ta)
  (hs : starEach [ea,eb] X.env = [(false,eval ea X.env),(false,eval eb X.env)]:=by rfl) (hs2 : starEach [eb] X.env = [(false,eval eb X.env)]:=by rfl)
  (hpl : (backTo pos (starEach [] X.env)).any (·.1) = false:=by rfl) :
  PE X (.Call (.Name "dict" p1) [.Call (.Name "zip" p2) [ea,eb] [] pos'] [] pos) (tDZ X ta):=by
 intro pins s σ H Q I h
 refine wpAny_Call_Name_kw (ld_blt I hgt hmt hbt ?_ (by decide) (by decide))
 refine PyProof.Rows.callWith_type1 ?_ rfl hpl
 show wpAny _ _ (spliced ((false,eval (.Call (.Name "zip" p2) [ea,eb] [] pos') X.env) :: backTo pos (starEach [] X.env))) _ _ s
 refine Calls.spliced_cons ?_
 refine Call_ (ld_blt I hgr hmr bt_zip (PyProof.Rows.callWith_type1 (thn (ha pos' pins s σ H _ I h) fun us s1 ⟨vs,H1,I1,r1,q1⟩ => ?_) (by rw [hs,hs2]) (by rw [hs2]; rfl)))
 obtain ⟨a,b,ks,ys,e,sa,sb,hl,h0,hnd,q⟩:=q1
 subst e
 cases r1 with
 | cons r rr =>
  cases rr with
  | cons r' rr =>
   cases rr
   cases r
   cases r'
   obtain ⟨its,rv,pl1,hz1⟩:=I1.list sa
   obtain ⟨jts,rw',pl2,hz2⟩:=I1.list sb
   have la : a < s1.heap.objs.size:=by obtain ⟨o,e,_⟩:=pl1.isList; exact Heap.lt_size e
   have lb : b < s1.heap.objs.size:=by obtain ⟨o,e,_⟩:=pl2.isList; exact Heap.lt_size e
   have ln1:=rv.length
   have ln2:=rw'.length
   rw [List.length_map] at ln1 hz1
   refine call_zip_2 pl1.isList pl2.isList fun h' hz hI hO h1 h2 hsz kp => ?_
   refine Calls.spliced_nil ?_
   obtain ⟨N,hN⟩ : ∃ N,N = s1.heap.objs.size:=⟨_,rfl⟩
   rw [<- hN] at la lb hz hI hO h1 h2 hsz
   rw [<- hN]
   have D : ZAp (N + 4) (N + 2) (N + 3) N (N + 1) [N,a] [N + 1,b]:=zap ⟨la,lb⟩ (Nat.lt_succ_self _) (Nat.lt_succ_self _) (Nat.lt_succ_self _) (Nat.lt_succ_self _)
   have nn : ∀ {c : Addr},c < N -> c ∉ [N + 4,N + 3,N,N + 1]:=fun {c} hc m => by
    simp only [List.mem_cons,List.not_mem_nil,or_false] at m
    simp only [Addr] at *
    omega
   have nti : N + 2 ∉ [N + 4,N + 3,N,N + 1]:=fun m => by
    simp only [List.mem_cons,List.not_mem_nil,or_false] at m
    simp only [Addr] at *
    omega
   refine call_dict_zip (s:={ s1 with heap:=h' }) (knd:=mixKind X.prog X.w) (xs:=its.toArray) (ys:=jts.toArray) (ps:=(ks.map Sum.inr).zip jts) (I1.ok.hd hc) D (Nat.ne_of_lt la) (Nat.ne_of_lt (Nat.lt_succ_of_lt lb)) (nn la) (nn lb) nti hz ⟨.inl ⟨rfl,hz⟩,hI,⟨_,_,hO⟩,⟨h1,pl1.isList.at fun o e => kp _ o e⟩,⟨h2,pl2.isList.at fun o e => kp _ o e⟩⟩ (by simp; omega) (by simp; omega) (by simp [List.length_zip]; omega) (by simp; omega) ?_ ?_
   ·
    intro j x y ex ey
    have ex' : its[j]? = some x:=by simpa using ex
    have ey' : jts[j]? = some y:=by simpa using ey
    have lj : j < its.length:=(List.getElem?_eq_some_iff.mp ex').1
    have ek : ks[j]? = some (ks[j]'(by omega)):=by rw [List.getElem?_eq_getElem]
    obtain ⟨u,eu,ru⟩:=rv.get (i:=j) (x:=V.str (ks[j]'(by omega))) (by rw [List.getElem?_map,ek]; rfl)
    have e3 : u = x:=Option.some.inj (eu.symm.trans ex')
    subst e3
    refine ⟨Sum.inr (ks[j]'(by omega)),?_,kV_is (k:=Sum.inr (ks[j]'(by omega))) ru⟩
    rw [List.getElem?_zip_eq_some]
    exact ⟨by rw [List.getElem?_map,ek]; rfl,ey'⟩
   ·
    intro h2 tk dd kp2
    have kp3 : ∀ c o,s1.heap.get? c = some o -> h2.get? c = some o:=fun c o e => kp2 c o (nn (by rw [hN]; exact Heap.lt_size e)) (kp c o e)
    have hsz' : ({ s1 with heap:=h' } : Shared).heap.objs.size = N + 5:=hsz
    rw [hsz'] at dd
    rw [hsz']
    have hN2 : (((ks.map Sum.inr).zip jts : List (Key × Value)).map (·.1)).Nodup:=by
     rw [List.map_fst_zip (by simp; omega)]
     exact List.pairwise_map.mpr (List.Pairwise.imp (fun h e => h (Sum.inr.inj e)) hnd)
    rw [merged_nil_of_nodup _ hN2] at dd
    have hp : H1 (N + 5) = none:=I1.hok.fresh (by rw [hN]; exact Nat.le_add_right _ _)
    refine ⟨.ref (N + 5),_,I1.laid (a:=N + 5) (o:=.dK ((ks.map Sum.inr).zip ys)) (h':=h2) (t':=tk) kp3 (by rw [hN]; exact Nat.le_add_right _ _) ⟨by simp [List.length_zip]; omega,beq_eq_false_iff_ne.mpr ?_,_,kv_zip rw',dd⟩,rfl,q _ hp⟩
    have:=I1.big
    rw [<- hN] at this
    exact Nat.ne_of_gt (Nat.lt_of_lt_of_le this (Nat.le_add_right _ _))
def tDZ3 (ta : TA3) : TE3:=fun σ H Q => ta σ H fun vs H1 => ∃ (a b : Addr) (ks : List Str) (ts : List T),vs = [.ref a,.ref b] /\ H1 a = some (.lst (ks.map T.str)) /\ H1 b = some (.lst ts) /\ ks.length = ts.length /\ 0 < ks.length /\ ks.Nodup /\
 ∀ p,H1 p = none -> Q (.ref p) (up3 H1 p (.dct (ks.zip ts)))
theorem q_dz (ta : TA3) {σ : St3} {H : Hp3} {Q : VK3} : tDZ3 ta σ H Q = ta σ H fun vs H1 => ∃ (a b : Addr) (ks : List Str) (ts : List T),vs = [.ref a,.ref b] /\ H1 a = some (.lst (ks.map T.str)) /\ H1 b = some (.lst ts) /\ ks.length = ts.length /\ 0 < ks.length /\ ks.Nodup /\
 ∀ p,H1 p = none -> Q (.ref p) (up3 H1 p (.dct (ks.zip ts))):=rfl
theorem reps_str {K : PySem.W.Frag} {H : Hp} : ∀ {ks : List Str} {xs : List V},Reps K H (ks.map T.str) xs -> xs = ks.map V.str
 | [],_,r => r.inv0
 | k :: ks,_,r => by
  obtain ⟨v,ur,rfl,rv,rr⟩:=r.inv
  rw [rv.str,reps_str rr]
  rfl
theorem repd_zip {K : PySem.W.Frag} {H : Hp} : ∀ {ks : List Str} {ts : List T} {ys : List V},Reps K H ts ys -> RepD K H (ks.zip ts) ((ks.map Sum.inr).zip ys)
 | [],_,_,_ => .nil
 | _ :: _,[],_,r => by rw [r.inv0]; exact .nil
 | k :: ks,t :: ts,_,r => by
  obtain ⟨v,ur,rfl,rv,rr⟩:=r.inv
  exact .cons ⟨rfl,rv⟩ (repd_zip rr)
theorem bt_dict : bootBuiltins "dict" = some (.type "dict"):=by decide +kernel
theorem e3_dz {ta : TA3} (hc : X.calm = true) (hgt : Gl X "dict") (hmt : X.mg "dict" = none) (hgr : Gl X "zip") (hmr : X.mg "zip" = none) (ha : PA3 X [ea,eb] ta)
  (hs : starEach [ea,eb] X.env = [(false,eval ea X.env),(false,eval eb X.env)]:=by rfl) (hs2 : starEach [eb] X.env = [(false,eval eb X.env)]:=by rfl)
  (hpl : (backTo pos (starEach [] X.env)).any (·.1) = false:=by rfl) :
  PE3 X (.Call (.Name "dict" p1) [.Call (.Name "zip" p2) [ea,eb] [] pos'] [] pos) (tDZ3 ta):=by
 refine PE.imp (pe_dz hc hgt hmt bt_dict hgr hmr ha hs hs2 hpl) ?_
 rintro σ H Q ⟨σ3,H3,Q3,ss,sh,h,k⟩
 refine ⟨σ3,H3,_,ss,sh,h,fun vs H' ts H3' le sh' r q => ?_⟩
 obtain ⟨a,b,ks,us,rfl,ea,eb,hl,h0,nd,q⟩:=q
 obtain ⟨v,w,rfl,r1,r2⟩:=r.two'
 obtain ⟨xs,sa,ra⟩:=sh'.sqL (.inl ea)
 obtain ⟨ys,sb,rb⟩:=sh'.sqL (.inl eb)
 rw [reps_str ra] at sa
 refine ⟨a,b,ks,ys,by rw [r1.ref,r2.ref],sa,sb,by have:=rb.length; omega,h0,nd,fun l hl => ?_⟩
 exact k _ _ _ _ (le.trans (upd_tupLe hl)) (sh'.newDk hl (repd_zip rb)) .ofRef (q l (sh'.fresh hl))
end
end L3
set_option maxHeartbeats 1000000
namespace L3
open PySem PySem.Spec PyProof.Rows L2 PySem.W
section
variable {O : KeyOrd} {key : Nat -> O.α} {n : Nat}
def Kw (O : KeyOrd) (key : Nat -> O.α) (n : Nat) {α : Type} : KasT α -> (α -> Prop) -> Prop
 | .ret a,Q => Q a
 | .ask i j k,Q => i < n /\ j < n /\ Kw O key n (k (O.blt (key i) (key j))) Q
theorem Kw.mono {α : Type} {Q Q' : α -> Prop} (hq : ∀ a,Q a -> Q' a) : ∀ {t : KasT α},Kw O key n t Q -> Kw O key n t Q'
 | .ret a,h => hq a h
 | .ask i j k,h => ⟨h.1,h.2.1,Kw.mono hq h.2.2⟩
theorem Kw.bind {α β : Type} {f : α -> KasT β} {Q : β -> Prop} : ∀ {t : KasT α},Kw O key n t (fun a => Kw O key n (f a) Q) -> Kw O key n (t.bind f) Q
 | .ret a,h => h
 | .ask i j k,h => ⟨h.1,h.2.1,Kw.bind h.2.2⟩
theorem Kw.wp {α : Type} {cmp : Nat -> Nat -> (Bool -> Shared -> Prop) -> Shared -> Prop} {s : Shared} (hc : ∀ i j (C : Bool -> Shared -> Prop),i < n -> j < n -> C (O.blt (key i) (key j)) s -> cmp i j C s) {Q : α -> Prop} {R : α -> Shared -> Prop} (hq : ∀ a,Q a -> R a s) :
  ∀ {t : KasT α},Kw O key n t Q -> t.kasWp cmp R s
 | .ret a,h => hq a h
 | .ask i j k,h => hc i j _ h.1 h.2.1 (Kw.wp hc hq h.2.2)
structure Pm (n : Nat) (p : Array Nat) : Prop where
 pm : p.toList.Perm (List.range n)
 n1 : 1 <= n
theorem Pm.sz {p : Array Nat} (h : Pm n p) : p.size = n:=by
 have:=h.pm.length_eq
 rw [List.length_range] at this
 simpa using this
theorem Pm.lt {p : Array Nat} (h : Pm n p) (i : Nat) : p.getD i 0 < n:=by
 rw [Array.getD_eq_getD_getElem?]
 by_cases hi : i < p.size
 ·
  rw [Array.getElem?_eq_getElem hi]
  exact List.mem_range.mp (h.pm.mem_iff.mp (by simp))
 ·
  rw [Array.getElem?_eq_none (by omega)]
  exact h.n1
theorem Pm.by {p q : Array Nat} (h : Pm n p) (e : q.Perm p) : Pm n q:=⟨(Array.perm_iff_toList_perm.mp e).trans h.pm,h.n1⟩
noncomputable def Ky (O : KeyOrd) (key : Nat -> O.α) (p : Array Nat) (i : Nat) : O.α:=key (p.getD i 0)
def Up (O : KeyOrd) (key : Nat -> O.α) (p : Array Nat) (k : Nat) : Prop:=∀ i j,i <= j -> j < k -> O.kle (Ky O key p i) (Ky O key p j)
def Dn (O : KeyOrd) (key : Nat -> O.α) (p : Array Nat) (k : Nat) : Prop:=∀ i j,i <= j -> j < k -> O.kle (Ky O key p j) (Ky O key p i)
theorem Ky.congr {p q : Array Nat} {i j : Nat} (h : p[i]? = q[j]?) : Ky O key p i = Ky O key q j:=by unfold Ky; rw [Array.getD_eq_getD_getElem?,Array.getD_eq_getD_getElem?,h]
theorem Ky.mir {p : Array Nat} {i j : Nat} (hj : j <= p.size) (k : Nat) : Ky O key (kas_rev p i j) k = if i <= k /\ k < j then Ky O key p (i + j - 1 - k) else Ky O key p k:=by
 have e:=getElem?_mirror_all (i:=i) hj k
 split at e <;> rename_i h
 ·
  rw [if_pos h]; exact Ky.congr e
 ·
  rw [if_neg h]; exact Ky.congr e
theorem Ky.mirEq {p : Array Nat} {i j : Nat} (hj : j <= p.size) (he : ∀ k,i <= k -> k < j -> Ky O key p k = Ky O key p (j - 1)) (k : Nat) : Ky O key (kas_rev p i j) k = Ky O key p k:=by
 rw [Ky.mir hj]
 split
 ·
  rw [he _ (by omega) (by omega),he k (by omega) (by omega)]
 ·
  rfl
theorem Ky.bub {p : Array Nat} {s d : Nat} (hs : s < p.size) (hd : d <= s) (k : Nat) : Ky O key (bubble p s d) k = if k = s - d then Ky O key p s else if s - d < k /\ k <= s then Ky O key p (k - 1) else Ky O key p k:=by
 have e:=getElem?_bubble hs d hd k
 by_cases h1 : k = s - d
 ·
  rw [if_pos h1] at e ⊢; exact Ky.congr e
 ·
  rw [if_neg h1] at e ⊢
  by_cases h2 : s - d < k /\ k <= s
  ·
   rw [if_pos h2] at e ⊢; exact Ky.congr e
  ·
   rw [if_neg h2] at e ⊢; exact Ky.congr e
theorem Pm.rev {p : Array Nat} (h : Pm n p) (i j : Nat) : Pm n (kas_rev p i j):=h.by (mirror_perm _ _ _ _)
theorem Up.one {p : Array Nat} : Up O key p 1:=fun i j h1 h2 => by
 obtain rfl : i = j:=by omega
 exact KeyOrd.kle_refl _
theorem Up.more {p : Array Nat} {k : Nat} (hk : 1 <= k) (h : Up O key p k) (e : O.kle (Ky O key p (k - 1)) (Ky O key p k)) : Up O key p (k + 1):=fun i j h1 h2 => by
 by_cases hj : j < k
 ·
  exact h i j h1 hj
 ·
  obtain rfl : j = k:=by omega
  by_cases hi : i = j
  ·
   subst hi; exact KeyOrd.kle_refl _
  ·
   exact KeyOrd.kle_trans (h i (j - 1) (by omega) (by omega)) e
theorem Dn.more {p : Array Nat} {k : Nat} (hk : 1 <= k) (h : Dn O key p k) (e : O.kle (Ky O key p k) (Ky O key p (k - 1))) : Dn O key p (k + 1):=fun i j h1 h2 => by
 by_cases hj : j < k
 ·
  exact h i j h1 hj
 ·
  obtain rfl : j = k:=by omega
  by_cases hi : i = j
  ·
   subst hi; exact KeyOrd.kle_refl _
  ·
   exact KeyOrd.kle_trans e (h i (j - 1) (by omega) (by omega))
theorem kw_asc {p : Array Nat} {Q : Nat -> Prop} (hp : Pm n p) : ∀ (f a : Nat),1 <= a -> Up O key p a -> (∀ m,a <= m -> m <= a + f -> Up O key p m -> m = a + f \/ O.klt (Ky O key p m) (Ky O key p (m - 1)) -> Q m) -> Kw O key n (kas_asc p f a) Q
 | 0,a,_,h,k => k a (Nat.le_refl _) (Nat.le_refl _) h (.inl rfl)
 | f + 1,a,ha,h,k => by
  refine ⟨hp.lt _,hp.lt _,?_⟩
  cases e : O.blt (key (p.getD a 0)) (key (p.getD (a - 1) 0)) with
  | true => exact k a (Nat.le_refl _) (by omega) h (.inr e)
  | false => exact kw_asc hp f (a + 1) (by omega) (h.more ha e) fun m h1 h2 h3 h4 => k m (by omega) (by omega) h3 (h4.imp (fun q => by omega) id)
theorem kw_desc {Q : Array Nat × Nat × Nat -> Prop} : ∀ (f : Nat) (p : Array Nat) (a q : Nat),Pm n p -> 1 <= a -> a + f <= n -> Dn O key p a -> q + 1 <= a -> (∀ i,a - (q + 1) <= i -> i < a -> Ky O key p i = Ky O key p (a - 1)) ->
  (∀ p' m r,Pm n p' -> a <= m -> m <= a + f -> Dn O key p' m -> r + 1 <= m -> (∀ i,m - (r + 1) <= i -> i < m -> Ky O key p' i = Ky O key p' (m - 1)) -> Q (p',m,r)) -> Kw O key n (kas_desc f p a q) Q
 | 0,p,a,q,hp,_,_,h,hq,he,k => k p a q hp (Nat.le_refl _) (Nat.le_refl _) h hq he
 | f + 1,p,a,q,hp,ha,hn,h,hq,he,k => by
  refine ⟨hp.lt _,hp.lt _,?_⟩
  cases e : O.blt (key (p.getD a 0)) (key (p.getD (a - 1) 0)) with
  | true =>
   have sz : a <= p.size:=by rw [hp.sz]; omega
   have one : ∀ p' : Array Nat,∀ i,a + 1 - (0 + 1) <= i -> i < a + 1 -> Ky O key p' i = Ky O key p' (a + 1 - 1):=fun p' i h1 h2 => by rw [show i = a + 1 - 1 by omega]
   dsimp only
   rw [if_pos rfl]
   by_cases hq0 : q > 0
   ·
    rw [if_pos hq0]
    have ke:=Ky.mirEq (O:=O) (key:=key) (i:=a - (q + 1)) sz he
    refine kw_desc f _ (a + 1) 0 (hp.rev _ _) (by omega) (by omega) (Dn.more ha (fun i j h1 h2 => by rw [ke,ke]; exact h i j h1 h2) (by rw [ke,ke]; exact KeyOrd.kle_of_klt e)) (by omega) (one _) fun p' m r a1 a2 a3 a4 a5 a6 => k p' m r a1 (by omega) (by omega) a4 a5 a6
   ·
    rw [if_neg hq0]
    exact kw_desc f p (a + 1) 0 hp (by omega) (by omega) (h.more ha (KeyOrd.kle_of_klt e)) (by omega) (one _) fun p' m r a1 a2 a3 a4 a5 a6 => k p' m r a1 (by omega) (by omega) a4 a5 a6
  | false =>
   dsimp only
   rw [if_neg Bool.false_ne_true]
   refine ⟨hp.lt _,hp.lt _,?_⟩
   cases e2 : O.blt (key (p.getD (a - 1) 0)) (key (p.getD a 0)) with
   | true => exact k p a q hp (Nat.le_refl _) (by omega) h hq he
   | false =>
    dsimp only
    rw [if_neg Bool.false_ne_true]
    have eq : Ky O key p a = Ky O key p (a - 1):=KeyOrd.kle_antisymm e2 e
    refine kw_desc f p (a + 1) (q + 1) hp (by omega) (by omega) (h.more ha (by rw [eq]; exact KeyOrd.kle_refl _)) (by omega) (fun i h1 h2 => ?_) fun p' m r a1 a2 a3 a4 a5 a6 => k p' m r a1 (by omega) (by omega) a4 a5 a6
    rw [show a + 1 - 1 = a by omega]
    by_cases hi : i = a
    ·
     rw [hi]
    ·
     rw [eq]; exact he i (by omega) (by omega)
theorem kw_tail {p : Array Nat} {a : Nat} {Q : Nat × Array Nat -> Prop} (hp : Pm n p) (ha : 1 <= a) (hn : a <= n) (h : Dn O key p a) (k : ∀ m p',Pm n p' -> 1 <= m -> m <= n -> Up O key p' m -> Q (m,p')) : Kw O key n (kas_tail3 a n p) Q:=by
 refine Kw.bind (kw_asc (hp.rev 0 a) _ a ha (fun i j h1 h2 => ?_) fun m h1 h2 h3 _ => k m _ (hp.rev 0 a) (by omega) (by omega) h3)
 have sz : a <= p.size:=by rw [hp.sz]; exact hn
 rw [Ky.mir sz,Ky.mir sz,if_pos (by omega),if_pos (by omega)]
 exact h _ _ (by omega) (by omega)
theorem kw_descPart {p : Array Nat} {a : Nat} {Q : Nat × Array Nat -> Prop} (hp : Pm n p) (hn : a + 1 <= n) (h : Dn O key p (a + 1)) (k : ∀ m p',Pm n p' -> 1 <= m -> m <= n -> Up O key p' m -> Q (m,p')) : Kw O key n (kas_descPart a n p) Q:=by
 refine Kw.bind (kw_desc _ p (a + 1) 0 hp (by omega) (by omega) h (by omega) (fun i h1 h2 => by rw [show i = a + 1 - 1 by omega]) fun p' m r a1 a2 a3 a4 a5 a6 => ?_)
 dsimp only
 have sz : m <= p'.size:=by rw [a1.sz]; omega
 by_cases hr : r > 0
 ·
  rw [if_pos hr]
  have ke:=Ky.mirEq (O:=O) (key:=key) (i:=m - (r + 1)) sz a6
  exact kw_tail (a1.rev _ _) (by omega) (by omega) (fun i j h1 h2 => by rw [ke,ke]; exact a4 i j h1 h2) k
 ·
  rw [if_neg hr]
  exact kw_tail a1 (by omega) (by omega) a4 k
theorem kw_count {p : Array Nat} {Q : Nat × Array Nat -> Prop} (hp : Pm n p) (k : ∀ m p',Pm n p' -> 1 <= m -> m <= n -> Up O key p' m -> Q (m,p')) : Kw O key n (kas_count n p) Q:=by
 have n1:=hp.n1
 refine Kw.bind (kw_asc hp _ 1 (Nat.le_refl _) Up.one fun m h1 h2 h3 h4 => ?_)
 by_cases hm : m = n
 ·
  rw [if_pos (by simpa using hm)]
  exact k m p hp h1 (by omega) h3
 ·
  rw [if_neg (by simpa using hm)]
  have hlt : O.klt (Ky O key p m) (Ky O key p (m - 1)):=h4.resolve_left (by omega)
  by_cases h5 : m > 1
  ·
   rw [if_pos h5]
   refine ⟨hp.lt _,hp.lt _,?_⟩
   cases e : O.blt (key (p.getD 0 0)) (key (p.getD (m - 1) 0)) with
   | true => exact k m p hp h1 (by omega) h3
   | false =>
    dsimp only
    rw [if_neg Bool.false_ne_true]
    have sz : m <= p.size:=by rw [hp.sz]; omega
    have all : ∀ i,0 <= i -> i < m -> Ky O key p i = Ky O key p (m - 1):=fun i _ hi => KeyOrd.kle_antisymm (h3 i (m - 1) (by omega) (by omega)) (KeyOrd.kle_trans e (h3 0 i (by omega) hi))
    have ke:=Ky.mirEq (O:=O) (key:=key) (i:=0) sz all
    refine kw_descPart (hp.rev _ _) (by omega) (Dn.more h1 (fun i j q1 q2 => ?_) ?_) k
    ·
     rw [ke,ke,all i (by omega) (by omega),all j (by omega) (by omega)]; exact KeyOrd.kle_refl _
    ·
     rw [ke,ke]; exact KeyOrd.kle_of_klt hlt
  ·
   rw [if_neg h5]
   obtain rfl : m = 1:=by omega
   refine kw_descPart hp (by omega) (Dn.more (Nat.le_refl _) (fun i j q1 q2 => ?_) (KeyOrd.kle_of_klt hlt)) k
   obtain rfl : i = j:=by omega
   exact KeyOrd.kle_refl _
theorem kw_place {p : Array Nat} {k : Nat} {Q : Nat -> Prop} (hp : Pm n p) : ∀ (f l r : Nat),l <= r -> r <= k -> r - l <= f -> (∀ i,i < l -> O.kle (Ky O key p i) (Ky O key p k)) -> (∀ i,r <= i -> i < k -> O.klt (Ky O key p k) (Ky O key p i)) -> Up O key p k ->
  (∀ l,l <= k -> (∀ i,i < l -> O.kle (Ky O key p i) (Ky O key p k)) -> (∀ i,l <= i -> i < k -> O.klt (Ky O key p k) (Ky O key p i)) -> Q l) -> Kw O key n (kas_place p k f l r) Q
 | 0,l,r,h1,h2,h3,lo,hi,_,q => by
  obtain rfl : l = r:=by omega
  exact q l h2 lo hi
 | f + 1,l,r,h1,h2,h3,lo,hi,hu,q => by
  unfold kas_place
  by_cases h : l ≥ r
  ·
   obtain rfl : l = r:=by omega
   rw [if_pos h]
   exact q l h2 lo hi
  ·
   rw [if_neg h]
   refine ⟨hp.lt _,hp.lt _,?_⟩
   cases e : O.blt (key (p.getD k 0)) (key (p.getD ((l + r) / 2) 0)) with
   | true => exact kw_place hp f l ((l + r) / 2) (by omega) (by omega) (by omega) lo (fun i a1 a2 => KeyOrd.klt_of_klt_of_kle e (hu _ i a1 a2)) hu q
   | false => exact kw_place hp f ((l + r) / 2 + 1) r (by omega) h2 (by omega) (fun i a1 => KeyOrd.kle_trans (hu i ((l + r) / 2) (by omega) (by omega)) e) hi hu q
theorem kw_bin {Q : Array Nat -> Prop} : ∀ (f : Nat) (p : Array Nat) (k : Nat),Pm n p -> k + f = n -> Up O key p k -> (∀ p',Pm n p' -> Up O key p' n -> Q p') -> Kw O key n (kas_bin f p k) Q
 | 0,p,k,hp,e,h,q => by
  obtain rfl : k = n:=by omega
  exact q p hp h
 | f + 1,p,k,hp,e,h,q => by
  have sz : k < p.size:=by rw [hp.sz]; omega
  refine Kw.bind (kw_place hp k 0 k (Nat.zero_le _) (Nat.le_refl _) (by omega) (fun _ z => absurd z (Nat.not_lt_zero _)) (fun _ z1 z2 => absurd z2 (by omega)) h fun l hl lo hi => ?_)
  refine kw_bin f _ (k + 1) (hp.by (bubble_perm _ _ _)) (by omega) (fun i j h1 h2 => ?_) q
  rw [Ky.bub sz (by omega),Ky.bub sz (by omega),show k - (k - l) = l by omega]
  by_cases i1 : i = l
  ·
   rw [if_pos i1]
   by_cases j1 : j = l
   ·
    rw [if_pos j1]; exact KeyOrd.kle_refl _
   ·
    rw [if_neg j1,if_pos (by omega)]; exact KeyOrd.kle_of_klt (hi _ (by omega) (by omega))
  ·
   rw [if_neg i1]
   by_cases i2 : l < i /\ i <= k
   ·
    rw [if_pos i2,if_neg (by omega),if_pos (by omega)]; exact h _ _ (by omega) (by omega)
   ·
    rw [if_neg i2]
    by_cases j1 : j = l
    ·
     rw [if_pos j1]; exact lo i (by omega)
    ·
     rw [if_neg j1]
     by_cases j2 : l < j /\ j <= k
     ·
      rw [if_pos j2]; exact h _ _ (by omega) (by omega)
     ·
      rw [if_neg j2]; exact h _ _ h1 (by omega)
theorem kw_sort (n1 : 1 <= n) : Kw O key n (kas_sort n) fun p => Pm n p /\ Up O key p n:=by
 have p0 : Pm n (List.toArray (List.range n)):=⟨.refl _,n1⟩
 refine Kw.bind (kw_count p0 fun m p hp h1 h2 h3 => ?_)
 dsimp only
 by_cases h : m < n
 ·
  rw [if_pos h,show max m 1 = m by omega]
  exact kw_bin _ p m hp (by omega) h3 fun p' a b => ⟨a,b⟩
 ·
  rw [if_neg h]
  obtain rfl : m = n:=by omega
  exact ⟨hp,h3⟩
end
end L3
set_option maxHeartbeats 2000000
namespace L3
open PySem PySem.Spec PyProof.Rows L2
def LtAt (A : Around) (s : Shared) (y x : Value) (b : Bool) : Prop :=
 ∀ (P : Program) (w : World) (E Q : Value -> Shared -> Prop),Q (.bool b) s -> wpAny (model P w) A (richCompare .Lt y x) Q E s
noncomputable def lexB (e l : Nat -> Bool) (fin : Bool) : List Nat -> Bool
 | [] => fin
 | i :: r => if e i = true then lexB e l fin r else l i
theorem range_drop {n i : Nat} (h : i < n) : (List.range n).drop i = i :: (List.range n).drop (i + 1):=by
 rw [List.drop_eq_getElem_cons (by simpa using h)]; simp
theorem tup_lt (a b : Addr) (xs ys : Array Value) (n k : Nat) (da db : Option Addr) (sa sb : Array (Option Value)) (e l : Nat -> Bool) : Meets (Builtin.«tuple.__lt__» ⟨[.ref a,.ref b],[]⟩) fun A R s =>
  s.heap.get? a = some ⟨.type "tuple",da,.seq xs n,sa⟩ /\ s.heap.get? b = some ⟨.type "tuple",db,.seq ys k,sb⟩ /\ (∀ j (h1 : j < xs.size) (h2 : j < ys.size),SeqAt.EqAt A.in1 s xs[j] ys[j] (e j)) /\
  (∀ j (h1 : j < xs.size) (h2 : j < ys.size),e j = false -> LtAt A.in1 s xs[j] ys[j] (l j)) /\ R (.ok (.ret (.bool (lexB e l (decide (xs.size < ys.size)) (List.range (min xs.size ys.size)))))) s:=by
 refine .of_wp fun P w A R s h => ?_
 obtain ⟨hp,g,d,tk,os⟩:=s
 obtain ⟨ha,hb,he,hl,h⟩:=h
 have sub:=AutoSeq1.sub_tuple_tuple
 have hz : (xs.toList.zip ys.toList).length = min xs.size ys.size:=by simp
 wp_walk using AutoSeq1.wpAny_loadPart' ha,AutoSeq1.wpAny_loadPart' hb,wpAny_forIn_list _ (fun rest c s' => c.1 = none /\ s' = ⟨hp,g,d,tk,os⟩ /\ ∃ i,rest = (xs.toList.zip ys.toList).drop i /\
  R (.ok (.ret (.bool (lexB e l (decide (xs.size < ys.size)) ((List.range (min xs.size ys.size)).drop i))))) ⟨hp,g,d,tk,os⟩) _
 case turn =>
  rintro ⟨y,x⟩ rest c s' ⟨hc,rfl,i,hr,hR⟩
  have hi : i < (xs.toList.zip ys.toList).length:=by
   rcases Nat.lt_or_ge i (xs.toList.zip ys.toList).length with q | q
   ·
    exact q
   ·
    rw [List.drop_of_length_le q] at hr; cases hr
  have hm : i < min xs.size ys.size:=hz ▸ hi
  have i1 : i < xs.size:=by omega
  have i2 : i < ys.size:=by omega
  rw [List.drop_eq_getElem_cons hi] at hr
  injection hr with hyx hrest
  have q1 : y = xs[i]:=by simpa using congrArg Prod.fst hyx
  have q2 : x = ys[i]:=by simpa using congrArg Prod.snd hyx
  subst q1 q2
  rw [range_drop hm] at hR
  refine wpAny_bind (he i i1 i2 P w _ _ ?_)
  cases hy : e i with
  | true =>
   unfold lexB at hR
   rw [if_pos hy] at hR
   wp_walk
   exact ⟨rfl,rfl,i + 1,hrest,hR⟩
  | false =>
   unfold lexB at hR
   rw [if_neg (by rw [hy]; decide)] at hR
   have hL:=hl i i1 i2 hy
   have hL' : ∀ {E Q : Value -> Shared -> Prop},Q (.bool (l i)) ⟨hp,g,d,tk,os⟩ -> wpAny (model P w) A.in1 (richCompare .Lt xs[i] ys[i]) Q E ⟨hp,g,d,tk,os⟩:=fun {E Q} => hL P w E Q
   wp_walk using hL'
   exact ⟨_,rfl,hR⟩
 case fin =>
  rintro ⟨c1,c2⟩ s' ⟨hc,rfl,i,hr,hR⟩
  simp only at hc
  subst hc
  have hge : min xs.size ys.size <= i:=by
   rcases Nat.lt_or_ge i (min xs.size ys.size) with q | q
   ·
    have:=congrArg List.length hr
    simp at this
    omega
   ·
    exact q
  rw [List.drop_of_length_le (by simpa using hge)] at hR
  wp_walk
  exact ⟨_,rfl,by simpa [Builtin.Tuple.tupleCompareSizes,lexB] using hR⟩
 case h => exact ⟨rfl,rfl,0,rfl,by simpa using h⟩
section
variable {A : Around} {s : Shared}
theorem LtAt.tups {a b : Addr} {xs ys : Array Value} {e l : Nat -> Bool} (ha : s.heap.IsTuple a xs) (hb : s.heap.IsTuple b ys) (hu : A.units < cLine) (he : ∀ j (h1 : j < xs.size) (h2 : j < ys.size),SeqAt.EqAt A.in1 s xs[j] ys[j] (e j))
  (hl : ∀ j (h1 : j < xs.size) (h2 : j < ys.size),e j = false -> LtAt A.in1 s xs[j] ys[j] (l j)) : LtAt A s (.ref a) (.ref b) (lexB e l (decide (xs.size < ys.size)) (List.range (min xs.size ys.size))):=by
 intro P w E Q h
 obtain ⟨⟨c1,d1,t1,z1⟩,o1,k1,n1,q1⟩:=id ha
 obtain ⟨⟨c2,d2,t2,z2⟩,o2,k2,n2,q2⟩:=id hb
 dsimp only at k1 q1 k2 q2
 subst k1 q1 k2 q2
 refine richCompare_meets_room (op:=.Lt) ⟨_,o1,rfl⟩ ⟨_,o2,rfl⟩ F.slot_tuple_lt F.entry_tuple_lt (F.args_tuple_lt_2 _ _) (tup_lt a b xs ys n1 n2 d1 d2 z1 z2 e l) ⟨o1,o2,he,hl,?_⟩ hu
 exact show Value.bool _ ≠ Value.notImplemented /\ Q (.bool _) s from ⟨(fun x => nomatch x),h⟩
theorem LtAt.ints (i j : Int) (t u : Tok) : LtAt A s (.int i t) (.int j u) (decide (i < j)):=fun P w E Q h => (wpAny_lt_int h : wpAny (model P w) A (compareOp .Lt _ _) Q E s)
theorem LtAt.strs (i j : Str) (t u : Tok) : LtAt A s (.str i t) (.str j u) (decide (i.cps.toList < j.cps.toList)):=fun P w E Q h => (PyProof.Rows.lt_str h : wpAny (model P w) A (compareOp .Lt _ _) Q E s)
end
section
variable {X : Cx} {pins : List (Addr × Obj)} {σ : L2.St} {H : Hp} {s : Shared}
end
section
variable {P : Program} {w : World} {A : Around} {R : Result -> Shared -> Prop} {I S : Addr} {fp wr : List Addr} {n : Nat} {V : Nat -> Value -> Prop} {St : Nat -> Heap -> Prop} {bt : Nat -> Nat -> Bool} {s0 : Shared}
def Kpt (h h' : Heap) : Prop:=∀ b o,h.get? b = some o -> h'.get? b = some o
end
section
variable {X : Cx}
end
end L3
namespace L3
open PySem PySem.Spec PyProof.Rows L2 PySem.W
def Srt (O : KeyOrd) (key : Nat -> O.α) (n : Nat) (ps : List Nat) : Prop:=ps.Perm (List.range n) /\ ∀ i j,i <= j -> j < n -> O.kle (key (ps.getD i 0)) (key (ps.getD j 0))
theorem Srt.of {O : KeyOrd} {key : Nat -> O.α} {n : Nat} {p : Array Nat} (h : Pm n p) (u : Up O key p n) : Srt O key n p.toList:=⟨h.pm,fun i j h1 h2 => by
 have:=u i j h1 h2
 unfold Ky at this
 rw [Array.getD_eq_getD_getElem?,Array.getD_eq_getD_getElem?] at this
 rw [List.getD_eq_getElem?_getD,List.getD_eq_getElem?_getD,Array.getElem?_toList,Array.getElem?_toList]
 exact this⟩
section
variable {P : Program} {w : World} {A : Around} {E : Value -> Shared -> Prop} {s : Shared} {O : KeyOrd} {key : Nat -> O.α}
theorem list_sortK {a : Addr} {vs : List Value} {c : Nat} {R : PySem.Fin -> Shared -> Prop} (ho : s.heap.get? a = some (seqObj "list" vs.toArray c)) (h64 : vs.length < 64)
  (hk : 2 <= vs.length -> ∀ h',(∀ b o,b ≠ a -> s.heap.get? b = some o -> h'.get? b = some o) -> wpAny (model P w) A (keyKind' vs.toArray) (fun κ s' => s' = { s with heap:=h' } /\ ∀ i j (C : Bool -> Shared -> Prop),i < vs.length -> j < vs.length -> C (O.blt (key i) (key j)) { s with heap:=h' } -> kas_ask P w A κ vs i j C { s with heap:=h' }) (fun _ _ => False) { s with heap:=h' })
  (h : ∀ ps,Srt O key vs.length ps -> R (.done (.ret .none)) { s with heap:=sortedHeap s.heap a vs (ps.map fun i => vs.getD i Value.none).toArray }) : wpAny (model P w) A (Builtin.«list.sort» ⟨[.ref a],[]⟩) R E s:=by
 have ha : a < s.heap.objs.size:=Heap.lt_size ho
 have hz : vs.length <= sizeLine:=by rw [sizeLine_eq]; omega
 rw [list_sort_plain]
 refine wpAny_bind (listItems_at ho rfl ?_)
 refine wpAny_bind (listUpdate_at ho rfl ?_ (by rw [List.size_toArray]; omega) (Nat.zero_le _))
 obtain ⟨e1,ho1⟩ : ∃ e1,(s.heap.update a (Obj.mapSeq fun _ => (#[] : Array Value))).get? a = some (seqObj "list" #[] e1):=⟨_,get?_update_seq ho fun _ => #[]⟩
 refine wpAny_bind (seqEpoch_at ho1 rfl ?_)
 refine wpAny_bind (wpAny_newTuple ?_ hz)
 refine wpAny_bind (wpAny_newList ?_ (Nat.zero_le _))
 refine wpAny_holding ?_
 have ho6 : (((s.heap.update a (Obj.mapSeq fun _ => (#[] : Array Value))).push (seqObj "tuple" vs.toArray 0)).push (seqObj "list" #[] 0)).get? a = some (seqObj "list" #[] e1):=Heap.get?_push_of_some _ (Heap.get?_push_of_some _ ho1)
 show wpAny (model P w) A _ R E { s with heap:=((s.heap.update a (Obj.mapSeq fun _ => (#[] : Array Value))).push (seqObj "tuple" vs.toArray 0)).push (seqObj "list" #[] 0) }
 dsimp only
 by_cases h2 : vs.toArray.size < 2
 ·
  rw [if_pos h2,if_pos h2]
  refine wpAny_bind (wpAny_pure ?_)
  rw [StateT.run_pure]
  refine wpAny_bind (wpAny_pure ?_)
  dsimp only
  rw [List.size_toArray] at h2
  refine wpAny_bind (seqEpoch_at ho6 rfl ?_)
  have e : ((vs.toArray.zip vs.toArray).map (·.2)) = ((List.range vs.length).map fun i => vs.getD i Value.none).toArray:=by
   match vs,h2 with
   | [],_ => simp
   | [v],_ => simp [List.range_succ]
  show wpAny (model P w) A (Builtin.List.listUpdate (.ref a) (fun _ => (vs.toArray.zip vs.toArray).map (·.2)) >>= _) R E _
  rw [e]
  refine wpAny_bind (listUpdate_at ho6 rfl ?_ (Nat.zero_le _) (by rw [List.size_toArray,List.length_map,List.length_range]; omega))
  simp only [bne_self_eq_false,Bool.false_eq_true,if_false]
  refine wpAny_pure (h (List.range vs.length) ⟨.refl _,fun i j h1 h3 => ?_⟩)
  obtain rfl : i = j:=by omega
  exact KeyOrd.kle_refl _
 ·
  rw [if_neg h2,if_neg h2]
  rw [List.size_toArray] at h2
  refine wpAny_bind (wpAny_mono (hk (by omega) _ fun b o hb e => Heap.get?_push_of_some _ (Heap.get?_push_of_some _ ((Heap.get?_update_ne _ _ _ _ hb).trans e))) (fun κ s' hs => ?_) fun _ _ x => x.elim)
  obtain ⟨rfl,hc⟩:=hs
  have kw:=kw_sort (O:=O) (key:=key) (n:=vs.length) (by omega)
  refine wpAny_bind (wpAny_mono (kat_run (G:=fun p s' => (Pm vs.length p /\ Up O key p vs.length) /\ s' = { s with heap:=((s.heap.update a (Obj.mapSeq fun _ => (#[] : Array Value))).push (seqObj "tuple" vs.toArray 0)).push (seqObj "list" #[] 0) }) (Q:=fun st' s' => ∃ p : Array Nat,arrOf st' = p.map (kas_item (vs.toArray.zip vs.toArray)) /\ failedOf st' = none /\ (Pm vs.length p /\ Up O key p vs.length) /\ s' = { s with heap:=((s.heap.update a (Obj.mapSeq fun _ => (#[] : Array Value))).push (seqObj "tuple" vs.toArray 0)).push (seqObj "list" #[] 0) }) rfl (by omega) h64 (fun p' st' s' a1 a2 a3 a4 => ⟨p',a2,a3,a4.1,a4.2⟩) (kw.wp hc fun p hp => ⟨hp,rfl⟩)) ?_ fun _ _ e => e)
  rintro ⟨⟨⟩,st'⟩ s' ⟨p,har,hf,⟨hp,hu⟩,rfl⟩
  dsimp only
  rw [kat_snds rfl har]
  refine wpAny_bind (seqEpoch_at ho6 rfl ?_)
  refine wpAny_bind (listUpdate_at ho6 rfl ?_ (Nat.zero_le _) (by rw [List.size_toArray,List.length_map,hp.pm.length_eq,List.length_range]; omega))
  rw [hf]
  simp only [bne_self_eq_false,Bool.false_eq_true,if_false]
  exact wpAny_pure (h _ (.of hp hu))
theorem sorted_kpt {h : Heap} {vs : List Value} {out : Array Value} : Kpt h (sortedAll h vs out) /\ ∃ c,(sortedAll h vs out).get? (h.objs.size + 1) = some (seqObj "list" out c):=by
 have sz : ((h.push (seqObj "list" #[] 0)).update h.objs.size (Obj.mapSeq (· ++ vs.toArray))).objs.size = h.objs.size + 1:=by rw [Heap.size_update,size_push']
 have hoL : (((h.push (seqObj "list" #[] 0)).update h.objs.size (Obj.mapSeq (· ++ vs.toArray))).push (seqObj "list" vs.toArray 0)).get? (h.objs.size + 1) = some (seqObj "list" vs.toArray 0):=by
  rw [<- sz]; exact Heap.get?_push_size _ rfl
 refine ⟨fun b o e => ?_,?_⟩
 ·
  have hb : b < h.objs.size:=Heap.lt_size e
  unfold sortedAll sortedHeap
  rw [Heap.get?_update_ne _ _ _ _ (Nat.ne_of_lt (Nat.lt_succ_of_lt hb))]
  refine Heap.get?_push_of_some _ (Heap.get?_push_of_some _ ?_)
  rw [Heap.get?_update_ne _ _ _ _ (Nat.ne_of_lt (Nat.lt_succ_of_lt hb))]
  refine Heap.get?_push_of_some _ ?_
  rw [Heap.get?_update_ne _ _ _ _ (Nat.ne_of_lt hb)]
  exact Heap.get?_push_of_some _ e
 ·
  unfold sortedAll sortedHeap
  exact ⟨_,get?_update_seq (Heap.get?_push_of_some _ (Heap.get?_push_of_some _ (get?_update_seq hoL fun _ => #[]))) fun _ => out⟩
theorem collect_tup {l : Addr} {vs : List Value} {Q : List Value -> Shared -> Prop} (hl : s.heap.IsTuple l vs.toArray) (hz : vs.length <= sizeLine)
  (h : Q vs { s with heap:=(s.heap.push (seqObj "list" #[] 0)).update s.heap.objs.size (Obj.mapSeq (· ++ vs.toArray)) }) : wpAny (model P w) A (collect (.ref l)) Q E s:=by
 obtain ⟨o,ho,hc,n,hd⟩:=id hl
 unfold collect
 refine wpAny_bind (wpAny_runValue (codeAny_builtin entry_proto_collect' ?_))
 refine wpAny_bind (m:=newList []) (wpAny_newList (wpAny_pure ⟨Code.quiet_builtin _ (by decide +kernel),codeAny_builtin entry_list_iadd' ?_⟩))
 show wpAny _ _ (Builtin.List.listExtendWith (.ref s.heap.objs.size) (.ref l) (.ref s.heap.objs.size)) _ _ { s with heap:=s.heap.push (seqObj "list" #[] 0) }
 unfold Builtin.List.listExtendWith
 have hl2 : (s.heap.push (seqObj "list" #[] 0)).get? l = some o:=Heap.get?_push_of_some _ ho
 refine wpAny_bind (wpAny_typeOf (T:="tuple") ⟨o,hl2,hc⟩ ?_)
 rw [if_pos (by rw [show (Value.type "tuple" == Value.type "tuple") = true from rfl,Bool.or_true])]
 refine wpAny_bind (listItems_at hl2 hd (wpAny_bind (listItems_at (xs:=#[]) (n:=0) (Heap.get?_push_size _ rfl) rfl ?_)))
 rw [if_neg (by simp)]
 refine wpAny_bind (listUpdate_at (xs:=#[]) (n:=0) (Heap.get?_push_size _ rfl) rfl ?_ (Nat.zero_le _) (by show (#[] ++ vs.toArray).size <= sizeLine + 1; simp only [Array.size_append,List.size_toArray,List.length_nil]; omega))
 refine wpAny_pure ?_
 refine wpAny_bind (m:=load s.heap.objs.size) (wpAny_load (get?_update_seq (Heap.get?_push_size _ rfl) _) ?_)
 show wpAny _ _ (pure ((#[] : Array Value) ++ vs.toArray).toList) Q E _
 rw [show ((#[] : Array Value) ++ vs.toArray).toList = vs by simp]
 exact wpAny_pure h
theorem collect_seq {l : Addr} {vs : List Value} {Q : List Value -> Shared -> Prop} (hl : s.heap.IsList l vs.toArray \/ s.heap.IsTuple l vs.toArray) (hz : vs.length <= sizeLine)
  (h : Q vs { s with heap:=(s.heap.push (seqObj "list" #[] 0)).update s.heap.objs.size (Obj.mapSeq (· ++ vs.toArray)) }) : wpAny (model P w) A (collect (.ref l)) Q E s:=by
 rcases hl with hl | hl
 ·
  exact collect_list hl h hz
 ·
  exact collect_tup hl hz h
theorem sortedK {l : Addr} {vs : List Value} {Q : Value -> Shared -> Prop} (hl : s.heap.IsList l vs.toArray \/ s.heap.IsTuple l vs.toArray) (h64 : vs.length < 64)
  (hk : 2 <= vs.length -> ∀ h',Kpt s.heap h' -> wpAny (model P w) A.in1.in1 (keyKind' vs.toArray) (fun κ s' => s' = { s with heap:=h' } /\ ∀ i j (C : Bool -> Shared -> Prop),i < vs.length -> j < vs.length -> C (O.blt (key i) (key j)) { s with heap:=h' } -> kas_ask P w A.in1.in1 κ vs i j C { s with heap:=h' }) (fun _ _ => False) { s with heap:=h' })
  (h : ∀ ps h' c,Srt O key vs.length ps -> Kpt s.heap h' -> h'.get? (s.heap.objs.size + 1) = some (seqObj "list" (ps.map fun i => vs.getD i Value.none).toArray c) -> Q (.ref (s.heap.objs.size + 1)) { s with heap:=h' }) : wpAny (model P w) A (call (.builtin "sorted") [.ref l]) Q E s:=by
 refine Calls.call_function_entry kind_sorted plain_sorted entry_sorted (args_sorted1 _) ?_
 unfold Builtin.«sorted»
 refine wpAny_bind (m:=checkCount "sorted" 1 1 _) (wpAny_pure ?_)
 refine wpAny_bind (collect_seq hl (by rw [sizeLine_eq]; omega) ?_)
 refine wpAny_bind (wpAny_newList ?_ (by rw [sizeLine_eq]; omega))
 have sz : ((s.heap.push (seqObj "list" #[] 0)).update s.heap.objs.size (Obj.mapSeq (· ++ vs.toArray))).objs.size = s.heap.objs.size + 1:=by rw [Heap.size_update,size_push']
 have hoL : (((s.heap.push (seqObj "list" #[] 0)).update s.heap.objs.size (Obj.mapSeq (· ++ vs.toArray))).push (seqObj "list" vs.toArray 0)).get? (s.heap.objs.size + 1) = some (seqObj "list" vs.toArray 0):=by
  rw [<- sz]; exact Heap.get?_push_size _ rfl
 show wpAny _ _ _ _ _ { s with heap:=((s.heap.push (seqObj "list" #[] 0)).update s.heap.objs.size (Obj.mapSeq (· ++ vs.toArray))).push (seqObj "list" vs.toArray 0) }
 rw [sz]
 refine wpAny_bind (wpAny_holding (wpAny_call_entry slot_list_sort ⟨_,hoL,rfl⟩ entry_list_sort (list_sortK (O:=O) (key:=key) hoL h64 (fun h2 h' kp => hk h2 h' fun b o e => kp b o ?_ ?_) fun ps hs => ⟨_,rfl,?_⟩) (args_list_sort _)))
 ·
  exact Nat.ne_of_lt (Nat.lt_succ_of_lt (Heap.lt_size e))
 ·
  have hb : b < s.heap.objs.size:=Heap.lt_size e
  refine Heap.get?_push_of_some _ ?_
  rw [Heap.get?_update_ne _ _ _ _ (Nat.ne_of_lt hb)]
  exact Heap.get?_push_of_some _ e
 ·
  obtain ⟨kp,c,hc⟩:=sorted_kpt (h:=s.heap) (vs:=vs) (out:=(ps.map fun i => vs.getD i Value.none).toArray)
  exact wpAny_pure ⟨_,rfl,h ps _ c hs kp hc⟩
end
end L3
namespace L3
open PySem PySem.Spec PyProof.Rows L2 PySem.W M
theorem cps_eq {x y : Str} : (x == y) = decide (x.cps.toList = y.cps.toList):=by
 by_cases h : x = y
 ·
  subst h; simp
 ·
  have : ¬ x.cps.toList = y.cps.toList:=fun e => h (by cases x; cases y; simp at e; simp [e])
  simp [h,this]
section
variable {X : Cx} {pins : List (Addr × Obj)} {σ : L2.St} {H : Hp} {s : Shared}
end
end L3
namespace L3
open PySem PySem.Spec PyProof.Rows L2 PySem.W M
theorem lst_lt_go (a b : Addr) (xs ys : Array Value) (n k : Nat) (da db : Option Addr) (sa sb : Array (Option Value)) (e l : Nat -> Bool) (m : Nat) : ∀ i : Nat,min xs.size ys.size - i = m -> i <= min xs.size ys.size -> Meets (Builtin.«list.__eq__.loop» ⟨[.ref a,.ref b,rawInt i,rawInt 0],[]⟩) fun A R s =>
  s.heap.get? a = some ⟨.type "list",da,.seq xs n,sa⟩ /\ s.heap.get? b = some ⟨.type "list",db,.seq ys k,sb⟩ /\ (∀ j (h1 : j < xs.size) (h2 : j < ys.size),SeqAt.EqAt A.in1 s xs[j] ys[j] (e j)) /\
  (∀ j (h1 : j < xs.size) (h2 : j < ys.size),e j = false -> LtAt A.in1 s xs[j] ys[j] (l j)) /\ R (.ok (.ret (.bool (lexB e l (decide (xs.size < ys.size)) ((List.range (min xs.size ys.size)).drop i))))) s:=by
 induction m with
 | zero =>
  intro i hm hi P w A R s h
  obtain ⟨hp,g,d,tk,os⟩:=s
  obtain ⟨ha,hb,he,hl,h⟩:=h
  rw [List.drop_of_length_le (by simp; omega)] at h
  have out : ∀ (u v : Option Value),xs[((i : Nat) : Int).toNat]? = u -> ys[((i : Nat) : Int).toNat]? = v -> u = none \/ v = none:=fun u v h1 h2 => by
   by_cases q : i < xs.size
   ·
    right; rw [<- h2]; simp; omega
   ·
    left; rw [<- h1]; simp; omega
  wp_walk using AutoSeq1.wpAny_loadPart' ha,AutoSeq1.wpAny_loadPart' hb
  cases e1 : xs[((i : Nat) : Int).toNat]? with
  | none =>
   wp_walk using AutoSeq1.wpAny_loadPart' ha,AutoSeq1.wpAny_loadPart' hb
   exact h
  | some u =>
   cases e2 : ys[((i : Nat) : Int).toNat]? with
   | none =>
    wp_walk using AutoSeq1.wpAny_loadPart' ha,AutoSeq1.wpAny_loadPart' hb
    exact h
   | some v => exact absurd (out _ _ e1 e2) (by simp)
 | succ m ih =>
  intro i hm hi P w A R s h
  obtain ⟨hp,g,d,tk,os⟩:=s
  obtain ⟨ha,hb,he,hl,h⟩:=h
  have i1 : i < xs.size:=by omega
  have i2 : i < ys.size:=by omega
  have e1 : xs[((i : Nat) : Int).toNat]? = some xs[i]:=by simp [i1]
  have e2 : ys[((i : Nat) : Int).toNat]? = some ys[i]:=by simp [i2]
  have ei : ((i : Int) + 1) = ((i + 1 : Nat) : Int):=by push_cast; rfl
  rw [range_drop (by omega)] at h
  wp_walk using AutoSeq1.wpAny_loadPart' ha,AutoSeq1.wpAny_loadPart' hb
  rw [e1,e2]
  refine wpAny_bind (he i i1 i2 P w _ _ ?_)
  unfold lexB at h
  cases hy : e i with
  | true =>
   rw [if_pos hy] at h
   wp_walk
   rw [ei]
   refine ⟨plainId_quiet MeetsSeq3.plain_eq_loop _,codeAny_builtin MeetsSeq3.entry_eq_loop ?_⟩
   rw [Around.under_plainId MeetsSeq3.plain_eq_loop _]
   exact ih (i + 1) (by omega) (by omega) P w A R _ ⟨ha,hb,he,hl,h⟩
  | false =>
   rw [if_neg (by rw [hy]; decide)] at h
   have hL:=hl i i1 i2 hy
   have hL' : ∀ {E Q : Value -> Shared -> Prop},Q (.bool (l i)) ⟨hp,g,d,tk,os⟩ -> wpAny (model P w) A.in1 (richCompare .Lt xs[i] ys[i]) Q E ⟨hp,g,d,tk,os⟩:=fun {E Q} => hL P w E Q
   wp_walk using AutoSeq1.wpAny_loadPart' ha,AutoSeq1.wpAny_loadPart' hb
   rw [e1,e2]
   wp_walk using hL'
   exact h
theorem lst_lt (a b : Addr) (xs ys : Array Value) (n k : Nat) (da db : Option Addr) (sa sb : Array (Option Value)) (e l : Nat -> Bool) : Meets (Builtin.«list.__lt__» ⟨[.ref a,.ref b],[]⟩) fun A R s =>
  s.heap.get? a = some ⟨.type "list",da,.seq xs n,sa⟩ /\ s.heap.get? b = some ⟨.type "list",db,.seq ys k,sb⟩ /\ (∀ j (h1 : j < xs.size) (h2 : j < ys.size),SeqAt.EqAt A.in1 s xs[j] ys[j] (e j)) /\
  (∀ j (h1 : j < xs.size) (h2 : j < ys.size),e j = false -> LtAt A.in1 s xs[j] ys[j] (l j)) /\ R (.ok (.ret (.bool (lexB e l (decide (xs.size < ys.size)) (List.range (min xs.size ys.size)))))) s:=by
 intro P w A R s h
 obtain ⟨hp,g,d,tk,os⟩:=s
 obtain ⟨ha,hb,he,hl,h⟩:=h
 have sub:=AutoSeq1.sub_list_list
 wp_walk using AutoSeq1.wpAny_loadPart' ha,AutoSeq1.wpAny_loadPart' hb
 refine ⟨plainId_quiet MeetsSeq3.plain_eq_loop _,codeAny_builtin MeetsSeq3.entry_eq_loop ?_⟩
 rw [Around.under_plainId MeetsSeq3.plain_eq_loop _]
 exact lst_lt_go a b xs ys n k da db sa sb e l _ 0 rfl (Nat.zero_le _) P w A R _ ⟨ha,hb,he,hl,by simpa using h⟩
section
variable (O : KeyOrd)
noncomputable def rowLt : List O.α -> List O.α -> Bool
 | [],[] => false
 | [],_ :: _ => true
 | _ :: _,[] => false
 | x :: xs,y :: ys => O.blt x y || (!O.blt y x && rowLt xs ys)
variable {O}
theorem rowLt_irr : ∀ a : List O.α,rowLt O a a = false
 | [] => rfl
 | x :: xs => by unfold rowLt; rw [O.irrefl,rowLt_irr xs]; rfl
theorem rowLt_trans : ∀ a b c : List O.α,rowLt O a b = true -> rowLt O b c = true -> rowLt O a c = true
 | [],[],_,h,_ => by cases h
 | [],_ :: _,[],_,h => by cases h
 | [],_ :: _,_ :: _,_,_ => rfl
 | _ :: _,[],_,h,_ => by cases h
 | _ :: _,_ :: _,[],_,h => by cases h
 | x :: xs,y :: ys,z :: zs,h1,h2 => by
  unfold rowLt at h1 h2 ⊢
  simp only [Bool.or_eq_true,Bool.and_eq_true,Bool.not_eq_true'] at h1 h2 ⊢
  rcases h1 with h1 | ⟨h1,r1⟩ <;> rcases h2 with h2 | ⟨h2,r2⟩
  ·
   exact .inl (O.trans _ _ _ h1 h2)
  ·
   rcases O.negTrans _ z _ h1 with q | q
   ·
    exact .inl q
   ·
    rw [h2] at q; cases q
  ·
   rcases O.negTrans _ x _ h2 with q | q
   ·
    rw [h1] at q; cases q
   ·
    exact .inl q
  ·
   refine .inr ⟨?_,rowLt_trans xs ys zs r1 r2⟩
   cases e : O.blt z x with
   | false => rfl
   | true =>
    rcases O.negTrans _ y _ e with q | q
    ·
     rw [h2] at q; cases q
    ·
     rw [h1] at q; cases q
theorem rowLt_neg : ∀ a b c : List O.α,rowLt O a c = true -> rowLt O a b = true \/ rowLt O b c = true
 | [],_,[],h => by cases h
 | [],[],_ :: _,_ => .inr rfl
 | [],_ :: _,_ :: _,_ => .inl rfl
 | _ :: _,_,[],h => by cases h
 | _ :: _,[],_ :: _,_ => .inr rfl
 | x :: xs,y :: ys,z :: zs,h => by
  unfold rowLt at h ⊢
  simp only [Bool.or_eq_true,Bool.and_eq_true,Bool.not_eq_true'] at h ⊢
  rcases h with h | ⟨h,r⟩
  ·
   rcases O.negTrans _ y _ h with q | q
   ·
    exact .inl (.inl q)
   ·
    exact .inr (.inl q)
  ·
   cases e1 : O.blt x y with
   | true => exact .inl (.inl rfl)
   | false =>
    cases e2 : O.blt y z with
    | true => exact .inr (.inl rfl)
    | false =>
     cases e3 : O.blt y x with
     | true =>
      rcases O.negTrans _ z _ e3 with q | q
      ·
       rw [e2] at q; cases q
      ·
       rw [h] at q; cases q
     | false =>
      cases e4 : O.blt z y with
      | true =>
       rcases O.negTrans _ x _ e4 with q | q
       ·
        rw [h] at q; cases q
       ·
        rw [e1] at q; cases q
      | false =>
       rcases rowLt_neg xs ys zs r with q | q
       ·
        exact .inl (.inr ⟨rfl,q⟩)
       ·
        exact .inr (.inr ⟨rfl,q⟩)
theorem rowLt_tot : ∀ a b : List O.α,rowLt O a b = false -> rowLt O b a = false -> a = b
 | [],[],_,_ => rfl
 | [],_ :: _,h,_ => by cases h
 | _ :: _,[],_,h => by cases h
 | x :: xs,y :: ys,h1,h2 => by
  unfold rowLt at h1 h2
  simp only [Bool.or_eq_false_iff,Bool.and_eq_false_iff,Bool.not_eq_false'] at h1 h2
  have e:=O.total x y h1.1 h2.1
  rcases h1.2 with q | q
  ·
   rw [h2.1] at q; cases q
  ·
   rcases h2.2 with r | r
   ·
    rw [h1.1] at r; cases r
   ·
    rw [e,rowLt_tot xs ys q r]
@[reducible] noncomputable def rowOrd (O : KeyOrd) : KeyOrd:=⟨List O.α,rowLt O,rowLt_irr,rowLt_trans,rowLt_neg,rowLt_tot⟩
end
@[reducible] noncomputable def strOrd : KeyOrd:=strKind.toKeyOrd
noncomputable def sKey (x : Str) : strOrd.α:=x.cps.toList
noncomputable def rKey (xs : List Str) : (rowOrd strOrd).α:=xs.map sKey
theorem row_lex (xs ys : List Str) : ∀ (m i : Nat),min xs.length ys.length - i = m -> i <= min xs.length ys.length ->
  lexB (fun j => decide (xs[j]? = ys[j]?)) (fun j => decide (sKey (xs.getD j default) < sKey (ys.getD j default))) (decide (xs.length < ys.length)) ((List.range (min xs.length ys.length)).drop i) = rowLt strOrd (rKey (xs.drop i)) (rKey (ys.drop i)):=by
 intro m
 induction m with
 | zero =>
  intro i hm hi
  rw [List.drop_of_length_le (by simp; omega)]
  unfold lexB
  by_cases h1 : xs.length <= i
  ·
   rw [List.drop_of_length_le h1]
   by_cases h2 : ys.length <= i
   ·
    rw [List.drop_of_length_le h2]
    exact decide_eq_false (by omega)
   ·
    rw [List.drop_eq_getElem_cons (by omega)]
    exact decide_eq_true (by omega)
  ·
   rw [List.drop_of_length_le (show ys.length <= i by omega),List.drop_eq_getElem_cons (by omega)]
   exact decide_eq_false (by omega)
 | succ m ih =>
  intro i hm hi
  have h1 : i < xs.length:=by omega
  have h2 : i < ys.length:=by omega
  rw [range_drop (by omega),List.drop_eq_getElem_cons h1,List.drop_eq_getElem_cons h2]
  unfold lexB rKey
  rw [List.map_cons,List.map_cons]
  unfold rowLt
  dsimp only
  rw [List.getElem?_eq_getElem h1,List.getElem?_eq_getElem h2,List.getD_eq_getElem?_getD,List.getElem?_eq_getElem h1,List.getD_eq_getElem?_getD,List.getElem?_eq_getElem h2]
  dsimp only [Option.getD_some]
  by_cases he : xs[i] = ys[i]
  ·
   have irr : decide (sKey ys[i] < sKey ys[i]) = false:=strOrd.irrefl _
   rw [if_pos (decide_eq_true (congrArg some he)),he,irr]
   exact ih (i + 1) (by omega) (by omega)
  ·
   rw [if_neg (by simp [he])]
   have hk : ¬ sKey xs[i] = sKey ys[i]:=fun q => he (by
    have:=cps_eq (x:=xs[i]) (y:=ys[i])
    rw [decide_eq_true (show xs[i].cps.toList = ys[i].cps.toList from q)] at this
    exact eq_of_beq this)
   show decide (sKey xs[i] < sKey ys[i]) = (strOrd.blt (sKey xs[i]) (sKey ys[i]) || _)
   cases e : strOrd.blt (sKey xs[i]) (sKey ys[i]) with
   | true => exact e
   | false =>
    cases e2 : strOrd.blt (sKey ys[i]) (sKey xs[i]) with
    | true =>
     have e2' : decide (sKey ys[i] < sKey xs[i]) = true:=e2
     rw [e2']
     exact e
    | false => exact absurd (strOrd.total _ _ e e2) hk
end L3
namespace L3
open PySem PySem.Spec PyProof.Rows L2 PySem.W M
section
variable {X : Cx} {pins : List (Addr × Obj)} {σ : L2.St} {H : Hp} {s : Shared} {H3 : Hp3} {Q3 : VK3} {Q : VK}
theorem srt_go (I : Inv X pins σ H s) (sh : SimH X.K H3 H) (k : KV3 X.K H Q3 Q) {α : Type} (O : KeyOrd) (key : α -> O.α) (enc : α -> T) (d0 : α) {as : List α} {a : Addr} {ys : List V} {its : List Value} (rs : Reps X.K H (as.map enc) ys) (rvs : Vals ys its)
  (hl : s.heap.IsList a its.toArray \/ s.heap.IsTuple a its.toArray) (h64 : as.length < 64)
  (hk : 2 <= its.length -> ∀ h',Kpt s.heap h' -> wpAny (model X.prog X.w) X.A.in1.in1 (keyKind' its.toArray) (fun κ s' => s' = { s with heap:=h' } /\ ∀ i j (C : Bool -> Shared -> Prop),i < its.length -> j < its.length -> C (O.blt (key (as.getD i d0)) (key (as.getD j d0))) { s with heap:=h' } -> kas_ask X.prog X.w X.A.in1.in1 κ its i j C { s with heap:=h' }) (fun _ _ => False) { s with heap:=h' })
  (h : ∀ us : List α,us.Perm as -> us.Pairwise (fun x y => O.kle (key x) (key y)) -> ∀ p,H3 p = none -> Q3 (.ref p) (up3 H3 p (.lst (us.map enc)))) : wpAny (model X.prog X.w) X.A (call (.builtin "sorted") [.ref a]) (EP X pins σ Q) X.xe s:=by
 have l1:=rs.length
 rw [List.length_map] at l1
 have l2:=rvs.length
 have hz : sizeLine = 16777216:=rfl
 refine sortedK (O:=O) (key:=fun i => key (as.getD i d0)) hl (by omega) hk fun q h' c hs kp hc => ?_
 obtain ⟨hp,hu⟩:=hs
 have hlt : ∀ i ∈ q,i < as.length:=fun i hi => by
  have:=List.mem_range.mp (hp.mem_iff.mp hi)
  omega
 have hql : q.length = as.length:=by rw [hp.length_eq,List.length_range]; omega
 have ry : Reps X.K H ((q.map fun i => as.getD i d0).map enc) (q.map fun i => ys.getD i .non):=by
  clear hu hp hql hc
  induction q with
  | nil => exact .nil
  | cons i q ih =>
   refine .cons ?_ (ih fun j hj => hlt j (.tail _ hj))
   have hi:=hlt i (.head _)
   obtain ⟨y,e1,r1⟩:=rs.get (i:=i) (t:=enc as[i]) (by rw [List.getElem?_map,List.getElem?_eq_getElem hi]; rfl)
   dsimp only
   rw [List.getD_eq_getElem?_getD,List.getElem?_eq_getElem hi,List.getD_eq_getElem?_getD,e1]
   exact r1
 have rz : Vals (q.map fun i => ys.getD i .non) (q.map fun i => its.getD i Value.none):=by
  clear hu hp hql ry hc
  induction q with
  | nil => exact .nil
  | cons i q ih =>
   refine .cons ?_ (ih fun j hj => hlt j (.tail _ hj))
   have hi : i < ys.length:=by have:=hlt i (.head _); omega
   obtain ⟨z,e1,r1⟩:=rvs.get (i:=i) (List.getElem?_eq_getElem hi)
   dsimp only
   rw [List.getD_eq_getElem?_getD,List.getElem?_eq_getElem hi,List.getD_eq_getElem?_getD,e1]
   exact r1
 have hf : H (s.heap.objs.size + 1) = none:=I.hok.fresh (Nat.le_succ _)
 refine ⟨.ref (s.heap.objs.size + 1),upd H (s.heap.objs.size + 1) (.lst (q.map fun i => ys.getD i .non)),I.laid (t':=s.toks) kp (Nat.le_succ _) ⟨by rw [List.length_map]; omega,_,c,rz,hc⟩,rfl,?_⟩
 refine k _ _ _ _ (upd_tupLe hf) (sh.newLst hf ry) .ofRef (h _ ?_ ?_ _ (sh.fresh hf))
 ·
  have hm:=hp.map fun i => as.getD i d0
  rw [show its.length = as.length by omega] at hm
  have e2 : (List.range as.length).map (fun i => as.getD i d0) = as:=by
   apply List.ext_getElem?
   intro i
   rw [List.getElem?_map]
   by_cases hi : i < as.length
   ·
    rw [List.getElem?_range hi,List.getElem?_eq_getElem hi]; simp [List.getD_eq_getElem?_getD,hi]
   ·
    rw [List.getElem?_eq_none (by simpa using hi),List.getElem?_eq_none (by omega)]; rfl
  rw [e2] at hm
  exact hm
 ·
  rw [List.pairwise_iff_getElem]
  intro i j hi hj hij
  rw [List.length_map] at hi hj
  have:=hu i j (by omega) (by omega)
  rw [List.getD_eq_getElem?_getD,List.getElem?_eq_getElem hi,List.getD_eq_getElem?_getD,List.getElem?_eq_getElem hj] at this
  rw [List.getElem_map,List.getElem_map]
  exact this
theorem strs_at : ∀ {ss : List Str} {ys : List V} {its : List Value},Reps X.K H (ss.map T.str) ys -> Vals ys its -> StrsAre its ss
 | [],_,_,r,rv => by rw [r.inv0] at rv; cases rv; exact .nil
 | x :: ss,_,_,r,rv => by
  obtain ⟨v,r',rfl,q,b⟩:=r.inv
  cases rv with
  | cons ru rv =>
   cases q.str
   obtain ⟨t,rfl⟩:=ru
   exact .cons x t (strs_at b rv)
theorem StrsAre.get {its : List Value} {ss : List Str} (h : StrsAre its ss) : ∀ i,i < its.length -> ∃ t,its.getD i Value.none = Value.str (ss.getD i default) t:=by
 induction h with
 | nil => intro i hi; exact absurd hi (Nat.not_lt_zero _)
 | cons x t _ ih =>
  intro i hi
  cases i with
  | zero => exact ⟨t,rfl⟩
  | succ i => exact ih i (by simpa using hi)
theorem StrsAre.len {its : List Value} {ss : List Str} (h : StrsAre its ss) : its.length = ss.length:=by
 induction h with
 | nil => rfl
 | cons x t _ ih => rw [List.length_cons,List.length_cons,ih]
theorem srt_strs (I : Inv X pins σ H s) (sh : SimH X.K H3 H) (k : KV3 X.K H Q3 Q) {ss : List Str} {a : Addr} {ys : List V} {its : List Value} (rs : Reps X.K H (ss.map T.str) ys) (rvs : Vals ys its) (hl : s.heap.IsList a its.toArray \/ s.heap.IsTuple a its.toArray) (h64 : ss.length < 64)
  (h : ∀ us : List Str,us.Perm ss -> us.Pairwise (fun x y => strOrd.kle (sKey x) (sKey y)) -> ∀ p,H3 p = none -> Q3 (.ref p) (up3 H3 p (.lst (us.map T.str)))) : wpAny (model X.prog X.w) X.A (call (.builtin "sorted") [.ref a]) (EP X pins σ Q) X.xe s:=by
 have hS:=strs_at rs rvs
 refine srt_go I sh k strOrd sKey T.str default rs rvs hl h64 (fun h2 h' kp => ?_) h
 refine kas_kind (T:=.type "str") (s:={ s with heap:=h' }) h2 (fun v hv => ?_) rfl rfl ⟨rfl,fun i j C hi hj hC => ?_⟩
 ·
  obtain ⟨x,t,rfl⟩:=hS.all v hv
  exact Looks.of_pure rfl
 ·
  obtain ⟨t,e1⟩:=StrsAre.get hS i hi
  obtain ⟨u,e2⟩:=StrsAre.get hS j hj
  unfold kas_ask
  rw [e1,e2]
  exact kas_lt_str hC
def RwAt (h : Heap) (xs : List Str) (v : Value) : Prop:=∃ a o n its,v = .ref a /\ h.get? a = some o /\ o.cls = .type "list" /\ o.data = .seq its n /\ StrsAre its.toList xs
theorem rows_at (I : Inv X pins σ H s) (sh : SimH X.K H3 H) {h' : Heap} (kp : Kpt s.heap h') : ∀ {zs : List (Addr × List Str)} {ys : List V} {its : List Value},(∀ z ∈ zs,H3 z.1 = some (.lst (z.2.map T.str))) -> Reps X.K H (zs.map fun z => T.ref z.1) ys -> Vals ys its ->
  its.length = zs.length /\ ∀ (i : Nat) (z : Addr × List Str),zs[i]? = some z -> ∃ v,its[i]? = some v /\ RwAt h' z.2 v
 | [],_,_,_,r,rv => by
  rw [r.inv0] at rv
  cases rv
  exact ⟨rfl,(fun _ _ z => nomatch z)⟩
 | z :: zs,_,_,hz,r,rv => by
  obtain ⟨v,r',rfl,q,b⟩:=r.inv
  cases rv with
  | cons ru rv =>
   obtain ⟨h1,h2⟩:=rows_at I sh kp (fun y hy => hz y (.tail _ hy)) b rv
   cases q.ref
   cases ru
   obtain ⟨ys2,sq,rs2⟩:=sh.sqL (.inl (hz z (.head _)))
   obtain ⟨its2,rv2,⟨o,n,e,hc,_,hd⟩,_⟩:=I.list sq
   refine ⟨by simp [h1],fun i y hy => ?_⟩
   cases i with
   | zero => cases hy; exact ⟨_,rfl,z.1,o,n,its2.toArray,rfl,kp _ _ e,hc,hd,strs_at rs2 rv2⟩
   | succ i => exact h2 i y hy
theorem eq_strs {A : Around} {s' : Shared} {xs ys : List Str} {us vs : List Value} (h1 : StrsAre us xs) (h2 : StrsAre vs ys) (j : Nat) (g1 : j < us.toArray.size) (g2 : j < vs.toArray.size) : SeqAt.EqAt A s' us.toArray[j] vs.toArray[j] (decide (xs[j]? = ys[j]?)):=by
 rw [List.size_toArray] at g1 g2
 obtain ⟨t,e1⟩:=StrsAre.get h1 j g1
 obtain ⟨u,e2⟩:=StrsAre.get h2 j g2
 have l1:=StrsAre.len h1
 have l2:=StrsAre.len h2
 rw [List.getD_eq_getElem?_getD,List.getElem?_eq_getElem g1] at e1
 rw [List.getD_eq_getElem?_getD,List.getElem?_eq_getElem g2] at e2
 rw [List.getElem_toArray,List.getElem_toArray,show us[j] = _ from e1,show vs[j] = _ from e2]
 rw [List.getElem?_eq_getElem (show j < xs.length by omega),List.getElem?_eq_getElem (show j < ys.length by omega),List.getD_eq_getElem?_getD,List.getElem?_eq_getElem (show j < xs.length by omega),List.getD_eq_getElem?_getD,List.getElem?_eq_getElem (show j < ys.length by omega)]
 rw [show decide (some xs[j] = some ys[j]) = (xs[j] == ys[j]) by by_cases h : xs[j] = ys[j] <;> simp [h]]
 exact SeqAt.EqAt.str_str _ _ _ _
theorem lt_row {P : Program} {w : World} {A : Around} {s' : Shared} (hu : A.units < cLine) {xs ys : List Str} {u v : Value} (hx : RwAt s'.heap xs u) (hy : RwAt s'.heap ys v) {C : Bool -> Shared -> Prop} {E : Value -> Shared -> Prop} (h : C ((rowOrd strOrd).blt (rKey xs) (rKey ys)) s') :
  wpAny (model P w) A (keyLt' oneType' u v) C E s':=by
 obtain ⟨a,⟨c1,d1,q1,z1⟩,n1,⟨us⟩,rfl,o1,k1,e1,s1⟩:=hx
 obtain ⟨b,⟨c2,d2,q2,z2⟩,n2,⟨vs⟩,rfl,o2,k2,e2,s2⟩:=hy
 dsimp only at k1 e1 k2 e2
 subst k1 e1 k2 e2
 have l1:=StrsAre.len s1
 have l2:=StrsAre.len s2
 rw [keyLt'_oneType,oneLt'_eq]
 simp only [if_true]
 refine wpAny_bind (wpAny_cRoomFor hu ?_)
 refine wpAny_bind (wpAny_callSpecialIfBound?_slot ⟨_,o1,rfl⟩ F.slot_list_lt ?_)
 refine call_meets F.slot_list_lt ⟨_,o1,rfl⟩ F.entry_list_lt (F.args_list_lt_2 _ _) (lst_lt a b us.toArray vs.toArray n1 n2 d1 d2 z1 z2 (fun j => decide (xs[j]? = ys[j]?)) (fun j => decide (sKey (xs.getD j default) < sKey (ys.getD j default)))) ⟨o1,o2,eq_strs s1 s2,fun j g1 g2 _ => ?_,?_⟩
 ·
  rw [List.size_toArray] at g1 g2
  obtain ⟨t,f1⟩:=StrsAre.get s1 j g1
  obtain ⟨t',f2⟩:=StrsAre.get s2 j g2
  rw [List.getD_eq_getElem?_getD,List.getElem?_eq_getElem g1] at f1
  rw [List.getD_eq_getElem?_getD,List.getElem?_eq_getElem g2] at f2
  rw [List.getElem_toArray,List.getElem_toArray,show us[j] = _ from f1,show vs[j] = _ from f2]
  exact LtAt.strs _ _ _ _
 ·
  have e:=row_lex xs ys _ 0 rfl (Nat.zero_le _)
  rw [List.drop_zero,List.drop_zero,List.drop_zero] at e
  rw [List.size_toArray,List.size_toArray,show us.length = xs.length from l1,show vs.length = ys.length from l2,e]
  exact wpAny_truthy_bool h
theorem srt_rows (I : Inv X pins σ H s) (hu : X.A.units + 16 < cLine) (sh : SimH X.K H3 H) (k : KV3 X.K H Q3 Q) {zs : List (Addr × List Str)} {a : Addr} {ys : List V} {its : List Value} (hz : ∀ z ∈ zs,H3 z.1 = some (.lst (z.2.map T.str))) (rs : Reps X.K H (zs.map fun z => T.ref z.1) ys) (rvs : Vals ys its) (hl : s.heap.IsList a its.toArray \/ s.heap.IsTuple a its.toArray) (h64 : zs.length < 64)
  (h : ∀ us : List (Addr × List Str),us.Perm zs -> us.Pairwise (fun x y => (rowOrd strOrd).kle (rKey x.2) (rKey y.2)) -> ∀ p,H3 p = none -> Q3 (.ref p) (up3 H3 p (.lst (us.map fun z => T.ref z.1)))) : wpAny (model X.prog X.w) X.A (call (.builtin "sorted") [.ref a]) (EP X pins σ Q) X.xe s:=by
 refine srt_go I sh k (rowOrd strOrd) (fun z : Addr × List Str => rKey z.2) (fun z => T.ref z.1) default rs rvs hl h64 (fun h2 h' kp => ?_) h
 obtain ⟨hll,hat⟩:=rows_at I sh kp hz rs rvs
 have g : ∀ i,i < its.length -> ∃ v,its[i]? = some v /\ RwAt h' (zs.getD i default).2 v:=fun i hi => hat i _ (by rw [List.getD_eq_getElem?_getD,List.getElem?_eq_getElem (by omega)]; rfl)
 refine kas_kind (T:=.type "list") (s:={ s with heap:=h' }) h2 (fun v hv => ?_) rfl rfl ⟨rfl,fun i j C hi hj hC => ?_⟩
 ·
  obtain ⟨i,hi⟩:=List.getElem?_of_mem hv
  obtain ⟨v',e1,a1,o,n,it,rfl,ho,hc,hd,_⟩:=g i (List.getElem?_eq_some_iff.mp hi).1
  rw [hi] at e1
  cases e1
  have:=show Looks (model X.prog X.w) h' (typeOf (.ref a1)) o.cls from (Looks.ld ho).andThen .now
  rw [hc] at this
  exact this
 ·
  obtain ⟨u,e1,r1⟩:=g i hi
  obtain ⟨v,e2,r2⟩:=g j hj
  unfold kas_ask
  rw [List.getD_eq_getElem?_getD,List.getD_eq_getElem?_getD,e1,e2]
  exact lt_row (s':={ s with heap:=h' }) (by rw [units_in1,units_in1]; omega) r1 r2 hC
end
def leS (x y : Str) : Prop:=strOrd.kle (sKey x) (sKey y)
def leR (x y : Addr × List Str) : Prop:=(rowOrd strOrd).kle (rKey x.2) (rKey y.2)
def srS (x : T) (H : Hp3) (Q : VK3) : Prop :=
 (∃ ss : List Str,(x = .tup (ss.map T.str) \/ ∃ a,x = .ref a /\ H a = some (.lst (ss.map T.str))) /\ ss.length < 64 /\ ∀ us : List Str,us.Perm ss -> us.Pairwise leS -> ∀ p,H p = none -> Q (.ref p) (up3 H p (.lst (us.map T.str)))) \/
 ∃ (a : Addr) (zs : List (Addr × List Str)),x = .ref a /\ H a = some (.lst (zs.map fun z => T.ref z.1)) /\ zs.length < 64 /\ (∀ z ∈ zs,H z.1 = some (.lst (z.2.map T.str))) /\ ∀ us : List (Addr × List Str),us.Perm zs -> us.Pairwise leR -> ∀ p,H p = none -> Q (.ref p) (up3 H p (.lst (us.map fun z => T.ref z.1)))
def r3SrtS : List T -> Hp3 -> VK3 -> Prop:=fun ts H Q => match ts with
 | [x] => srS x H Q
 | _ => False
theorem q_srtS (x : T) (H : Hp3) (Q : VK3) : r3SrtS [x] H Q = srS x H Q:=rfl
section
variable {X : Cx}
theorem c3_srtS (hu : X.A.units + 30 < cLine) : CallR3 X (.builtin "sorted") r3SrtS:=by
 intro pins s σ H xs us Q I rv h
 obtain ⟨ts,H3,Q3,r,sh,h,k⟩:=h
 cases ts with
 | nil => exact h.elim
 | cons t ts =>
  cases ts with
  | cons _ _ => exact h.elim
  | nil =>
   obtain ⟨v,rfl,rv'⟩:=r.one'
   obtain ⟨u,rfl,ru⟩:=vals1 rv
   rcases h with ⟨ss,hx,h64,h⟩ | ⟨a,zs,rfl,ha,h64,hz,h⟩
   ·
    rcases hx with rfl | ⟨a,rfl,ha⟩
    ·
     obtain ⟨a,ys,rfl,sq,rs⟩:=Rep.tup rv'
     cases ru
     obtain ⟨its,rvs,hl,_⟩:=I.tuple sq
     exact srt_strs I sh k rs rvs (.inr hl) h64 h
    ·
     rw [rv'.ref] at ru
     cases ru
     obtain ⟨ys,sq,rs⟩:=sh.sqL (.inl ha)
     obtain ⟨its,rvs,hl,_⟩:=I.list sq
     exact srt_strs I sh k rs rvs (.inl hl.isList) h64 h
   ·
    rw [rv'.ref] at ru
    cases ru
    obtain ⟨ys,sq,rs⟩:=sh.sqL (.inl ha)
    obtain ⟨its,rvs,hl,_⟩:=I.list sq
    exact srt_rows I (by omega) sh k hz rs rvs (.inl hl.isList) h64 h
def r3NeR : R3:=fun x y H Q => ∃ (a b : Addr) (xs ys : List (Addr × List Str)),x = .ref a /\ y = .ref b /\ H a = some (.lst (xs.map fun z => T.ref z.1)) /\ H b = some (.lst (ys.map fun z => T.ref z.1)) /\ (∀ z ∈ xs,H z.1 = some (.lst (z.2.map T.str))) /\ (∀ z ∈ ys,H z.1 = some (.lst (z.2.map T.str))) /\
 xs.map (·.2) = ys.map (·.2) /\ Q (.bl false) H
theorem o3_neR (hu : X.A.units + 30 < cLine) : OpR3 X (compareOp .NotEq) r3NeR:=by
 intro pins s σ H x y v u Q I rv ru h
 obtain ⟨tx,ty,H3,Q3,rx,ry,sh,⟨a,b,xs,ys,rfl,rfl,ha,hb,hxs,hys,e,h⟩,k⟩:=h
 rw [rx.ref] at rv
 rw [ry.ref] at ru
 cases rv; cases ru
 obtain ⟨vx,sq1,r1⟩:=sh.sqL (.inl ha)
 obtain ⟨its,w1,hl1,_⟩:=I.list sq1
 obtain ⟨vy,sq2,r2⟩:=sh.sqL (.inl hb)
 obtain ⟨its',w2,hl2,_⟩:=I.list sq2
 obtain ⟨l1,at1⟩:=rows_at I sh (h':=s.heap) (fun _ _ q => q) hxs r1 w1
 obtain ⟨l2,at2⟩:=rows_at I sh (h':=s.heap) (fun _ _ q => q) hys r2 w2
 have el : xs.length = ys.length:=by simpa using congrArg List.length e
 have key:=SeqAt.RcNeAt.lists (A:=X.A) (s:=s) (e:=fun _ => true) hl1.isList hl2.isList (by rw [List.size_toArray,List.size_toArray]; omega) (by omega) (fun j g1 g2 => by
  rw [List.size_toArray] at g1 g2
  have j1 : j < xs.length:=by omega
  have j2 : j < ys.length:=by omega
  obtain ⟨p1,e1,a1,o1,n1,t1,rfl,ho1,hc1,hd1,s1⟩:=at1 j _ (List.getElem?_eq_getElem j1)
  obtain ⟨p2,e2,a2,o2,n2,t2,rfl,ho2,hc2,hd2,s2⟩:=at2 j _ (List.getElem?_eq_getElem j2)
  rw [vget _ e1,vget _ e2]
  have ej : xs[j].2 = ys[j].2:=by
   have:=congrArg (fun l : List (List Str) => l[j]?) e
   simpa [j1,j2] using this
  by_cases q : a1 = a2
  ·
   subst q; exact SeqAt.EqAt.same _
  ·
   obtain ⟨t1⟩:=t1
   obtain ⟨t2⟩:=t2
   have q1:=StrsAre.len s1
   have q2:=StrsAre.len s2
   have kk:=SeqAt.RcAt.lists (A:=X.A.in1) (s:=s) (e:=fun i => decide (xs[j].2[i]? = ys[j].2[i]?)) (l:=a1) (b:=a2) (items:=t1.toArray) (items2:=t2.toArray) ⟨o1,ho1,hc1,n1,hd1⟩ ⟨o2,ho2,hc2,n2,hd2⟩ (by rw [List.size_toArray,List.size_toArray]; rw [ej] at q1; exact q1.trans q2.symm) (by rw [units_in1]; omega) (eq_strs s1 s2)
   rw [show (List.range t1.toArray.size).all (fun i => decide (xs[j].2[i]? = ys[j].2[i]?)) = true by rw [ej]; simp] at kk
   exact .of_refs q kk)
 refine key _ _ _ _ ⟨.bl _,H,I,rfl,?_⟩
 refine k _ _ _ _ .refl sh ?_ h
 rw [show (!(List.range its.toArray.size).all fun _ => true) = false by simp]
 exact .ofBl
end
end L3
set_option maxHeartbeats 4000000
namespace M
open PySem PySem.Spec PyProof.Rows L2 L3
noncomputable abbrev Wk.nms (W : Wk) : List Str:=W.tasks.map (·.1)
structure Tld (f : Str -> Str) (W W2 : Wk) : Prop where
 inj : ∀ a ∈ W.nms,∀ b ∈ W.nms,f a = f b -> a = b
 nm : ∀ a ∈ W.nms,isNm (f a)
 tk : W2.tasks.Perm (W.tasks.map fun t => (f t.1,t.2))
 os : W2.orders.Perm (W.orders.map fun o => (f o.1,f o.2))
 ps : W2.pairs.Perm (W.pairs.map fun p => (p.1,f p.2.1,f p.2.2))
 rw : W2.row = W.row
variable {f : Str -> Str} {W W2 : Wk}
theorem Tld.nms (t : Tld f W W2) : W2.nms.Perm (W.nms.map f):=by
 have:=t.tk.map (·.1)
 rw [List.map_map] at this
 rw [List.map_map]
 exact this
theorem lkP_ren (ws : List Str) (p : Str × Str × Str) : lkP ws (p.1,f p.2.1,f p.2.2) = (lkP ws p).map fun o => (f o.1,f o.2):=by
 unfold lkP
 dsimp only
 split <;> rfl
theorem lk_ren (t : Tld f W W2) (ws : List Str) {x y : Str} : lkR ws W2 x y ↔ ∃ a b,lkR ws W a b /\ x = f a /\ y = f b:=by
 unfold lkR lkW
 rw [List.mem_append,t.os.mem_iff,List.mem_flatMap]
 constructor
 ·
  rintro (h | ⟨p,hp,h⟩)
  ·
   obtain ⟨o,ho,e⟩:=List.mem_map.mp h
   injection e with e1 e2
   exact ⟨o.1,o.2,List.mem_append_left _ ho,e1.symm,e2.symm⟩
  ·
   obtain ⟨q,hq,rfl⟩:=List.mem_map.mp (t.ps.mem_iff.mp hp)
   rw [lkP_ren] at h
   obtain ⟨o,ho,e⟩:=List.mem_map.mp h
   injection e with e1 e2
   exact ⟨o.1,o.2,List.mem_append_right _ (List.mem_flatMap.mpr ⟨q,hq,ho⟩),e1.symm,e2.symm⟩
 ·
  rintro ⟨a,b,h,rfl,rfl⟩
  rcases List.mem_append.mp h with h | h
  ·
   exact .inl (List.mem_map.mpr ⟨(a,b),h,rfl⟩)
  ·
   obtain ⟨q,hq,ho⟩:=List.mem_flatMap.mp h
   exact .inr ⟨_,t.ps.mem_iff.mpr (List.mem_map.mpr ⟨q,hq,rfl⟩),by rw [lkP_ren]; exact List.mem_map.mpr ⟨(a,b),ho,rfl⟩⟩
theorem rt_ren (t : Tld f W W2) (hW : WkOk W) {ws : List Str} {a y : Str} (ha : a ∈ W.nms) : RT (lkR ws W2) (f a) y ↔ ∃ b,b ∈ W.nms /\ y = f b /\ RT (lkR ws W) a b:=by
 constructor
 ·
  intro h
  induction h with
  | refl => exact ⟨a,ha,rfl,.refl⟩
  | step _ r ih =>
   obtain ⟨b,hb,rfl,hr⟩:=ih
   obtain ⟨a',b',hab,e1,rfl⟩:=(lk_ren t ws).mp r
   have hin:=lkW_in hW hab
   have:=t.inj b hb a' hin.1 e1
   subst this
   exact ⟨b',hin.2,rfl,.step hr hab⟩
 ·
  rintro ⟨b,_,rfl,h⟩
  induction h with
  | refl => exact .refl
  | step _ r ih => exact .step (ih (lkW_in hW r).1) ((lk_ren t ws).mpr ⟨_,_,r,rfl,rfl⟩)
theorem rt_ren2 (t : Tld f W W2) (hW : WkOk W) {ws : List Str} {a b : Str} (ha : a ∈ W.nms) (hb : b ∈ W.nms) : RT (lkR ws W2) (f a) (f b) ↔ RT (lkR ws W) a b:=by
 rw [rt_ren t hW ha]
 constructor
 ·
  rintro ⟨b',hb',e,h⟩
  rw [t.inj b hb b' hb' e]
  exact h
 ·
  exact fun h => ⟨b,hb,rfl,h⟩
theorem nd_mapOn {α β : Type} {g : α -> β} : ∀ {l : List α},(∀ a ∈ l,∀ b ∈ l,g a = g b -> a = b) -> l.Nodup -> (l.map g).Nodup
 | [],_,_ => List.nodup_nil
 | a :: l,hf,h => by
  rw [List.nodup_cons] at h
  rw [List.map_cons,List.nodup_cons]
  refine ⟨fun hm => ?_,nd_mapOn (fun x hx y hy => hf x (List.mem_cons_of_mem _ hx) y (List.mem_cons_of_mem _ hy)) h.2⟩
  obtain ⟨b,hb,e⟩:=List.mem_map.mp hm
  exact h.1 (hf _ (List.mem_cons_of_mem _ hb) _ List.mem_cons_self e ▸ hb)
theorem Tld.nd (t : Tld f W W2) (hW : WkOk W) : W2.nms.Nodup:=t.nms.nodup_iff.mpr (nd_mapOn t.inj hW.nd)
theorem Tld.mem (t : Tld f W W2) {x : Str} : x ∈ W2.nms ↔ ∃ a,a ∈ W.nms /\ f a = x:=by rw [t.nms.mem_iff,List.mem_map]
theorem Tld.mem' (t : Tld f W W2) {a : Str} (h : a ∈ W.nms) : f a ∈ W2.nms:=t.mem.mpr ⟨a,h,rfl⟩
theorem flt_ren (t : Tld f W W2) (hW : WkOk W) {p q : Str -> Bool} (h : ∀ a ∈ W.nms,q (f a) = p a) : (W2.nms.filter q).Perm ((W.nms.filter p).map f):=by
 refine (List.perm_ext_iff_of_nodup ((t.nd hW).filter _) (nd_mapOn (fun a ha b hb => t.inj a (List.mem_filter.mp ha).1 b (List.mem_filter.mp hb).1) (hW.nd.filter _))).mpr fun x => ?_
 rw [List.mem_filter,t.mem,List.mem_map]
 constructor
 ·
  rintro ⟨⟨a,ha,rfl⟩,hq⟩
  exact ⟨a,List.mem_filter.mpr ⟨ha,by rw [<- h a ha]; exact hq⟩,rfl⟩
 ·
  rintro ⟨a,ha,rfl⟩
  obtain ⟨ha,hp⟩:=List.mem_filter.mp ha
  exact ⟨⟨a,ha,rfl⟩,by rw [h a ha]; exact hp⟩
theorem dec_iff {p q : Prop} {i : Decidable p} {j : Decidable q} (h : p ↔ q) : @decide p i = @decide q j:=by
 by_cases hp : p
 ·
  rw [decide_eq_true hp,decide_eq_true (h.mp hp)]
 ·
  rw [decide_eq_false hp,decide_eq_false fun z => hp (h.mpr z)]
theorem grp_ren (t : Tld f W W2) (hW : WkOk W) {a : Str} (ha : a ∈ W.nms) : (grpW W2 (f a)).Perm ((grpW W a).map f) :=
 flt_ren t hW fun b hb => dec_iff (by rw [rt_ren2 t hW ha hb,rt_ren2 t hW hb ha])
theorem ahd_ren (t : Tld f W W2) (hW : WkOk W) {a : Str} (ha : a ∈ W.nms) : (ahdW W2 (f a)).Perm ((ahdW W a).map f) :=
 flt_ren t hW fun b hb => dec_iff (by rw [rt_ren2 t hW ha hb,rt_ren2 t hW hb ha])
theorem Tld.ok (t : Tld f W W2) (hW : WkOk W) : WkOk W2:=by
 have nmi : ∀ {a b : Str},a ∈ W.nms -> b ∈ W.nms -> a ≠ b -> f a ≠ f b:=fun ha hb n e => n (t.inj _ ha _ hb e)
 refine ⟨?_,?_,fun x hx => ?_,t.nd hW,?_,?_,fun x hx => ?_,?_,?_,fun x hx => ?_,by rw [t.rw]; exact hW.r1,by rw [t.rw]; exact hW.r8,by rw [t.rw]; exact hW.rn⟩
 ·
  rw [t.tk.length_eq,List.length_map]; exact hW.t1
 ·
  rw [t.tk.length_eq,List.length_map]; exact hW.t8
 ·
  obtain ⟨u,hu,rfl⟩:=List.mem_map.mp (t.tk.mem_iff.mp hx)
  have:=hW.tk u hu
  exact ⟨t.nm _ (List.mem_map.mpr ⟨u,hu,rfl⟩),this.lo,this.hi,this.ks,this.kl⟩
 ·
  rw [t.os.length_eq,List.length_map]; exact hW.os
 ·
  refine t.os.nodup_iff.mpr (nd_mapOn (fun a ha b hb e => ?_) hW.od)
  have h1:=hW.oo a ha
  have h2:=hW.oo b hb
  injection e with e1 e2
  exact Prod.ext (t.inj _ h1.2.1 _ h2.2.1 e1) (t.inj _ h1.2.2 _ h2.2.2 e2)
 ·
  obtain ⟨u,hu,rfl⟩:=List.mem_map.mp (t.os.mem_iff.mp hx)
  have h1:=hW.oo u hu
  exact ⟨nmi h1.2.1 h1.2.2 h1.1,t.mem' h1.2.1,t.mem' h1.2.2⟩
 ·
  rw [t.ps.length_eq,List.length_map]; exact hW.ps
 ·
  refine t.ps.nodup_iff.mpr (nd_mapOn (fun a ha b hb e => ?_) hW.pd)
  have h1:=hW.pp a ha
  have h2:=hW.pp b hb
  injection e with e1 e2
  injection e2 with e2 e3
  exact Prod.ext e1 (Prod.ext (t.inj _ h1.2.2.1 _ h2.2.2.1 e2) (t.inj _ h1.2.2.2 _ h2.2.2.2 e3))
 ·
  obtain ⟨u,hu,rfl⟩:=List.mem_map.mp (t.ps.mem_iff.mp hx)
  have h1:=hW.pp u hu
  exact ⟨h1.1,nmi h1.2.2.1 h1.2.2.2 h1.2.1,t.mem' h1.2.2.1,t.mem' h1.2.2.2⟩
theorem str_cps' {x y : Str} (h : x.cps.toList = y.cps.toList) : x = y:=by cases x; cases y; simp at h; simp [h]
theorem leS_anti {x y : Str} (h : leS x y) (g : leS y x) : x = y:=str_cps' (PyProof.Rows.KeyOrd.kle_antisymm h g)
theorem srt_one {g u v : List Str} (h1 : u.Perm g) (h2 : u.Pairwise leS) (h3 : v.Perm g) (h4 : v.Pairwise leS) : u = v :=
 (h1.trans h3.symm).eq_of_pairwise (fun a b _ _ h5 h6 => leS_anti h5 h6) h2 h4
def Sble (g : List Str) : Prop:=∃ u : List Str,u.Perm g /\ u.Pairwise leS
noncomputable def srtF (g : List Str) : List Str:=@dite _ (Sble g) (Classical.propDecidable _) (fun h => Classical.choose h) fun _ => g
theorem srtF_ok {g : List Str} (h : Sble g) : (srtF g).Perm g /\ (srtF g).Pairwise leS:=by
 unfold srtF
 rw [dif_pos h]
 exact Classical.choose_spec h
theorem srtF_eq {g u : List Str} (h1 : u.Perm g) (h2 : u.Pairwise leS) : u = srtF g:=by
 have:=srtF_ok ⟨u,h1,h2⟩
 exact srt_one h1 h2 this.1 this.2
theorem srtF_perm {g h : List Str} (s : Sble g) (p : g.Perm h) : srtF g = srtF h:=srtF_eq ((srtF_ok s).1.trans p) (srtF_ok s).2
theorem srtF_inv {g h : List Str} (s : Sble g) (s' : Sble h) (e : srtF g = srtF h) : g.Perm h:=by
 have h1:=(srtF_ok s).1
 rw [e] at h1
 exact h1.symm.trans (srtF_ok s').1
theorem key_inj : ∀ {xs ys : List Str},xs.map sKey = ys.map sKey -> xs = ys
 | [],[],_ => rfl
 | [],_ :: _,h => nomatch h
 | _ :: _,[],h => nomatch h
 | x :: xs,y :: ys,h => by
  rw [List.map_cons,List.map_cons] at h
  injection h with h1 h2
  rw [str_cps' h1,key_inj h2]
theorem row_one {us vs : List (Addr × List Str)} (h : (us.map (·.2)).Perm (vs.map (·.2))) (h1 : us.Pairwise leR) (h2 : vs.Pairwise leR) : us.map (·.2) = vs.map (·.2):=by
 refine h.eq_of_pairwise (le:=fun x y => (rowOrd strOrd).kle (rKey x) (rKey y)) (fun a b _ _ h5 h6 => ?_) (List.pairwise_map.mpr h1) (List.pairwise_map.mpr h2)
 exact key_inj (PyProof.Rows.KeyOrd.kle_antisymm h5 h6)
theorem grp_mem {W : Wk} {t x : Str} : x ∈ grpW W t ↔ x ∈ W.nms /\ RT (lkR ["with"] W) t x /\ RT (lkR ["with"] W) x t:=by
 unfold grpW
 rw [List.mem_filter,@decide_eq_true_iff _ (Classical.propDecidable _)]
theorem grp_eq {W : Wk} {t u : Str} (h : u ∈ grpW W t) : grpW W u = grpW W t:=by
 obtain ⟨_,h1,h2⟩:=grp_mem.mp h
 unfold grpW
 exact List.filter_congr fun x _ => dec_iff ⟨fun ⟨a,b⟩ => ⟨h1.trans a,b.trans h2⟩,fun ⟨a,b⟩ => ⟨h2.trans a,b.trans h1⟩⟩
theorem flt_eq {α : Type} {p q : α -> Bool} {l : List α} (h : ∀ x,x ∈ l.filter p ↔ x ∈ l.filter q) : l.filter p = l.filter q:=by
 refine List.filter_congr fun x hx => ?_
 have:=h x
 rw [List.mem_filter,List.mem_filter] at this
 rw [Bool.eq_iff_iff]
 exact ⟨fun z => (this.mp ⟨hx,z⟩).2,fun z => (this.mpr ⟨hx,z⟩).2⟩
theorem gps_mem {W : Wk} {g : List Str} : g ∈ gpsW W ↔ ∃ t ∈ W.nms,grpW W t = g:=by
 unfold gpsW
 rw [List.mem_map]
 constructor
 ·
  rintro ⟨t,ht,rfl⟩
  exact ⟨t,(List.mem_filter.mp ht).1,rfl⟩
 ·
  rintro ⟨t,ht,rfl⟩
  have hs:=grpW_self (W:=W) ht
  cases e : grpW W t with
  | nil => rw [e] at hs; cases hs
  | cons u r =>
   have hu : u ∈ grpW W t:=by rw [e]; exact List.mem_cons_self
   have eu:=grp_eq hu
   exact ⟨u,List.mem_filter.mpr ⟨(grp_mem.mp hu).1,by rw [eu,e]; simp⟩,eu.trans e⟩
theorem gps_nd {W : Wk} (h : W.nms.Nodup) : (gpsW W).Nodup:=by
 unfold gpsW
 refine nd_mapOn (fun a ha b hb e => ?_) (h.filter _)
 have h1:=of_decide_eq_true (List.mem_filter.mp ha).2
 have h2:=of_decide_eq_true (List.mem_filter.mp hb).2
 rw [e,h2] at h1
 exact (Option.some.inj h1).symm
theorem gps_ren (t : Tld f W W2) (hW : WkOk W) (s1 : ∀ g ∈ gpsW W,Sble (g.map f)) (s2 : ∀ g ∈ gpsW W2,Sble g) : ((gpsW W).map fun g => srtF (g.map f)).Perm ((gpsW W2).map srtF):=by
 refine (List.perm_ext_iff_of_nodup (nd_mapOn (fun g hg g' hg' e => ?_) (gps_nd hW.nd)) (nd_mapOn (fun g hg g' hg' e => ?_) (gps_nd (t.nd hW)))).mpr fun r => ?_
 ·
  have hp:=srtF_inv (s1 g hg) (s1 g' hg') e
  obtain ⟨u,hu,rfl⟩:=gps_mem.mp hg
  obtain ⟨v,hv,rfl⟩:=gps_mem.mp hg'
  refine flt_eq fun x => ?_
  have key : ∀ {u v : Str},((grpW W u).map f).Perm ((grpW W v).map f) -> x ∈ grpW W u -> x ∈ grpW W v:=fun {u v} hp hx => by
   obtain ⟨y,hy,e⟩:=List.mem_map.mp (hp.mem_iff.mp (List.mem_map.mpr ⟨x,hx,rfl⟩))
   rw [t.inj x (grp_mem.mp hx).1 y (grp_mem.mp hy).1 e.symm]
   exact hy
  exact ⟨key hp,key hp.symm⟩
 ·
  have hp:=srtF_inv (s2 g hg) (s2 g' hg') e
  obtain ⟨u,hu,rfl⟩:=gps_mem.mp hg
  obtain ⟨v,hv,rfl⟩:=gps_mem.mp hg'
  exact flt_eq fun x => hp.mem_iff
 ·
  rw [List.mem_map,List.mem_map]
  constructor
  ·
   rintro ⟨g,hg,rfl⟩
   obtain ⟨u,hu,rfl⟩:=gps_mem.mp hg
   have m2 : grpW W2 (f u) ∈ gpsW W2:=gps_mem.mpr ⟨f u,t.mem' hu,rfl⟩
   exact ⟨_,m2,srtF_perm (s2 _ m2) (grp_ren t hW hu)⟩
  ·
   rintro ⟨g,hg,rfl⟩
   obtain ⟨v,hv,rfl⟩:=gps_mem.mp hg
   obtain ⟨u,hu,rfl⟩:=t.mem.mp hv
   have m1 : grpW W u ∈ gpsW W:=gps_mem.mpr ⟨u,hu,rfl⟩
   exact ⟨_,m1,srtF_perm (s1 _ m1) (grp_ren t hW hu).symm⟩
noncomputable def Wk.turn (W : Wk) : Wk:=⟨W.tasks,W.orders.map fun o => (o.2,o.1),W.pairs,W.row.reverse⟩
theorem lk_turn {ws : List Str} {x y : Str} : lkR ws W.turn x y ↔ lkR ws W y x:=by
 have pp : ∀ p : Str × Str × Str,(x,y) ∈ lkP ws p ↔ (y,x) ∈ lkP ws p:=fun p => by
  unfold lkP
  split
  ·
   simp only [List.mem_cons,Prod.mk.injEq,List.not_mem_nil,or_false]
   constructor
   ·
    rintro (⟨rfl,rfl⟩ | ⟨rfl,rfl⟩) <;> simp
   ·
    rintro (⟨rfl,rfl⟩ | ⟨rfl,rfl⟩) <;> simp
  ·
   simp
 unfold lkR lkW
 rw [List.mem_append,List.mem_append,List.mem_flatMap,List.mem_flatMap]
 constructor
 ·
  rintro (h | ⟨p,hp,h⟩)
  ·
   obtain ⟨o,ho,e⟩:=List.mem_map.mp h
   injection e with e1 e2
   subst e1 e2
   exact .inl ho
  ·
   exact .inr ⟨p,hp,(pp p).mp h⟩
 ·
  rintro (h | ⟨p,hp,h⟩)
  ·
   exact .inl (List.mem_map.mpr ⟨(y,x),h,rfl⟩)
  ·
   exact .inr ⟨p,hp,(pp p).mpr h⟩
theorem rt_turn {ws : List Str} {x y : Str} : RT (lkR ws W.turn) x y ↔ RT (lkR ws W) y x:=by
 have : lkR ws W.turn = fun x y => lkR ws W y x:=by
  funext a b
  exact propext lk_turn
 rw [this]
 exact rt_flip
theorem grp_turn (t : Str) : grpW W.turn t = grpW W t:=List.filter_congr fun x _ => dec_iff (by rw [rt_turn,rt_turn,and_comm])
theorem gps_turn : gpsW W.turn = gpsW W:=by
 unfold gpsW
 rw [show grpW W.turn = grpW W from funext grp_turn]
 rfl
theorem ahd_turn (t : Str) : ahdW W.turn t = bhdW W t:=List.filter_congr fun x _ => dec_iff (by rw [rt_turn,rt_turn])
theorem bhd_turn (t : Str) : bhdW W.turn t = ahdW W t:=List.filter_congr fun x _ => dec_iff (by rw [rt_turn,rt_turn])
theorem WkOk.turn (h : WkOk W) : WkOk W.turn:=by
 obtain ⟨a1,a2,a3,a4,a5,a6,a7,a8,a9,a10,a11,a12,a13⟩:=h
 refine ⟨a1,a2,a3,a4,by simpa [Wk.turn] using a5,?_,fun o ho => ?_,a8,a9,a10,by simpa [Wk.turn] using a11,by simpa [Wk.turn] using a12,fun x hx => a13 x (by simpa [Wk.turn] using hx)⟩
 ·
  exact nd_mapOn (fun a _ b _ e => Prod.ext (congrArg Prod.snd e) (congrArg Prod.fst e)) a6
 ·
  obtain ⟨u,hu,rfl⟩:=List.mem_map.mp ho
  obtain ⟨b1,b2,b3⟩:=a7 u hu
  exact ⟨Ne.symm b1,b3,b2⟩
end M
namespace M
open PySem PySem.Spec PyProof.Rows L2 L3
local macro_rules | `(tactic| walk_at "cp") => `(tactic| try dsimp only [cap3,List.replicate,List.map_cons,List.map_nil,List.cons_append,List.nil_append,List.getElem?_cons_zero,List.getElem?_cons_succ,Option.getD_some])
local macro_rules | `(tactic| walk_at "nx") => `(tactic| (obtain ⟨e⟩:=‹Shut (_ = _)›; subst e; try dsimp only))
local macro_rules | `(tactic| walk_at "rd") => do
 let ls <- ((nm0 ++ " q_dgP q_dgPH q_dpP q_dpPH tDGetP3 sDPutP3 tDNew3 tDNewP3 tDisp1 q_d1q tDIn3 q_diq q_diH q_iSeqV q_ins q_insH q_srtS q_dz q_enc0").splitOn " ").toArray.mapM fun n => let i:=Lean.mkIdent n.toName; `(Lean.Parser.Tactic.simpLemma| $i:ident)
 `(tactic| ((try dsimp only [$[$ls:simpLemma],*]); try simp only [*,$[$ls:simpLemma],*]))
section
variable {P : Program} {w : World} {K : PySem.W.Frag} {mg : Str -> Option Value} {base : Heap}
def spTurn : Sp3:=fun ts H Q => ∃ W : Wk,ts = [W.enc] /\ W.orders.length <= 28 /\ Q W.turn.enc H
abbrev N_turned_about : List Str:=["works","orders","row"]
theorem sc_turned_about : FnScope N_turned_about ["works"] (defScope (top 12)):=sc_mk
theorem ok_turned_about {f : Addr} {fd : FuncData} (g : G3 K mg "turned_about" (top 12) ["works"] f fd) (B : Bl mg) : Cal P w K mg base 1 "turned_about" (top 12) ["works"] spTurn:=by
 refine ⟨f,fd,g,?_⟩
 refine fn3 g.fn sc_turned_about (fun ts H Q h => ?_) (fun cdv A outer s H E ts H3 Q hr h => ?_)
 ·
  obtain ⟨t,rfl,_⟩:=h; rfl
 ·
  have hu30:=Room.u30 hr
  have hu31:=Room.u31 hr
  have hu1:=Room.u1 hr
  obtain ⟨⟨tks,ors,prs,row⟩,rfl,hl,k⟩:=h
  refine ⟨_,(ss3_cons (s3_set (i:=1) sc_turned_about.nd (e3_callTy c3_tuple rfl B.tuple_ bt_tuple (a3_cons (e3_comp rfl (compSc (n0:=(defScope (top 12)).names) (N:=N_turned_about) (N':=["one","other"]) (nt:=2) (cap:=[]) rfl rfl (by decide +kernel)) (i3_tup (e3_ix ix3 (v3 0) c3_int)) (fun cl pins s H C0 fp => ⟨(g3_tup (n:=2) rfl (gs3_cons (g3_name (i:=0) (show List.Nodup [("one" : Str),("other" : Str)] by decide +kernel)) (gs3_cons (g3_name (i:=1) (show List.Nodup [("one" : Str),("other" : Str)] by decide +kernel)) gs3_nil))),if3_nil,(e3_tup (a3_cons (v3 1) (a3_cons (v3 0) a3_nil)))⟩)) a3_nil)))
    (ss3_cons (s3_set (i:=2) sc_turned_about.nd (e3_tupRev rfl rfl B.tuple_ rfl B.reversed_ (e3_ix ix3 (v3 0) c3_int)))
    (ss3_one (s3_ret (e3_tup (a3_cons (e3_ix ix3 (v3 0) c3_int) (a3_cons (v3 1) (a3_cons (e3_ix ix3 (v3 0) c3_int) (a3_cons (v3 2) a3_nil))))))))),?_⟩
  rw [show start3 N_turned_about [Wk.enc ⟨tks,ors,prs,row⟩] = [some (T.tup [T.tup (tks.map tkT),T.tup (ors.map orT),T.tup (prs.map prT),T.tup (row.map T.str)]),none,none] from rfl]
  have hsz : sizeLine = 16777216:=rfl
  replace hl : ors.length <= 28:=hl
  walk_at "rd"
  rw [show cap3 2 [] [some (T.tup [T.tup (tks.map tkT),T.tup (ors.map orT),T.tup (prs.map prT),T.tup (row.map T.str)]),none,none] = [none,none] from rfl]
  refine cIter_pure2 (fun o : Str × Str => T.str o.1) (fun o => T.str o.2) (fun o => orT (o.2,o.1)) ors [] trivial (by omega) (fun a ha Q' hq => ?_) (fun p hp => ?_)
  ·
   walk_at "rd"
   exact ⟨by decide,hq⟩
  ·
   refine ⟨by decide,Fin3.of (Sub3.new hp) ?_⟩
   have e : (List.map T.str row).reverse = row.reverse.map T.str:=by rw [List.map_reverse]
   rw [e]
   simp only [Wk.turn,Wk.enc,sT,List.map_map,Function.comp_def] at k
   exact k
def spSh : Sp3:=fun ts H Q => ∃ (c a : Addr) (xs : List T),ts = [.ref c,.ref a] /\ Cl H c /\ H a = some (.lst xs) /\ a ≠ c /\ xs.length <= 28 /\ ∀ us H',us.Perm xs -> Drw c H H' -> Q (.tup us) H'
theorem perm_ins {α : Type} (us : List α) (t : α) (i : Nat) : (us.take i ++ t :: us.drop i).Perm (us ++ [t]):=by
 refine (List.perm_middle (l₁:=us.take i) (l₂:=us.drop i)).trans ?_
 rw [List.take_append_drop]
 exact (List.perm_append_singleton t us).symm
abbrev N_shuffled : List Str:=["_law_cells","_law_things","_law_found","_law_thing"]
theorem sc_shuffled : FnScope N_shuffled ["_law_cells","_law_things"] (defScope (top 23)):=sc_mk
theorem ok_shuffled {f : Addr} {fd : FuncData} (g : G3 K mg "_law_shuffled" (top 23) ["_law_cells","_law_things"] f fd) (B : Bl mg) (F_next : Cal P w K mg base 2 "_law_next" (top 16) ["_law_cells"] spNx) : Cal P w K mg base 3 "_law_shuffled" (top 23) ["_law_cells","_law_things"] spSh:=by
 refine ⟨f,fd,g,?_⟩
 refine fn3 g.fn sc_shuffled (fun ts H Q h => ?_) (fun cdv A outer s H E ts H3 Q hr h => ?_)
 ·
  obtain ⟨c,a,xs,rfl,_⟩:=h; rfl
 ·
  have hu30:=Room.u30 hr
  have hu31:=Room.u31 hr
  have hu1:=Room.u1 hr
  obtain ⟨c,a,xs,rfl,hC,ha,hac,hl,k⟩:=h
  refine ⟨_,(ss3_cons (s3_set (i:=2) sc_shuffled.nd (e3_lst a3_nil))
    (ss3_cons (s3_for PassesOwn.never rfl (i3_list (v3 1)) (g3_name (i:=3) sc_shuffled.nd) (ss3_one (s3_expr (e3_bm PySem.F.plainAttrs_list PySem.F.slot_list_insert PySem.F.type_list_insert m3_insert (v3 2) (a3_cons (e3_op o3_mod (e3_cl F_next hr rfl (a3_cons (v3 0) a3_nil)) (e3_op o3_add (e3_callB c3_len rfl B.len_ bt_len (a3_cons (v3 2) a3_nil)) c3_int)) (a3_cons (v3 3) a3_nil))))))
    (ss3_one (s3_ret (e3_callTy c3_tuple rfl B.tuple_ bt_tuple (a3_cons (v3 2) a3_nil)))))),?_⟩
  rw [show start3 N_shuffled [T.ref c,T.ref a] = [some (T.ref c),some (T.ref a),none,none] from rfl]
  have hsz : sizeLine = 16777216:=rfl
  walk_at "rd"
  refine ⟨by omega,fun p hp => ?_⟩
  have nap : a ≠ p:=ne3n ha hp
  have npc : p ≠ c:=hC.ne hp
  walk_at "rd"
  refine iter_go (fun r σ H' => ∃ (ds us : List T) (v3 : Option T),σ = [some (.ref c),some (.ref a),some (.ref p),v3] /\ ds ++ r = xs /\ us.Perm ds /\ Cl H' c /\ Kep c H3 H' /\ H' p = some (.lst us)) ⟨[],[],none,rfl,rfl,.nil,hC.new npc,Kep.refl.new hp,up3_same⟩ ?_ ?_
  ·
   rintro σ H' ⟨ds,us,v3,rfl,e,hP,hC',kp,h1⟩
   rw [List.append_nil] at e
   subst e
   refine ⟨.inl (kp _ _ ha hac),?_⟩
   walk_at "rd"
   exact fin_drw hC' kp fun H'' hD => k us H'' hP hD
  ·
   rintro t r σ H' N ⟨ds,us,v3,rfl,e,hP,hC',kp,h1⟩ hN
   refine ⟨.inl (kp _ _ ha hac),?_⟩
   have hul : us.length < 28:=by
    have h1:=congrArg List.length e
    have h2:=hP.length_eq
    rw [List.length_append,List.length_cons] at h1
    omega
   have hN':=Box.mk hN
   clear hN k ha
   walk_at "rd"
   refine ⟨⟨trivial,trivial⟩,c,rfl,hC',fun n H1 hD1 => ?_⟩
   have h1p : H1 p = some (.lst us):=by rw [hD1.off p npc]; exact h1
   have i1:=Int.emod_nonneg n (show ((us.length : Int) + 1) ≠ 0 by omega)
   have i2:=Int.emod_lt_of_pos n (show 0 < (us.length : Int) + 1 by omega)
   have hlog : ((us.length : Int) + 1).natAbs.log2 < 9000:=log_small (by omega)
   walk_at "rd"
   refine ⟨by omega,⟨trivial,by omega,by omega⟩,hN'.out _ _ ⟨ds ++ [t],_,_,rfl,by rw [List.append_assoc]; exact e,(perm_ins us t _).trans (hP.append_right [t]),hD1.cl.new npc,(kp.drw hD1).at hp,up3_same⟩⟩
def spOt : Sp3:=fun ts H Q => ∃ (W : Wk) (c : Addr),ts = [W.enc,.ref c] /\ WkOk W /\ Cl H c /\ ∀ (f : Str -> Str) (W2 : Wk) (p : Addr) (kvs : List (Str × T)) (H1 : Hp3),Tld f W W2 -> (∀ t ∈ W.nms,look3 t kvs = some (.str (f t))) -> Drw c H H1 -> H1 p = none -> Q (.tup [W2.enc,.ref p]) (up3 H1 p (.dct kvs))
theorem fin_drw2 {a p : Addr} {H H' : Hp3} {Q : VK3} {v : T} {o : O3} (D : Cl H' a) (k : Kep a H H') (hp : H p = none) (hpa : p ≠ a) (ho : H' p = some o) (q : ∀ H1,Drw a H H1 -> H1 p = none -> Q v (up3 H1 p o)) : Fin3 Q v H':=by
 refine ⟨up3 (fun b => if b = a then H' b else H b) p o,fun b u hb => ?_,q _ ⟨?_,fun b h1 => ?_⟩ ?_⟩
 ·
  by_cases h : b = p
  ·
   subst h
   rw [up3_same] at hb
   rw [ho]; exact hb
  ·
   rw [up3_ne h] at hb
   by_cases h : b = a
   ·
    simp only [h,if_true] at hb ⊢; exact hb
   ·
    simp only [h,if_false] at hb
    exact k b u hb h
 ·
  obtain ⟨ns,e,r⟩:=D.ex
  exact ⟨ns,by simp only [if_true]; exact e,r⟩
 ·
  simp only [h1,if_false]
 ·
  simp only [hpa,if_false]; exact hp
theorem Wt.fresh {c p : Addr} {H0 H : Hp3} {fs : List (Addr × O3)} (w : Wt c H0 H fs) (hp : H p = none) : H0 p = none:=by
 cases e : H0 p with
 | none => rfl
 | some o => rw [w.kp p o e (w.cl.ne hp)] at hp; cases hp
theorem Wt.tl {c : Addr} {q : Addr × O3} {H0 H : Hp3} {fs : List (Addr × O3)} (w : Wt c H0 H (q :: fs)) : Wt c H0 H fs:=⟨w.cl,w.kp,fun p hp => w.at' p (List.mem_cons_of_mem _ hp)⟩
theorem Wt.hd {c p : Addr} {H0 H : Hp3} {o : O3} {fs : List (Addr × O3)} (w : Wt c H0 H ((p,o) :: fs)) : H p = some o:=(w.at' (p,o) List.mem_cons_self).1
theorem Wt.nc {c p : Addr} {H0 H : Hp3} {o : O3} {fs : List (Addr × O3)} (w : Wt c H0 H ((p,o) :: fs)) : p ≠ c:=(w.at' (p,o) List.mem_cons_self).2
theorem perm_un {α β : Type} {g : α -> β} {as : List α} {us : List β} (h : us.Perm (as.map g)) : ∃ as' : List α,as'.Perm as /\ us = as'.map g:=by
 generalize e : as.map g = vs at h
 induction h generalizing as with
 | nil => exact ⟨[],by rw [List.map_eq_nil_iff.mp e],rfl⟩
 | cons x p ih =>
  cases as with
  | nil => cases e
  | cons a as =>
   rw [List.map_cons] at e
   injection e with e1 e2
   obtain ⟨bs,h1,h2⟩:=ih e2
   exact ⟨a :: bs,h1.cons a,by rw [List.map_cons,e1,h2]⟩
 | swap x y l =>
  match as,e with
  | [],e => cases e
  | [_],e => cases e
  | a :: b :: as,e =>
   rw [List.map_cons,List.map_cons] at e
   injection e with e1 e2
   injection e2 with e2 e3
   exact ⟨b :: a :: as,.swap a b as,by rw [List.map_cons,List.map_cons,e1,e2,e3]⟩
 | trans h1 h2 ih1 ih2 =>
  obtain ⟨bs,q1,q2⟩:=ih2 e
  obtain ⟨cs,q3,q4⟩:=ih1 q2.symm
  exact ⟨cs,q3.trans q1,q4⟩
theorem cIter_pure3 {α : Type} (e1 e2 e3 f : α -> T) (as : List α) (rest : St3) {te : TE3} {still : Hp3 -> Prop} {fin : List T -> Hp3 -> Prop} {v u t : Option T} {H : Hp3} (hst : still H) (hl : as.length <= sizeLine)
  (ht : ∀ a ∈ as,∀ Q : VK3,Q (f a) H -> te (some (e1 a) :: some (e2 a) :: some (e3 a) :: rest) H Q) (hfin : fin (as.map f) H) :
  cIter3 (gTup3 3 (gCons3 (gName3 0) (gCons3 (gName3 1) (gCons3 (gName3 2) gNil3)))) tYes3 te still fin (as.map fun a => .tup [e1 a,e2 a,e3 a]) [] (v :: u :: t :: rest) H:=by
 refine cIter_go (fun r ys σ H' => ∃ (rs ds : List α) (v u t : Option T),σ = v :: u :: t :: rest /\ r = rs.map (fun a => .tup [e1 a,e2 a,e3 a]) /\ ys = ds.map f /\ ds ++ rs = as /\ H' = H) ⟨as,[],v,u,t,rfl,rfl,rfl,rfl,rfl⟩ ?_ ?_
 ·
  rintro ys σ H' ⟨rs,ds,v,u,t,rfl,hrs,rfl,hsp,rfl⟩
  have hrs' : rs = []:=List.map_eq_nil_iff.mp hrs.symm
  subst hrs'
  rw [List.append_nil] at hsp
  subst hsp
  exact ⟨hst,by rw [List.length_map]; exact hl,hfin⟩
 ·
  rintro x r ys σ H' N ⟨rs,ds,v,u,t,rfl,hrs,rfl,hsp,rfl⟩ hN
  cases rs with
  | nil => cases hrs
  | cons z rs =>
   injection hrs with a1 a2
   subst a1 a2
   refine ⟨hst,rfl,?_⟩
   show te (some (e1 z) :: some (e2 z) :: some (e3 z) :: rest) H' _
   refine ht z (by rw [<- hsp]; simp) _ ⟨?_,hN _ _ _ ⟨rs,ds ++ [z],_,_,_,rfl,rfl,by simp,by rw [<- hsp]; simp,rfl⟩⟩
   have:=congrArg List.length hsp
   simp only [List.length_append,List.length_cons] at this
   rw [List.length_map]
   omega
noncomputable def newOf : List Str -> List Str -> Str -> Str
 | k :: ks,w :: ws,t => if k = t then w else newOf ks ws t
 | _,_,t => t
theorem new_look : ∀ {ks ws : List Str} {t : Str},ks.length = ws.length -> t ∈ ks -> look3 t (ks.zip (ws.map T.str)) = some (.str (newOf ks ws t)) /\ newOf ks ws t ∈ ws
 | [],_,_,_,h => nomatch h
 | k :: ks,[],_,e,_ => nomatch e
 | k :: ks,w :: ws,t,e,h => by
  rw [List.map_cons,List.zip_cons_cons]
  unfold look3 newOf
  by_cases hk : k = t
  ·
   simp [hk]
  ·
   rw [if_neg hk,if_neg hk]
   have:=new_look (ks:=ks) (ws:=ws) (by simpa using e) ((List.mem_cons.mp h).resolve_left fun z => hk z.symm)
   exact ⟨this.1,List.mem_cons_of_mem _ this.2⟩
theorem new_inj : ∀ {ks ws : List Str},ks.length = ws.length -> ws.Nodup -> ∀ a ∈ ks,∀ b ∈ ks,newOf ks ws a = newOf ks ws b -> a = b
 | [],_,_,_ => fun _ h => nomatch h
 | k :: ks,[],e,_ => nomatch e
 | k :: ks,w :: ws,e,nd => by
  intro a ha b hb h
  have e' : ks.length = ws.length:=by simpa using e
  rw [List.nodup_cons] at nd
  unfold newOf at h
  by_cases h1 : k = a
  ·
   by_cases h2 : k = b
   ·
    rw [<- h1,h2]
   ·
    rw [if_pos h1,if_neg h2] at h
    exact absurd (h ▸ (new_look e' ((List.mem_cons.mp hb).resolve_left fun z => h2 z.symm)).2) nd.1
  ·
   by_cases h2 : k = b
   ·
    rw [if_neg h1,if_pos h2] at h
    exact absurd (h ▸ (new_look e' ((List.mem_cons.mp ha).resolve_left fun z => h1 z.symm)).2) nd.1
   ·
    rw [if_neg h1,if_neg h2] at h
    exact new_inj e' nd.2 a ((List.mem_cons.mp ha).resolve_left fun z => h1 z.symm) b ((List.mem_cons.mp hb).resolve_left fun z => h2 z.symm) h
abbrev N_other : List Str:=["_law_works_here","_law_cells","_law_names_here","_law_news","_law_tasks_here","_law_orders_here","_law_pairs_here","_law_made"]
theorem sc_other : FnScope N_other ["_law_works_here","_law_cells"] (defScope (top 24)):=sc_mk
theorem ok_other {f : Addr} {fd : FuncData} (g : G3 K mg "_law_other" (top 24) ["_law_works_here","_law_cells"] f fd) (B : Bl mg) (F_names : Cal P w K mg base 1 "_law_names" (top 14) ["_law_cell","_law_many"] spNs) (F_next : Cal P w K mg base 2 "_law_next" (top 16) ["_law_cells"] spNx) (F_shuffled : Cal P w K mg base 3 "_law_shuffled" (top 23) ["_law_cells","_law_things"] spSh) : Cal P w K mg base 4 "_law_other" (top 24) ["_law_works_here","_law_cells"] spOt:=by
 refine ⟨f,fd,g,?_⟩
 refine fn3 g.fn sc_other (fun ts H Q h => ?_) (fun cdv A outer s H E ts H3 Q hr h => ?_)
 ·
  obtain ⟨W,c,rfl,_⟩:=h; rfl
 ·
  have hu30:=Room.u30 hr
  have hu31:=Room.u31 hr
  have hu1:=Room.u1 hr
  obtain ⟨⟨tk,ors,prs,row⟩,c,rfl,hW,hC,k⟩:=h
  refine ⟨_,(ss3_cons (s3_setC (i:=2) rfl sc_other.nd (compSc (n0:=(defScope (top 24)).names) (N:=N_other) (N':=["_law_task"]) (nt:=1) (cap:=[]) rfl rfl (by decide +kernel)) (i3_tup (e3_ix ix3 (v3 0) c3_int)) (fun cl pins s H C0 fp => ⟨(g3_name (i:=0) (show List.Nodup [("_law_task" : Str)] by decide +kernel)),if3_nil,(e3_ix ix3 (v3 0) c3_int)⟩))
    (ss3_cons (s3_set (i:=3) sc_other.nd (e3_dz rfl rfl B.dict_ rfl B.zip_ (a3_cons (v3 2) (a3_cons (e3_cl F_names hr rfl (a3_cons (e3_op o3_add (e3_op o3_mod (e3_cl F_next hr rfl (a3_cons (v3 1) a3_nil)) (e3_op o3_pow c3_int c3_int)) c3_int) (a3_cons (e3_callB c3_len rfl B.len_ bt_len (a3_cons (v3 2) a3_nil)) a3_nil))) a3_nil))))
    (ss3_cons (s3_setC (i:=4) rfl sc_other.nd (compSc (n0:=(defScope (top 24)).names) (N:=N_other) (N':=["_law_name","_law_length","_law_kinds","_law_news"]) (nt:=3) (cap:=[3]) rfl rfl (by decide +kernel)) (i3_tup (e3_ix ix3 (v3 0) c3_int)) (fun cl pins s H C0 fp => ⟨(g3_tup (n:=3) rfl (gs3_cons (g3_name (i:=0) (show List.Nodup [("_law_name" : Str),("_law_length" : Str),("_law_kinds" : Str),("_law_news" : Str)] by decide +kernel)) (gs3_cons (g3_name (i:=1) (show List.Nodup [("_law_name" : Str),("_law_length" : Str),("_law_kinds" : Str),("_law_news" : Str)] by decide +kernel)) (gs3_cons (g3_name (i:=2) (show List.Nodup [("_law_name" : Str),("_law_length" : Str),("_law_kinds" : Str),("_law_news" : Str)] by decide +kernel)) gs3_nil)))),if3_nil,(e3_tup (a3_cons (e3_dget hu1 (v3 3) (v3 0)) (a3_cons (v3 1) (a3_cons (v3 2) a3_nil))))⟩))
    (ss3_cons (s3_setC (i:=5) rfl sc_other.nd (compSc (n0:=(defScope (top 24)).names) (N:=N_other) (N':=["_law_one","_law_other_here","_law_news"]) (nt:=2) (cap:=[3]) rfl rfl (by decide +kernel)) (i3_tup (e3_ix ix3 (v3 0) c3_int)) (fun cl pins s H C0 fp => ⟨(g3_tup (n:=2) rfl (gs3_cons (g3_name (i:=0) (show List.Nodup [("_law_one" : Str),("_law_other_here" : Str),("_law_news" : Str)] by decide +kernel)) (gs3_cons (g3_name (i:=1) (show List.Nodup [("_law_one" : Str),("_law_other_here" : Str),("_law_news" : Str)] by decide +kernel)) gs3_nil))),if3_nil,(e3_tup (a3_cons (e3_dget hu1 (v3 2) (v3 0)) (a3_cons (e3_dget hu1 (v3 2) (v3 1)) a3_nil)))⟩))
    (ss3_cons (s3_setC (i:=6) rfl sc_other.nd (compSc (n0:=(defScope (top 24)).names) (N:=N_other) (N':=["_law_word","_law_one","_law_other_here","_law_news"]) (nt:=3) (cap:=[3]) rfl rfl (by decide +kernel)) (i3_tup (e3_ix ix3 (v3 0) c3_int)) (fun cl pins s H C0 fp => ⟨(g3_tup (n:=3) rfl (gs3_cons (g3_name (i:=0) (show List.Nodup [("_law_word" : Str),("_law_one" : Str),("_law_other_here" : Str),("_law_news" : Str)] by decide +kernel)) (gs3_cons (g3_name (i:=1) (show List.Nodup [("_law_word" : Str),("_law_one" : Str),("_law_other_here" : Str),("_law_news" : Str)] by decide +kernel)) (gs3_cons (g3_name (i:=2) (show List.Nodup [("_law_word" : Str),("_law_one" : Str),("_law_other_here" : Str),("_law_news" : Str)] by decide +kernel)) gs3_nil)))),if3_nil,(e3_tup (a3_cons (v3 0) (a3_cons (e3_dget hu1 (v3 3) (v3 1)) (a3_cons (e3_dget hu1 (v3 3) (v3 2)) a3_nil))))⟩))
    (ss3_cons (s3_set (i:=7) sc_other.nd (e3_tup (a3_cons (e3_cl F_shuffled hr rfl (a3_cons (v3 1) (a3_cons (v3 4) a3_nil))) (a3_cons (e3_cl F_shuffled hr rfl (a3_cons (v3 1) (a3_cons (v3 5) a3_nil))) (a3_cons (e3_cl F_shuffled hr rfl (a3_cons (v3 1) (a3_cons (v3 6) a3_nil))) (a3_cons (e3_ix ix3 (v3 0) c3_int) a3_nil))))))
    (ss3_one (s3_ret (e3_tup (a3_cons (v3 7) (a3_cons (v3 3) a3_nil))))))))))),?_⟩
  rw [show start3 N_other [Wk.enc ⟨tk,ors,prs,row⟩,T.ref c] = [some (T.tup [T.tup (tk.map tkT),T.tup (ors.map orT),T.tup (prs.map prT),T.tup (row.map T.str)]),some (T.ref c),none,none,none,none,none,none] from rfl]
  have hsz : sizeLine = 16777216:=rfl
  have t8 : tk.length <= 8:=hW.t8
  have t1 : 1 <= tk.length:=hW.t1
  have k':=Box.mk k
  clear k
  refine seq_cut fun R0 hR0 => ?_
  walk_at "rd"
  walk_at "cp"
  refine cIter_pure tkT (fun t => T.str t.1) tk [] trivial (by omega) (fun t ht Q' hq => ?_) (fun pn hpn => ?_)
  ·
   simp only [tkT]
   walk_at "rd"
   try exact hq
  have enm : (tk.map fun t => T.str t.1) = (tk.map (·.1)).map T.str:=by rw [List.map_map]; rfl
  rw [enm]
  walk_at "nx"
  have w0 : Wt c H3 (up3 H3 pn (.lst ((tk.map (·.1)).map T.str))) [(pn,.lst ((tk.map (·.1)).map T.str))]:=(Wt.mk (fs:=[]) hC Kep.refl (fun _ h => nomatch h)).new hpn
  generalize up3 H3 pn (.lst ((tk.map (·.1)).map T.str)) = H4 at w0
  have gpn:=(w0.at' _ List.mem_cons_self).1
  have npc:=(w0.at' _ List.mem_cons_self).2
  refine seq_cut fun R1 hR1 => ?_
  dsimp only at gpn npc
  walk_at "rd"
  refine ⟨c,rfl,w0.cl,fun n H5 hD5 => ?_⟩
  have w1:=w0.drw hD5
  clear gpn
  have gpn:=(w1.at' _ List.mem_cons_self).1
  dsimp only at gpn
  walk_at "rd"
  refine ⟨⟨by decide,by decide,by decide⟩,by decide,_,_,rfl,by omega,by omega,fun pw ws hpw hNm hwl => ?_⟩
  have hwl' : (tk.map (·.1)).length = ws.length:=by rw [List.length_map]; omega
  refine ⟨pn,pw,tk.map (·.1),ws.map T.str,rfl,by rw [up3_ne (ne3n gpn hpw)]; exact gpn,up3_same,by rw [List.length_map,List.length_map]; omega,by rw [List.length_map]; omega,hW.nd,fun p hp => ?_⟩
  have hp0 : H3 p = none:=(w1.new (o:=.lst (ws.map T.str)) hpw).fresh hp
  have w2:=((w1.new (o:=.lst (ws.map T.str)) hpw).new (o:=.dct ((tk.map (·.1)).zip (ws.map T.str))) hp)
  have w3 : Wt c H3 (up3 (up3 H5 pw (.lst (ws.map T.str))) p (.dct ((tk.map (·.1)).zip (ws.map T.str)))) [(p,.dct ((tk.map (·.1)).zip (ws.map T.str)))]:=⟨w2.cl,w2.kp,fun q hq => w2.at' q (by rw [List.mem_singleton.mp hq]; exact List.mem_cons_self)⟩
  generalize up3 (up3 H5 pw (.lst (ws.map T.str))) p (.dct ((tk.map (·.1)).zip (ws.map T.str))) = H6 at w3
  walk_at "nx"
  have lok : ∀ t ∈ tk.map (·.1),look3 t ((tk.map (·.1)).zip (ws.map T.str)) = some (.str (newOf (tk.map (·.1)) ws t)):=fun t ht => (new_look hwl' ht).1
  have hinj:=new_inj hwl' hNm.nd
  have hnm : ∀ t ∈ tk.map (·.1),isNm (newOf (tk.map (·.1)) ws t):=fun t ht => hNm.nm _ (new_look hwl' ht).2
  generalize newOf (tk.map (·.1)) ws = f at lok hinj hnm
  generalize (tk.map (·.1)).zip (ws.map T.str) = kvs at lok w3
  clear w2 hpw hp w1 gpn hD5 w0 npc
  have gp:=w3.hd
  have lok':=Box.mk lok
  clear lok
  have o28 : ors.length <= 28:=hW.os
  have p12 : prs.length <= 12:=hW.ps
  refine seq_cut fun R2 hR2 => ?_
  walk_at "rd"
  walk_at "cp"
  refine cIter_pure3 (fun t => T.str t.1) (fun t => T.int t.2.1) (fun t => sT t.2.2) (fun t => tkT (f t.1,t.2)) tk [some (.ref p)] ?_ ?_ ?_ ?_
  ·
   exact trivial
  ·
   omega
  ·
   intro t ht Q' hq
   have l1:=lok'.out t.1 (List.mem_map.mpr ⟨t,ht,rfl⟩)
   clear hR2 k'
   walk_at "rd"
   first | exact hq | exact ⟨by decide,hq⟩
  intro pt hppt
  have w4:=w3.new (o:=.lst (tk.map fun t => tkT (f t.1,t.2))) hppt
  generalize up3 H6 pt (.lst (tk.map fun t => tkT (f t.1,t.2))) = H7 at w4
  walk_at "nx"
  clear gp hppt
  have gp:=w4.tl.hd
  refine seq_cut fun R3 hR3 => ?_
  walk_at "rd"
  walk_at "cp"
  refine cIter_pure2 (fun t => T.str t.1) (fun t => T.str t.2) (fun t => orT (f t.1,f t.2)) ors [some (.ref p)] ?_ ?_ ?_ ?_
  ·
   exact trivial
  ·
   omega
  ·
   intro t ht Q' hq
   have l1:=lok'.out t.1 (hW.oo t ht).2.1
   have l2:=lok'.out t.2 (hW.oo t ht).2.2
   clear hR3 k'
   walk_at "rd"
   first | exact hq | exact ⟨by decide,hq⟩
  intro po hppo
  have w5:=w4.new (o:=.lst (ors.map fun t => orT (f t.1,f t.2))) hppo
  generalize up3 H7 po (.lst (ors.map fun t => orT (f t.1,f t.2))) = H8 at w5
  walk_at "nx"
  clear gp hppo
  have gp:=w5.tl.tl.hd
  refine seq_cut fun R4 hR4 => ?_
  walk_at "rd"
  walk_at "cp"
  refine cIter_pure3 (fun t => T.str t.1) (fun t => T.str t.2.1) (fun t => T.str t.2.2) (fun t => prT (t.1,f t.2.1,f t.2.2)) prs [some (.ref p)] ?_ ?_ ?_ ?_
  ·
   exact trivial
  ·
   omega
  ·
   intro t ht Q' hq
   have l1:=lok'.out t.2.1 (hW.pp t ht).2.2.1
   have l2:=lok'.out t.2.2 (hW.pp t ht).2.2.2
   clear hR4 k'
   walk_at "rd"
   first | exact hq | exact ⟨by decide,hq⟩
  intro pq hppq
  have w6:=w5.new (o:=.lst (prs.map fun t => prT (t.1,f t.2.1,f t.2.2))) hppq
  generalize up3 H8 pq (.lst (prs.map fun t => prT (t.1,f t.2.1,f t.2.2))) = H9 at w6
  walk_at "nx"
  clear gp hppq
  have gp:=w6.tl.tl.tl.hd
  have g1:=w6.tl.tl.hd
  have g2:=w6.tl.hd
  have g3:=w6.hd
  walk_at "rd"
  refine ⟨c,pt,_,rfl,w6.cl,g1,w6.tl.tl.nc,by rw [List.length_map]; omega,fun u1 Ha hp1 hDa => ?_⟩
  have w7:=w6.drw hDa
  refine ⟨c,po,_,rfl,w7.cl,w7.tl.hd,w7.tl.nc,by rw [List.length_map]; omega,fun u2 Hb hp2 hDb => ?_⟩
  have w8:=w7.drw hDb
  refine ⟨c,pq,_,rfl,w8.cl,w8.hd,w8.nc,by rw [List.length_map]; omega,fun u3 Hc hp3 hDc => ?_⟩
  have w9:=w8.drw hDc
  rw [show (tk.map fun t => tkT (f t.1,t.2)) = (tk.map fun t => (f t.1,t.2)).map tkT by rw [List.map_map]; rfl] at hp1
  rw [show (ors.map fun t => orT (f t.1,f t.2)) = (ors.map fun t => (f t.1,f t.2)).map orT by rw [List.map_map]; rfl] at hp2
  rw [show (prs.map fun t => prT (t.1,f t.2.1,f t.2.2)) = (prs.map fun t => (t.1,f t.2.1,f t.2.2)).map prT by rw [List.map_map]; rfl] at hp3
  obtain ⟨a1,q1,rfl⟩:=perm_un hp1
  obtain ⟨a2,q2,rfl⟩:=perm_un hp2
  obtain ⟨a3,q3,rfl⟩:=perm_un hp3
  exact ⟨by decide,by decide,fin_drw2 w9.cl w9.kp hp0 w9.tl.tl.tl.nc w9.tl.tl.tl.hd fun H1 hD hn => k'.out f ⟨a1,a2,a3,row⟩ p kvs H1 ⟨hinj,hnm,q1,q2,q3,rfl⟩ lok'.out hD hn⟩
theorem bt_sorted : bootBuiltins "sorted" = some (.builtin "sorted"):=by decide +kernel
def spSo : Sp3:=fun ts H Q => ∃ (α : Type) (x : T) (as : List α) (enc : α -> T) (gof : α -> List Str),ts = [x] /\ ((∃ a,x = .ref a /\ H a = some (.lst (as.map enc))) \/ x = .tup (as.map enc)) /\ as.length <= 8 /\ (∀ a ∈ as,(gof a).length <= 8 /\ (enc a = .tup ((gof a).map T.str) \/ ∃ r,enc a = .ref r /\ H r = some (.lst ((gof a).map T.str)))) /\
 ∀ (p : Addr) (us : List (Addr × List Str)) (H' : Hp3),Sub3 H H' -> H' p = some (.lst (us.map fun z => T.ref z.1)) -> (∀ z ∈ us,H' z.1 = some (.lst (z.2.map T.str))) -> us.Pairwise leR -> (us.map (·.2)).Perm (as.map fun a => srtF (gof a)) -> (∀ a ∈ as,Sble (gof a)) -> Q (.ref p) H'
abbrev N_sorted : List Str:=["_law_groups"]
theorem sc_sorted : FnScope N_sorted N_sorted (defScope (top 25)):=sc_mk
theorem ok_sorted {f : Addr} {fd : FuncData} (g : G3 K mg "_law_sorted" (top 25) N_sorted f fd) (B : Bl mg) : Cal P w K mg base 1 "_law_sorted" (top 25) N_sorted spSo:=by
 refine ⟨f,fd,g,?_⟩
 refine fn3 g.fn sc_sorted (fun ts H Q h => ?_) (fun cdv A outer s H E ts H3 Q hr h => ?_)
 ·
  obtain ⟨α,x,as,enc,gof,rfl,_⟩:=h; rfl
 ·
  have hu30:=Room.u30 hr
  have hu31:=Room.u31 hr
  have hu1:=Room.u1 hr
  obtain ⟨α,x,as,enc,gof,rfl,hx,hl,hf,k⟩:=h
  refine ⟨_,(ss3_one (s3_ret (e3_callB (c3_srtS hu30) rfl B.sorted_ bt_sorted (a3_cons (e3_comp rfl (compSc (n0:=(defScope (top 25)).names) (N:=N_sorted) (N':=["_law_group"]) (nt:=1) (cap:=[]) rfl rfl (by decide +kernel)) (i3_seqV 0) (fun cl pins s H C0 fp => ⟨(g3_name (i:=0) (show List.Nodup [("_law_group" : Str)] by decide +kernel)),if3_nil,(e3_callB (c3_srtS hu30) rfl B.sorted_ bt_sorted (a3_cons (v3 0) a3_nil))⟩)) a3_nil)))),?_⟩
  rw [show start3 N_sorted [x] = [some (x)] from rfl]
  have hsz : sizeLine = 16777216:=rfl
  have k':=Box.mk k
  clear k
  walk_at "rd"
  refine seq_walk hx fun still hst => ?_
  have hst' : ∀ H',Sub3 H3 H' -> still H':=by
   rcases hst with rfl | ⟨a,rfl,e⟩
   ·
    exact fun _ _ => trivial
   ·
    exact fun H' hs => .inl (hs _ _ e)
  clear hst hx
  walk_at "cp"
  refine cIter_pre enc as (fun A ys σ H' => ∃ (zs : List (Addr × List Str)) (v : Option T),σ = [v] /\ ys = zs.map (fun z => T.ref z.1) /\ zs.map (·.2) = A.map (fun a => srtF (gof a)) /\ (∀ z ∈ zs,H' z.1 = some (.lst (z.2.map T.str))) /\ Sub3 H3 H' /\ ∀ a ∈ A,Sble (gof a)) ⟨[],none,rfl,rfl,rfl,(fun _ h => nomatch h),Sub3.refl,(fun _ h => nomatch h)⟩ ?_ ?_
  ·
   rintro ys σ H' ⟨zs,v,rfl,rfl,e1,h1,hs,h2⟩
   have hzl : zs.length = as.length:=by simpa using congrArg List.length e1
   refine ⟨hst' _ hs,by rw [List.length_map]; omega,fun p hp => ?_⟩
   try walk_at "rd"
   refine .inr ⟨p,zs,rfl,up3_same,by omega,fun z hz => by rw [up3_ne (ne3n (h1 z hz) hp)]; exact h1 z hz,fun us hP hS q hq => ?_⟩
   obtain ⟨n1,hq0⟩:=up3_none hq
   have h1' : ∀ z ∈ us,up3 (up3 H' p (.lst (zs.map fun z => T.ref z.1))) q (.lst (us.map fun z => T.ref z.1)) z.1 = some (.lst (z.2.map T.str)):=fun z hz => by
    have:=h1 z (hP.mem_iff.mp hz)
    rw [up3_ne (ne3n this hq0),up3_ne (ne3n this hp)]; exact this
   refine Fin3.of Sub3.refl (k'.out q us _ ((hs.trans (Sub3.new hp)).trans (Sub3.new hq)) up3_same h1' hS ?_ h2)
   rw [<- e1]
   exact hP.map _
  ·
   rintro A a B ys σ H' N e ⟨zs,v,rfl,rfl,e1,h1,hs,h2⟩ hN
   have ham : a ∈ as:=by rw [e]; simp
   have hA : A.length + 1 <= 8:=by
    have:=congrArg List.length e
    simp only [List.length_append,List.length_cons] at this
    omega
   have hzl : zs.length = A.length:=by simpa using congrArg List.length e1
   obtain ⟨hgl,hfm⟩:=hf a ham
   refine ⟨hst' _ hs,?_⟩
   clear hst' k' e
   have hN':=Box.mk hN
   clear hN
   walk_at "rd"
   refine .inl ⟨gof a,?_,by omega,fun us hP hS p hp => ?_⟩
   ·
    rcases hfm with h | ⟨r,h,hr⟩
    ·
     exact .inl h
    ·
     exact .inr ⟨r,h,hs _ _ hr⟩
   ·
    have es:=srtF_eq hP hS
    refine ⟨by omega,hN'.out _ _ _ ⟨zs ++ [(p,us)],_,rfl,by rw [List.map_append]; rfl,by rw [List.map_append,List.map_append,e1,es]; rfl,fun z hz => ?_,hs.trans (Sub3.new hp),fun b hb => ?_⟩⟩
    ·
     rcases List.mem_append.mp hz with hz | hz
     ·
      rw [up3_ne (ne3n (h1 z hz) hp)]; exact h1 z hz
     ·
      rw [List.mem_singleton.mp hz]; exact up3_same
    ·
     rcases List.mem_append.mp hb with hb | hb
     ·
      exact h2 b hb
     ·
      rw [List.mem_singleton.mp hb]; exact ⟨us,hP,hS⟩
theorem pl_grps (gs : List (List Str)) : (gs.map sT).all (pl 20) = true:=by
 rw [List.all_eq_true]
 intro t ht
 obtain ⟨g,_,rfl⟩:=List.mem_map.mp ht
 show (g.map T.str).all (pl 19) = true
 rw [List.all_eq_true]
 intro t ht
 obtain ⟨x,_,rfl⟩:=List.mem_map.mp ht
 rfl
theorem gps_len {W : Wk} (h : WkOk W) : (gpsW W).length <= 8 /\ ∀ g ∈ gpsW W,g.length <= 8:=by
 constructor
 ·
  unfold gpsW
  rw [List.length_map]
  exact Nat.le_trans (List.length_filter_le _ _) (by rw [List.length_map]; exact h.t8)
 ·
  intro g hg
  obtain ⟨t,_,rfl⟩:=gps_mem.mp hg
  exact Nat.le_trans (grpW_len W t) h.t8
def spLaw : Sp3:=fun ts H Q => ∃ (a : Addr) (ns : List Int),ts = [.ref a] /\ H a = some (.rol (ns.map T.int)) /\ ns.length <= 63 /\ ∀ H',Q (.bl true) H'
abbrev N_law : List Str:=["_law_script","_law_cells","_law_works_here","_law_other_here","_law_news","_law_groups","_law_back","_law_task","_law_ahead"]
theorem sc_law : FnScope N_law ["_law_script"] (defScope (top 26)):=sc_mk
theorem ok_law {f : Addr} {fd : FuncData} (g : G3 K mg "law" (top 26) ["_law_script"] f fd) (B : Bl mg) (F_groups_of : Cal P w K mg base 4 "groups_of" (top 8) ["works"] spGs) (F_ahead_of : Cal P w K mg base 3 "ahead_of" (top 9) ["works","task"] spAh) (F_behind_of : Cal P w K mg base 3 "behind_of" (top 10) ["works","task"] spBe) (F_turned_about : Cal P w K mg base 1 "turned_about" (top 12) ["works"] spTurn) (F_sorted : Cal P w K mg base 1 "_law_sorted" (top 25) ["_law_groups"] spSo) (F_other : Cal P w K mg base 4 "_law_other" (top 24) ["_law_works_here","_law_cells"] spOt) (F_works : Cal P w K mg base 4 "_law_works" (top 22) ["_law_cells","_law_most","_law_withs"] spWs) (F_deck : Cal P w K mg base 2 "_law_deck" (top 17) ["_law_script"] spDk) : FnOk3 P w K mg base 5 f fd ["_law_script"] spLaw:=by
 refine fn3 g.fn sc_law (fun ts H Q h => ?_) (fun cdv A outer s H E ts H3 Q hr h => ?_)
 ·
  obtain ⟨a,ns,rfl,_⟩:=h; rfl
 ·
  have hu30:=Room.u30 hr
  have hu31:=Room.u31 hr
  have hu1:=Room.u1 hr
  obtain ⟨a,ns,rfl,ha,hl,k⟩:=h
  refine ⟨_,(ss3_cons (s3_set (i:=1) sc_law.nd (e3_cl F_deck hr rfl (a3_cons (v3 0) a3_nil)))
    (ss3_cons (s3_set (i:=2) sc_law.nd (e3_cl F_works hr rfl (a3_cons (v3 1) (a3_cons c3_int (a3_cons c3_int a3_nil)))))
    (ss3_cons (s3_asg (e3_cl F_other hr rfl (a3_cons (v3 2) (a3_cons (v3 1) a3_nil))) (g3_tup (n:=2) rfl (gs3_cons (g3_name (i:=3) sc_law.nd) (gs3_cons (g3_name (i:=4) sc_law.nd) gs3_nil))))
    (ss3_cons (s3_set (i:=5) sc_law.nd (e3_cl F_groups_of hr rfl (a3_cons (v3 2) a3_nil)))
    (ss3_cons (s3_if (t3_cmp (o3_neR hu30) (e3_cl F_sorted hr rfl (a3_cons (e3_comp rfl (compSc (n0:=(defScope (top 26)).names) (N:=N_law) (N':=["_law_group","_law_news"]) (nt:=1) (cap:=[4]) rfl rfl (by decide +kernel)) (i3_tup (v3 5)) (fun cl pins s H C0 fp => ⟨(g3_name (i:=0) (show List.Nodup [("_law_group" : Str),("_law_news" : Str)] by decide +kernel)),if3_nil,(e3_comp rfl (compSc2 (n00:=(defScope (top 26)).names) (N:=["_law_group","_law_news"]) (N':=["_law_one","_law_news"]) (nt:=1) (cap:=[1]) rfl rfl rfl (by decide +kernel)) (i3_tup (v3 0)) (fun cl pins s H C0 fp => ⟨(g3_name (i:=0) (show List.Nodup [("_law_one" : Str),("_law_news" : Str)] by decide +kernel)),if3_nil,(e3_dget hu1 (v3 1) (v3 0))⟩))⟩)) a3_nil)) (e3_cl F_sorted hr rfl (a3_cons (e3_cl F_groups_of hr rfl (a3_cons (v3 3) a3_nil)) a3_nil))) (ss3_one (s3_ret c3_bl)) ss3_nil)
    (ss3_cons (s3_set (i:=6) sc_law.nd (e3_cl F_turned_about hr rfl (a3_cons (v3 2) a3_nil)))
    (ss3_cons (s3_if (t3_cmp (o3_ne hu30) (e3_cl F_groups_of hr rfl (a3_cons (v3 6) a3_nil)) (v3 5)) (ss3_one (s3_ret c3_bl)) ss3_nil)
    (ss3_cons (s3_for PassesOwn.never rfl (i3_tup (e3_ix ix3 (v3 2) c3_int)) (g3_name (i:=7) sc_law.nd) (ss3_cons (s3_set (i:=8) sc_law.nd (e3_cl F_ahead_of hr rfl (a3_cons (v3 2) (a3_cons (e3_ix ix3 (v3 7) c3_int) a3_nil))))
     (ss3_cons (s3_if (t3_cmp (o3_ne hu30) (e3_callB (c3_srtS hu30) rfl B.sorted_ bt_sorted (a3_cons (e3_comp rfl (compSc (n0:=(defScope (top 26)).names) (N:=N_law) (N':=["_law_one","_law_news"]) (nt:=1) (cap:=[4]) rfl rfl (by decide +kernel)) (i3_tup (v3 8)) (fun cl pins s H C0 fp => ⟨(g3_name (i:=0) (show List.Nodup [("_law_one" : Str),("_law_news" : Str)] by decide +kernel)),if3_nil,(e3_dget hu1 (v3 1) (v3 0))⟩)) a3_nil)) (e3_callB (c3_srtS hu30) rfl B.sorted_ bt_sorted (a3_cons (e3_cl F_ahead_of hr rfl (a3_cons (v3 3) (a3_cons (e3_dget hu1 (v3 4) (e3_ix ix3 (v3 7) c3_int)) a3_nil))) a3_nil))) (ss3_one (s3_ret c3_bl)) ss3_nil)
     (ss3_one (s3_if (PW3.pt (w3_or (t3_cmp (o3_ne hu30) (e3_cl F_behind_of hr rfl (a3_cons (v3 6) (a3_cons (e3_ix ix3 (v3 7) c3_int) a3_nil))) (v3 8)) (w3_or1 (t3_cmp (o3_ne hu30) (e3_cl F_ahead_of hr rfl (a3_cons (v3 6) (a3_cons (e3_ix ix3 (v3 7) c3_int) a3_nil))) (e3_cl F_behind_of hr rfl (a3_cons (v3 2) (a3_cons (e3_ix ix3 (v3 7) c3_int) a3_nil))))))) (ss3_one (s3_ret c3_bl)) ss3_nil)))))
    (ss3_one (s3_ret c3_bl)))))))))),?_⟩
  rw [show start3 N_law [T.ref a] = [some (T.ref a),none,none,none,none,none,none,none,none] from rfl]
  have hsz : sizeLine = 16777216:=rfl
  have k':=Box.mk k
  clear k
  refine seq_cut fun R0 hR0 => ?_
  walk_at "rd"
  refine ⟨a,ns,rfl,ha,hl,fun c H1 hS hc0 hC => ?_⟩
  walk_at "nx"
  refine seq_cut fun R1 hR1 => ?_
  walk_at "rd"
  refine ⟨c,8,4,rfl,by decide,by decide,hC,fun W H2 hW _ hD => ?_⟩
  walk_at "nx"
  refine seq_cut fun R2 hR2 => ?_
  walk_at "rd"
  refine ⟨W,c,rfl,hW,hD.cl,fun f W2 pd kvs H4 tl lok hD4 hpd => ?_⟩
  have lok':=Box.mk lok
  have g5 : up3 H4 pd (.dct kvs) pd = some (.dct kvs):=up3_same
  generalize up3 H4 pd (.dct kvs) = H5 at g5
  clear hC hD hD4 hpd hS hc0 ha lok
  walk_at "rd"
  refine ⟨trivial,?_⟩
  walk_at "nx"
  have hW2:=tl.ok hW
  refine seq_cut fun R3 hR3 => ?_
  walk_at "rd"
  refine ⟨W,rfl,hW,?_⟩
  walk_at "nx"
  refine seq_cut fun R4 hR4 => ?_
  walk_at "rd"
  have t8:=hW.t8
  have gl1:=gps_len hW
  have gl2:=gps_len hW2
  walk_at "cp"
  refine cIter_pre sT (gpsW W) (fun A ys σ H' => ∃ (zs : List (Addr × List Str)) (v : Option T),σ = [v,some (.ref pd)] /\ ys = zs.map (fun z => T.ref z.1) /\ zs.map (·.2) = A.map (·.map f) /\ (∀ z ∈ zs,H' z.1 = some (.lst (z.2.map T.str))) /\ Sub3 H5 H') ⟨[],none,rfl,rfl,rfl,(fun _ h => nomatch h),Sub3.refl⟩ ?_ ?_
  rotate_left
  ·
   rintro A g B ys σ H' N e ⟨zs,v,rfl,rfl,e1,h1,hs⟩ hN
   have hg : g ∈ gpsW W:=by rw [e]; simp
   have hzl : zs.length = A.length:=by simpa using congrArg List.length e1
   have hAl : A.length < (gpsW W).length:=by rw [e]; simp
   obtain ⟨u,hu,rfl⟩:=gps_mem.mp hg
   have gg:=gl1.2 _ hg
   refine ⟨trivial,?_⟩
   have hN':=Box.mk hN
   have gpd:=hs _ _ g5
   clear hN hR4 k' gl2 e g5
   simp only [sT]
   walk_at "rd"
   walk_at "cp"
   refine cIter_pure T.str (fun x => T.str (f x)) (grpW W u) [some (.ref pd)] trivial (by omega) (fun x hx Q' hq => ?_) (fun r hr => ?_)
   ·
    have l1:=lok'.out x (grp_mem.mp hx).1
    clear hN'
    walk_at "rd"
    try exact hq
   ·
    refine ⟨by have:=gl1.1; omega,hN'.out _ _ _ ⟨zs ++ [(r,(grpW W u).map f)],_,rfl,by rw [List.map_append]; rfl,by rw [List.map_append,List.map_append,e1]; rfl,fun z hz => ?_,hs.trans (Sub3.new hr)⟩⟩
    rcases List.mem_append.mp hz with hz | hz
    ·
     rw [up3_ne (ne3n (h1 z hz) hr)]; exact h1 z hz
    ·
     rw [List.mem_singleton.mp hz,up3_same,List.map_map]; rfl
  rintro ys σ H' ⟨zs,v,rfl,rfl,e1,h1,hs⟩
  have hzl : zs.length = (gpsW W).length:=by simpa using congrArg List.length e1
  refine ⟨trivial,by have:=gl1.1; rw [List.length_map]; omega,fun p hp => ?_⟩
  refine ⟨Addr × List Str,.ref p,zs,fun z => .ref z.1,fun z => z.2,rfl,.inl ⟨p,rfl,up3_same⟩,by have:=gl1.1; omega,fun z hz => ⟨?_,.inr ⟨z.1,rfl,by rw [up3_ne (ne3n (h1 z hz) hp)]; exact h1 z hz⟩⟩,fun p1 us1 Ha hsa hpa hza hSa hPa hBa => ?_⟩
  ·
   show z.2.length <= 8
   have hm : z.2 ∈ (gpsW W).map (·.map f):=by rw [<- e1]; exact List.mem_map.mpr ⟨z,hz,rfl⟩
   obtain ⟨g,hg,eg⟩:=List.mem_map.mp hm
   rw [<- eg,List.length_map]
   exact gl1.2 g hg
  refine ⟨W2,rfl,hW2,?_⟩
  refine ⟨List Str,_,gpsW W2,sT,id,rfl,.inr rfl,gl2.1,fun g hg => ⟨gl2.2 g hg,.inl rfl⟩,fun p2 us2 Hb hsb hpb hzb hSb hPb hBb => ?_⟩
  refine ⟨p1,p2,us1,us2,rfl,rfl,hsb _ _ hpa,hpb,fun z hz => hsb _ _ (hza z hz),hzb,?_,?_⟩
  ·
   refine row_one (hPa.trans (List.Perm.trans ?_ hPb.symm)) hSa hSb
   have e2 : (zs.map fun z => srtF z.2) = (gpsW W).map fun g => srtF (g.map f):=by
    have:=congrArg (List.map srtF) e1
    rw [List.map_map,List.map_map] at this
    exact this
   rw [e2]
   refine gps_ren tl hW (fun g hg => ?_) hBb
   have hm : g.map f ∈ zs.map (·.2):=by rw [e1]; exact List.mem_map.mpr ⟨g,hg,rfl⟩
   obtain ⟨z,hz,ez⟩:=List.mem_map.mp hm
   have hb : Sble z.2:=hBa z hz
   rw [ez] at hb
   exact hb
  have g6 : Hb pd = some (.dct kvs):=hsb _ _ (hsa _ _ ((Sub3.new hp) _ _ (hs _ _ g5)))
  clear hsb hsa hp hs hpa hza hSa hPa hBa hpb hzb hSb hPb hBb h1 hzl e1 gl1 gl2 g5
  walk_at "rd"
  walk_at "nx"
  refine seq_cut fun R5 hR5 => ?_
  walk_at "rd"
  refine ⟨W,rfl,hW.os,?_⟩
  walk_at "nx"
  refine seq_cut fun R6 hR6 => ?_
  walk_at "rd"
  refine ⟨W.turn,rfl,hW.turn,?_⟩
  rw [gps_turn]
  walk_at "rd"
  refine ⟨pl_grps _,pl_grps _,?_⟩
  walk_at "nx"
  refine seq_cut fun R7 hR7 => ?_
  walk_at "rd"
  refine iter_pre tkT W.tasks (fun A σ H => ∃ (v7 v8 : Option T),σ = [some (T.ref a),some (T.ref c),some W.enc,some W2.enc,some (T.ref pd),some (T.tup (List.map sT (gpsW W))),some W.turn.enc,v7,v8] /\ H pd = some (.dct kvs)) ⟨none,none,rfl,g6⟩ ?_ ?_
  ·
   rintro σ H ⟨v7,v8,rfl,w⟩
   refine ⟨trivial,?_⟩
   walk_at "nx"
   walk_at "rd"
   exact Fin3.of Sub3.refl (k'.out _)
  ·
   rintro A t B σ H N e ⟨v7,v8,rfl,w⟩ hN
   have htn : t.1 ∈ W.nms:=by
    show t.1 ∈ W.tasks.map (·.1)
    rw [e]; simp
   have hN':=Box.mk hN
   have l0:=lok'.out t.1 htn
   refine ⟨trivial,?_⟩
   clear e hR7 hN k' g6
   refine seq_cut fun R8 hR8 => ?_
   simp only [tkT]
   walk_at "rd"
   refine ⟨W,t.1,rfl,hW,?_⟩
   walk_at "nx"
   refine seq_cut fun R9 hR9 => ?_
   simp only [sT]
   walk_at "rd"
   have lA : (ahdW W t.1).length <= 8:=Nat.le_trans (List.length_filter_le _ _) (by rw [List.length_map]; exact t8)
   have lB : (ahdW W2 (f t.1)).length <= 8:=Nat.le_trans (List.length_filter_le _ _) (by rw [List.length_map]; exact hW2.t8)
   walk_at "cp"
   refine cIter_pure T.str (fun x => T.str (f x)) (ahdW W t.1) [some (.ref pd)] trivial (by omega) (fun x hx Q' hq => ?_) (fun r hr => ?_)
   ·
    have l1:=lok'.out x (List.mem_filter.mp hx).1
    clear hN' hR9
    walk_at "rd"
    try exact hq
   rw [show ((ahdW W t.1).map fun x => T.str (f x)) = ((ahdW W t.1).map f).map T.str by rw [List.map_map]; rfl]
   refine .inl ⟨(ahdW W t.1).map f,.inr ⟨r,rfl,up3_same⟩,by rw [List.length_map]; omega,fun us hP hS q hq => ?_⟩
   have w1 : up3 (up3 H r (.lst (((ahdW W t.1).map f).map T.str))) q (.lst (us.map T.str)) pd = some (.dct kvs):=by
    obtain ⟨_,hq0⟩:=up3_none hq
    rw [up3_ne (ne3n w hq0),up3_ne (ne3n w hr)]; exact w
   have w2 : up3 (up3 H r (.lst (((ahdW W t.1).map f).map T.str))) q (.lst (us.map T.str)) q = some (.lst (us.map T.str)):=up3_same
   generalize up3 (up3 H r (.lst (((ahdW W t.1).map f).map T.str))) q (.lst (us.map T.str)) = H6 at w1 w2
   clear hr hq w
   walk_at "rd"
   refine ⟨W2,f t.1,rfl,hW2,?_⟩
   refine .inl ⟨ahdW W2 (f t.1),.inl rfl,by omega,fun vs hP2 hS2 q2 hq2 => ?_⟩
   have euv:=srt_one hP hS (hP2.trans (ahd_ren tl hW htn)) hS2
   subst euv
   have gq : up3 H6 q2 (.lst (us.map T.str)) q = some (.lst (us.map T.str)):=by rw [up3_ne (ne3n w2 hq2)]; exact w2
   have gq2 : up3 H6 q2 (.lst (us.map T.str)) q2 = some (.lst (us.map T.str)):=up3_same
   have w3 : up3 H6 q2 (.lst (us.map T.str)) pd = some (.dct kvs):=by rw [up3_ne (ne3n w1 hq2)]; exact w1
   have hne : ¬ q = q2:=ne3n w2 hq2
   have plu:=pl_strs us
   generalize up3 H6 q2 (.lst (us.map T.str)) = H7 at gq gq2 w3
   clear w1 w2 hq2 hP hS hP2 hS2 lA lB l0
   walk_at "rd"
   refine ⟨trivial,trivial,trivial,?_⟩
   clear gq gq2 plu hne
   walk_at "nx"
   walk_at "rd"
   refine ⟨W.turn,t.1,rfl,hW.turn,?_⟩
   rw [bhd_turn]
   have pls:=pl_strs (ahdW W t.1)
   simp only [sT]
   walk_at "rd"
   refine ⟨trivial,trivial,W.turn,t.1,rfl,hW.turn,?_⟩
   try dsimp only
   refine ⟨W,t.1,rfl,hW,?_⟩
   rw [ahd_turn]
   clear pls
   have pls:=pl_strs (bhdW W t.1)
   simp only [sT]
   walk_at "rd"
   exact ⟨trivial,trivial,hN'.out _ _ ⟨_,_,rfl,w3⟩⟩
end
end M
namespace M
open PySem PySem.Spec PyProof.Rows L2 L3
noncomputable def noList (K : PySem.W.Frag) : Bool:=K.all fun p => !(p.2.cls == .type "list")
theorem mem_look {K : PySem.W.Frag} {a : Addr} {o : Obj} (e : K.lookup a = some o) : (a,o) ∈ K:=by
 induction K with
 | nil => cases e
 | cons p r ih =>
  obtain ⟨b,u⟩:=p
  rw [List.lookup_cons] at e
  split at e
  ·
   rename_i h
   rw [eq_of_beq h,Option.some.inj e]
   exact List.mem_cons_self
  ·
   exact List.mem_cons_of_mem _ (ih e)
theorem noList_no {K : PySem.W.Frag} (h : noList K = true) {a : Addr} {o : Obj} (e : K.lookup a = some o) : o.cls ≠ .type "list":=fun z => by
 have hm : (a,o) ∈ K:=mem_look e
 have q:=List.all_eq_true.mp h (a,o) hm
 rw [z] at q
 simp at q
theorem uc {n : Nat} {us : List Value} (h : us.length = n + 1) : ∃ (a : Value) (r : List Value),us = a :: r /\ r.length = n:=by
 cases us with
 | nil => exact nomatch h
 | cons a r => exact ⟨a,r,rfl,Nat.succ.inj h⟩
theorem uz {us : List Value} (h : us.length = 0) : us = []:=List.eq_nil_of_length_eq_zero h
theorem ub1 {fd : FuncData} {x0 : Str} (h : ∀ a0 : Value,bindArgs fd ⟨[a0],[]⟩ = pure ([x0].zip [a0])) (us : List Value) (e : us.length = 1) : bindArgs fd ⟨us,[]⟩ = pure ([x0].zip us):=by
 obtain ⟨a0,r0,q0,e0⟩:=uc e
 rw [q0,uz e0]; exact h a0
theorem ub2 {fd : FuncData} {x0 x1 : Str} (h : ∀ a0 a1 : Value,bindArgs fd ⟨[a0,a1],[]⟩ = pure ([x0,x1].zip [a0,a1])) (us : List Value) (e : us.length = 2) : bindArgs fd ⟨us,[]⟩ = pure ([x0,x1].zip us):=by
 obtain ⟨a0,r0,q0,e0⟩:=uc e
 obtain ⟨a1,r1,q1,e1⟩:=uc e0
 rw [q0,q1,uz e1]; exact h a0 a1
theorem ub3 {fd : FuncData} {x0 x1 x2 : Str} (h : ∀ a0 a1 a2 : Value,bindArgs fd ⟨[a0,a1,a2],[]⟩ = pure ([x0,x1,x2].zip [a0,a1,a2])) (us : List Value) (e : us.length = 3) : bindArgs fd ⟨us,[]⟩ = pure ([x0,x1,x2].zip us):=by
 obtain ⟨a0,r0,q0,e0⟩:=uc e
 obtain ⟨a1,r1,q1,e1⟩:=uc e0
 obtain ⟨a2,r2,q2,e2⟩:=uc e1
 rw [q0,q1,q2,uz e2]; exact h a0 a1 a2
theorem ub4 {fd : FuncData} {x0 x1 x2 x3 : Str} (h : ∀ a0 a1 a2 a3 : Value,bindArgs fd ⟨[a0,a1,a2,a3],[]⟩ = pure ([x0,x1,x2,x3].zip [a0,a1,a2,a3])) (us : List Value) (e : us.length = 4) : bindArgs fd ⟨us,[]⟩ = pure ([x0,x1,x2,x3].zip us):=by
 obtain ⟨a0,r0,q0,e0⟩:=uc e
 obtain ⟨a1,r1,q1,e1⟩:=uc e0
 obtain ⟨a2,r2,q2,e2⟩:=uc e1
 obtain ⟨a3,r3,q3,e3⟩:=uc e2
 rw [q0,q1,q2,q3,uz e3]; exact h a0 a1 a2 a3
theorem g_mk {K : PySem.W.Frag} {h : Heap} {mg : Str -> Option Value} {x : Str} {st : Stmt} {ps : List Str} {f : Addr} {oc : Value} {od an : Option Addr} {osl : Array (Option Value)} {kV doc pm cdv ct : Value} (X : K.In h) (G : h.Ns mainGlobals mg)
  (a : PySem.W.nsIn K mainGlobals x = some (some (.ref f))) (l : K.lookup f = some ⟨oc,od,.func (PySem.W.fnOf x x (defArgs st) (defBody st) (defScope st) .none kV doc pm an cdv ct),osl⟩) (c : PySem.W.codeIn K cdv x = true) (k : PySem.W.keepIn K (.ref f) = true)
  (hb : ∀ (kV doc pm : Value) (an : Option Addr) (cdv ct : Value) (us : List Value),us.length = ps.length -> bindArgs (PySem.W.fnOf x x (defArgs st) (defBody st) (defScope st) .none kV doc pm an cdv ct) ⟨us,[]⟩ = pure (ps.zip us)) :
  G3 K mg x st ps f (PySem.W.fnOf x x (defArgs st) (defBody st) (defScope st) .none kV doc pm an cdv ct) :=
 have F:=fun_mk (st:=st) l c k
 ⟨F,F.binds hb,PySem.W.mg_of X G a⟩
noncomputable def qv : Program:={ PySem.Challenge.pw_stationrow_k14_named_and_told_otherwise with main:={ PySem.Challenge.pw_stationrow_k14_named_and_told_otherwise.main with body:=([1,2,3,4,5,6,7,8,9,10,12,14,15,16,17,18,19,20,21,22,23,24,25,26] : List Nat).map top } }
noncomputable def en (P : Params) (n : Str) (t : Nat) (v : Value) : DictEntry:=⟨PyData.keyHash P n,.str n t,v⟩
noncomputable def cO (n : Str) (c : Nat) (b : Bool) (a j l k : Nat) : Obj:=⟨.type "code",none,.fields #[.str n a,.str n (a + 1),.str "/claim/cut.py" (a + 2),.int l 0,.int k 0,.int 0 0,.int 0 0,.int 3 0,.ref (c - (bif b then 5 else 3)),.bool true,.int 181 0,.ref (c - (bif b then 4 else 2)),.none,bif b then .ref (c - 3) else .none,bif b then .ref (c - 2) else .none,.ref (c - 1),.int j 0,.int l 0,.str "/claim/cut.py" (j + 1)],#[]⟩
noncomputable def fO (i : Nat) (n m : Str) (t c : Nat) : Obj:=⟨.type "function",none,.func (PySem.W.fnOf n n (defArgs (top i)) (defBody (top i)) (defScope (top i)) .none .none .none (.str m t) none (.ref c) .none),#[]⟩
theorem g_of (i : Nat) (ps : List Str) (x : Str) (f : Addr) (m : Str) (t c : Nat) {K : PySem.W.Frag} {h : Heap} {mg : Str -> Option Value} (X : K.In h) (G : h.Ns mainGlobals mg)
  (hb : ∀ (kV doc pm : Value) (an : Option Addr) (cdv ct : Value) (us : List Value),us.length = ps.length -> bindArgs (PySem.W.fnOf x x (defArgs (top i)) (defBody (top i)) (defScope (top i)) .none kV doc pm an cdv ct) ⟨us,[]⟩ = pure (ps.zip us))
  (a : PySem.W.nsIn K mainGlobals x = some (some (.ref f)):=by kernel_rfl) (l : K.lookup f = some (fO i x m t c):=by kernel_rfl) (e : PySem.W.codeIn K (.ref c) x = true:=by kernel_rfl) (k : PySem.W.keepIn K (.ref f) = true:=by kernel_rfl) :
  G3 K mg x (top i) ps f (PySem.W.fnOf x x (defArgs (top i)) (defBody (top i)) (defScope (top i)) .none .none .none (.str m t) none (.ref c) .none) :=
 g_mk X G a l e k hb
noncomputable def posOf : Stmt -> Pos -> Pos
 | .FunctionDef _ _ _ _ _ _ _ _ _ p,_ => p
 | _,p => p
noncomputable def dv : DefRec:=⟨"law",defArgs (top 26),defBody (top 26),defScope (top 26),posOf (top 26) default⟩
noncomputable def fx (i : Nat) (n m : Str) (t c : Nat) (b : Bool) (a j l k : Nat) : (Params -> DictEntry) × PySem.W.Frag:=(fun P => en P n (j + 2) (.ref (c + 1)),[(c,cO n c b a j l k),(c + 1,fO i n m t c)])
noncomputable def TB : List ((Params -> DictEntry) × PySem.W.Frag):=[fx 1 "links_of" "stationrow.chains" 187 20 true 189 197 2 1,
 fx 2 "reached" "stationrow.chains" 187 27 true 200 209 9 2,
 fx 3 "led_to" "stationrow.chains" 187 34 true 212 217 19 2,
 fx 4 "led_from" "stationrow.chains" 187 39 false 220 223 21 2,
 fx 5 "in_both" "stationrow.chains" 187 44 false 226 229 23 3,
 fx 6 "in_first_alone" "stationrow.chains" 187 49 false 232 235 25 3,
 fx 7 "group_of" "stationrow.chains" 187 56 true 238 243 27 2,
 fx 8 "groups_of" "stationrow.chains" 187 63 true 246 253 29 1,
 fx 9 "ahead_of" "stationrow.chains" 187 70 true 256 261 36 2,
 fx 10 "behind_of" "stationrow.chains" 187 77 true 264 269 38 2,
 fx 12 "turned_about" "stationrow.works" 272 82 false 274 277 41 1,
 fx 14 "_law_names" "law_stationrow_k14_named_and_told_otherwise" 280 89 true 282 298 46 2,
 fx 15 "_law_wide" "law_stationrow_k14_named_and_told_otherwise" 280 96 true 301 307 71 1,
 fx 16 "_law_next" "law_stationrow_k14_named_and_told_otherwise" 280 103 true 310 315 78 1,
 fx 17 "_law_deck" "law_stationrow_k14_named_and_told_otherwise" 280 110 true 318 323 83 1,
 fx 18 "_law_tasks" "law_stationrow_k14_named_and_told_otherwise" 280 117 true 326 341 88 4,
 fx 19 "_law_turn" "law_stationrow_k14_named_and_told_otherwise" 280 124 true 344 353 106 2,
 fx 20 "_law_orders" "law_stationrow_k14_named_and_told_otherwise" 280 131 true 356 366 114 3,
 fx 21 "_law_pairs" "law_stationrow_k14_named_and_told_otherwise" 280 138 true 369 381 122 4,
 fx 22 "_law_works" "law_stationrow_k14_named_and_told_otherwise" 280 143 false 384 387 132 3,
 fx 23 "_law_shuffled" "law_stationrow_k14_named_and_told_otherwise" 280 150 true 390 397 144 2,
 fx 24 "_law_other" "law_stationrow_k14_named_and_told_otherwise" 280 155 false 400 403 149 2,
 fx 25 "_law_sorted" "law_stationrow_k14_named_and_told_otherwise" 280 160 false 406 409 157 1,
 fx 26 "law" "law_stationrow_k14_named_and_told_otherwise" 280 165 false 412 415 159 1]
noncomputable def KK (P : Params) : PySem.W.Frag:=(3,⟨.type "dict",none,.dict ([en P "__name__" 165 (.str "law_stationrow_k14_named_and_told_otherwise" 280),
 en P "__doc__" 166 .none,
 en P "__package__" 167 .none,
 en P "__loader__" 168 (.builtin "__main__.__loader__#opaque"),
 en P "__spec__" 169 .none,
 en P "__annotations__" 170 (.ref 6),
 en P "__builtins__" 171 (.ref 4),
 en P "__file__" 173 (.str "/claim/cut.py" 172),
 en P "__cached__" 174 .none] ++ TB.map fun r => r.1 P).toArray 33,#[]⟩) :: (TB.map fun r => r.2).flatten
noncomputable def HK : PySem.W.Hook:=PySem.W.kHook KK [3,20,21,27,28,34,35,39,40,44,45,49,50,56,57,63,64,70,71,77,78,82,83,89,90,96,97,103,104,110,111,117,118,124,125,131,132,138,139,143,144,150,151,155,156,160,161,165,166] (fun _ => by kernel_rfl)
theorem left : PySem.W.LeftO (PySem.W.OpenLaw.row PySem.Challenge.rw_stationrow_k14_named_and_told_otherwise).prog qv [] (fun s => PySem.W.xlAt qv [] s && PySem.W.recOk (PySem.W.RowW.records (PySem.W.OpenLaw.row PySem.Challenge.rw_stationrow_k14_named_and_told_otherwise).toRowW) s) (PySem.W.Hook.obs HK) (PySem.W.Hook.val HK) 1654:=by
 intro w
 kernel_rfl
theorem all_ok {l : PySem.W.OpenLaw} {w : World} {h : Heap} {mg : Str -> Option Value} {fa : Addr} (X : (KK w.params).In h) (G : h.Ns mainGlobals mg) (hfa : mg "law" = some (.ref fa)) :
  ∃ fd : FuncData,(∀ (s : Shared) (v : Value),BindsTo s fd ⟨[v],[]⟩ [("_law_script",v)]) /\ ∀ base : Heap,(KK w.params).In base -> base.Ns mainGlobals mg -> FnOk3 l.prog w (KK w.params) mg base 5 fa fd ["_law_script"] spLaw:=by
 have at_ : ∀ {n : Str} {v : Value},PySem.W.nsIn (KK w.params) mainGlobals n = some (some v) -> mg n = some v:=fun e => PySem.W.mg_of X G e
 have no_ : ∀ {n : Str},PySem.W.nsIn (KK w.params) mainGlobals n = some none -> mg n = none:=fun e => PySem.W.mg_none_of X G e
 have e:=hfa.symm.trans (at_ (v:=.ref 166) (by kernel_rfl))
 cases e
 have B : Bl mg:=⟨no_ (by kernel_rfl),no_ (by kernel_rfl),no_ (by kernel_rfl),no_ (by kernel_rfl),no_ (by kernel_rfl),no_ (by kernel_rfl),no_ (by kernel_rfl),no_ (by kernel_rfl),no_ (by kernel_rfl),no_ (by kernel_rfl),no_ (by kernel_rfl),no_ (by kernel_rfl),no_ (by kernel_rfl),no_ (by kernel_rfl),no_ (by kernel_rfl),no_ (by kernel_rfl),no_ (by kernel_rfl),no_ (by kernel_rfl),no_ (by kernel_rfl),no_ (by kernel_rfl)⟩
 have g_links_of:=g_of 1 ["works"] "links_of" 21 "stationrow.chains" 187 20 X G fun _ _ _ _ _ _ => ub1 fun _ => rfl
 have g_reached:=g_of 2 ["links","start"] "reached" 28 "stationrow.chains" 187 27 X G fun _ _ _ _ _ _ => ub2 fun _ _ => rfl
 have g_led_to:=g_of 3 ["works","task"] "led_to" 35 "stationrow.chains" 187 34 X G fun _ _ _ _ _ _ => ub2 fun _ _ => rfl
 have g_led_from:=g_of 4 ["works","task"] "led_from" 40 "stationrow.chains" 187 39 X G fun _ _ _ _ _ _ => ub2 fun _ _ => rfl
 have g_in_both:=g_of 5 ["works","found","other"] "in_both" 45 "stationrow.chains" 187 44 X G fun _ _ _ _ _ _ => ub3 fun _ _ _ => rfl
 have g_in_first_alone:=g_of 6 ["works","found","other"] "in_first_alone" 50 "stationrow.chains" 187 49 X G fun _ _ _ _ _ _ => ub3 fun _ _ _ => rfl
 have g_group_of:=g_of 7 ["works","task"] "group_of" 57 "stationrow.chains" 187 56 X G fun _ _ _ _ _ _ => ub2 fun _ _ => rfl
 have g_groups_of:=g_of 8 ["works"] "groups_of" 64 "stationrow.chains" 187 63 X G fun _ _ _ _ _ _ => ub1 fun _ => rfl
 have g_ahead_of:=g_of 9 ["works","task"] "ahead_of" 71 "stationrow.chains" 187 70 X G fun _ _ _ _ _ _ => ub2 fun _ _ => rfl
 have g_behind_of:=g_of 10 ["works","task"] "behind_of" 78 "stationrow.chains" 187 77 X G fun _ _ _ _ _ _ => ub2 fun _ _ => rfl
 have g_turned_about:=g_of 12 ["works"] "turned_about" 83 "stationrow.works" 272 82 X G fun _ _ _ _ _ _ => ub1 fun _ => rfl
 have g_names:=g_of 14 ["_law_cell","_law_many"] "_law_names" 90 "law_stationrow_k14_named_and_told_otherwise" 280 89 X G fun _ _ _ _ _ _ => ub2 fun _ _ => rfl
 have g_wide:=g_of 15 ["_law_number"] "_law_wide" 97 "law_stationrow_k14_named_and_told_otherwise" 280 96 X G fun _ _ _ _ _ _ => ub1 fun _ => rfl
 have g_next:=g_of 16 ["_law_cells"] "_law_next" 104 "law_stationrow_k14_named_and_told_otherwise" 280 103 X G fun _ _ _ _ _ _ => ub1 fun _ => rfl
 have g_deck:=g_of 17 ["_law_script"] "_law_deck" 111 "law_stationrow_k14_named_and_told_otherwise" 280 110 X G fun _ _ _ _ _ _ => ub1 fun _ => rfl
 have g_tasks:=g_of 18 ["_law_cells","_law_names_here","_law_pool","_law_free"] "_law_tasks" 118 "law_stationrow_k14_named_and_told_otherwise" 280 117 X G fun _ _ _ _ _ _ => ub4 fun _ _ _ _ => rfl
 have g_turn:=g_of 19 ["_law_cell","_law_names_here"] "_law_turn" 125 "law_stationrow_k14_named_and_told_otherwise" 280 124 X G fun _ _ _ _ _ _ => ub2 fun _ _ => rfl
 have g_orders:=g_of 20 ["_law_cell","_law_turn_here","_law_often"] "_law_orders" 132 "law_stationrow_k14_named_and_told_otherwise" 280 131 X G fun _ _ _ _ _ _ => ub3 fun _ _ _ => rfl
 have g_pairs:=g_of 21 ["_law_cell","_law_names_here","_law_many","_law_withs"] "_law_pairs" 139 "law_stationrow_k14_named_and_told_otherwise" 280 138 X G fun _ _ _ _ _ _ => ub4 fun _ _ _ _ => rfl
 have g_works:=g_of 22 ["_law_cells","_law_most","_law_withs"] "_law_works" 144 "law_stationrow_k14_named_and_told_otherwise" 280 143 X G fun _ _ _ _ _ _ => ub3 fun _ _ _ => rfl
 have g_shuffled:=g_of 23 ["_law_cells","_law_things"] "_law_shuffled" 151 "law_stationrow_k14_named_and_told_otherwise" 280 150 X G fun _ _ _ _ _ _ => ub2 fun _ _ => rfl
 have g_other:=g_of 24 ["_law_works_here","_law_cells"] "_law_other" 156 "law_stationrow_k14_named_and_told_otherwise" 280 155 X G fun _ _ _ _ _ _ => ub2 fun _ _ => rfl
 have g_sorted:=g_of 25 ["_law_groups"] "_law_sorted" 161 "law_stationrow_k14_named_and_told_otherwise" 280 160 X G fun _ _ _ _ _ _ => ub1 fun _ => rfl
 have g_law:=g_of 26 ["_law_script"] "law" 166 "law_stationrow_k14_named_and_told_otherwise" 280 165 X G fun _ _ _ _ _ _ => ub1 fun _ => rfl
 refine ⟨PySem.W.fnOf "law" "law" (defArgs (top 26)) (defBody (top 26)) (defScope (top 26)) .none .none .none (.str "law_stationrow_k14_named_and_told_otherwise" 280) none (.ref 165) .none,fun s v => .of_eq rfl,fun base _ _ => ?_⟩
 have F_in_both:=ok_in_both (P:=l.prog) (w:=w) (base:=base) g_in_both B
 have F_reached:=ok_reached (P:=l.prog) (w:=w) (base:=base) g_reached B
 have F_links_of:=ok_links_of (P:=l.prog) (w:=w) (base:=base) g_links_of B
 have F_led_to:=ok_led_to (P:=l.prog) (w:=w) (base:=base) g_led_to B F_reached F_links_of
 have F_led_from:=ok_led_from (P:=l.prog) (w:=w) (base:=base) g_led_from B F_reached F_links_of
 have F_group_of:=ok_group_of (P:=l.prog) (w:=w) (base:=base) g_group_of B F_in_both F_led_to F_led_from
 have F_groups_of:=ok_groups_of (P:=l.prog) (w:=w) (base:=base) g_groups_of B F_group_of
 have F_in_first_alone:=ok_in_first_alone (P:=l.prog) (w:=w) (base:=base) g_in_first_alone B
 have F_ahead_of:=ok_ahead_of (P:=l.prog) (w:=w) (base:=base) g_ahead_of B F_in_first_alone F_led_from F_led_to
 have F_behind_of:=ok_behind_of (P:=l.prog) (w:=w) (base:=base) g_behind_of B F_in_first_alone F_led_to F_led_from
 have F_turned_about:=ok_turned_about (P:=l.prog) (w:=w) (base:=base) g_turned_about B
 have F_sorted:=ok_sorted (P:=l.prog) (w:=w) (base:=base) g_sorted B
 have F_names:=ok_names (P:=l.prog) (w:=w) (base:=base) g_names B
 have F_wide:=ok_wide (P:=l.prog) (w:=w) (base:=base) g_wide B
 have F_next:=ok_next (P:=l.prog) (w:=w) (base:=base) g_next B F_wide
 have F_shuffled:=ok_shuffled (P:=l.prog) (w:=w) (base:=base) g_shuffled B F_next
 have F_other:=ok_other (P:=l.prog) (w:=w) (base:=base) g_other B F_names F_next F_shuffled
 have F_turn:=ok_turn (P:=l.prog) (w:=w) (base:=base) g_turn B
 have F_pairs:=ok_pairs (P:=l.prog) (w:=w) (base:=base) g_pairs B
 have F_orders:=ok_orders (P:=l.prog) (w:=w) (base:=base) g_orders B
 have F_tasks:=ok_tasks (P:=l.prog) (w:=w) (base:=base) g_tasks B F_next
 have F_works:=ok_works (P:=l.prog) (w:=w) (base:=base) g_works B F_turn F_next F_pairs F_orders F_tasks F_names
 have F_deck:=ok_deck (P:=l.prog) (w:=w) (base:=base) g_deck B F_wide
 exact ok_law (P:=l.prog) (w:=w) (base:=base) g_law B F_groups_of F_ahead_of F_behind_of F_turned_about F_sorted F_other F_works F_deck
theorem walk {l : PySem.W.OpenLaw} {q : Program} {loose : List Str} {XP : (Str -> Option Value) -> Heap -> Prop} {YP : World -> Heap -> Prop} {d : DefRec} {K : Params -> PySem.W.Frag} (hn : l.most = some 63) (hdf : d.params.defaults = [])
  (hY : ∀ (w : World) (h : Heap),YP w h -> (K w.params).In h) (hNL : ∀ w : World,noList (K w.params) = true)
  (F : ∀ (w : World) (mg : Str -> Option Value) (fa : Addr) (h : Heap),(K w.params).In h -> h.Ns mainGlobals mg -> mg d.name = some (.ref fa) ->
   ∃ fd : FuncData,(∀ (s : Shared) (u : Value),BindsTo s fd ⟨[u],[]⟩ [("_law_script",u)]) /\ ∀ base : Heap,(K w.params).In base -> base.Ns mainGlobals mg -> FnOk3 l.prog w (K w.params) mg base 5 fa fd ["_law_script"] spLaw) :
  PySem.W.WalkO q loose XP YP l.row.toRowW d [] (fun f vs => PySem.call f vs):=by
 refine L2.walk_of (n:=63) (k:=5) (x:="_law_script") (CX:=fun _ => CX0) (sp:=fun w => lftSp (K w.params) spLaw) hn (by decide) hdf ⟨rfl,by decide,by decide,rfl⟩ hY F (fun w H a ns hl hO hS => ?_) fun _ _ _ _ _ z => z
 refine ⟨[.ref a],fun b => if b = a then some (.rol (ns.map T.int)) else none,fun t _ => t = .bl true,.cons .ofRef .nil,fun b o e => ?_,⟨a,ns,rfl,if_pos rfl,hl,fun _ => rfl⟩,fun v H' t H3' _ _ r q => ?_⟩
 ·
  dsimp only at e
  by_cases hb : b = a
  ·
   rw [if_pos hb] at e
   cases e
   subst hb
   rcases hS with hS | ⟨o,its,n,hk,hc,_⟩
   ·
    refine ⟨_,hS,?_⟩
    have : ∀ ms : List Int,Reps (K w.params) H (ms.map T.int) (ms.map V.int):=fun ms => by
     induction ms with
     | nil => exact .nil
     | cons m r ih => exact .cons .ofInt ih
    exact this ns
   ·
    exact absurd hc (noList_no (hNL w) hk)
  ·
   rw [if_neg hb] at e
   cases e
 ·
  subst q
  exact r.bl
end M
open PySem PySem.W PyProof.Rows
set_option maxRecDepth 100000 in
set_option maxHeartbeats 0 in
theorem PySem.Challenge.cw_stationrow_k14_named_and_told_otherwise_holds : PySem.Challenge.rw_stationrow_k14_named_and_told_otherwise.Holds := by
 refine holds_law (by kernel_rfl) fun said => ?_
 refine holds_open (d:=M.dv) (kwd:=[]) (q:=M.qv) (loose:=[]) (Xt:=fun s => xlAt M.qv [] s && recOk (RowW.records (OpenLaw.row PySem.Challenge.rw_stationrow_k14_named_and_told_otherwise).toRowW) s) (XP:=XL M.qv []) (Yf:=Hook.obs M.HK) (Ya:=Hook.val M.HK) (YP:=Hook.says M.HK) (N:=1654) M.left (Hook.of M.HK) (Hook.keeps M.HK) (fun s e => xl_of s (Bool.and_eq_true_iff.mp e).1) XL.keeps (by kernel_rfl) (by kernel_rfl) (by kernel_rfl) (fun s e => recFacts_of (Bool.and_eq_true_iff.mp e).2) (by kernel_rfl) (by first | assumption | kernel_rfl) (by kernel_rfl) ⟨rfl,rfl,rfl,rfl,rfl,by decide +kernel⟩ ?hw ?hc
 case hw => w_witness2
 case hc => exact M.walk (l:=PySem.Challenge.rw_stationrow_k14_named_and_told_otherwise) rfl rfl (fun w h Y => kIn_of Y) (fun w => by kernel_rfl) fun w mg fa h KX G hmg => M.all_ok KX G hmg
#print axioms PySem.Challenge.cw_stationrow_k14_named_and_told_otherwise_holds
